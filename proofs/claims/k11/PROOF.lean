import PyProof.Rows.All
import Wide.All
import OpenK.AllK
import Wide.FinOn
import HandS.ForMost
import HandS.Flow
import HandS.Property
import HandS.OwnEq
import HandS.Wide
import HandS.WideMore
import HandS.Gcd
import HandS.FStr
import HandS.Zip
import HandS.IsInst
import HandS.Defaults
import HandS.HeadHook2
import HandS.HeadEnd
import HandS.HeadNt
import HandS.Head2
import HandS.RaiseMore
import PySem.Challenge.RW_leastlog_k11_amounts_reckoned
set_option Elab.async false
set_option linter.all false
set_option maxRecDepth 100000
set_option maxHeartbeats 8000000
/-! LL: rules of our own over the hand layer: defs that know that no repr is under way (FnG), operators, ==, repr, str of an own class. -/
namespace LL
open PySem PySem.Spec PyProof.Rows L2

/-- nothing guarded is under way (where g asks for it) -/
def Clr (g : Bool) (A : Around) : Prop := g = true → A.guards = some []
theorem clr_no {A : Around} : Clr false A := fun h => nomatch h
theorem Clr.to {g' g : Bool} {A : Around} (c : Clr g A) (h : g' = true → g = true) : Clr g' A := fun e => c (h e)
theorem clr_deeper {g : Bool} {A : Around} {env : Env} (c : Clr g A) : Clr g (A.deeper env) := fun e => by
  have h := c e
  first | exact h | (simpa [Around.deeper, Around.under, pushGuards] using h)
theorem clr_in1 {g : Bool} {A : Around} (c : Clr g A) : Clr g A.in1 := fun e => by
  have h := c e
  first | exact h | (simpa [Around.in1] using h)
theorem clr_make {g : Bool} {A : Around} {C : Addr} {us : List Value} {kw : List (Str × Value)} (c : Clr g A) : Clr g (A.under (.builtin "type.__call__" ⟨.ref C :: us, kw⟩)) := fun e => by
  have h := c e
  have z : (Code.builtin "type.__call__" ⟨.ref C :: us, kw⟩).isGuard = false := by show guardIds.contains "type.__call__" = false; decide +kernel
  simp only [Around.under, Code.guards, z, Bool.false_eq_true, if_false, pushGuards]
  exact h

/-- a def's promise, for calls where (if g) nothing guarded is under way -/
structure FnG (P : Program) (w : World) (K : PySem.W.Frag) (mg : Str → Option Value) (base : Heap) (CX : CXT) (g : Bool) (k : Nat) (f : Addr) (fd : FuncData) (ps : List Str) (sp : Sp) : Prop where
  len : ∀ vs H Q E, sp vs H Q E → vs.length = ps.length
  run : ∀ (A : Around) (outer : List Env) (s : Shared) (H : Hp) (args : Args) (us : List Value) (vs : List V) (Q : VK) (E : XK), Room k A → Clr g A → Env0 P w K mg base A outer s H →
    BindsTo s fd args (ps.zip us) → Vals vs us → sp vs H Q E → codeAny (model P w) A (.call (.ref f) args) (CR CX outer P w H s Q E) s
section
variable {P : Program} {w : World} {K : PySem.W.Frag} {mg : Str → Option Value} {base : Heap} {CX : CXT} {g : Bool} {j k : Nat} {f : Addr} {fd : FuncData} {ps : List Str} {sp sp' : Sp}
theorem FnG.mono (F : FnG P w K mg base CX g j f fd ps sp) (h : j ≤ k) : FnG P w K mg base CX g k f fd ps sp :=
  ⟨F.len, fun A outer s H args us vs Q E hr => F.run A outer s H args us vs Q E (hr.mono h)⟩
theorem FnG.imp (F : FnG P w K mg base CX g k f fd ps sp) (h : ∀ vs H Q E, sp' vs H Q E → sp vs H Q E) : FnG P w K mg base CX g k f fd ps sp' :=
  ⟨fun vs H Q E q => F.len vs H Q E (h _ _ _ _ q), fun A outer s H args us vs Q E hr hg he hb hv q => F.run A outer s H args us vs Q E hr hg he hb hv (h _ _ _ _ q)⟩
theorem ok_g (F : FnOk P w K mg base CX k f fd ps sp) : FnG P w K mg base CX g k f fd ps sp :=
  ⟨F.len, fun A outer s H args us vs Q E hr _ => F.run A outer s H args us vs Q E hr⟩
theorem g_ok (F : FnG P w K mg base CX false k f fd ps sp) : FnOk P w K mg base CX k f fd ps sp :=
  ⟨F.len, fun A outer s H args us vs Q E hr => F.run A outer s H args us vs Q E hr clr_no⟩
/-- two promises that are both kept -/
theorem FnG.both (F : FnG P w K mg base CX g k f fd ps sp) (F' : FnG P w K mg base CX g k f fd ps sp') : FnG P w K mg base CX g k f fd ps (fun vs H Q E => sp vs H Q E ∨ sp' vs H Q E) :=
  ⟨fun vs H Q E q => q.elim (F.len vs H Q E) (F'.len vs H Q E), fun A outer s H args us vs Q E hr hg he hb hv q => q.elim (F.run A outer s H args us vs Q E hr hg he hb hv) (F'.run A outer s H args us vs Q E hr hg he hb hv)⟩

/-- a def by its body -/
theorem fnG_of {name qual : Str} {params : Arguments} {body : List Stmt} {scope : Scope} {dV kV doc pm cdv ct oc : Value} {an od : Option Addr} {osl : Array (Option Value)} {N : List Str}
    (lk : K.lookup f = some ⟨oc, od, .func (PySem.W.fnOf name qual params body scope dV kV doc pm an cdv ct), osl⟩) (hcd : PySem.W.codeIn K cdv qual = true) (S : FnScope N ps scope)
    (len : ∀ vs H Q E, sp vs H Q E → vs.length = ps.length)
    (hb : ∀ (A : Around) (outer : List Env) (s : Shared) (H : Hp) (vs : List V) (Q : VK) (E : XK), Room k (A.deeper (envOfC qual scope s.heap.objs.size f cdv)) → Clr g (A.deeper (envOfC qual scope s.heap.objs.size f cdv)) → sp vs H Q E →
      ∃ t, PSs (cxOf CX P w K mg base N qual scope f cdv A outer s H E) body t ∧ t { nx := fun _ H' => Q .non H', rt := Q } (start N vs) H) :
    FnG P w K mg base CX g (k + 1) f (PySem.W.fnOf name qual params body scope dV kV doc pm an cdv ct) ps sp := by
  constructor
  · exact len
  intro A outer s H args us vs Q E room clr e0 bnd rel want
  have L := len _ _ _ _ want
  have kin : K.In s.heap := e0.mod.kin.keeps (fun b o e => (e0.bs b o e).1)
  have nolim : s.heap.NoLimit := e0.mod.nolimit.keeps (fun b o e => (e0.bs b o e).1)
  have kinds : ∀ y ∈ ps.zip us, scope.names.lookup y.1 = some .local ∨ (scope.names.lookup y.1 = some .cell ∧ ((cellsFrom (s.heap.objs.size + 1) scope.names []).lookup y.1).isSome = true) := by
    rintro ⟨n, v⟩ hy
    have hp := S.par n (List.of_mem_zip hy).1
    exact hp.imp id fun q => ⟨q, PySem.W.cellsFrom_some _ _ _ (.inl q)⟩
  refine codeAny_call_function room.depth (kin _ _ lk) rfl S.co S.gen rfl (PySem.W.codeRec_of kin hcd) (bnd _ _ _ _ (wpAny_newFunctionEnv_cells S.kind kinds fun env he s1 x => ?_))
  cases he
  obtain ⟨t, ht, hq⟩ := hb A outer s H vs Q E (room.deeper _) (clr_deeper clr) want
  refine ⟨nolim.keeps x.toInCall.keep, codeAny_func (wpAny_mono (ht.run [] s1 (start N vs) H _ (inv_start S room.hd e0 L rel x) hq) (fun fl s' hs => ?_) (fun e s' z => z))⟩
  cases fl with
  | ret u => obtain ⟨v, σ', H', J, rv, q⟩ := hs; exact ⟨v, H', J.os, J.bare, J.base, J.hok, rv, q⟩
  | next => obtain ⟨σ', H', J, q⟩ := hs; exact ⟨.non, H', J.os, J.bare, J.base, J.hok, rfl, q⟩
  | brk => obtain ⟨_, _, _, q⟩ := hs; exact q.elim
  | cont => obtain ⟨_, _, _, q⟩ := hs; exact q.elim
end
section
variable {P : Program} {w : World} {K : PySem.W.Frag} {mg : Str → Option Value} {base : Heap} {g : Bool} {k : Nat} {f : Addr} {fd : FuncData} {ps N : List Str} {sp : Sp} {x qual : Str} {st : Stmt} {args : Arguments} {body : List Stmt} {sc : Scope} {dvs : List V} {kws : List (Str × V)}
/-- a def of the text, from which no exception goes -/
theorem funG (F : FunD K x qual args body sc dvs kws f fd) (S : FnScope N ps sc) (len : ∀ vs H Q E, sp vs H Q E → vs.length = ps.length)
    (hb : ∀ (cdv : Value) (A : Around) (outer : List Env) (s : Shared) (H : Hp) (vs : List V) (Q : VK) (E : XK), Room k (A.deeper (envOfC qual sc s.heap.objs.size f cdv)) → Clr g (A.deeper (envOfC qual sc s.heap.objs.size f cdv)) → sp vs H Q E →
      ∃ t, PSs (cxOf CX0 P w K mg base N qual sc f cdv A outer s H E).nox body t ∧ t { nx := fun _ H' => Q .non H', rt := Q } (start N vs) H) : FnG P w K mg base CX0 g (k + 1) f fd ps sp := by
  obtain ⟨oc, od, dV, kV, doc, pm, an, cdv, ct, osl, e, lk, hcd, _⟩ := F.ex
  subst e
  refine fnG_of lk hcd S len ?_
  intro A outer s H vs Q E hr hg q
  obtain ⟨t, h1, h2⟩ := hb cdv A outer s H vs Q E hr hg q
  exact ⟨t, h1.nox, h2⟩
end

section
variable {X : Cx} {CX : CXT} {g : Bool} {k : Nat} {f C : Addr} {fd : FuncData} {ps : List Str} {sp : Sp} {dvs : List V} {ds : List Value} {E : XK} {x m : Str} {p pos apos : Pos} {e o : Expr} {es : List Expr} {ta : TE} {t : TA}
/-- the callee runs -/
theorem run_g {pins : List (Addr × Obj)} {σ : L2.St} {H : Hp} {s : Shared} {Q : VK} {us : List Value} {vs : List V} {A : Around} {E' : Value → Shared → Prop} (F : FnG X.prog X.w X.K X.mg X.base CX g k f fd ps sp) (hr : Room k A) (hg : Clr g A) (hA : A.frames = X.A.frames) (hb : Binds X.K fd ps ds)
    (hd : Vals dvs ds) (hx : Passes CX (X.wish E') E) (I : Inv X pins σ H s) (r : Vals vs us) (h : sp (vs ++ dvs) H Q E) : wpAny (model X.prog X.w) A (call (.ref f) us) (EP X pins σ Q) E' s := by
  have r2 : Vals (vs ++ dvs) (us ++ ds) := r.append hd
  have e0 := I.env0
  have e1 : Env0 X.prog X.w X.K X.mg X.base A X.stack s H := ⟨hA.trans e0.frames, e0.mod, e0.bs, e0.bsz, e0.funs, e0.frf, e0.hok, e0.bare⟩
  have hl : (us ++ ds).length = ps.length := r2.length.symm.trans (F.len _ _ _ _ h)
  refine wpAny_call (codeAny_mono (F.run A X.stack s H ⟨us, []⟩ _ _ Q E hr hg e1 (hb s us I.kIn hl) r2 h) (fun res s' q => ?_))
  match res, q with
  | .error er, q => exact hx pins σ H s er s' (I.wish _) q
  | .ok (.ret u), q => exact I.after q
  | .ok .next, q => exact q.elim
  | .ok .brk, q => exact q.elim
  | .ok .cont, q => exact q.elim
theorem run_gX {pins : List (Addr × Obj)} {σ : L2.St} {H : Hp} {s : Shared} {Q : VK} {us : List Value} {vs : List V} (F : FnG X.prog X.w X.K X.mg X.base CX g k f fd ps sp) (hr : Room k X.A) (hg : Clr g X.A) (hb : Binds X.K fd ps ds)
    (hd : Vals dvs ds) (hx : Passes CX X E) (I : Inv X pins σ H s) (r : Vals vs us) (h : sp (vs ++ dvs) H Q E) : wpAny (model X.prog X.w) X.A (call (.ref f) us) (EP X pins σ Q) X.xe s :=
  run_g (E' := X.xe) F hr hg rfl hb hd hx I r h

/-- f(a, ..) -/
theorem pg_call (F : FnG X.prog X.w X.K X.mg X.base CX g k f fd ps sp) (hr : Room k X.A) (hg : Clr g X.A) (hgl : Gl X x) (hm : X.mg x = some (.ref f)) (hk : PySem.W.keepIn X.K (.ref f) = true) (hb : Binds X.K fd ps ds) (hd : Vals dvs ds)
    (hx : Passes CX X E) (ha : PA X (e :: es) t)
    (hdb : (x == ("__debug__" : Str)) = false := by decide) (he : starEach (e :: es) X.env = (false, eval e X.env) :: starEach es X.env := by rfl)
    (hpl : (backTo pos (starEach es X.env)).any (·.1) = false := by rfl) : PE X (.Call (.Name x p) (e :: es) [] pos) (tCall sp dvs E t) := by
  constructor
  intro pins s σ H Q I h
  refine wpAny_Call_Name_kw (ld_glob I hgl hm ?_ hdb)
  refine PySem.W.callWith_K (h₀ := X.base) I.ok.mod.kin hk (thn (ha.run pos pins s σ H _ I h) ?_) he hpl
  rintro us s1 ⟨vs, H1, I1, r, q⟩
  exact ⟨I1.kIn, run_gX F hr hg hb hd hx I1 r q⟩
/-- f() -/
theorem pg_call0 (F : FnG X.prog X.w X.K X.mg X.base CX g k f fd ps sp) (hr : Room k X.A) (hg : Clr g X.A) (hgl : Gl X x) (hm : X.mg x = some (.ref f)) (hk : PySem.W.keepIn X.K (.ref f) = true) (hb : Binds X.K fd ps ds) (hd : Vals dvs ds)
    (hx : Passes CX X E) (hdb : (x == ("__debug__" : Str)) = false := by decide) : PE X (.Call (.Name x p) [] [] pos) (tCall sp dvs E tNil) := by
  constructor
  intro pins s σ H Q I h
  exact wpAny_Call_Name_kw (ld_glob I hgl hm (PySem.W.callWith_K0 I.kIn hk (run_gX (us := []) F hr hg hb hd hx I .nil h)) hdb)
/-- o.m(a, ..) -/
theorem pg_meth {pl : Sem Bool} (he : PE X o ta) (c : Cls X.K C) (hm : Meth X.K C m f) (F : FnG X.prog X.w X.K X.mg X.base CX g k f fd ps sp) (hr : Room k X.A) (hg : Clr g X.A) (hb : Binds X.K fd ps ds) (hd : Vals dvs ds)
    (hx : Passes CX X E) (ha : PA X (e :: es) t)
    (hst : starEach (e :: es) X.env = (false, eval e X.env) :: starEach es X.env := by rfl) (hpl : (backTo pos (starEach es X.env)).any (·.1) = false := by rfl)
    (ht : eval (.Call (.Attribute o m apos) (e :: es) [] pos) X.env = (do let ov ← eval o X.env; standAt apos.atName; let (f, first) ← holding [ov] (getMethod ov m pl); callWith pos f first (backTo pos (starEach (e :: es) X.env)) (backToKw pos (keywordEach [] X.env))) := by rfl) :
    PE X (.Call (.Attribute o m apos) (e :: es) [] pos) (tMeth C m sp dvs E ta t) := by
  constructor
  intro pins s σ H Q I h
  refine PySem.W.methodCall_KW (pl := pl) (thn (he.run pins s σ H _ I h) ?_) ht
  rintro u s1 ⟨y, H1, I1, ry, a, dx, fs, ey, ea, l, q⟩
  subst ey
  obtain rfl : u = Value.ref a := ry
  refine getmeth_ok I1 ea c hm l (PySem.W.callWith_K (first := [.ref a]) (h₀ := X.base) I.ok.mod.kin hm.kp (thn (ha.run pos pins s1 σ H1 _ I1 q) ?_) hst hpl)
  rintro us s2 ⟨vs, H2, I2, r, q2⟩
  exact ⟨I2.kIn, run_gX (us := .ref a :: us) (vs := .ref a :: vs) F hr hg hb hd hx I2 (.cons rfl r) q2⟩
/-- a property of an own class: the getter's promise -/
theorem pg_prop {f : Str} {pp ge : Addr} (he : PE X e ta) (c : Cls X.K C) (hp : PropOf X.K C f pp ge) (F : FnG X.prog X.w X.K X.mg X.base CX g k ge fd ps sp) (hr : Room (k + 1) X.A) (hg : Clr g X.A) (hb : Binds X.K fd ps ds) (hd : Vals dvs ds)
    (hx : Passes CX X.nox E) (hab : attributeBase e f X.env (eval e X.env) = eval e X.env) : PE X (.Attribute e f pos) (tProp C sp dvs E ta) := by
  constructor
  intro pins s σ H Q I h
  refine attr_of hab (thn (he.run pins s σ H _ I h) ?_)
  rintro u s1 ⟨y, H1, I1, ry, a, dx, fs, ey, ea, q⟩
  subst ey
  obtain rfl : u = Value.ref a := ry
  obtain ⟨mA, O, _⟩ := ins_get I1.hok ea
  obtain ⟨od, J, _⟩ := O.look
  obtain ⟨rest, hrec⟩ := hp.rec_
  have hc : (PySem.W.clsIn X.K C).isSome = true := by
    obtain ⟨cd, z, _⟩ := PySem.W.any_some c.hd
    rw [z]; rfl
  refine PySem.W.get_bind I1.kIn J (PySem.W.plainGet_of (c.get f)).1 (PySem.W.findObj_data hc hp.at_ hp.get hp.tak) (PySem.W.plainGet_of (c.get f)).2 (wpAny_call (PySem.W.prop_get (s := { s1 with toks := s1.toks + 1 }) I1.kIn hrec ?_))
  have I2 := I1.tok (s1.toks + 1)
  have e0 := I2.env0.in1
  have r2 : Vals (V.ref a :: dvs) (Value.ref a :: ds) := .cons rfl hd
  have hl : ([Value.ref a] ++ ds).length = ps.length := r2.length.symm.trans (F.len _ _ _ _ q)
  refine codeAny_mono (F.run X.A.in1 X.stack { s1 with toks := s1.toks + 1 } H1 ⟨[.ref a], []⟩ _ _ Q E hr.in1 (clr_in1 hg) e0 (hb _ [.ref a] I2.kIn hl) r2 q) (fun res s' q2 => ?_)
  match res, q2 with
  | .error er, q2 => exact False.elim (hx pins σ H1 { s1 with toks := s1.toks + 1 } er s' (I2.wish _) q2)
  | .ok (.ret u), q2 =>
    obtain ⟨v, H', I3, rv, q3⟩ := I2.after q2
    show wpAny _ _ (handedOut u) _ _ _
    rw [PySem.W.handedOut_of (handed_of rv)]
    exact wpAny_pure ⟨v, H', I3, rv, q3⟩
  | .ok .next, q2 => exact q2.elim
  | .ok .brk, q2 => exact q2.elim
  | .ok .cont, q2 => exact q2.elim
end
end LL
/-! LL2: operators, ==, !=, repr, str of an own class. -/
namespace LL
open PySem PySem.Spec PyProof.Rows L2

theorem not_ni {z : V} {v : Value} {Q : Value → Shared → Prop} {s' : Shared} (r : RelV z v) (h : Q v s') : PySem.W.CmpBack Q v s' := by
  cases z <;> first | (cases r; exact h) | (obtain ⟨t, e⟩ := r; cases e; exact h)
/-- an instance that H tracks -/
def InsAt (C : Addr) (H : Hp) (a : Addr) : Prop := ∃ dx fs, H a = some (.ins C dx fs)
/-- a value of a built-in type without an address -/
def plT : V → Option String
  | .non => some "NoneType"
  | .bl _ => some "bool"
  | .int _ => some "int"
  | .str _ => some "str"
  | _ => none
theorem plT_of {y : V} {u : Value} {T : String} (r : RelV y u) (h : plT y = some T) : typeOf u = pure (.type T) := by
  cases y with
  | non => cases r; cases h; rfl
  | bl b => cases r; cases h; rfl
  | int i => obtain ⟨t, e⟩ := r; cases e; cases h; rfl
  | str x => obtain ⟨t, e⟩ := r; cases e; cases h; rfl
  | byt x => cases h
  | flt x => cases h
  | ref x => cases h
  | ty x => cases h

section
variable {X : Cx} {pins : List (Addr × Obj)} {σ : L2.St} {H : Hp} {s : Shared} {C a dx : Addr} {fs : List (Str × V)}
theorem inst_of (I : Inv X pins σ H s) (ea : H a = some (.ins C dx fs)) : ∃ ox od, PySem.W.InstAt s.heap a ox C (some od) := by
  obtain ⟨mA, O, _⟩ := ins_get I.hok ea
  obtain ⟨od, J, _⟩ := O.look
  exact ⟨_, od, J⟩
end

/-- C has the operator's method nm as the def at f, and no other way leads past it for values of the types Ts at the right -/
structure OpOwn (K : PySem.W.Frag) (C : Addr) (nm : String) (f : Addr) (Ts : List String) : Prop where
  first : PySem.W.selfFirst K C = true
  at_ : PySem.W.findIn K (.ref C) (PySem.dunder nm) = some (some (.ref f))
  fn : PySem.W.isFn K (.ref f) = true
  refl : PySem.W.findIn K (.ref C) (dunderR nm) = some none
  ts : ∀ T ∈ Ts, (∃ fo, PySem.W.findIn K (.type T) (PySem.dunder nm) = some fo) ∧ (∃ ro, PySem.W.findIn K (.type T) (dunderR nm) = some ro) ∧ PySem.W.subIn K (.type T) (.ref C) = some false
/-- x op y by the method: y an instance of the same class, or a value of one of the types -/
def rOpOwn (C : Addr) (Ts : List String) (sp : Sp) (E : XK) : R2 := fun x y H Q => ∃ a, x = .ref a ∧ InsAt C H a ∧ ((∃ b, y = .ref b ∧ InsAt C H b) ∨ ∃ T, plT y = some T ∧ T ∈ Ts) ∧ sp [x, y] H Q E

section
variable {X : Cx} {CX : CXT} {g : Bool} {k : Nat} {f C : Addr} {fd : FuncData} {ps : List Str} {sp : Sp} {E : XK} {Ts : List String}
theorem op_own {op : Operator} (O : OpOwn X.K C op.info.2 f Ts) (F : FnG X.prog X.w X.K X.mg X.base CX g k f fd ps sp) (hr : Room k X.A) (hg : Clr g X.A) (hb : Binds X.K fd ps []) (hx : Passes CX X E) : OpR X (binaryOp op) (rOpOwn C Ts sp E) := by
  intro pins s σ H x y v u Q I rx ry h
  obtain ⟨a, rfl, ⟨dx, fs, ea⟩, hy, q⟩ := h
  obtain rfl : v = Value.ref a := rx
  obtain ⟨ox, od, J⟩ := inst_of I ea
  obtain ⟨m, Fr0⟩ := I.fr
  have body : wpAny (model X.prog X.w) X.A (call (.ref f) [.ref a, u]) (PySem.W.CmpBack (EP X pins σ Q)) X.xe s :=
    wpAny_mono (run_gX (us := [.ref a, u]) (vs := [.ref a, y]) (dvs := []) F hr hg hb .nil hx I (.cons rfl (.cons ry .nil)) q) (fun w s' z => by
      obtain ⟨z1, H', I', r', q'⟩ := z
      exact not_ni r' ⟨z1, H', I', r', q'⟩) fun _ _ z => z
  rcases hy with ⟨b, rfl, dy, gs, eb⟩ | ⟨T, hT, hm⟩
  · obtain rfl : u = Value.ref b := ry
    obtain ⟨oy, od2, J2⟩ := inst_of I eb
    exact PySem.W.binop_K Fr0 I.ok.mod.kin J J2.type O.first O.at_ O.fn body
  · obtain ⟨⟨fo, h1⟩, ⟨ro, h2⟩, h3⟩ := O.ts T hm
    exact PySem.W.ksp_binT Fr0 I.ok.mod.kin J (plT_of ry hT) O.first O.at_ O.fn O.refl (.inl rfl) h1 h2 h3 body

/-- -x -/
structure UnOwn (K : PySem.W.Frag) (C : Addr) (nm : Str) (f : Addr) : Prop where
  at_ : PySem.W.findIn K (.ref C) nm = some (some (.ref f))
  fn : PySem.W.isFn K (.ref f) = true
def rUnOwn (C : Addr) (sp : Sp) (E : XK) : V → Hp → VK → Prop := fun x H Q => ∃ a, x = .ref a ∧ InsAt C H a ∧ sp [x] H Q E
theorem un_own (O : UnOwn X.K C "__neg__" f) (F : FnG X.prog X.w X.K X.mg X.base CX g k f fd ps sp) (hr : Room k X.A) (hg : Clr g X.A) (hb : Binds X.K fd ps []) (hx : Passes CX X E) : UnR X (unaryOp .USub) (rUnOwn C sp E) := by
  intro pins s σ H x v Q I rx h
  obtain ⟨a, rfl, ⟨dx, fs, ea⟩, q⟩ := h
  obtain rfl : v = Value.ref a := rx
  obtain ⟨ox, od, J⟩ := inst_of I ea
  obtain ⟨m, Fr0⟩ := I.fr
  exact PySem.W.ksp_neg Fr0 I.ok.mod.kin J O.at_ O.fn (run_gX (us := [.ref a]) (vs := [.ref a]) (dvs := []) F hr hg hb .nil hx I (.cons rfl .nil) q)

/-- x == y by the own __eq__ -/
structure EqOwn (K : PySem.W.Frag) (C f : Addr) (Ts : List String) : Prop where
  at_ : PySem.W.findIn K (.ref C) "__eq__" = some (some (.ref f))
  fn : PySem.W.isFn K (.ref f) = true
  ts : ∀ T ∈ Ts, PySem.W.notFirst K C (.type T) = true
theorem op_eqOwn (O : EqOwn X.K C f Ts) (F : FnG X.prog X.w X.K X.mg X.base CX g k f fd ps sp) (hr : Room k X.A) (hg : Clr g X.A) (hb : Binds X.K fd ps []) (hx : Passes CX X E) : OpR X (compareOp .Eq) (rOpOwn C Ts sp E) := by
  intro pins s σ H x y v u Q I rx ry h
  obtain ⟨a, rfl, ⟨dx, fs, ea⟩, hy, q⟩ := h
  obtain rfl : v = Value.ref a := rx
  obtain ⟨ox, od, J⟩ := inst_of I ea
  obtain ⟨m, Fr0⟩ := I.fr
  have body : wpAny (model X.prog X.w) X.A (call (.ref f) [.ref a, u]) (PySem.W.CmpBack (EP X pins σ Q)) X.xe s :=
    wpAny_mono (run_gX (us := [.ref a, u]) (vs := [.ref a, y]) (dvs := []) F hr hg hb .nil hx I (.cons rfl (.cons ry .nil)) q) (fun w s' z => by
      obtain ⟨z1, H', I', r', q'⟩ := z
      exact not_ni r' ⟨z1, H', I', r', q'⟩) fun _ _ z => z
  show wpAny (model X.prog X.w) X.A (richCompare .Eq (.ref a) u) (EP X pins σ Q) X.xe s
  rcases hy with ⟨b, rfl, dy, gs, eb⟩ | ⟨T, hT, hm⟩
  · obtain rfl : u = Value.ref b := ry
    obtain ⟨oy, od2, J2⟩ := inst_of I eb
    exact PySem.W.cmp_K hr.units0 Fr0 I.ok.mod.kin J J2.type (by show (Value.ref C == Value.ref C || _) = true; rw [beq_self_eq_true, Bool.true_or]) O.at_ O.fn body
  · exact PySem.W.cmp_K hr.units0 Fr0 I.ok.mod.kin J (PySem.W.Looks.of_pure (plT_of ry hT)) (O.ts T hm) O.at_ O.fn body
end

/-! ### != where the class has an own __eq__ and object's __ne__ -/
section
open PySem.W
variable {prog : Program} {w : World} {M : Model} {A : Around} {E : Value → Shared → Prop} {s : Shared} {K : Frag} {x C f : Addr} {ox : Obj} {od : Option Obj} {b tb : Value}
theorem bound_b {name : Str} {id : String} {args : List Value} {Q : Option Value → Shared → Prop} (X : K.In s.heap) (I : PySem.W.InstAt s.heap x ox C od) (hs : findIn K (.ref C) name = some (some (.builtin id)))
    (hb : ∀ self, bindSpecial (.builtin id) self = pure (.builtin id, [self])) (h : wpAny M A (call (.builtin id) (.ref x :: args)) (fun v => Q (some v)) E s) : wpAny M A (callSpecialIfBound? (.ref x) name args) Q E s := by
  have fin : wpAny M A (call (.builtin id) ([.ref x] ++ args) >>= fun v => pure (some v)) Q E s := wpAny_bind (wpAny_mono h (fun _ _ z => wpAny_pure z) fun _ _ z => z)
  unfold callSpecialIfBound? bindSpecialIfBound?
  refine wpAny_holding (wpAny_bind (wpAny_bind (wpAny_bind (I.type.here ((looks_findIn X hs).here ?_)))))
  refine wpAny_bind (wpAny_askSetting (wpAny_ite ?_))
  split
  · exact wpAny_bind ((Looks.of_pure (hb _)).here (wpAny_pure (by exact fin)))
  · exact wpAny_tryCatch (wpAny_bind ((Looks.of_pure (hb _)).here (wpAny_pure (by exact fin))))
open Builtin in
theorem obj_ne {Q : Value → Shared → Prop} (hu : A.in1.units < cLine) (X : K.In s.heap) (I : PySem.W.InstAt s.heap x ox C od) (hm : mroIn K C (.type "object") = some true) (hs : findIn K (.ref C) "__eq__" = some (some (.ref f)))
    (hf : isFn K (.ref f) = true) (h : wpAny (model prog w) A.in1 (call (.ref f) [.ref x, b]) (fun v s' => ∃ c, v = .bool c ∧ Q (.bool (!c)) s') E s) : wpAny (model prog w) A (call (.builtin "object.__ne__") [.ref x, b]) Q E s := by
  refine wpAny_call (codeAny_call_builtin PySem.F.cmp_object.ne.plain PySem.F.cmpEntry_ne (check_slot (i := "object.__ne__") (owner := "object") (n := "__ne__") (by decide +kernel) (by decide +kernel) (I.type.andThen (looks_mroIn X hm)) (PySem.F.cmpArgs_ne _ _) ?_))
  unfold Builtin.«object.__ne__»
  refine wpAny_bind (m := slotArgs "__ne__" 1 _) (wpAny_pure ?_)
  refine wpAny_bind (m := cRoomFor _ _) (wpAny_cRoomFor hu ?_)
  refine wpAny_bind (m := callSpecialIfBound? (.ref x) (Str.ofString "__eq__") _) (ifBound_K X I hs hf (wpAny_mono h (fun r s' hq => ?_) fun _ _ y => y))
  obtain ⟨c, rfl, q⟩ := hq
  exact wpAny_bind (wpAny_truthy_bool (wpAny_pure q))
theorem ne_K {Q : Value → Shared → Prop} (hu : A.in1.units < cLine) (X : K.In s.heap) (I : PySem.W.InstAt s.heap x ox C od) (hb : Looks (model prog w) s.heap (typeOf b) tb) (hn : notFirst K C tb = true)
    (hm : mroIn K C (.type "object") = some true) (h2 : findIn K (.ref C) "__ne__" = some (some (.builtin "object.__ne__"))) (hs : findIn K (.ref C) "__eq__" = some (some (.ref f))) (hf : isFn K (.ref f) = true)
    (h : wpAny (model prog w) A.in1 (call (.ref f) [.ref x, b]) (fun v s' => ∃ c, v = .bool c ∧ Q (.bool (!c)) s') E s) : wpAny (model prog w) A (richCompare .NotEq (.ref x) b) Q E s := by
  have one : wpAny (model prog w) A (tryCompare (.ref x) (cmpInfo .NotEq).2.1 b) (fun r s' => ∃ v, r = some v ∧ Q v s') E s := by
    unfold tryCompare
    refine wpAny_bind (bound_b X I h2 PySem.F.cmp_object.ne.bind (obj_ne hu X I hm hs hf (wpAny_mono h (fun v s' hv => ?_) fun _ _ e => e)))
    obtain ⟨c, rfl, q⟩ := hv
    exact ⟨c, rfl, wpAny_pure ⟨_, rfl, q⟩⟩
  have hu0 : A.units < cLine := Nat.lt_of_le_of_lt (Nat.le_succ _) hu
  unfold richCompare
  simp only [oneThing_ref]
  refine wpAny_holding (wpAny_bind (wpAny_cRoomFor hu0 ?_))
  refine wpAny_bind (I.type.here (wpAny_bind (hb.here ?_)))
  split
  · rename_i q
    have e : subIn K tb (.ref C) = some false := by
      rcases Bool.or_eq_true_iff.mp hn with e | e
      · rw [beq_iff_eq.mp e] at q; simp at q
      · exact beq_iff_eq.mp e
    refine wpAny_bind ((looks_subIn X e).here ?_)
    simp only [Bool.false_eq_true, if_false]
    refine wpAny_bind (wpAny_mono one (fun r s' z => ?_) fun _ _ e => e)
    obtain ⟨v, rfl, hq⟩ := z
    exact wpAny_pure hq
  · refine wpAny_bind (wpAny_pure ?_)
    simp only [Bool.false_eq_true, if_false]
    refine wpAny_bind (wpAny_mono one (fun r s' z => ?_) fun _ _ e => e)
    obtain ⟨v, rfl, hq⟩ := z
    exact wpAny_pure hq
end
structure NeOwn (K : PySem.W.Frag) (C f : Addr) (Ts : List String) : Prop where
  eq : EqOwn K C f Ts
  obj : PySem.W.mroIn K C (.type "object") = some true
  ne : PySem.W.findIn K (.ref C) "__ne__" = some (some (.builtin "object.__ne__"))
/-- x != y: what == would hand back, a bool, the other way round -/
def rNeOwn (C : Addr) (Ts : List String) (sp : Sp) (E : XK) : R2 := fun x y H Q => ∃ a, x = .ref a ∧ InsAt C H a ∧ ((∃ b, y = .ref b ∧ InsAt C H b) ∨ ∃ T, plT y = some T ∧ T ∈ Ts) ∧ sp [x, y] H (fun v H' => ∃ c, v = .bl c ∧ Q (.bl (!c)) H') E
section
variable {X : Cx} {CX : CXT} {g : Bool} {k : Nat} {f C : Addr} {fd : FuncData} {ps : List Str} {sp : Sp} {E : XK} {Ts : List String}
theorem op_neOwn (O : NeOwn X.K C f Ts) (F : FnG X.prog X.w X.K X.mg X.base CX g k f fd ps sp) (hr : Room (k + 1) X.A) (hg : Clr g X.A) (hb : Binds X.K fd ps []) (hx : Passes CX X E) : OpR X (compareOp .NotEq) (rNeOwn C Ts sp E) := by
  intro pins s σ H x y v u Q I rx ry h
  obtain ⟨a, rfl, ⟨dx, fs, ea⟩, hy, q⟩ := h
  obtain rfl : v = Value.ref a := rx
  obtain ⟨ox, od, J⟩ := inst_of I ea
  have body : wpAny (model X.prog X.w) X.A.in1 (call (.ref f) [.ref a, u]) (fun v s' => ∃ c, v = .bool c ∧ EP X pins σ Q (.bool (!c)) s') X.xe s :=
    wpAny_mono (run_g (us := [.ref a, u]) (vs := [.ref a, y]) (dvs := []) (E' := X.xe) F hr.in1 (clr_in1 hg) rfl hb .nil hx I (.cons rfl (.cons ry .nil)) q) (fun w s' z => by
      obtain ⟨z1, H', I', r', c, rfl, q'⟩ := z
      cases r'
      exact ⟨c, rfl, .bl (!c), H', I', rfl, q'⟩) fun _ _ z => z
  have hu : X.A.in1.units < cLine := Nat.lt_of_le_of_lt (by show X.A.units + 1 ≤ X.A.units + 64; omega) hr.units
  show wpAny (model X.prog X.w) X.A (richCompare .NotEq (.ref a) u) (EP X pins σ Q) X.xe s
  rcases hy with ⟨b, rfl, dy, gs, eb⟩ | ⟨T, hT, hm⟩
  · obtain rfl : u = Value.ref b := ry
    obtain ⟨oy, od2, J2⟩ := inst_of I eb
    exact ne_K hu I.kIn J J2.type (by show (Value.ref C == Value.ref C || _) = true; rw [beq_self_eq_true, Bool.true_or]) O.obj O.ne O.eq.at_ O.eq.fn body
  · exact ne_K hu I.kIn J (PySem.W.Looks.of_pure (plT_of ry hT)) (O.eq.ts T hm) O.obj O.ne O.eq.at_ O.eq.fn body
/-- str(x), repr(x) of an own class -/
def rStrOwn (C : Addr) (sp : Sp) (E : XK) : List V → Hp → VK → Prop := fun xs H Q => ∃ a, xs = [.ref a] ∧ InsAt C H a ∧ sp [.ref a] H (fun v H' => ∃ z, v = .str z ∧ Q v H') E
theorem str_back {X : Cx} {pins : List (Addr × Obj)} {σ : L2.St} {Q : VK} {v : Value} {s' : Shared} (h : EP X pins σ (fun v H' => ∃ z, v = .str z ∧ Q v H') v s') : PySem.W.StrBack (EP X pins σ Q) v s' := by
  obtain ⟨z1, H', I', r', z, rfl, q⟩ := h
  obtain ⟨t, rfl⟩ := r'
  exact ⟨.str z, H', I', ⟨t, rfl⟩, q⟩
theorem cr_strOwn (O : UnOwn X.K C "__str__" f) (F : FnG X.prog X.w X.K X.mg X.base CX g k f fd ps sp) (hr : Room (k + 2) X.A) (hg : Clr g X.A) (hb : Binds X.K fd ps []) (hx : Passes CX X E) : CallR X (.type "str") (rStrOwn C sp E) := by
  intro pins s σ H xs us Q I r h
  obtain ⟨a, rfl, ⟨dx, fs, ea⟩, q⟩ := h
  obtain ⟨u, rfl, ru⟩ := vals1 r
  obtain rfl : u = Value.ref a := ru
  obtain ⟨ox, od, J⟩ := inst_of I ea
  have hr1 : Room k X.A.in1.in1 := hr.in1.in1
  refine PySem.W.kso_call hr1.units0 I.kIn J O.at_ O.fn ?_
  exact wpAny_mono (run_g (us := [.ref a]) (vs := [.ref a]) (dvs := []) (E' := X.xe) F hr1 (clr_in1 (clr_in1 hg)) rfl hb .nil hx I (.cons rfl .nil) q) (fun _ _ z => str_back z) fun _ _ z => z
theorem cr_reprOwn (O : UnOwn X.K C "__repr__" f) (F : FnG X.prog X.w X.K X.mg X.base CX g k f fd ps sp) (hr : Room (k + 1) X.A) (hg : Clr g X.A) (hb : Binds X.K fd ps []) (hx : Passes CX X E) : CallR X (.builtin "repr") (rStrOwn C sp E) := by
  intro pins s σ H xs us Q I r h
  obtain ⟨a, rfl, ⟨dx, fs, ea⟩, q⟩ := h
  obtain ⟨u, rfl, ru⟩ := vals1 r
  obtain rfl : u = Value.ref a := ru
  obtain ⟨ox, od, J⟩ := inst_of I ea
  obtain ⟨m, Fr0⟩ := I.fr
  have hr1 : Room k X.A.in1 := hr.in1
  refine PySem.W.repr_K hr1.units0 Fr0 I.ok.mod.kin J O.at_ O.fn ?_
  exact wpAny_mono (run_g (us := [.ref a]) (vs := [.ref a]) (dvs := []) (E' := X.xe) F hr1 (clr_in1 hg) rfl hb .nil hx I (.cons rfl .nil) q) (fun _ _ z => str_back z) fun _ _ z => z
end
end LL
/-! LL3: making, repr of data, // of any sign; readings step by step. -/
namespace LL
open PySem PySem.Spec PyProof.Rows L2

section
variable {X : Cx} {CX : CXT} {g : Bool} {k : Nat} {f C : Addr} {fd : FuncData} {ps : List Str} {sp : Sp} {dvs : List V} {ds : List Value} {E : XK} {x : Str} {p pos : Pos} {e : Expr} {es : List Expr} {t : TA}
theorem run_mk {pins : List (Addr × Obj)} {σ : L2.St} {H : Hp} {s : Shared} {Q : VK} {us : List Value} {vs : List V} (M : Mk X.K C f) (F : FnG X.prog X.w X.K X.mg X.base CX g k f fd ps sp) (hr : Room (k + 1) X.A) (hg : Clr g X.A) (hb : Binds X.K fd ps ds) (hd : Vals dvs ds)
    (hx : Passes CX X E) (I : Inv X pins σ H s) (r : Vals vs us)
    (h : ∀ y dy, H y = none → H dy = none → dy ≠ y → sp (.ref y :: (vs ++ dvs)) (upd (upd H dy (.own y)) y (.ins C dy [])) (fun v H2 => v = .non ∧ Q (.ref y) H2) E) :
    wpAny (model X.prog X.w) X.A (call (.ref C) us) (EP X pins σ Q) X.xe s := by
  have want := h (s.heap.objs.size + 1) s.heap.objs.size (I.hok.fresh (Nat.le_succ _)) (I.hok.fresh (Nat.le_refl _)) (Nat.ne_of_lt (Nat.lt_succ_self _))
  have J := Inv.made (C := C) I
  have rr : Vals (V.ref (s.heap.objs.size + 1) :: (vs ++ dvs)) (Value.ref (s.heap.objs.size + 1) :: (us ++ ds)) := .cons rfl (r.append hd)
  have hl : (Value.ref (s.heap.objs.size + 1) :: us ++ ds).length = ps.length := rr.length.symm.trans (F.len _ _ _ _ want)
  have room := hr.make C us []
  refine wpAny_call (make_map (f := f) I.kIn M.makes M.init (beq_iff_eq.mp M.fn) (codeAny_mono (F.run _ X.stack _ _ ⟨Value.ref (s.heap.objs.size + 1) :: us, []⟩ _ _ _ E room (clr_make hg) (J.env0.make C us [])
    (hb _ (Value.ref (s.heap.objs.size + 1) :: us) J.kIn hl) rr want) (fun res s' q => ?_)))
  match res, q with
  | .error er, q => exact hx pins σ _ _ er s' J q
  | .ok (.ret u), q =>
    obtain ⟨v, H', J', rv, ev, q3⟩ := J.after q
    subst ev
    exact ⟨rv, ⟨V.ref (s.heap.objs.size + 1), H', J', rfl, q3⟩⟩
  | .ok .next, q => exact q.elim
  | .ok .brk, q => exact q.elim
  | .ok .cont, q => exact q.elim
/-- C(a, ..) -/
theorem pg_make (M : Mk X.K C f) (F : FnG X.prog X.w X.K X.mg X.base CX g k f fd ps sp) (hr : Room (k + 1) X.A) (hg : Clr g X.A) (hgl : Gl X x) (hm : X.mg x = some (.ref C)) (hb : Binds X.K fd ps ds) (hd : Vals dvs ds) (hx : Passes CX X E)
    (ha : PA X (e :: es) t)
    (hdb : (x == ("__debug__" : Str)) = false := by decide) (he : starEach (e :: es) X.env = (false, eval e X.env) :: starEach es X.env := by rfl)
    (hpl : (backTo pos (starEach es X.env)).any (·.1) = false := by rfl) : PE X (.Call (.Name x p) (e :: es) [] pos) (tMake C sp dvs E t) := by
  constructor
  intro pins s σ H Q I h
  refine wpAny_Call_Name_kw (ld_glob I hgl hm ?_ hdb)
  refine PySem.W.callWith_K (h₀ := X.base) I.ok.mod.kin M.kp (thn (ha.run pos pins s σ H _ I h) ?_) he hpl
  rintro us s1 ⟨vs, H1, I1, r, q⟩
  exact ⟨I1.kIn, run_mk M F hr hg hb hd hx I1 r q⟩
theorem pg_make0 (M : Mk X.K C f) (F : FnG X.prog X.w X.K X.mg X.base CX g k f fd ps sp) (hr : Room (k + 1) X.A) (hg : Clr g X.A) (hgl : Gl X x) (hm : X.mg x = some (.ref C)) (hb : Binds X.K fd ps ds) (hd : Vals dvs ds) (hx : Passes CX X E)
    (hdb : (x == ("__debug__" : Str)) = false := by decide) : PE X (.Call (.Name x p) [] [] pos) (tMake C sp dvs E tNil) := by
  constructor
  intro pins s σ H Q I h
  exact wpAny_Call_Name_kw (ld_glob I hgl hm (PySem.W.callWith_K0 I.kIn M.kp (run_mk (us := []) M F hr hg hb hd hx I .nil h)) hdb)
end

/-! ### repr of data, of a bool -/
def rReprD (K : PySem.W.Frag) : List V → Hp → VK → Prop := fun xs H Q => ∃ a d, xs = [.ref a] ∧ Dp K H (.ref a) d ∧ d.showable = true ∧ d.hasDict = false ∧ d.depth ≤ 16 ∧ d.shown.length ≤ sizeLine ∧ Q (.str d.shown) H
def bText (b : Bool) : Str := if b then "True" else "False"
def rReprB : List V → Hp → VK → Prop := fun xs H Q => ∃ b, xs = [.bl b] ∧ Q (.str (bText b)) H
section
variable {X : Cx}
theorem cr_reprD (hg : Clr true X.A) (hu : X.A.units + 64 < cLine) : CallR X (.builtin "repr") (rReprD X.K) := by
  intro pins s σ H xs us Q I r h
  obtain ⟨a, d, rfl, hd, h1, h2, h3, h4, q⟩ := h
  obtain ⟨u, rfl, ru⟩ := vals1 r
  obtain rfl : u = Value.ref a := ru
  obtain ⟨as, rd⟩ := Dp.reads I d _ _ hd (show RelV (.ref a) (Value.ref a) from rfl)
  refine repr_of_reads' rd h1 (PyData.noDict_hsm h2) (hg rfl) (by omega) (fun _ _ z => z) (fun h' v tk hk => ?_) h4
  exact ⟨.str _, H, I.kept hk, ⟨_, rfl⟩, q⟩
theorem cr_reprB : CallR X (.builtin "repr") rReprB := by
  intro pins s σ H xs us Q I r h
  obtain ⟨b, rfl, q⟩ := h
  obtain ⟨u, rfl, ru⟩ := vals1 r
  obtain rfl : u = Value.bool b := ru
  refine PySem.P.repr_of_bool ⟨.str (bText b), H, I.tok _, ⟨s.toks, ?_⟩, q⟩
  unfold bText
  cases b <;> rfl
end

/-! ### // by any divisor but 0 below 2 ^ 9000 -/
def CDivS (_ j : Int) : Prop := j ≠ 0 ∧ j.natAbs.log2 < 9000
section
variable {X : Cx}
theorem op_fdivS : OpR X (binaryOp .FloorDiv) (rI CDivS fun i j => .int (i.fdiv j)) := opI fun _ _ _ _ _ _ _ hc q => floordiv_int hc.1 q (.inl (PyProof.noPylong_of_log2 hc.2))
end
end LL
/-! LR: readings, one construct at a time: each row takes a goal «reading .. σ H Q» to what is left. -/
namespace LL
open PySem PySem.Spec PyProof.Rows L2

section
variable {σ : L2.St} {H H1 : Hp} {Q : VK} {QA : List V → Hp → Prop} {QB : Bool → Hp → Prop} {QS : L2.St → Hp → Prop} {x y v : V} {ta tb tc : TE} {t u : TT} {tr : TA} {s1 s2 : TS} {i j : Nat} {n : L2.St → Hp → Prop} {r : VK} {b c : L2.St → Hp → Prop} {r2 : R2} {K : PySem.W.Frag} {g : TG} {gs : TGs} {a p : Addr} {xs : List V} {m k : Int} {z : Str} {bb : Bool} {E : XK} {sp : Sp}
/-! names, constants, operators -/
theorem r_var (h : σ[i]? = some (some v)) (q : Q v H) : tVar i σ H Q := ⟨v, h, q⟩
theorem r_c (q : Q v H) : tC v σ H Q := q
theorem r_op (q : ta σ H fun x H1 => tb σ H1 fun y H2 => r2 x y H2 Q) : tOp r2 ta tb σ H Q := q
theorem r_un {ru : V → Hp → VK → Prop} (q : ta σ H fun x H1 => ru x H1 Q) : tUn ru ta σ H Q := q
theorem r_I0 {f : Int → Int → V} (q : Q (f m k) H) : rI0 f (.int m) (.int k) H Q := ⟨m, k, rfl, rfl, q⟩
theorem r_I {C : Int → Int → Prop} {f : Int → Int → V} (h : C m k) (q : Q (f m k) H) : rI C f (.int m) (.int k) H Q := ⟨m, k, rfl, rfl, h, q⟩
theorem r_U {f : Int → V} (q : Q (f m) H) : rU f (.int m) H Q := ⟨m, rfl, q⟩
theorem r_eqI (q : Q (.bl (decide (m = k))) H) : rEq (.int m) (.int k) H Q := ⟨rfl, by
  have e : decide (V.int m = V.int k) = decide (m = k) := by rw [dec_int]; exact Bool.beq_eq_decide_eq ..
  show Q (.bl (decide (V.int m = V.int k))) H
  rw [e]; exact q⟩
theorem r_neI (q : Q (.bl (!decide (m = k))) H) : rNe (.int m) (.int k) H Q := ⟨rfl, by
  have e : decide (V.int m = V.int k) = decide (m = k) := by rw [dec_int]; exact Bool.beq_eq_decide_eq ..
  show Q (.bl (!decide (V.int m = V.int k))) H
  rw [e]; exact q⟩
theorem r_eqS {z z' : Str} (q : Q (.bl (decide (z = z'))) H) : rEq (.str z) (.str z') H Q := ⟨rfl, by
  have e : decide (V.str z = V.str z') = decide (z = z') := by rw [dec_str]; exact Bool.beq_eq_decide_eq ..
  show Q (.bl (decide (V.str z = V.str z'))) H
  rw [e]; exact q⟩
theorem r_neS {z z' : Str} (q : Q (.bl (!decide (z = z'))) H) : rNe (.str z) (.str z') H Q := ⟨rfl, by
  have e : decide (V.str z = V.str z') = decide (z = z') := by rw [dec_str]; exact Bool.beq_eq_decide_eq ..
  show Q (.bl (!decide (V.str z = V.str z'))) H
  rw [e]; exact q⟩
/-! tests -/
theorem r_test (q : ta σ H fun x H' => ∃ k, x = .bl k ∧ QB k H') : tTest ta σ H QB := q
theorem r_tB (q : ta σ H fun x H' => ∃ k, x = .bl k ∧ QB k H') : tB ta σ H QB := q
theorem r_bl (q : QB bb H) : ∃ k, V.bl bb = .bl k ∧ QB k H := ⟨bb, rfl, q⟩
theorem r_and (q : t σ H fun c H1 => if c = true then u σ H1 QB else QB false H1) : tAnd t u σ H QB := q
theorem r_or (q : t σ H fun c H1 => if c = true then QB true H1 else u σ H1 QB) : tOr t u σ H QB := q
theorem r_not (q : t σ H fun c H1 => QB (!c) H1) : tNot t σ H QB := q
theorem r_andV (q : ta σ H fun x H1 => ∃ c, x = .bl c ∧ if c = true then tb σ H1 Q else Q (.bl false) H1) : tAndV ta tb σ H Q := q
theorem r_orV (q : ta σ H fun x H1 => ∃ c, x = .bl c ∧ if c = true then Q (.bl true) H1 else tb σ H1 Q) : tOrV ta tb σ H Q := q
theorem r_notV (q : ta σ H fun x H1 => ∃ c, x = .bl c ∧ Q (.bl (!c)) H1) : tNotV ta σ H Q := q
theorem r_blV {P : Bool → Prop} (q : P bb) : ∃ c, V.bl bb = .bl c ∧ P c := ⟨bb, rfl, q⟩
theorem r_if (q : t σ H fun c H1 => if c = true then ta σ H1 Q else tb σ H1 Q) : tIf t ta tb σ H Q := q
/-- an if by what is decided -/
theorem r_dec {P : Prop} [Decidable P] {A B : Prop} (h1 : P → A) (h2 : ¬ P → B) : if decide P = true then A else B := by
  by_cases h : P
  · rw [decide_eq_true h, if_pos rfl]; exact h1 h
  · rw [decide_eq_false h, if_neg Bool.false_ne_true]; exact h2 h
theorem r_ndec {P : Prop} [Decidable P] {A B : Prop} (h1 : ¬ P → A) (h2 : P → B) : if (!decide P) = true then A else B := by
  by_cases h : P
  · rw [decide_eq_true h, Bool.not_true, if_neg Bool.false_ne_true]; exact h2 h
  · rw [decide_eq_false h, Bool.not_false, if_pos rfl]; exact h1 h
theorem r_yes {A B : Prop} (e : bb = true) (q : A) : if bb = true then A else B := by rw [if_pos e]; exact q
theorem r_no {A B : Prop} (e : bb = false) (q : B) : if bb = true then A else B := by rw [e, if_neg Bool.false_ne_true]; exact q
/-! calls of built-ins, displays -/
theorem r_CB {rc : List V → Hp → VK → Prop} (q : tr σ H fun vs H1 => rc vs H1 Q) : tCB rc tr σ H Q := q
theorem r_nil (q : QA [] H) : tNil σ H QA := q
theorem r_cons (q : ta σ H fun x H1 => tr σ H1 fun xs H2 => QA (x :: xs) H2) : tCons ta tr σ H QA := q
/-- a new object: the heap grows by it -/
theorem r_tup (q : tr σ H fun xs H1 => xs.length ≤ sizeLine ∧ ∀ p H2, H1 p = none → Same H1 H2 → H2 p = some (.tup xs) → (∀ b, b ≠ p → H2 b = H1 b) → Q (.ref p) H2) : tTup tr σ H Q := by
  have e : (fun xs H1 => xs.length ≤ sizeLine ∧ ∀ p H2, H1 p = none → Same H1 H2 → H2 p = some (.tup xs) → (∀ b, b ≠ p → H2 b = H1 b) → Q (.ref p) H2) = (fun xs H1 => xs.length ≤ sizeLine ∧ ∀ p, H1 p = none → Q (.ref p) (upd H1 p (.tup xs))) := by
    funext xs H1
    refine propext ⟨fun ⟨a, z⟩ => ⟨a, fun p hp => z p _ hp (fun b o e => by rw [upd_ne (ne_of_none e hp)]; exact e) upd_same fun b hb => upd_ne hb⟩, fun ⟨a, z⟩ => ⟨a, fun p H2 hp s e ne => ?_⟩⟩
    have : H2 = upd H1 p (.tup xs) := by
      funext b
      by_cases hb : b = p
      · subst hb; rw [e, upd_same]
      · rw [upd_ne hb, ne b hb]
    rw [this]; exact z p hp
  show tr σ H (fun xs H1 => xs.length ≤ sizeLine ∧ ∀ p, H1 p = none → Q (.ref p) (upd H1 p (.tup xs)))
  rw [← e]; exact q
theorem r_lst (q : tr σ H fun xs H1 => xs.length ≤ sizeLine ∧ ∀ p H2, H1 p = none → Same H1 H2 → H2 p = some (.lst xs) → (∀ b, b ≠ p → H2 b = H1 b) → Q (.ref p) H2) : tLst tr σ H Q := by
  have e : (fun xs H1 => xs.length ≤ sizeLine ∧ ∀ p H2, H1 p = none → Same H1 H2 → H2 p = some (.lst xs) → (∀ b, b ≠ p → H2 b = H1 b) → Q (.ref p) H2) = (fun xs H1 => xs.length ≤ sizeLine ∧ ∀ p, H1 p = none → Q (.ref p) (upd H1 p (.lst xs))) := by
    funext xs H1
    refine propext ⟨fun ⟨a, z⟩ => ⟨a, fun p hp => z p _ hp (fun b o e => by rw [upd_ne (ne_of_none e hp)]; exact e) upd_same fun b hb => upd_ne hb⟩, fun ⟨a, z⟩ => ⟨a, fun p H2 hp s e ne => ?_⟩⟩
    have : H2 = upd H1 p (.lst xs) := by
      funext b
      by_cases hb : b = p
      · subst hb; rw [e, upd_same]
      · rw [upd_ne hb, ne b hb]
    rw [this]; exact z p hp
  show tr σ H (fun xs H1 => xs.length ≤ sizeLine ∧ ∀ p, H1 p = none → Q (.ref p) (upd H1 p (.lst xs)))
  rw [← e]; exact q
theorem r_new {o : HO} {R : Addr → Hp → Prop} (hz : xs.length ≤ 100000) (q : ∀ p H2, H p = none → Same H H2 → H2 p = some o → (∀ b, b ≠ p → H2 b = H b) → R p H2) : xs.length ≤ sizeLine ∧ ∀ p H2, H p = none → Same H H2 → H2 p = some o → (∀ b, b ≠ p → H2 b = H b) → R p H2 :=
  ⟨Nat.le_trans hz (by decide), q⟩
/-! items of lists, tuples -/
theorem r_ixL (h : SqL K H p xs) (e : atI xs m = some v) (q : Q v H) : rIxL K (.ref p) (.int m) H Q := ⟨p, xs, m, v, rfl, rfl, h, e, q⟩
theorem r_ixT (h : SqT K H p xs) (e : atI xs m = some v) (q : Q v H) : rIxT K (.ref p) (.int m) H Q := ⟨p, xs, m, v, rfl, rfl, h, e, q⟩
/-! attributes -/
theorem r_fld {f : Str} (q : ta σ H fun x H1 => ∃ a C dx fs v, x = .ref a ∧ H1 a = some (.ins C dx fs) ∧ Cls K C ∧ NoAttr K C f ∧ fs.lookup f = some v ∧ Q v H1) : tFld K ta f σ H Q := q
theorem r_fldAt {C dx : Addr} {fs : List (Str × V)} {f : Str} (h : H a = some (.ins C dx fs)) (c : Cls K C) (na : NoAttr K C f) (e : fs.lookup f = some v) (q : Q v H) :
    ∃ a' C dx fs v, V.ref a = .ref a' ∧ H a' = some (.ins C dx fs) ∧ Cls K C ∧ NoAttr K C f ∧ fs.lookup f = some v ∧ Q v H := ⟨a, C, dx, fs, v, rfl, h, c, na, e, q⟩
theorem r_prop {C : Addr} {dvs : List V} (q : ta σ H fun x H1 => ∃ a dx fs, x = .ref a ∧ H1 a = some (.ins C dx fs) ∧ sp (.ref a :: dvs) H1 Q E) : tProp C sp dvs E ta σ H Q := q
theorem r_propAt {C dx : Addr} {fs : List (Str × V)} {dvs : List V} (h : H a = some (.ins C dx fs)) (q : sp (.ref a :: dvs) H Q E) : ∃ a' dx fs, V.ref a = .ref a' ∧ H a' = some (.ins C dx fs) ∧ sp (.ref a' :: dvs) H Q E := ⟨a, dx, fs, rfl, h, q⟩
/-! calls of defs -/
theorem r_call {dvs : List V} (q : tr σ H fun vs H1 => sp (vs ++ dvs) H1 Q E) : tCall sp dvs E tr σ H Q := q
theorem r_meth {C : Addr} {mm : Str} {dvs : List V} (q : ta σ H fun x H1 => ∃ a dx fs, x = .ref a ∧ H1 a = some (.ins C dx fs) ∧ fs.lookup mm = none ∧ tr σ H1 fun vs H2 => sp (x :: (vs ++ dvs)) H2 Q E) : tMeth C mm sp dvs E ta tr σ H Q := q
theorem r_methAt {C dx : Addr} {fs : List (Str × V)} {mm : Str} {dvs : List V} (h : H a = some (.ins C dx fs)) (e : fs.lookup mm = none) (q : tr σ H fun vs H2 => sp (.ref a :: (vs ++ dvs)) H2 Q E) :
    ∃ a' dx fs, V.ref a = .ref a' ∧ H a' = some (.ins C dx fs) ∧ fs.lookup mm = none ∧ tr σ H fun vs H2 => sp (.ref a :: (vs ++ dvs)) H2 Q E := ⟨a, dx, fs, rfl, h, e, q⟩
theorem r_make {C : Addr} {dvs : List V} (q : tr σ H fun vs H1 => ∀ x dx, H1 x = none → H1 dx = none → dx ≠ x → sp (.ref x :: (vs ++ dvs)) (upd (upd H1 dx (.own x)) x (.ins C dx [])) (fun v H2 => v = .non ∧ Q (.ref x) H2) E) : tMake C sp dvs E tr σ H Q := q
/-! statements -/
theorem r_seq (q : s1 ⟨fun σ H => s2 ⟨n, r, b, c⟩ σ H, r, b, c⟩ σ H) : tSeq s1 s2 ⟨n, r, b, c⟩ σ H := q
theorem r_asg (q : ta σ H fun x H1 => g x σ H1 n) : tAsg ta g ⟨n, r, b, c⟩ σ H := q
theorem r_par (q : tr σ H fun vs H1 => ∃ v w, vs = [v, w] ∧ n ((σ.set i (some v)).set j (some w)) H1) : tPar i j tr ⟨n, r, b, c⟩ σ H := q
theorem r_parAt {w : V} (q : n ((σ.set i (some v)).set j (some w)) H) : ∃ v' w', [v, w] = [v', w'] ∧ n ((σ.set i (some v')).set j (some w')) H := ⟨v, w, rfl, q⟩
theorem r_ret (q : ta σ H r) : tRet ta ⟨n, r, b, c⟩ σ H := q
theorem r_drop (q : ta σ H fun _ H1 => n σ H1) : tDrop ta ⟨n, r, b, c⟩ σ H := q
theorem r_ifS (q : t σ H fun bb H1 => if bb = true then s1 ⟨n, r, b, c⟩ σ H1 else s2 ⟨n, r, b, c⟩ σ H1) : tIfS t s1 s2 ⟨n, r, b, c⟩ σ H := q
theorem r_next (q : n σ H) : tNext ⟨n, r, b, c⟩ σ H := q
theorem r_fieldS {tv : TE} {f : Str} (q : tv σ H fun y H1 => ta σ H1 fun x H2 => ∃ a C dx fs, x = .ref a ∧ H2 a = some (.ins C dx fs) ∧ Cls K C ∧ NoAttr K C f ∧ fs.length < 1000 ∧ n σ (upd H2 a (.ins C dx (putF f y fs)))) : sFld K ta tv f ⟨n, r, b, c⟩ σ H := q
theorem r_fieldAt {C dx : Addr} {fs : List (Str × V)} {f : Str} (h : H a = some (.ins C dx fs)) (cl : Cls K C) (na : NoAttr K C f) (hl : fs.length < 1000) (q : n σ (upd H a (.ins C dx (putF f y fs)))) :
    ∃ a' C dx fs, V.ref a = .ref a' ∧ H a' = some (.ins C dx fs) ∧ Cls K C ∧ NoAttr K C f ∧ fs.length < 1000 ∧ n σ (upd H a' (.ins C dx (putF f y fs))) := ⟨a, C, dx, fs, rfl, h, cl, na, hl, q⟩
/-! targets -/
theorem r_gname (q : QS (σ.set i (some v)) H) : gName i v σ H QS := q
theorem r_gnil (q : QS σ H) : gNil [] σ H QS := ⟨rfl, q⟩
theorem r_gcons (q : g v σ H fun σ' H' => gs xs σ' H' QS) : gCons g gs (v :: xs) σ H QS := ⟨v, xs, rfl, q⟩
theorem r_gtup {l : Nat} (h : SqT K H p xs) (e : xs.length = l) (q : gs xs σ H QS) : gTup K l gs (.ref p) σ H QS := ⟨p, xs, rfl, h, e, q⟩
theorem r_gsub {to ti : TE} {ts : TSet} (q : to σ H fun o H1 => ti σ H1 fun i H2 => ts o i v H2 fun H3 => QS σ H3) : gSub to ti ts v σ H QS := q
/-! texts -/
theorem r_fmt (q : ta σ H fun x H1 => (∃ y : Str, x = .str y ∧ y.length ≤ sizeLine ∧ Q (.str y) H1) ∨ ∃ i : Int, x = .int i ∧ i.natAbs.log2 < 1920 ∧ Q (.str (toString i)) H1) : tFmt ta σ H Q := q
theorem r_fmtI (h : m.natAbs.log2 < 1920) (q : Q (.str (toString m)) H) : (∃ y : Str, V.int m = .str y ∧ y.length ≤ sizeLine ∧ Q (.str y) H) ∨ ∃ i : Int, V.int m = .int i ∧ i.natAbs.log2 < 1920 ∧ Q (.str (toString i)) H := .inr ⟨m, rfl, h, q⟩
theorem r_fmtS (h : z.length ≤ sizeLine) (q : Q (.str z) H) : (∃ y : Str, V.str z = .str y ∧ y.length ≤ sizeLine ∧ Q (.str y) H) ∨ ∃ i : Int, V.str z = .int i ∧ i.natAbs.log2 < 1920 ∧ Q (.str (toString i)) H := .inl ⟨z, rfl, h, q⟩
theorem r_js0 {acc : Str} {QJ : Str → Hp → Prop} (q : QJ acc H) : tJs [] acc σ H QJ := q
theorem r_js {acc : Str} {QJ : Str → Hp → Prop} {ts : List TE} (q : ta σ H fun x H1 => ∃ y : Str, x = .str y ∧ (acc ++ y).length ≤ sizeLine ∧ tJs ts (acc ++ y) σ H1 QJ) : tJs (ta :: ts) acc σ H QJ := q
theorem r_jsAt {acc : Str} {QJ : Str → Hp → Prop} {ts : List TE} (h : (acc ++ z).length ≤ sizeLine) (q : tJs ts (acc ++ z) σ H QJ) : ∃ y : Str, V.str z = .str y ∧ (acc ++ y).length ≤ sizeLine ∧ tJs ts (acc ++ y) σ H QJ := ⟨z, rfl, h, q⟩
end
end LL
/-! LL4: the head by facts of our own, the law's end. -/
namespace LL
open PySem PySem.Spec PyProof.Rows L2

/-! ### facts by Bools -/
/-- the getter of the class's property -/
def pget (K : PySem.W.Frag) (C m : Str) : Addr := match PySem.W.recIn K (He.ma K (He.ga K C) m) "property" with
  | some (.ref f :: _) => f
  | _ => 0
def propB (K : PySem.W.Frag) (C m : Str) : Bool := He.eqO (PySem.W.findIn K (.ref (He.ga K C)) m) (some (some (.ref (He.ma K (He.ga K C) m)))) &&
  (He.eqO (PySem.W.specialIn K (.ref (He.ma K (He.ga K C) m)) "__get__") (some (some (.builtin "property.__get__"))) && (decide (PySem.W.takesIn K (.ref (He.ma K (He.ga K C) m)) = some true) &&
  (match PySem.W.recIn K (He.ma K (He.ga K C) m) "property" with
    | some (.ref _ :: _) => true
    | _ => false)))
theorem propB_ok {K : PySem.W.Frag} {C m : Str} (h : propB K C m = true) : PropOf K (He.ga K C) m (He.ma K (He.ga K C) m) (pget K C m) := by
  obtain ⟨h1, h⟩ := He.ba h
  obtain ⟨h2, h⟩ := He.ba h
  obtain ⟨h3, h4⟩ := He.ba h
  refine ⟨He.eqO_ok h1, He.eqO_ok h2, of_decide_eq_true h3, ?_⟩
  unfold pget
  split at h4
  · rename_i f r e
    exact ⟨r, by rw [e]⟩
  · cases h4
def bltB (K : PySem.W.Frag) (x : Str) (id : String) : Bool := He.eqO (PySem.W.nsIn K mainGlobals x) (some (some (.builtin id)))
theorem bltB_ok {K : PySem.W.Frag} {h : Heap} {mg : Str → Option Value} (X : K.In h) (G : h.Ns mainGlobals mg) {x : Str} {id : String} (c : bltB K x id = true) : mg x = some (.builtin id) := PySem.W.mg_of X G (He.eqO_ok c)
def fnB (K : PySem.W.Frag) (C m : Str) : Bool := He.eqO (PySem.W.findIn K (.ref (He.ga K C)) m) (some (some (.ref (He.ma K (He.ga K C) m)))) && PySem.W.isFn K (.ref (He.ma K (He.ga K C) m))
theorem fnB_ok {K : PySem.W.Frag} {C m : Str} (h : fnB K C m = true) : UnOwn K (He.ga K C) m (He.ma K (He.ga K C) m) := by
  obtain ⟨h1, h2⟩ := He.ba h
  exact ⟨He.eqO_ok h1, h2⟩
def opB (K : PySem.W.Frag) (C : Str) (nm : String) (Ts : List String) : Bool := PySem.W.selfFirst K (He.ga K C) && (fnB K C (PySem.dunder nm) && (He.eqO (PySem.W.findIn K (.ref (He.ga K C)) (dunderR nm)) (some none) &&
  Ts.all fun T => (PySem.W.findIn K (.type T) (PySem.dunder nm)).isSome && ((PySem.W.findIn K (.type T) (dunderR nm)).isSome && decide (PySem.W.subIn K (.type T) (.ref (He.ga K C)) = some false))))
theorem opB_ok {K : PySem.W.Frag} {C : Str} {nm : String} {Ts : List String} (h : opB K C nm Ts = true) : OpOwn K (He.ga K C) nm (He.ma K (He.ga K C) (PySem.dunder nm)) Ts := by
  obtain ⟨h1, h⟩ := He.ba h
  obtain ⟨h2, h⟩ := He.ba h
  obtain ⟨h3, h4⟩ := He.ba h
  have u := fnB_ok h2
  refine ⟨h1, u.at_, u.fn, He.eqO_ok h3, fun T hT => ?_⟩
  obtain ⟨a, b⟩ := He.ba (List.all_eq_true.mp h4 T hT)
  obtain ⟨b, c⟩ := He.ba b
  exact ⟨Option.isSome_iff_exists.mp a, Option.isSome_iff_exists.mp b, of_decide_eq_true c⟩
def eqB (K : PySem.W.Frag) (C : Str) (Ts : List String) : Bool := fnB K C "__eq__" && Ts.all fun T => PySem.W.notFirst K (He.ga K C) (.type T)
theorem eqB_ok {K : PySem.W.Frag} {C : Str} {Ts : List String} (h : eqB K C Ts = true) : EqOwn K (He.ga K C) (He.ma K (He.ga K C) "__eq__") Ts := by
  obtain ⟨h1, h2⟩ := He.ba h
  have u := fnB_ok h1
  exact ⟨u.at_, u.fn, fun T hT => List.all_eq_true.mp h2 T hT⟩
def neB (K : PySem.W.Frag) (C : Str) (Ts : List String) : Bool := eqB K C Ts && (decide (PySem.W.mroIn K (He.ga K C) (.type "object") = some true) && He.eqO (PySem.W.findIn K (.ref (He.ga K C)) "__ne__") (some (some (.builtin "object.__ne__"))))
theorem neB_ok {K : PySem.W.Frag} {C : Str} {Ts : List String} (h : neB K C Ts = true) : NeOwn K (He.ga K C) (He.ma K (He.ga K C) "__eq__") Ts := by
  obtain ⟨h1, h⟩ := He.ba h
  obtain ⟨h2, h3⟩ := He.ba h
  exact ⟨eqB_ok h1, of_decide_eq_true h2, He.eqO_ok h3⟩
/-- what isinstance asks of an own class -/
structure IsiOwn (K : PySem.W.Frag) (C : Addr) : Prop where
  ha : PySem.W.findIn K (.ref C) "__class__" = some (some (.builtin "object.__class__"))
  hn : PySem.W.specialIn K (.builtin "object.__class__") "__get__" = some (some (.builtin "getset_descriptor.__get__"))
  ht : PySem.W.takesIn K (.builtin "object.__class__") = some true
  hm : PySem.W.mroIn K C (.type "object") = some true
def isiB (K : PySem.W.Frag) (C : Str) : Bool := He.eqO (PySem.W.findIn K (.ref (He.ga K C)) "__class__") (some (some (.builtin "object.__class__"))) && (He.eqO (PySem.W.specialIn K (.builtin "object.__class__") "__get__") (some (some (.builtin "getset_descriptor.__get__"))) &&
  (decide (PySem.W.takesIn K (.builtin "object.__class__") = some true) && decide (PySem.W.mroIn K (He.ga K C) (.type "object") = some true)))
theorem isiB_ok {K : PySem.W.Frag} {C : Str} (h : isiB K C = true) : IsiOwn K (He.ga K C) := by
  obtain ⟨h1, h⟩ := He.ba h
  obtain ⟨h2, h⟩ := He.ba h
  obtain ⟨h3, h4⟩ := He.ba h
  exact ⟨He.eqO_ok h1, He.eqO_ok h2, of_decide_eq_true h3, of_decide_eq_true h4⟩
/-- isinstance(a value of type T, the class C): the answer b -/
def kitTB (K : PySem.W.Frag) (T : String) (C : Str) (b : Bool) : Bool := decide (PySem.W.kitOne K (.type T) (.ref (He.ga K C)) = some b)
theorem kitTB_ok {K : PySem.W.Frag} {T : String} {C : Str} {b : Bool} (h : kitTB K T C b = true) : PySem.W.kitOne K (.type T) (.ref (He.ga K C)) = some b := of_decide_eq_true h
theorem kit_self {K : PySem.W.Frag} {C : Addr} : PySem.W.kitOne K (.ref C) (.ref C) = some true := by
  unfold PySem.W.kitOne
  rw [if_pos (beq_self_eq_true _)]

/-! ### the hook -/
def obsLG (n : Nat) (fa : List He.Fa) (fn : List He5.DefA) (ex : PySem.W.Frag → Bool) (g : Addr → Option Obj) : He.AlD × Bool := (He5.obsAG n fa fn g, ex (He.frG g (He5.asA g n)))
def hookL (n : Nat) (fa : List He.Fa) (fn : List He5.DefA) (ex : PySem.W.Frag → Bool) : PySem.W.Hook where
  α := He.AlD × Bool
  obs := fun s => obsLG n fa fn ex s.heap.get?
  val := fun _ => (He5.valA fn, true)
  says := fun _ h => ∃ K : PySem.W.Frag, K.In h ∧ He5.SaysA fa fn K ∧ ex K = true
  of := fun _ s e => ⟨_, He.frG_in, congrArg Prod.fst e, congrArg Prod.snd e⟩
  keeps := fun _ _ _ ⟨K, hK, c, x⟩ k => ⟨K, PySem.W.Frag.In.keeps hK k, c, x⟩
theorem obsLG_eq {n : Nat} {fa : List He.Fa} {fn : List He5.DefA} {ex : PySem.W.Frag → Bool} {g : Addr → Option Obj} {s : Shared} (h : ∀ a, g a = s.heap.get? a) : obsLG n fa fn ex g = (hookL n fa fn ex).obs s := by
  have e : g = s.heap.get? := funext h
  subst e
  rfl

/-! ### the law's call -/
theorem law_g {P : Program} {w : World} {K : PySem.W.Frag} {mg mb : Str → Option Value} {CX : CXT} {g : Bool} {k : Nat} {fa a : Addr} {fd : FuncData} {x : Str} {sp : Sp} {s0 : Shared} {us : List Value} {ns : List Int}
    (KX : K.In s0.heap) (G : s0.heap.Ns mainGlobals mg) (B : s0.heap.Ns builtinsNs mb) (BB : ∀ x : Str, x ≠ "__name__" → mb x = bootBuiltins x) (L : s0.heap.NoLimit) (gens : s0.gens = #[])
    (ha : s0.heap.get? a = some { cls := .type "list", data := .seq us.toArray }) (hi : IntsAre us ns) (hl : ns.length ≤ sizeLine) (room : Room k callerA)
    (F : ∀ base : Heap, K.In base → base.Ns mainGlobals mg → FnG P w K mg base CX g k fa fd [x] sp) (bind : ∀ (s : Shared) (u : Value), BindsTo s fd ⟨[u], []⟩ [(x, u)])
    (want : ∀ H : Hp, Only H → SqL K H a (ns.map V.int) → sp [.ref a] H (fun v _ => v = .bl true) fun _ _ _ => False) (none_ : ∀ H e s', CX [] H s0 (fun _ _ _ => False) e s' → False) :
    codeAny (model P w) callerA (.call (.ref fa) ⟨[.ref a], []⟩) (fun r s' => r = .ok (.ret (.bool true)) ∧ OldK s0.heap s'.heap ∧ s'.os = s0.os ∧ AllBare s'.gens) s0 := by
  have rel := vals_ints hi
  have go : ∀ H : Hp, Only H → SqL K H a (ns.map V.int) → HOk P w H s0.heap → (∀ b, H b ≠ none → b = a) → (H a ≠ none → K.lookup a = none) →
      codeAny (model P w) callerA (.call (.ref fa) ⟨[.ref a], []⟩) (fun r s' => r = .ok (.ret (.bool true)) ∧ OldK s0.heap s'.heap ∧ s'.os = s0.os ∧ AllBare s'.gens) s0 := by
    intro H only seq hok onlyA freeK
    have isA : ∀ {b : Addr} {u : HO}, H b = some u → b = a := fun {b u} e => onlyA b (fun z => by rw [e] at z; cases z)
    have dictFree : ∀ {b : Addr} {o : Obj} {es : Array DictEntry} {ep : Nat}, s0.heap.get? b = some o → o.data = .dict es ep → H b = none := by
      intro b o es ep e d
      match q : H b with
      | none => rfl
      | some u =>
        have e1 := isA q
        rw [e1, ha] at e
        cases e
        cases d
    have up : ∀ {b : Addr} {m : Str → Option Value}, s0.heap.Ns b m → (hidT s0.heap H).Ns b m := by
      rintro b m ⟨o, es, ep, e, d, r⟩
      exact ⟨o, es, ep, hidT_get e (dictFree e d), d, r⟩
    have KB : K.In (hidT s0.heap H) := by
      intro b o e
      refine hidT_get (KX b o e) ?_
      match q : H b with
      | none => rfl
      | some u =>
        have e1 := isA q
        rw [e1] at q e
        rw [freeK (fun z => by rw [q] at z; cases z)] at e
        cases e
    obtain ⟨mc, l1, l2⟩ := L
    have M : Mod K mg (hidT s0.heap H) := ⟨KB, up G, ⟨mb, up B, BB⟩, ⟨mc, up l1, l2⟩⟩
    have e0 : Env0 P w K mg (hidT s0.heap H) callerA [] s0 H := ⟨rfl, M, fun _ _ e => of_hidT e, Nat.le_of_eq (hidT_size _ _), trivial, (fun b hb => nomatch hb), hok, .of_eq gens⟩
    refine codeAny_mono ((F _ KB (up G)).run callerA [] s0 H ⟨[.ref a], []⟩ [.ref a] [.ref a] _ _ room (fun _ => rfl) e0 (bind s0 (.ref a)) (.cons rfl .nil) (want H only seq)) ?_
    intro r s' h
    match r, h with
    | .error e, h => exact (none_ H e s' h).elim
    | .ok .next, h => exact h.elim
    | .ok .brk, h => exact h.elim
    | .ok .cont, h => exact h.elim
    | .ok (.ret u), h =>
      obtain ⟨v, H', os, bare, un, hok', rv, ev⟩ := h
      have ev : v = V.bl true := ev
      subst ev
      obtain rfl : u = Value.bool true := rv
      refine ⟨rfl, OldK.of_keep (fun b o e => ?_), os, bare⟩
      rcases only b with q | ⟨ob, xs, q⟩
      · exact un.keep b o e q (fun z => nomatch z) (by simp)
      · have z1 := (hok b _ q).1
        have z2 := (hok' b _ (un.frzs b ob _ q)).1
        rw [e] at z1
        cases z1
        exact z2
  match hk : K.lookup a with
  | some o =>
    have e := KX a o hk
    rw [ha] at e
    cases e
    have lenV := hi.length
    exact go (fun _ => none) (fun _ => .inl rfl) (.inr ⟨_, us.toArray, _, hk, rfl, rfl, rfl, by rw [List.size_toArray, lenV]; exact hl, by simpa using rel⟩) (fun b u z => nomatch z) (fun b z => (z rfl).elim) (fun z => (z rfl).elim)
  | none =>
    have at_ : (upd (fun _ => none) a (.frz { cls := .type "list", data := .seq us.toArray } (.lst (ns.map V.int)))) a = some (HO.frz { cls := .type "list", data := .seq us.toArray } (.lst (ns.map V.int))) := upd_same
    have off : ∀ b, b ≠ a → (upd (fun _ => none) a (.frz { cls := .type "list", data := .seq us.toArray } (.lst (ns.map V.int)))) b = none := fun b hb => upd_ne hb
    refine go (upd (fun _ => none) a (.frz { cls := .type "list", data := .seq us.toArray } (.lst (ns.map V.int)))) (fun b => ?_) (.inl (.inr ⟨_, at_⟩)) (fun b u z => ?_) (fun b z => ?_) (fun _ => hk)
    · by_cases hb : b = a
      · subst hb; exact .inr ⟨_, _, at_⟩
      · exact .inl (off b hb)
    · by_cases hb : b = a
      · subst hb
        rw [at_] at z
        cases z
        exact ⟨ha, by rw [List.length_map]; exact hl, us, _, rel, ha⟩
      · rw [off b hb] at z
        cases z
    · by_cases hb : b = a
      · exact hb
      · exact (z (off b hb)).elim
/-- a name that the text imports from math -/
theorem xl_fn {q : Program} {mg : Str → Option Value} {h : Heap} {x : Str} {id : String} (XX : PySem.W.XL q [] mg h) (hx : (Flt.mathDrawn q).lookup x = some (.fn id)) : mg x = some (.builtin id) :=
  XX.1.drawn (x, .fn id) (PySem.mem_of_lookup hx)
theorem walk_g {l : PySem.W.OpenLaw} {n k : Nat} {g : Bool} {q : Program} {loose : List Str} {XP : (Str → Option Value) → Heap → Prop} {YP : World → Heap → Prop} {d : DefRec} {CX : CXT} {x : Str}
    (hn : l.most = some n) (hn2 : n ≤ sizeLine) (hdf : d.params.defaults = []) (room : Room k callerA)
    (F : ∀ (w : World) (mg : Str → Option Value) (fa : Addr) (h : Heap), YP w h → XP mg h → h.Ns mainGlobals mg → mg d.name = some (.ref fa) →
      ∃ (K : PySem.W.Frag) (fd : FuncData) (sp : Sp), K.In h ∧ (∀ (s : Shared) (u : Value), BindsTo s fd ⟨[u], []⟩ [(x, u)]) ∧
        (∀ (H : Hp) (a : Addr) (ns : List Int), ns.length ≤ n → Only H → SqL K H a (ns.map V.int) → sp [.ref a] H (fun v _ => v = .bl true) fun _ _ _ => False) ∧
        ∀ base : Heap, K.In base → base.Ns mainGlobals mg → FnG l.prog w K mg base CX g k fa fd [x] sp)
    (none_ : ∀ (H : Hp) (s : Shared) (e : Value) (s' : Shared), CX [] H s (fun _ _ _ => False) e s' → False) : PySem.W.WalkO q loose XP YP l.row.toRowW d [] (fun f vs => PySem.call f vs) := by
  refine Att.attach_call hn hdf ?_
  intro w s0 s1 mg mb fa o pm cd doc a us ns G Y ho hd hcd hmg hobj hints hlen gens
  obtain ⟨K, fd, sp, KX, hb, hsp, hF⟩ := F w mg fa _ Y G.X G.T.g hmg
  exact law_g KX G.T.g G.T.b G.T.builtins G.T.nolimit gens hobj hints (Nat.le_trans hlen hn2) room hF hb (fun H only seq => hsp H a ns hlen only seq) (fun H e s' => none_ H s1 e s')
end LL
/-! LL5: the head of a program that begins with imports: the imports and the top in one kernel run over the heap as a tree. -/
noncomputable section
namespace LL
open PySem PySem.W PySem.Calls PyProof.Rows HandSHeadRun

def impF (st : SharedT → Thread → Option (SharedT × Thread)) : Nat → SharedT → Thread → Option SharedT
  | 0, _, _ => none
  | m + 1, s, t => match t.atExitBegin with
    | some [] => some s
    | some (_ :: _) => none
    | none => match st s t with
      | some (s', t') => frS s' fun s' => impF st m s' t'
      | none => none
theorem impF_ok {tb : String → Option Builtin} {p : Program} {w : World} : ∀ {m : Nat} {s s' : SharedT} {t : Thread}, impF (stepT (denote tb) p w) m s t = some s' → importEnds tb p w m s.abs t = some s'.abs
  | 0, _, _, _, h => nomatch h
  | m + 1, s, s', t, h => by
    unfold impF at h
    unfold importEnds
    match hx : t.atExitBegin, h with
    | some [], h => cases h; rfl
    | some (_ :: _), h => cases h
    | none, h =>
      match hs : stepT (denote tb) p w s t, h with
      | none, h => cases h
      | some (s2, t2), h =>
        have h2 : frS s2 (fun s' => impF (stepT (denote tb) p w) m s' t2) = some s' := h
        rw [frS_eq] at h2
        have q := impF_ok h2
        show (match step (denote tb) p w s.abs t with
          | .go s' t' => importEnds tb p w m s' t'
          | .halt _ _ => none) = some s'.abs
        rw [stepT_spec hs]
        exact q
/-- the state at the very start -/
def startT (p : Program) : SharedT := ⟨.nil, 0, ({} : Heap).life, #[], {}, 1, { stdin := p.given.stdin.toArray }⟩
theorem startT_abs (p : Program) : (startT p).abs = (start p).1 := rfl
/-- a state as a tree -/
def treeOf (s : Shared) : Option SharedT := match putAll s.heap.objs.toList .nil 0 with
  | some (t, n) => frNat n fun n => some ⟨t, n, s.heap.life, s.gens, s.drawn, s.toks, s.os⟩
  | none => none
theorem treeOf_ok {s : Shared} {t : SharedT} (h : treeOf s = some t) : t.abs = s := by
  unfold treeOf at h
  match e : putAll s.heap.objs.toList .nil 0, h with
  | none, h => cases h
  | some (b, n), h =>
    have h2 : frNat n (fun n => some (⟨b, n, s.heap.life, s.gens, s.drawn, s.toks, s.os⟩ : SharedT)) = some t := h
    rw [frNat_eq] at h2
    cases h2
    show (⟨absHeap b n s.heap.life, s.gens, s.drawn, s.toks, s.os⟩ : Shared) = s
    rw [putAll_heap e]
/-- behind the imports, fenced -/
def openT (st : Program → SharedT → Thread → Option (SharedT × Thread)) (N : Nat) (p : Program) : Option SharedT := match impF (st (opening p)) N (startT (opening p)) (start (opening p)).2 with
  | some s0 => (match fenceModules? p s0.abs with
    | some s1 => treeOf s1
    | none => none)
  | none => none
/-- behind the top -/
def topT (st : Program → SharedT → Thread → Option (SharedT × Thread)) (M : Nat) (p : Program) (s : SharedT) : Option SharedT := match s.abs.heap.isNs mainGlobals && s.gens.size == 0 with
  | true => frNat s.n fun n0 => goF (st p) n0 (s.abs.heap.nsMap mainGlobals "__annotations__") M s (topStub p)
  | false => none
def endT (st : Program → SharedT → Thread → Option (SharedT × Thread)) (N M : Nat) (p : Program) : Option (SharedT × SharedT) := match openT st N p with
  | some s => (match topT st M p s with
    | some s' => some (s, s')
    | none => none)
  | none => none
theorem abs_size (s : SharedT) : s.abs.heap.objs.size = s.n := absHeap_size s.tree s.n s.life
theorem left_imp {p q : Program} {loose : List Str} {Xt : Shared → Bool} {α : Type} {Yf : Shared → α} {Ya : World → α} {N M : Nat} (le : Nat.ble M N = true)
    (run : ∀ w : World, (endT (fun p => stepT (denote treeTable) p w) N M p).map (fun r => (looksF p r.1.abs.heap r.2.abs, openSeen q loose (importedModules p.main.body) Xt true r.2.abs, Yf r.2.abs)) = some (true, openGood q loose, Ya w)) :
    LeftO p q loose Xt Yf Ya N true := by
  intro w
  obtain ⟨⟨s1, s⟩, e, hv⟩ := Option.map_eq_some_iff.mp (run w)
  obtain ⟨l1, l2, l3⟩ : _ ∧ _ ∧ _ := by simpa only [Prod.mk.injEq] using hv
  -- the opening
  unfold endT at e
  match ho : openT (fun p => stepT (denote treeTable) p w) N p, e with
  | none, e => cases e
  | some sA, e =>
    have e1 : (match topT (fun p => stepT (denote treeTable) p w) M p sA with
      | some s' => some (sA, s')
      | none => none) = some (s1, s) := e
    match ht : topT (fun p => stepT (denote treeTable) p w) M p sA, e1 with
    | none, e1 => cases e1
    | some sB, e1 =>
      cases e1
      have fo : fencedOpening treeTable p w N = some s1.abs := by
        unfold openT at ho
        match hi : impF (stepT (denote treeTable) (opening p) w) N (startT (opening p)) (start (opening p)).2, ho with
        | none, ho => cases ho
        | some s0, ho =>
          have h1 : (match fenceModules? p s0.abs with
            | some s1 => treeOf s1
            | none => none) = some s1 := ho
          match hf : fenceModules? p s0.abs, h1 with
          | none, h1 => cases h1
          | some s2, h1 =>
            have h2 : treeOf s2 = some s1 := h1
            unfold fencedOpening
            have q := impF_ok hi
            rw [startT_abs] at q
            rw [q]
            show fenceModules? p s0.abs = some s1.abs
            rw [hf, treeOf_ok h2]
      have tf : topFrom treeTable p w N s1.abs = some s.abs := by
        unfold topT at ht
        unfold topFrom
        match hb : (s1.abs.heap.isNs mainGlobals && s1.gens.size == 0), ht with
        | false, ht => cases ht
        | true, ht =>
          have h1 : frNat s1.n (fun n0 => goF (stepT (denote treeTable) p w) n0 (s1.abs.heap.nsMap mainGlobals "__annotations__") M s1 (topStub p)) = some s := ht
          rw [frNat_eq] at h1
          have r := topRun_mono (N - M) _ _ _ _ (goF_ok h1)
          rw [show M + (N - M) = N by have := Nat.le_of_ble_eq_true le; omega] at r
          show (topRun treeTable p w s1.abs.heap.objs.size (s1.abs.heap.nsMap mainGlobals "__annotations__") N s1.abs (topStub p)).bind _ = _
          rw [abs_size, r]
          have l1' : (staticsOk (importedModules p.main.body) s1.abs.heap s.abs.heap && namesBound p s.abs.heap && gensDone s.abs && laidKept s1.abs.heap s.abs.heap) = true := l1
          show (match staticsOk (importedModules p.main.body) s1.abs.heap s.abs.heap && namesBound p s.abs.heap && gensDone s.abs && laidKept s1.abs.heap s.abs.heap with | true => some s.abs | false => none) = _
          rw [l1']
      unfold openEnds
      rw [fo]
      show (topFrom treeTable p w N s1.abs).map _ = _
      rw [tf]
      exact congrArg some (Prod.ext l2 l3)
/-- the run's equation, by the library's twins -/
def RunI (r : OpenRow) (q : Program) (H : Hook) (ob : SharedT → H.α) (N M : Nat) (loose : List PySem.Str) (w : World) : Prop :=
  (endT (fun p => stepQ (denQ tabQ) p w) N M r.prog).map (fun z => (looksF r.prog z.1.abs.heap z.2.abs, seenQ q loose (importedModules r.prog.main.body) (fun s => xlAt q [] s && recOk r.toRowW.records s) z.2.abs, ob z.2)) = some (true, openGood q loose, H.val w)
theorem head_imp {r : OpenRow} {q : Program} {H : Hook} {ob : SharedT → H.α} {N M : Nat} {loose : List PySem.Str} {d : DefRec} {kwd : List (PySem.Str × PySem.Expr)} (ho : ∀ s : SharedT, ob s = H.obs s.abs) (le : Nat.ble M N = true)
    (run : ∀ w, RunI r q H ob N M loose w)
    (hdef : defOf q r.name = some (d, kwd)) (hp : r.prog.theDef r.name = some (d.params, d.body, d.scope)) (hk : kwWritten? d.params.kwonlyargs d.params.kw_defaults = some kwd)
    (hwr : (!r.writes || r.records.isEmpty) = true) (k1 : r.wellSaid = true) (ok : (chainsOk q && opensWell r.prog && (frees r.toRowW && r.within.isEmpty)) = true) (hb : r.prog.bare) (hw : r.toRowW.promised)
    (call : WalkO q loose (XL q []) H.says r.toRowW d kwd fun f vs => PySem.call f vs) : r.Holds := by
  have left : LeftO r.prog q loose (fun s => xlAt q [] s && recOk r.toRowW.records s) H.obs H.val N true := left_imp (M := M) le fun w => by
    have z := run w
    have eo : ob = fun s => H.obs s.abs := funext ho
    unfold RunI at z
    rw [eo] at z
    simp only [stepQ_eq, denQ_eq, tabQ_eq, seenQ_eq]
    exact z
  exact holds_open (r := r) (q := q) (loose := loose) (XP := XL q []) (YP := H.says) (d := d) (kwd := kwd) left H.of H.keeps (fun s z => xl_of s (Bool.and_eq_true_iff.mp z).1) XL.keeps hdef hp hk (fun s z => recFacts_of (Bool.and_eq_true_iff.mp z).2) hwr k1 ok hb hw call
end LL
/-! LR2: more readings; sizes; the fraction in lowest terms. -/
namespace LL
open PySem PySem.Spec PyProof.Rows L2

section
variable {σ : L2.St} {H H1 : Hp} {Q : VK} {K : PySem.W.Frag} {x c v : V} {t u : Value} {b : Bool} {m k : Int} {xs : List V} {p : Addr}
theorem r_isi (ht : TyX K H x t) (hc : ClsV c u) (hk : PySem.W.kitOne K t u = some b) (q : Q (.bl b) H) : rIsi K [x, c] H Q := ⟨x, c, t, u, b, rfl, hc, ht, hk, q⟩
theorem ty_int {i : Int} : TyX K H (.int i) (.type "int") := .base (.int i)
theorem ty_own {a C dx : Addr} {fs : List (Str × V)} (e : H a = some (.ins C dx fs)) (cl : Cls K C) (o : IsiOwn K C) : TyX K H (.ref a) (.ref C) := .base (.ins e cl o.ha o.hn o.ht o.hm)
theorem r_notB {QB : V → Hp → Prop} (q : QB (.bl (!b)) H) : ∃ c, V.bl b = .bl c ∧ QB (.bl (!c)) H := ⟨b, rfl, q⟩
theorem r_gcd (q : Q (.int ((Nat.gcd m.natAbs k.natAbs : Nat) : Int)) H) : rGcd [.int m, .int k] H Q := ⟨m, k, rfl, q⟩
theorem r_abs (q : Q (.int (if m < 0 then -m else m)) H) : (fun xs H Q => ∃ i, xs = [V.int i] ∧ Q (V.int (if i < 0 then -i else i)) H) [.int m] H Q := ⟨m, rfl, q⟩
theorem r_max (q : Q (.int (if k > m then k else m)) H) : (fun xs H Q => ∃ i j, xs = [V.int i, V.int j] ∧ Q (V.int (if j > i then j else i)) H) [.int m, .int k] H Q := ⟨m, k, rfl, q⟩
theorem r_min (q : Q (.int (if k < m then k else m)) H) : (fun xs H Q => ∃ i j, xs = [V.int i, V.int j] ∧ Q (V.int (if j < i then j else i)) H) [.int m, .int k] H Q := ⟨m, k, rfl, q⟩
theorem r_int (q : Q (.int m) H) : (fun xs H Q => (∃ i, xs = [V.int i] ∧ Q (V.int i) H) ∨ ∃ k, xs = [V.bl k] ∧ Q (V.int (if k then 1 else 0)) H) [.int m] H Q := .inl ⟨m, rfl, q⟩
theorem r_intB (q : Q (.int (if b then 1 else 0)) H) : (fun xs H Q => (∃ i, xs = [V.int i] ∧ Q (V.int i) H) ∨ ∃ k, xs = [V.bl k] ∧ Q (V.int (if k then 1 else 0)) H) [.bl b] H Q := .inr ⟨b, rfl, q⟩
theorem r_strI (h : m.natAbs.log2 < 1920) (q : Q (.str (toString m)) H) : (fun xs H Q => ∃ i, xs = [V.int i] ∧ i.natAbs.log2 < 1920 ∧ Q (V.str (toString i)) H) [.int m] H Q := ⟨m, rfl, h, q⟩
theorem r_lenL (h : SqL K H p xs) (q : Q (.int xs.length) H) : (fun vs H Q => ∃ p ys, vs = [V.ref p] ∧ (SqL K H p ys ∨ SqT K H p ys) ∧ Q (V.int ys.length) H) [.ref p] H Q := ⟨p, xs, rfl, .inl h, q⟩
theorem r_lenT (h : SqT K H p xs) (q : Q (.int xs.length) H) : (fun vs H Q => ∃ p ys, vs = [V.ref p] ∧ (SqL K H p ys ∨ SqT K H p ys) ∧ Q (V.int ys.length) H) [.ref p] H Q := ⟨p, xs, rfl, .inr h, q⟩
theorem r_addS {z z' : Str} (h : z.length + z'.length ≤ sizeLine) (q : Q (.str (z ++ z')) H) : (fun x y H Q => ∃ i j, x = V.str i ∧ y = V.str j ∧ i.length + j.length ≤ sizeLine ∧ Q (V.str (i ++ j)) H) (.str z) (.str z') H Q := ⟨z, z', rfl, rfl, h, q⟩
theorem r_reprB (q : Q (.str (bText b)) H) : rReprB [.bl b] H Q := ⟨b, rfl, q⟩
theorem r_reprD {d : PyData} (hd : Dp K H (.ref p) d) (h1 : d.showable = true) (h2 : d.hasDict = false) (h3 : d.depth ≤ 16) (h4 : d.shown.length ≤ sizeLine) (q : Q (.str d.shown) H) : rReprD K [.ref p] H Q := ⟨p, d, rfl, hd, h1, h2, h3, h4, q⟩
theorem r_eqD {y : V} {d e : PyData} (hd : Dp K H x d) (he : Dp K H y e) (h1 : SeqAt.shaped d = true) (h2 : SeqAt.shaped e = true) (q : Q (.bl (PyData.eqv d e)) H) : rEqD K x y H Q := ⟨d, e, hd, he, h1, h2, q⟩
theorem r_divmod (h : CDiv m k) (q : ∀ p H2, H p = none → Same H H2 → H2 p = some (.tup [.int (m / k), .int (m % k)]) → (∀ b, b ≠ p → H2 b = H b) → Q (.ref p) H2) :
    (fun xs H Q => ∃ i j, xs = [V.int i, V.int j] ∧ CDiv i j ∧ ∀ p, H p = none → Q (V.ref p) (upd H p (.tup [.int (i / j), .int (i % j)]))) [.int m, .int k] H Q :=
  ⟨m, k, rfl, h, fun p hp => q p _ hp (fun b o e => by rw [upd_ne (ne_of_none e hp)]; exact e) upd_same fun b hb => upd_ne hb⟩
theorem r_append {l : Addr} {y : V} (h : H l = some (.lst xs)) (hz : xs.length < sizeLine) (q : Q .non (upd H l (.lst (xs ++ [y])))) : rAppend (.ref l) [y] H Q := ⟨l, xs, y, rfl, rfl, h, hz, q⟩
theorem r_all {a : Addr} {bs : List Bool} (h : SqL K H a (bs.map V.bl)) (q : Q (.bl (bs.all id)) H) : rAll K [.ref a] H Q := ⟨a, bs, rfl, h, q⟩
theorem r_opOwn {C a : Addr} {Ts : List String} {sp : Sp} {E : XK} {y : V} (ha : InsAt C H a) (hy : (∃ b, y = .ref b ∧ InsAt C H b) ∨ ∃ T, plT y = some T ∧ T ∈ Ts) (q : sp [.ref a, y] H Q E) : rOpOwn C Ts sp E (.ref a) y H Q := ⟨a, rfl, ha, hy, q⟩
theorem r_neOwn {C a : Addr} {Ts : List String} {sp : Sp} {E : XK} {y : V} (ha : InsAt C H a) (hy : (∃ b, y = .ref b ∧ InsAt C H b) ∨ ∃ T, plT y = some T ∧ T ∈ Ts) (q : sp [.ref a, y] H (fun v H' => ∃ c, v = .bl c ∧ Q (.bl (!c)) H') E) : rNeOwn C Ts sp E (.ref a) y H Q := ⟨a, rfl, ha, hy, q⟩
theorem r_unOwn {C a : Addr} {sp : Sp} {E : XK} (ha : InsAt C H a) (q : sp [.ref a] H Q E) : rUnOwn C sp E (.ref a) H Q := ⟨a, rfl, ha, q⟩
theorem r_strOwn {C a : Addr} {sp : Sp} {E : XK} (ha : InsAt C H a) (q : sp [.ref a] H (fun v H' => ∃ z, v = .str z ∧ Q v H') E) : rStrOwn C sp E [.ref a] H Q := ⟨a, rfl, ha, q⟩
end

/-! the same, for what a lambda has been opened to -/
section
variable {K : PySem.W.Frag} {H : Hp} {m k : Int} {b : Bool} {p : Addr} {xs : List V}
theorem q_int {A : Int → Prop} {B : Bool → Prop} (q : A m) : (∃ i, [V.int m] = [V.int i] ∧ A i) ∨ ∃ k, [V.int m] = [V.bl k] ∧ B k := .inl ⟨m, rfl, q⟩
theorem q_intB {A : Int → Prop} {B : Bool → Prop} (q : B b) : (∃ i, [V.bl b] = [V.int i] ∧ A i) ∨ ∃ k, [V.bl b] = [V.bl k] ∧ B k := .inr ⟨b, rfl, q⟩
theorem q_1 {A : Int → Prop} (q : A m) : ∃ i, [V.int m] = [V.int i] ∧ A i := ⟨m, rfl, q⟩
theorem q_2 {A : Int → Int → Prop} (q : A m k) : ∃ i j, [V.int m, V.int k] = [V.int i, V.int j] ∧ A i j := ⟨m, k, rfl, q⟩
theorem q_len {A : Addr → List V → Prop} (h : SqL K H p xs) (q : A p xs) : ∃ p' ys, [V.ref p] = [V.ref p'] ∧ (SqL K H p' ys ∨ SqT K H p' ys) ∧ A p' ys := ⟨p, xs, rfl, .inl h, q⟩
theorem q_addS {z z' : Str} {A : Str → Str → Prop} (h : z.length + z'.length ≤ sizeLine) (q : A z z') : ∃ i j, V.str z = V.str i ∧ V.str z' = V.str j ∧ i.length + j.length ≤ sizeLine ∧ A i j := ⟨z, z', rfl, rfl, h, q⟩
theorem q_own {a C dx : Addr} {fs : List (Str × V)} {A : Addr → Prop} (h : H a = some (.ins C dx fs)) (q : A a) : ∃ a' dx fs, V.ref a = .ref a' ∧ H a' = some (.ins C dx fs) ∧ A a' := ⟨a, dx, fs, rfl, h, q⟩
end

/-! ### sizes -/
def Sz (n : Nat) (x : Int) : Prop := x.natAbs < 2 ^ n
theorem Sz.mono {n m : Nat} {x : Int} (h : Sz n x) (hm : n ≤ m) : Sz m x := Nat.lt_of_lt_of_le h (Nat.pow_le_pow_right (by decide) hm)
theorem Sz.log {n m : Nat} {x : Int} (h : Sz n x) (h0 : 0 < n) (hm : n ≤ m) : x.natAbs.log2 < m := Nat.lt_of_lt_of_le (PySem.Flt.log2_lt_of h0 h) hm
theorem Sz.mul {a b : Nat} {x y : Int} (hx : Sz a x) (hy : Sz b y) : Sz (a + b) (x * y) := wide_lt hx hy
theorem Sz.add {a b : Nat} {x y : Int} (hx : Sz a x) (hy : Sz b y) : Sz (max a b + 1) (x + y) := by
  have h1 := hx.mono (Nat.le_max_left a b)
  have h2 := hy.mono (Nat.le_max_right a b)
  unfold Sz at *
  rw [Nat.pow_succ]
  omega
theorem Sz.sub {a b : Nat} {x y : Int} (hx : Sz a x) (hy : Sz b y) : Sz (max a b + 1) (x - y) := by
  have h1 := hx.mono (Nat.le_max_left a b)
  have h2 := hy.mono (Nat.le_max_right a b)
  unfold Sz at *
  rw [Nat.pow_succ]
  omega
theorem Sz.neg {a : Nat} {x : Int} (hx : Sz a x) : Sz a (-x) := by
  unfold Sz at *
  omega
theorem Sz.cm {a b : Nat} {x y : Int} (hx : Sz a x) (hy : Sz b y) (h0 : 0 < a) (h1 : 0 < b) (h : a + b ≤ 1000000) : CMulW x y := wide_mul hx hy h0 h1 h
theorem Sz.le {a : Nat} {x y : Int} (hx : Sz a x) (h : y.natAbs ≤ x.natAbs) : Sz a y := Nat.lt_of_le_of_lt h hx

/-! ### lowest terms -/
/-- the divisor with the bottom's sign -/
def gd (t b : Int) : Int := if b < 0 then -((Nat.gcd t.natAbs b.natAbs : Nat) : Int) else ((Nat.gcd t.natAbs b.natAbs : Nat) : Int)
def low (t b : Int) : Int × Int := (t.fdiv (gd t b), b.fdiv (gd t b))
theorem gd_dvd (t b : Int) : gd t b ∣ t ∧ gd t b ∣ b := by
  have h1 : ((Nat.gcd t.natAbs b.natAbs : Nat) : Int) ∣ t := Int.ofNat_dvd_left.mpr (Nat.gcd_dvd_left _ _)
  have h2 : ((Nat.gcd t.natAbs b.natAbs : Nat) : Int) ∣ b := Int.ofNat_dvd_left.mpr (Nat.gcd_dvd_right _ _)
  unfold gd
  split
  · exact ⟨Int.neg_dvd.mpr h1, Int.neg_dvd.mpr h2⟩
  · exact ⟨h1, h2⟩
theorem gd_ne {t b : Int} (h : b ≠ 0) : gd t b ≠ 0 := by
  have h1 : 0 < Nat.gcd t.natAbs b.natAbs := Nat.gcd_pos_of_pos_right _ (by omega)
  unfold gd
  split <;> omega
theorem gd_abs (t b : Int) : (gd t b).natAbs = Nat.gcd t.natAbs b.natAbs := by
  unfold gd
  split <;> omega
theorem low_mul {t b : Int} (h : b ≠ 0) : (low t b).1 * gd t b = t ∧ (low t b).2 * gd t b = b := by
  obtain ⟨⟨c, hc⟩, ⟨d, hd⟩⟩ := gd_dvd t b
  have g0 := gd_ne (t := t) h
  unfold low
  constructor
  · show t.fdiv (gd t b) * gd t b = t
    have e : t.fdiv (gd t b) = c := by
      have z := Int.mul_fdiv_cancel_left c g0
      rw [← hc] at z
      exact z
    rw [e, Int.mul_comm]; exact hc.symm
  · show b.fdiv (gd t b) * gd t b = b
    have e : b.fdiv (gd t b) = d := by
      have z := Int.mul_fdiv_cancel_left d g0
      rw [← hd] at z
      exact z
    rw [e, Int.mul_comm]; exact hd.symm
theorem low_pos {t b : Int} (h : b ≠ 0) : 0 < (low t b).2 := by
  have ⟨_, h2⟩ := low_mul (t := t) h
  have hp : 0 < Nat.gcd t.natAbs b.natAbs := Nat.gcd_pos_of_pos_right _ (by omega)
  by_cases hb : b < 0
  · have hg : gd t b < 0 := by unfold gd; rw [if_pos hb]; omega
    by_cases q : 0 < (low t b).2
    · exact q
    · have := Int.mul_nonneg_of_nonpos_of_nonpos (Int.not_lt.mp q) (Int.le_of_lt hg)
      omega
  · have hg : 0 < gd t b := by unfold gd; rw [if_neg hb]; omega
    by_cases q : 0 < (low t b).2
    · exact q
    · have := Int.mul_nonpos_of_nonpos_of_nonneg (Int.not_lt.mp q) (Int.le_of_lt hg)
      omega
theorem low_gcd {t b : Int} (h : b ≠ 0) : Nat.gcd (low t b).1.natAbs (low t b).2.natAbs = 1 := by
  have ⟨h1, h2⟩ := low_mul (t := t) h
  have hp : 0 < Nat.gcd t.natAbs b.natAbs := Nat.gcd_pos_of_pos_right _ (by omega)
  have e1 : t.natAbs = (low t b).1.natAbs * Nat.gcd t.natAbs b.natAbs := by
    conv => lhs; rw [← h1]
    rw [Int.natAbs_mul, gd_abs]
  have e2 : b.natAbs = (low t b).2.natAbs * Nat.gcd t.natAbs b.natAbs := by
    conv => lhs; rw [← h2]
    rw [Int.natAbs_mul, gd_abs]
  have e3 : Nat.gcd t.natAbs b.natAbs = Nat.gcd (low t b).1.natAbs (low t b).2.natAbs * Nat.gcd t.natAbs b.natAbs := by
    rw [← Nat.gcd_mul_right, ← e1, ← e2]
  exact Nat.eq_of_mul_eq_mul_right hp (by rw [Nat.one_mul]; exact e3.symm)
/-- the two fractions are the same number: their lowest terms are the same -/
theorem low_cross {t b t' b' : Int} (h : b ≠ 0) (h' : b' ≠ 0) (e : t * b' = t' * b) : low t b = low t' b' := by
  have ⟨h1, h2⟩ := low_mul (t := t) h
  have ⟨h1', h2'⟩ := low_mul (t := t') h'
  have p := low_pos (t := t) h
  have p' := low_pos (t := t') h'
  have c := low_gcd (t := t) h
  have c' := low_gcd (t := t') h'
  have g0 := gd_ne (t := t) h
  have g0' := gd_ne (t := t') h'
  have key : (low t b).1 * (low t' b').2 = (low t' b').1 * (low t b).2 := by
    have e2 : ((low t b).1 * (low t' b').2) * (gd t b * gd t' b') = ((low t' b').1 * (low t b).2) * (gd t b * gd t' b') := by
      have a1 : ((low t b).1 * gd t b) * ((low t' b').2 * gd t' b') = ((low t' b').1 * gd t' b') * ((low t b).2 * gd t b) := by rw [h1, h2', h1', h2]; exact e
      have r1 : ((low t b).1 * (low t' b').2) * (gd t b * gd t' b') = ((low t b).1 * gd t b) * ((low t' b').2 * gd t' b') := by grind
      have r2 : ((low t' b').1 * (low t b).2) * (gd t b * gd t' b') = ((low t' b').1 * gd t' b') * ((low t b).2 * gd t b) := by grind
      rw [r1, r2, a1]
    exact Int.eq_of_mul_eq_mul_right (Int.mul_ne_zero g0 g0') e2
  have kn : (low t b).1.natAbs * (low t' b').2.natAbs = (low t' b').1.natAbs * (low t b).2.natAbs := by
    rw [← Int.natAbs_mul, ← Int.natAbs_mul, key]
  have d1 : (low t b).2.natAbs ∣ (low t' b').2.natAbs := by
    refine Nat.Coprime.dvd_of_dvd_mul_left (Nat.Coprime.symm c) ?_
    exact ⟨(low t' b').1.natAbs, by rw [kn, Nat.mul_comm]⟩
  have d2 : (low t' b').2.natAbs ∣ (low t b).2.natAbs := by
    refine Nat.Coprime.dvd_of_dvd_mul_left (Nat.Coprime.symm c') ?_
    exact ⟨(low t b).1.natAbs, by rw [← kn, Nat.mul_comm]⟩
  have en : (low t b).2 = (low t' b').2 := by
    have := Nat.dvd_antisymm d1 d2
    omega
  have em : (low t b).1 = (low t' b').1 := by
    rw [en] at key
    exact Int.eq_of_mul_eq_mul_right (by omega) key
  exact Prod.ext em en
theorem low_one (t : Int) : low t 1 = (t, 1) := by
  unfold low gd
  simp
theorem low_abs {t b : Int} (h : b ≠ 0) : (low t b).1.natAbs ≤ t.natAbs ∧ (low t b).2.natAbs ≤ b.natAbs := by
  have ⟨h1, h2⟩ := low_mul (t := t) h
  have hp : 0 < Nat.gcd t.natAbs b.natAbs := Nat.gcd_pos_of_pos_right _ (by omega)
  constructor
  · conv => rhs; rw [← h1]
    rw [Int.natAbs_mul, gd_abs]
    exact Nat.le_mul_of_pos_right _ hp
  · conv => rhs; rw [← h2]
    rw [Int.natAbs_mul, gd_abs]
    exact Nat.le_mul_of_pos_right _ hp
end LL
/-! LR3: names by their slots. -/
namespace LL
open PySem PySem.Spec PyProof.Rows L2
theorem r_v0 {v : V} {σ : L2.St} {H : Hp} {Q : VK} (q : Q v H) : tVar 0 (some v :: σ) H Q := ⟨v, rfl, q⟩
theorem r_s0 {y : Option V} {v : V} {σ : L2.St} {H : Hp} {Q : L2.St → Hp → Prop} (q : Q (some v :: σ) H) : gName 0 v (y :: σ) H Q := q
theorem r_v1 {x0 : Option V} {v : V} {σ : L2.St} {H : Hp} {Q : VK} (q : Q v H) : tVar 1 (x0 :: some v :: σ) H Q := ⟨v, rfl, q⟩
theorem r_s1 {x0 : Option V} {y : Option V} {v : V} {σ : L2.St} {H : Hp} {Q : L2.St → Hp → Prop} (q : Q (x0 :: some v :: σ) H) : gName 1 v (x0 :: y :: σ) H Q := q
theorem r_v2 {x0 x1 : Option V} {v : V} {σ : L2.St} {H : Hp} {Q : VK} (q : Q v H) : tVar 2 (x0 :: x1 :: some v :: σ) H Q := ⟨v, rfl, q⟩
theorem r_s2 {x0 x1 : Option V} {y : Option V} {v : V} {σ : L2.St} {H : Hp} {Q : L2.St → Hp → Prop} (q : Q (x0 :: x1 :: some v :: σ) H) : gName 2 v (x0 :: x1 :: y :: σ) H Q := q
theorem r_v3 {x0 x1 x2 : Option V} {v : V} {σ : L2.St} {H : Hp} {Q : VK} (q : Q v H) : tVar 3 (x0 :: x1 :: x2 :: some v :: σ) H Q := ⟨v, rfl, q⟩
theorem r_s3 {x0 x1 x2 : Option V} {y : Option V} {v : V} {σ : L2.St} {H : Hp} {Q : L2.St → Hp → Prop} (q : Q (x0 :: x1 :: x2 :: some v :: σ) H) : gName 3 v (x0 :: x1 :: x2 :: y :: σ) H Q := q
theorem r_v4 {x0 x1 x2 x3 : Option V} {v : V} {σ : L2.St} {H : Hp} {Q : VK} (q : Q v H) : tVar 4 (x0 :: x1 :: x2 :: x3 :: some v :: σ) H Q := ⟨v, rfl, q⟩
theorem r_s4 {x0 x1 x2 x3 : Option V} {y : Option V} {v : V} {σ : L2.St} {H : Hp} {Q : L2.St → Hp → Prop} (q : Q (x0 :: x1 :: x2 :: x3 :: some v :: σ) H) : gName 4 v (x0 :: x1 :: x2 :: x3 :: y :: σ) H Q := q
theorem r_v5 {x0 x1 x2 x3 x4 : Option V} {v : V} {σ : L2.St} {H : Hp} {Q : VK} (q : Q v H) : tVar 5 (x0 :: x1 :: x2 :: x3 :: x4 :: some v :: σ) H Q := ⟨v, rfl, q⟩
theorem r_s5 {x0 x1 x2 x3 x4 : Option V} {y : Option V} {v : V} {σ : L2.St} {H : Hp} {Q : L2.St → Hp → Prop} (q : Q (x0 :: x1 :: x2 :: x3 :: x4 :: some v :: σ) H) : gName 5 v (x0 :: x1 :: x2 :: x3 :: x4 :: y :: σ) H Q := q
theorem r_v6 {x0 x1 x2 x3 x4 x5 : Option V} {v : V} {σ : L2.St} {H : Hp} {Q : VK} (q : Q v H) : tVar 6 (x0 :: x1 :: x2 :: x3 :: x4 :: x5 :: some v :: σ) H Q := ⟨v, rfl, q⟩
theorem r_s6 {x0 x1 x2 x3 x4 x5 : Option V} {y : Option V} {v : V} {σ : L2.St} {H : Hp} {Q : L2.St → Hp → Prop} (q : Q (x0 :: x1 :: x2 :: x3 :: x4 :: x5 :: some v :: σ) H) : gName 6 v (x0 :: x1 :: x2 :: x3 :: x4 :: x5 :: y :: σ) H Q := q
theorem r_v7 {x0 x1 x2 x3 x4 x5 x6 : Option V} {v : V} {σ : L2.St} {H : Hp} {Q : VK} (q : Q v H) : tVar 7 (x0 :: x1 :: x2 :: x3 :: x4 :: x5 :: x6 :: some v :: σ) H Q := ⟨v, rfl, q⟩
theorem r_s7 {x0 x1 x2 x3 x4 x5 x6 : Option V} {y : Option V} {v : V} {σ : L2.St} {H : Hp} {Q : L2.St → Hp → Prop} (q : Q (x0 :: x1 :: x2 :: x3 :: x4 :: x5 :: x6 :: some v :: σ) H) : gName 7 v (x0 :: x1 :: x2 :: x3 :: x4 :: x5 :: x6 :: y :: σ) H Q := q
theorem r_v8 {x0 x1 x2 x3 x4 x5 x6 x7 : Option V} {v : V} {σ : L2.St} {H : Hp} {Q : VK} (q : Q v H) : tVar 8 (x0 :: x1 :: x2 :: x3 :: x4 :: x5 :: x6 :: x7 :: some v :: σ) H Q := ⟨v, rfl, q⟩
theorem r_s8 {x0 x1 x2 x3 x4 x5 x6 x7 : Option V} {y : Option V} {v : V} {σ : L2.St} {H : Hp} {Q : L2.St → Hp → Prop} (q : Q (x0 :: x1 :: x2 :: x3 :: x4 :: x5 :: x6 :: x7 :: some v :: σ) H) : gName 8 v (x0 :: x1 :: x2 :: x3 :: x4 :: x5 :: x6 :: x7 :: y :: σ) H Q := q
theorem r_v9 {x0 x1 x2 x3 x4 x5 x6 x7 x8 : Option V} {v : V} {σ : L2.St} {H : Hp} {Q : VK} (q : Q v H) : tVar 9 (x0 :: x1 :: x2 :: x3 :: x4 :: x5 :: x6 :: x7 :: x8 :: some v :: σ) H Q := ⟨v, rfl, q⟩
theorem r_s9 {x0 x1 x2 x3 x4 x5 x6 x7 x8 : Option V} {y : Option V} {v : V} {σ : L2.St} {H : Hp} {Q : L2.St → Hp → Prop} (q : Q (x0 :: x1 :: x2 :: x3 :: x4 :: x5 :: x6 :: x7 :: x8 :: some v :: σ) H) : gName 9 v (x0 :: x1 :: x2 :: x3 :: x4 :: x5 :: x6 :: x7 :: x8 :: y :: σ) H Q := q
theorem r_v10 {x0 x1 x2 x3 x4 x5 x6 x7 x8 x9 : Option V} {v : V} {σ : L2.St} {H : Hp} {Q : VK} (q : Q v H) : tVar 10 (x0 :: x1 :: x2 :: x3 :: x4 :: x5 :: x6 :: x7 :: x8 :: x9 :: some v :: σ) H Q := ⟨v, rfl, q⟩
theorem r_s10 {x0 x1 x2 x3 x4 x5 x6 x7 x8 x9 : Option V} {y : Option V} {v : V} {σ : L2.St} {H : Hp} {Q : L2.St → Hp → Prop} (q : Q (x0 :: x1 :: x2 :: x3 :: x4 :: x5 :: x6 :: x7 :: x8 :: x9 :: some v :: σ) H) : gName 10 v (x0 :: x1 :: x2 :: x3 :: x4 :: x5 :: x6 :: x7 :: x8 :: x9 :: y :: σ) H Q := q
theorem r_v11 {x0 x1 x2 x3 x4 x5 x6 x7 x8 x9 x10 : Option V} {v : V} {σ : L2.St} {H : Hp} {Q : VK} (q : Q v H) : tVar 11 (x0 :: x1 :: x2 :: x3 :: x4 :: x5 :: x6 :: x7 :: x8 :: x9 :: x10 :: some v :: σ) H Q := ⟨v, rfl, q⟩
theorem r_s11 {x0 x1 x2 x3 x4 x5 x6 x7 x8 x9 x10 : Option V} {y : Option V} {v : V} {σ : L2.St} {H : Hp} {Q : L2.St → Hp → Prop} (q : Q (x0 :: x1 :: x2 :: x3 :: x4 :: x5 :: x6 :: x7 :: x8 :: x9 :: x10 :: some v :: σ) H) : gName 11 v (x0 :: x1 :: x2 :: x3 :: x4 :: x5 :: x6 :: x7 :: x8 :: x9 :: x10 :: y :: σ) H Q := q
theorem r_v12 {x0 x1 x2 x3 x4 x5 x6 x7 x8 x9 x10 x11 : Option V} {v : V} {σ : L2.St} {H : Hp} {Q : VK} (q : Q v H) : tVar 12 (x0 :: x1 :: x2 :: x3 :: x4 :: x5 :: x6 :: x7 :: x8 :: x9 :: x10 :: x11 :: some v :: σ) H Q := ⟨v, rfl, q⟩
theorem r_s12 {x0 x1 x2 x3 x4 x5 x6 x7 x8 x9 x10 x11 : Option V} {y : Option V} {v : V} {σ : L2.St} {H : Hp} {Q : L2.St → Hp → Prop} (q : Q (x0 :: x1 :: x2 :: x3 :: x4 :: x5 :: x6 :: x7 :: x8 :: x9 :: x10 :: x11 :: some v :: σ) H) : gName 12 v (x0 :: x1 :: x2 :: x3 :: x4 :: x5 :: x6 :: x7 :: x8 :: x9 :: x10 :: x11 :: y :: σ) H Q := q
theorem r_v13 {x0 x1 x2 x3 x4 x5 x6 x7 x8 x9 x10 x11 x12 : Option V} {v : V} {σ : L2.St} {H : Hp} {Q : VK} (q : Q v H) : tVar 13 (x0 :: x1 :: x2 :: x3 :: x4 :: x5 :: x6 :: x7 :: x8 :: x9 :: x10 :: x11 :: x12 :: some v :: σ) H Q := ⟨v, rfl, q⟩
theorem r_s13 {x0 x1 x2 x3 x4 x5 x6 x7 x8 x9 x10 x11 x12 : Option V} {y : Option V} {v : V} {σ : L2.St} {H : Hp} {Q : L2.St → Hp → Prop} (q : Q (x0 :: x1 :: x2 :: x3 :: x4 :: x5 :: x6 :: x7 :: x8 :: x9 :: x10 :: x11 :: x12 :: some v :: σ) H) : gName 13 v (x0 :: x1 :: x2 :: x3 :: x4 :: x5 :: x6 :: x7 :: x8 :: x9 :: x10 :: x11 :: x12 :: y :: σ) H Q := q
theorem r_v14 {x0 x1 x2 x3 x4 x5 x6 x7 x8 x9 x10 x11 x12 x13 : Option V} {v : V} {σ : L2.St} {H : Hp} {Q : VK} (q : Q v H) : tVar 14 (x0 :: x1 :: x2 :: x3 :: x4 :: x5 :: x6 :: x7 :: x8 :: x9 :: x10 :: x11 :: x12 :: x13 :: some v :: σ) H Q := ⟨v, rfl, q⟩
theorem r_s14 {x0 x1 x2 x3 x4 x5 x6 x7 x8 x9 x10 x11 x12 x13 : Option V} {y : Option V} {v : V} {σ : L2.St} {H : Hp} {Q : L2.St → Hp → Prop} (q : Q (x0 :: x1 :: x2 :: x3 :: x4 :: x5 :: x6 :: x7 :: x8 :: x9 :: x10 :: x11 :: x12 :: x13 :: some v :: σ) H) : gName 14 v (x0 :: x1 :: x2 :: x3 :: x4 :: x5 :: x6 :: x7 :: x8 :: x9 :: x10 :: x11 :: x12 :: x13 :: y :: σ) H Q := q
theorem r_v15 {x0 x1 x2 x3 x4 x5 x6 x7 x8 x9 x10 x11 x12 x13 x14 : Option V} {v : V} {σ : L2.St} {H : Hp} {Q : VK} (q : Q v H) : tVar 15 (x0 :: x1 :: x2 :: x3 :: x4 :: x5 :: x6 :: x7 :: x8 :: x9 :: x10 :: x11 :: x12 :: x13 :: x14 :: some v :: σ) H Q := ⟨v, rfl, q⟩
theorem r_s15 {x0 x1 x2 x3 x4 x5 x6 x7 x8 x9 x10 x11 x12 x13 x14 : Option V} {y : Option V} {v : V} {σ : L2.St} {H : Hp} {Q : L2.St → Hp → Prop} (q : Q (x0 :: x1 :: x2 :: x3 :: x4 :: x5 :: x6 :: x7 :: x8 :: x9 :: x10 :: x11 :: x12 :: x13 :: x14 :: some v :: σ) H) : gName 15 v (x0 :: x1 :: x2 :: x3 :: x4 :: x5 :: x6 :: x7 :: x8 :: x9 :: x10 :: x11 :: x12 :: x13 :: x14 :: y :: σ) H Q := q
theorem r_v16 {x0 x1 x2 x3 x4 x5 x6 x7 x8 x9 x10 x11 x12 x13 x14 x15 : Option V} {v : V} {σ : L2.St} {H : Hp} {Q : VK} (q : Q v H) : tVar 16 (x0 :: x1 :: x2 :: x3 :: x4 :: x5 :: x6 :: x7 :: x8 :: x9 :: x10 :: x11 :: x12 :: x13 :: x14 :: x15 :: some v :: σ) H Q := ⟨v, rfl, q⟩
theorem r_s16 {x0 x1 x2 x3 x4 x5 x6 x7 x8 x9 x10 x11 x12 x13 x14 x15 : Option V} {y : Option V} {v : V} {σ : L2.St} {H : Hp} {Q : L2.St → Hp → Prop} (q : Q (x0 :: x1 :: x2 :: x3 :: x4 :: x5 :: x6 :: x7 :: x8 :: x9 :: x10 :: x11 :: x12 :: x13 :: x14 :: x15 :: some v :: σ) H) : gName 16 v (x0 :: x1 :: x2 :: x3 :: x4 :: x5 :: x6 :: x7 :: x8 :: x9 :: x10 :: x11 :: x12 :: x13 :: x14 :: x15 :: y :: σ) H Q := q
theorem r_v17 {x0 x1 x2 x3 x4 x5 x6 x7 x8 x9 x10 x11 x12 x13 x14 x15 x16 : Option V} {v : V} {σ : L2.St} {H : Hp} {Q : VK} (q : Q v H) : tVar 17 (x0 :: x1 :: x2 :: x3 :: x4 :: x5 :: x6 :: x7 :: x8 :: x9 :: x10 :: x11 :: x12 :: x13 :: x14 :: x15 :: x16 :: some v :: σ) H Q := ⟨v, rfl, q⟩
theorem r_s17 {x0 x1 x2 x3 x4 x5 x6 x7 x8 x9 x10 x11 x12 x13 x14 x15 x16 : Option V} {y : Option V} {v : V} {σ : L2.St} {H : Hp} {Q : L2.St → Hp → Prop} (q : Q (x0 :: x1 :: x2 :: x3 :: x4 :: x5 :: x6 :: x7 :: x8 :: x9 :: x10 :: x11 :: x12 :: x13 :: x14 :: x15 :: x16 :: some v :: σ) H) : gName 17 v (x0 :: x1 :: x2 :: x3 :: x4 :: x5 :: x6 :: x7 :: x8 :: x9 :: x10 :: x11 :: x12 :: x13 :: x14 :: x15 :: x16 :: y :: σ) H Q := q
theorem r_v18 {x0 x1 x2 x3 x4 x5 x6 x7 x8 x9 x10 x11 x12 x13 x14 x15 x16 x17 : Option V} {v : V} {σ : L2.St} {H : Hp} {Q : VK} (q : Q v H) : tVar 18 (x0 :: x1 :: x2 :: x3 :: x4 :: x5 :: x6 :: x7 :: x8 :: x9 :: x10 :: x11 :: x12 :: x13 :: x14 :: x15 :: x16 :: x17 :: some v :: σ) H Q := ⟨v, rfl, q⟩
theorem r_s18 {x0 x1 x2 x3 x4 x5 x6 x7 x8 x9 x10 x11 x12 x13 x14 x15 x16 x17 : Option V} {y : Option V} {v : V} {σ : L2.St} {H : Hp} {Q : L2.St → Hp → Prop} (q : Q (x0 :: x1 :: x2 :: x3 :: x4 :: x5 :: x6 :: x7 :: x8 :: x9 :: x10 :: x11 :: x12 :: x13 :: x14 :: x15 :: x16 :: x17 :: some v :: σ) H) : gName 18 v (x0 :: x1 :: x2 :: x3 :: x4 :: x5 :: x6 :: x7 :: x8 :: x9 :: x10 :: x11 :: x12 :: x13 :: x14 :: x15 :: x16 :: x17 :: y :: σ) H Q := q
theorem r_v19 {x0 x1 x2 x3 x4 x5 x6 x7 x8 x9 x10 x11 x12 x13 x14 x15 x16 x17 x18 : Option V} {v : V} {σ : L2.St} {H : Hp} {Q : VK} (q : Q v H) : tVar 19 (x0 :: x1 :: x2 :: x3 :: x4 :: x5 :: x6 :: x7 :: x8 :: x9 :: x10 :: x11 :: x12 :: x13 :: x14 :: x15 :: x16 :: x17 :: x18 :: some v :: σ) H Q := ⟨v, rfl, q⟩
theorem r_s19 {x0 x1 x2 x3 x4 x5 x6 x7 x8 x9 x10 x11 x12 x13 x14 x15 x16 x17 x18 : Option V} {y : Option V} {v : V} {σ : L2.St} {H : Hp} {Q : L2.St → Hp → Prop} (q : Q (x0 :: x1 :: x2 :: x3 :: x4 :: x5 :: x6 :: x7 :: x8 :: x9 :: x10 :: x11 :: x12 :: x13 :: x14 :: x15 :: x16 :: x17 :: x18 :: some v :: σ) H) : gName 19 v (x0 :: x1 :: x2 :: x3 :: x4 :: x5 :: x6 :: x7 :: x8 :: x9 :: x10 :: x11 :: x12 :: x13 :: x14 :: x15 :: x16 :: x17 :: x18 :: y :: σ) H Q := q
theorem r_v20 {x0 x1 x2 x3 x4 x5 x6 x7 x8 x9 x10 x11 x12 x13 x14 x15 x16 x17 x18 x19 : Option V} {v : V} {σ : L2.St} {H : Hp} {Q : VK} (q : Q v H) : tVar 20 (x0 :: x1 :: x2 :: x3 :: x4 :: x5 :: x6 :: x7 :: x8 :: x9 :: x10 :: x11 :: x12 :: x13 :: x14 :: x15 :: x16 :: x17 :: x18 :: x19 :: some v :: σ) H Q := ⟨v, rfl, q⟩
theorem r_s20 {x0 x1 x2 x3 x4 x5 x6 x7 x8 x9 x10 x11 x12 x13 x14 x15 x16 x17 x18 x19 : Option V} {y : Option V} {v : V} {σ : L2.St} {H : Hp} {Q : L2.St → Hp → Prop} (q : Q (x0 :: x1 :: x2 :: x3 :: x4 :: x5 :: x6 :: x7 :: x8 :: x9 :: x10 :: x11 :: x12 :: x13 :: x14 :: x15 :: x16 :: x17 :: x18 :: x19 :: some v :: σ) H) : gName 20 v (x0 :: x1 :: x2 :: x3 :: x4 :: x5 :: x6 :: x7 :: x8 :: x9 :: x10 :: x11 :: x12 :: x13 :: x14 :: x15 :: x16 :: x17 :: x18 :: x19 :: y :: σ) H Q := q
theorem r_v21 {x0 x1 x2 x3 x4 x5 x6 x7 x8 x9 x10 x11 x12 x13 x14 x15 x16 x17 x18 x19 x20 : Option V} {v : V} {σ : L2.St} {H : Hp} {Q : VK} (q : Q v H) : tVar 21 (x0 :: x1 :: x2 :: x3 :: x4 :: x5 :: x6 :: x7 :: x8 :: x9 :: x10 :: x11 :: x12 :: x13 :: x14 :: x15 :: x16 :: x17 :: x18 :: x19 :: x20 :: some v :: σ) H Q := ⟨v, rfl, q⟩
theorem r_s21 {x0 x1 x2 x3 x4 x5 x6 x7 x8 x9 x10 x11 x12 x13 x14 x15 x16 x17 x18 x19 x20 : Option V} {y : Option V} {v : V} {σ : L2.St} {H : Hp} {Q : L2.St → Hp → Prop} (q : Q (x0 :: x1 :: x2 :: x3 :: x4 :: x5 :: x6 :: x7 :: x8 :: x9 :: x10 :: x11 :: x12 :: x13 :: x14 :: x15 :: x16 :: x17 :: x18 :: x19 :: x20 :: some v :: σ) H) : gName 21 v (x0 :: x1 :: x2 :: x3 :: x4 :: x5 :: x6 :: x7 :: x8 :: x9 :: x10 :: x11 :: x12 :: x13 :: x14 :: x15 :: x16 :: x17 :: x18 :: x19 :: x20 :: y :: σ) H Q := q
theorem r_v22 {x0 x1 x2 x3 x4 x5 x6 x7 x8 x9 x10 x11 x12 x13 x14 x15 x16 x17 x18 x19 x20 x21 : Option V} {v : V} {σ : L2.St} {H : Hp} {Q : VK} (q : Q v H) : tVar 22 (x0 :: x1 :: x2 :: x3 :: x4 :: x5 :: x6 :: x7 :: x8 :: x9 :: x10 :: x11 :: x12 :: x13 :: x14 :: x15 :: x16 :: x17 :: x18 :: x19 :: x20 :: x21 :: some v :: σ) H Q := ⟨v, rfl, q⟩
theorem r_s22 {x0 x1 x2 x3 x4 x5 x6 x7 x8 x9 x10 x11 x12 x13 x14 x15 x16 x17 x18 x19 x20 x21 : Option V} {y : Option V} {v : V} {σ : L2.St} {H : Hp} {Q : L2.St → Hp → Prop} (q : Q (x0 :: x1 :: x2 :: x3 :: x4 :: x5 :: x6 :: x7 :: x8 :: x9 :: x10 :: x11 :: x12 :: x13 :: x14 :: x15 :: x16 :: x17 :: x18 :: x19 :: x20 :: x21 :: some v :: σ) H) : gName 22 v (x0 :: x1 :: x2 :: x3 :: x4 :: x5 :: x6 :: x7 :: x8 :: x9 :: x10 :: x11 :: x12 :: x13 :: x14 :: x15 :: x16 :: x17 :: x18 :: x19 :: x20 :: x21 :: y :: σ) H Q := q
theorem r_v23 {x0 x1 x2 x3 x4 x5 x6 x7 x8 x9 x10 x11 x12 x13 x14 x15 x16 x17 x18 x19 x20 x21 x22 : Option V} {v : V} {σ : L2.St} {H : Hp} {Q : VK} (q : Q v H) : tVar 23 (x0 :: x1 :: x2 :: x3 :: x4 :: x5 :: x6 :: x7 :: x8 :: x9 :: x10 :: x11 :: x12 :: x13 :: x14 :: x15 :: x16 :: x17 :: x18 :: x19 :: x20 :: x21 :: x22 :: some v :: σ) H Q := ⟨v, rfl, q⟩
theorem r_s23 {x0 x1 x2 x3 x4 x5 x6 x7 x8 x9 x10 x11 x12 x13 x14 x15 x16 x17 x18 x19 x20 x21 x22 : Option V} {y : Option V} {v : V} {σ : L2.St} {H : Hp} {Q : L2.St → Hp → Prop} (q : Q (x0 :: x1 :: x2 :: x3 :: x4 :: x5 :: x6 :: x7 :: x8 :: x9 :: x10 :: x11 :: x12 :: x13 :: x14 :: x15 :: x16 :: x17 :: x18 :: x19 :: x20 :: x21 :: x22 :: some v :: σ) H) : gName 23 v (x0 :: x1 :: x2 :: x3 :: x4 :: x5 :: x6 :: x7 :: x8 :: x9 :: x10 :: x11 :: x12 :: x13 :: x14 :: x15 :: x16 :: x17 :: x18 :: x19 :: x20 :: x21 :: x22 :: y :: σ) H Q := q
theorem r_v24 {x0 x1 x2 x3 x4 x5 x6 x7 x8 x9 x10 x11 x12 x13 x14 x15 x16 x17 x18 x19 x20 x21 x22 x23 : Option V} {v : V} {σ : L2.St} {H : Hp} {Q : VK} (q : Q v H) : tVar 24 (x0 :: x1 :: x2 :: x3 :: x4 :: x5 :: x6 :: x7 :: x8 :: x9 :: x10 :: x11 :: x12 :: x13 :: x14 :: x15 :: x16 :: x17 :: x18 :: x19 :: x20 :: x21 :: x22 :: x23 :: some v :: σ) H Q := ⟨v, rfl, q⟩
theorem r_s24 {x0 x1 x2 x3 x4 x5 x6 x7 x8 x9 x10 x11 x12 x13 x14 x15 x16 x17 x18 x19 x20 x21 x22 x23 : Option V} {y : Option V} {v : V} {σ : L2.St} {H : Hp} {Q : L2.St → Hp → Prop} (q : Q (x0 :: x1 :: x2 :: x3 :: x4 :: x5 :: x6 :: x7 :: x8 :: x9 :: x10 :: x11 :: x12 :: x13 :: x14 :: x15 :: x16 :: x17 :: x18 :: x19 :: x20 :: x21 :: x22 :: x23 :: some v :: σ) H) : gName 24 v (x0 :: x1 :: x2 :: x3 :: x4 :: x5 :: x6 :: x7 :: x8 :: x9 :: x10 :: x11 :: x12 :: x13 :: x14 :: x15 :: x16 :: x17 :: x18 :: x19 :: x20 :: x21 :: x22 :: x23 :: y :: σ) H Q := q
theorem r_v25 {x0 x1 x2 x3 x4 x5 x6 x7 x8 x9 x10 x11 x12 x13 x14 x15 x16 x17 x18 x19 x20 x21 x22 x23 x24 : Option V} {v : V} {σ : L2.St} {H : Hp} {Q : VK} (q : Q v H) : tVar 25 (x0 :: x1 :: x2 :: x3 :: x4 :: x5 :: x6 :: x7 :: x8 :: x9 :: x10 :: x11 :: x12 :: x13 :: x14 :: x15 :: x16 :: x17 :: x18 :: x19 :: x20 :: x21 :: x22 :: x23 :: x24 :: some v :: σ) H Q := ⟨v, rfl, q⟩
theorem r_s25 {x0 x1 x2 x3 x4 x5 x6 x7 x8 x9 x10 x11 x12 x13 x14 x15 x16 x17 x18 x19 x20 x21 x22 x23 x24 : Option V} {y : Option V} {v : V} {σ : L2.St} {H : Hp} {Q : L2.St → Hp → Prop} (q : Q (x0 :: x1 :: x2 :: x3 :: x4 :: x5 :: x6 :: x7 :: x8 :: x9 :: x10 :: x11 :: x12 :: x13 :: x14 :: x15 :: x16 :: x17 :: x18 :: x19 :: x20 :: x21 :: x22 :: x23 :: x24 :: some v :: σ) H) : gName 25 v (x0 :: x1 :: x2 :: x3 :: x4 :: x5 :: x6 :: x7 :: x8 :: x9 :: x10 :: x11 :: x12 :: x13 :: x14 :: x15 :: x16 :: x17 :: x18 :: x19 :: x20 :: x21 :: x22 :: x23 :: x24 :: y :: σ) H Q := q
theorem r_nT {A B : Prop} (q : B) : if (!true) = true then A else B := by
  rw [Bool.not_true, if_neg Bool.false_ne_true]; exact q
theorem r_nF {A B : Prop} (q : A) : if (!false) = true then A else B := by
  rw [Bool.not_false, if_pos rfl]; exact q
/-- a field read of a known instance -/
theorem r_fldI {K : PySem.W.Frag} {H : Hp} {Q : VK} {a C dx : Addr} {fs : List (Str × V)} {f : Str} {v : V} (h : H a = some (.ins C dx fs)) (c : Cls K C) (na : NoAttr K C f) (e : fs.lookup f = some v) (q : Q v H) :
    ∃ a' C dx fs v, V.ref a = .ref a' ∧ H a' = some (.ins C dx fs) ∧ Cls K C ∧ NoAttr K C f ∧ fs.lookup f = some v ∧ Q v H := ⟨a, C, dx, fs, v, rfl, h, c, na, e, q⟩
end LL
/-! LR4: loops, comprehensions; texts and what repr of lists shows. -/
namespace LL
open PySem PySem.Spec PyProof.Rows L2
section
variable {σ : L2.St} {H H1 : Hp} {Q : VK} {ta tl : TA} {te tx : TE} {g : TG} {tb : TS} {n : L2.St → Hp → Prop} {r : VK} {b c : L2.St → Hp → Prop} {tt : TT} {is : List Nat} {K : PySem.W.Frag} {wi : TI} {R : It → Hp → Prop} {D : Addr} {Qd : Hp → Prop}
def ForK (g : TG) (tb : TS) (n : L2.St → Hp → Prop) (r : VK) (σ : L2.St) (J : It) (H1 : Hp) : Prop := ∃ W : Nat → Nat → L2.St → Hp → Prop, (∃ m, W 0 m σ H1) ∧ ∀ i m σ H, W i m σ H →
  (J.stop i H ∧ n σ H) ∨ (J.go i H ∧ ∃ N : L2.St → Hp → Prop, (∀ σ' H', N σ' H' → ∃ m', m' < m ∧ W (i + 1) m' σ' H') ∧ ∀ x H', J.yld i H x H' → g x σ H' fun σ2 H2 => tb { nx := N, rt := r, bk := n, ct := N } σ2 H2)
theorem r_for (q : wi σ H fun J H1 => ForK g tb n r σ J H1) : tFor wi g tb { nx := n, rt := r, bk := b, ct := c } σ H := q
theorem r_rng1 (q : ta σ H fun vs H1 => ∃ j : Int, vs = [.int j] ∧ -(2 ^ 62) ≤ j ∧ j < 2 ^ 62 ∧ R (Itr 0 j.toNat) H1) : iRng1 ta σ H R := q
theorem r_itl (q : tx σ H fun x H1 => ∃ a, x = .ref a ∧ (∃ xs, SqL K H1 a xs) ∧ R (Itl K a) H1) : iList K tx σ H R := q
theorem r_zip (q : ta σ H fun vs H1 => ∃ a b xs ys, vs = [.ref a, .ref b] ∧ SqL K H1 a xs ∧ SqL K H1 b ys ∧ R (Itz K a b) H1) : iZip K ta σ H R := q
theorem u_range {k : Nat} (Pv : Nat → L2.St → Hp → Prop) (h0 : Pv 0 σ H) (hs : ∀ i σ H, i < k → Pv i σ H → g (.int (i : Nat)) σ H fun σ2 H2 => tb { nx := Pv (i + 1), rt := r, bk := n, ct := Pv (i + 1) } σ2 H2) (hd : ∀ σ H, Pv k σ H → n σ H) : ForK g tb n r σ (Itr 0 k) H :=
  for_range (D := { nx := n, rt := r }) Pv h0 (fun i σ H hi p => by rw [Int.zero_add]; exact hs i σ H hi p) hd
def LcK (g : TG) (tt : TT) (te : TE) (is : List Nat) (σ : L2.St) (Q : VK) (J : It) (H1 : Hp) : Prop := ∀ D, H1 D = none → ∃ W : Nat → Nat → Hp → Prop, (∃ m, W 0 m (upd H1 D (.lst []))) ∧ ∀ i m H, W i m H →
  (J.stop i H ∧ Q (.ref D) H) ∨ (J.go i H ∧ ∃ Nx : Hp → Prop, (∀ H', Nx H' → ∃ m', m' < m ∧ W (i + 1) m' H') ∧ ∀ x H', J.yld i H x H' → g x (wipe σ is) H' fun σ2 H2 => wipe σ2 is = wipe σ is ∧ tt σ2 H2 fun b H3 =>
    if b = true then te σ2 H3 fun y H4 => ∃ acc, H4 D = some (.lst acc) ∧ acc.length < sizeLine ∧ Nx (upd H4 D (.lst (acc ++ [y]))) else Nx H3)
theorem r_lc (q : wi σ H fun J H1 => LcK g tt te is σ Q J H1) : tLc wi g tt te is σ H Q := q
/-- what the new list grows by -/
def Grow (D : Addr) (Nx : Hp → Prop) : VK := fun y H4 => ∃ acc, H4 D = some (.lst acc) ∧ acc.length < sizeLine ∧ Nx (upd H4 D (.lst (acc ++ [y])))
theorem u_lcR {k : Nat} (q : ∀ D H0, H1 D = none → Same H1 H0 → H0 D = some (.lst []) → (∀ b, b ≠ D → H0 b = H1 b) → ∃ Pv : Nat → Hp → Prop, Pv 0 H0 ∧ (∀ i H, i < k → Pv i H → g (.int (i : Nat)) (wipe σ is) H fun σ2 H2 => wipe σ2 is = wipe σ is ∧ te σ2 H2 (Grow D (Pv (i + 1)))) ∧ ∀ H, Pv k H → Q (.ref D) H) : LcK g tYes te is σ Q (Itr 0 k) H1 := by
  intro D hD
  obtain ⟨Pv, h0, hs, hd⟩ := q D _ hD (fun b o e => by rw [upd_ne (ne_of_none e hD)]; exact e) upd_same fun b hb => upd_ne hb
  refine lc_range (lo := 0) Pv h0 (fun i H hi p => ?_) hd
  rw [Int.zero_add]
  exact hs i H hi p
theorem u_lcL {a : Addr} {xs : List V} (q : ∀ D H0, H1 D = none → Same H1 H0 → H0 D = some (.lst []) → (∀ b, b ≠ D → H0 b = H1 b) → ∃ Pv : Nat → Hp → Prop, Pv 0 H0 ∧ (∀ i H, i ≤ xs.length → Pv i H → SqL K H a xs) ∧ (∀ i x H, xs[i]? = some x → Pv i H → g x (wipe σ is) H fun σ2 H2 => wipe σ2 is = wipe σ is ∧ te σ2 H2 (Grow D (Pv (i + 1)))) ∧ ∀ H, Pv xs.length H → Q (.ref D) H) : LcK g tYes te is σ Q (Itl K a) H1 := by
  intro D hD
  obtain ⟨Pv, h0, hl, hs, hd⟩ := q D _ hD (fun b o e => by rw [upd_ne (ne_of_none e hD)]; exact e) upd_same fun b hb => upd_ne hb
  exact lc_list Pv h0 hl (fun i x H hx p => hs i x H hx p) hd
theorem u_lcZ {a b : Addr} {xs ys : List V} (q : ∀ D H0, H1 D = none → Same H1 H0 → H0 D = some (.lst []) → (∀ b, b ≠ D → H0 b = H1 b) → ∃ Pv : Nat → Hp → Prop, Pv 0 H0 ∧ (∀ i H, i ≤ xs.length → Pv i H → SqL K H a xs ∧ SqL K H b ys) ∧ xs.length = ys.length ∧
    (∀ i x y T H H', xs[i]? = some x → ys[i]? = some y → Pv i H → H T = none → Same H H' → H' T = some (.tup [x, y]) → (∀ b, b ≠ T → H' b = H b) → g (.ref T) (wipe σ is) H' fun σ2 H2 => wipe σ2 is = wipe σ is ∧ te σ2 H2 (Grow D (Pv (i + 1)))) ∧ ∀ H, Pv xs.length H → Q (.ref D) H) : LcK g tYes te is σ Q (Itz K a b) H1 := by
  intro D hD
  obtain ⟨Pv, h0, hl, hlen, hs, hd⟩ := q D _ hD (fun b o e => by rw [upd_ne (ne_of_none e hD)]; exact e) upd_same fun b hb => upd_ne hb
  refine ⟨fun i m H => m = xs.length - i ∧ i ≤ xs.length ∧ Pv i H, ⟨xs.length, by simp, Nat.zero_le _, h0⟩, ?_⟩
  rintro i m H ⟨rfl, hi, p⟩
  obtain ⟨s1, s2⟩ := hl i H hi p
  by_cases hlt : i < xs.length
  · have hlt2 : i < ys.length := hlen ▸ hlt
    refine .inr ⟨⟨xs, ys, xs[i], ys[i], s1, s2, by simp [hlt], by simp [hlt2]⟩, Pv (i + 1), fun H' p' => ⟨xs.length - (i + 1), by omega, rfl, hlt, p'⟩, fun v H' y => ?_⟩
    obtain ⟨T, x, y, rfl, hT, rfl, e1, e2⟩ := y
    exact hs i x y T H _ (e1 xs s1) (e2 ys s2) p hT (fun b o e => by rw [upd_ne (ne_of_none e hT)]; exact e) upd_same fun b hb => upd_ne hb
  · have e : i = xs.length := by omega
    subst e
    exact .inl ⟨⟨xs, ys, s1, s2, .inl (Nat.le_refl _)⟩, hd H p⟩
theorem r_grow {acc : List V} {y : V} {Nx : Hp → Prop} (h : H D = some (.lst acc)) (hz : acc.length < 100000) (q : Nx (upd H D (.lst (acc ++ [y])))) : Grow D Nx y H := ⟨acc, h, Nat.lt_of_lt_of_le hz (by decide), q⟩
theorem r_while {tc : TT} (q : ∃ W : Nat → L2.St → Hp → Prop, (∃ m, W m σ H) ∧ ∀ m σ H, W m σ H → tc σ H fun bb H1 => if bb = true then ∃ N : L2.St → Hp → Prop, (∀ σ' H', N σ' H' → ∃ m', m' < m ∧ W m' σ' H') ∧ tb { nx := N, rt := r, bk := n, ct := N } σ H1 else n σ H1) : tWhile tc tb { nx := n, rt := r, bk := b, ct := c } σ H := q
end

section
variable {X : Cx} {K' : PySem.W.Frag} {pos : Pos}
/-! in a block of a comprehension what the library knows must be named -/
theorem pg_tupK {es : List Expr} {k : Nat} {t : TGs} {n : Nat} (hc : X.calm = true) (h : PGs X es t) (hn : (assignEach es X.env).length = n := by rfl) (hst : (assignEach es X.env).findIdx? (·.1) = none := by rfl) (hK : X.K = K' := by rfl) : PG X (.Tuple es k pos) (gTup K' n t) := by
  subst hK
  exact pg_tup hc h hn hst
theorem ix_listK (hK : X.K = K' := by rfl) : IxR X (rIxL K') := by
  subst hK
  exact ix_list
theorem ix_tupK (hK : X.K = K' := by rfl) : IxR X (rIxT K') := by
  subst hK
  exact ix_tup
end

/-! ### texts -/
def Ok8 (x : Str) : Prop := ∀ c ∈ x.cps.toList, c < 16 ^ 8
theorem ok8_of (s : String) : Ok8 (Str.ofString s) := by
  intro c hc
  rw [signs_ofString] at hc
  obtain ⟨d, _, rfl⟩ := List.mem_map.mp hc
  exact d.val.toNat_lt
theorem Ok8.app {x y : Str} (hx : Ok8 x) (hy : Ok8 y) : Ok8 (x ++ y) := by
  intro c hc
  have e : (x ++ y).cps.toList = x.cps.toList ++ y.cps.toList := Array.toList_append
  rw [e] at hc
  rcases List.mem_append.mp hc with h | h
  · exact hx c h
  · exact hy c h
theorem ok8_nil : Ok8 Str.empty := fun c hc => by cases hc
theorem Ok8.len {x : Str} (h : Ok8 x) : (reprText x).length ≤ 10 * x.length + 2 := StrLaws.reprText_len x h
theorem nil_app (x : Str) : Str.empty ++ x = x := by
  have e : (Str.empty ++ x).cps = Str.empty.cps ++ x.cps := rfl
  cases x with
  | mk c =>
    show Str.mk (#[] ++ c) = _
    rw [Array.empty_append]
end LL
namespace K11
open PySem PySem.Spec PyProof.Rows L2 LL
def top (i : Nat) : Stmt := PySem.Challenge.pw_leastlog_k11_amounts_reckoned.main.body.getD i (.Pass ⟨0, 0, 0, 0⟩)
abbrev s_InvalidAmountU_initU : Stmt := inClass (top 3) 0
abbrev s_is_whole : Stmt := top 7
abbrev s_AmountU_initU : Stmt := inClass (top 9) 0
abbrev s_Amount_top : Stmt := inClass (top 9) 1
abbrev s_Amount_bottom : Stmt := inClass (top 9) 2
abbrev s_Amount_sign : Stmt := inClass (top 9) 3
abbrev s_AmountU_addU : Stmt := inClass (top 9) 4
abbrev s_AmountU_subU : Stmt := inClass (top 9) 5
abbrev s_AmountU_mulU : Stmt := inClass (top 9) 6
abbrev s_AmountU_negU : Stmt := inClass (top 9) 7
abbrev s_Amount_over : Stmt := inClass (top 9) 8
abbrev s_Amount_below : Stmt := inClass (top 9) 9
abbrev s_AmountU_eqU : Stmt := inClass (top 9) 10
abbrev s_AmountU_strU : Stmt := inClass (top 9) 11
abbrev s_AmountU_reprU : Stmt := inClass (top 9) 12
abbrev s_amount_of : Stmt := top 10
abbrev s_l_pot : Stmt := top 12
abbrev s_l_digit : Stmt := top 13
abbrev s_l_pick : Stmt := top 14
abbrev s_l_whole : Stmt := top 15
abbrev s_l_pair : Stmt := top 16
abbrev s_l_lowest : Stmt := top 17
abbrev s_l_is : Stmt := top 18
abbrev s_l_made : Stmt := top 19
abbrev s_l_told : Stmt := top 20
abbrev s_l_compared : Stmt := top 21
abbrev s_l_right : Stmt := top 22
abbrev s_l_long_right : Stmt := top 23
abbrev s_law : Stmt := top 24
structure Tx (K : PySem.W.Frag) (mg : Str → Option Value) where
  fd_InvalidAmountU_initU : FuncData
  fd_is_whole : FuncData
  fd_AmountU_initU : FuncData
  fd_Amount_top : FuncData
  fd_Amount_bottom : FuncData
  fd_Amount_sign : FuncData
  fd_AmountU_addU : FuncData
  fd_AmountU_subU : FuncData
  fd_AmountU_mulU : FuncData
  fd_AmountU_negU : FuncData
  fd_Amount_over : FuncData
  fd_Amount_below : FuncData
  fd_AmountU_eqU : FuncData
  fd_AmountU_strU : FuncData
  fd_AmountU_reprU : FuncData
  fd_amount_of : FuncData
  fd_l_pot : FuncData
  fd_l_digit : FuncData
  fd_l_pick : FuncData
  fd_l_whole : FuncData
  fd_l_pair : FuncData
  fd_l_lowest : FuncData
  fd_l_is : FuncData
  fd_l_made : FuncData
  fd_l_told : FuncData
  fd_l_compared : FuncData
  fd_l_right : FuncData
  fd_l_long_right : FuncData
  fd_law : FuncData
  F_InvalidAmountU_initU : FunD K "__init__" "InvalidAmount.__init__" (defArgs s_InvalidAmountU_initU) (defBody s_InvalidAmountU_initU) (defScope s_InvalidAmountU_initU) [] [] (He.ma K (He.ga K "InvalidAmount") "__init__") fd_InvalidAmountU_initU
  F_is_whole : FunD K "is_whole" "is_whole" (defArgs s_is_whole) (defBody s_is_whole) (defScope s_is_whole) [] [] (He.ga K "is_whole") fd_is_whole
  F_AmountU_initU : FunD K "__init__" "Amount.__init__" (defArgs s_AmountU_initU) (defBody s_AmountU_initU) (defScope s_AmountU_initU) [V.int 1] [] (He.ma K (He.ga K "Amount") "__init__") fd_AmountU_initU
  F_Amount_top : FunD K "top" "Amount.top" (defArgs s_Amount_top) (defBody s_Amount_top) (defScope s_Amount_top) [] [] (pget K "Amount" "top") fd_Amount_top
  F_Amount_bottom : FunD K "bottom" "Amount.bottom" (defArgs s_Amount_bottom) (defBody s_Amount_bottom) (defScope s_Amount_bottom) [] [] (pget K "Amount" "bottom") fd_Amount_bottom
  F_Amount_sign : FunD K "sign" "Amount.sign" (defArgs s_Amount_sign) (defBody s_Amount_sign) (defScope s_Amount_sign) [] [] (pget K "Amount" "sign") fd_Amount_sign
  F_AmountU_addU : FunD K "__add__" "Amount.__add__" (defArgs s_AmountU_addU) (defBody s_AmountU_addU) (defScope s_AmountU_addU) [] [] (He.ma K (He.ga K "Amount") "__add__") fd_AmountU_addU
  F_AmountU_subU : FunD K "__sub__" "Amount.__sub__" (defArgs s_AmountU_subU) (defBody s_AmountU_subU) (defScope s_AmountU_subU) [] [] (He.ma K (He.ga K "Amount") "__sub__") fd_AmountU_subU
  F_AmountU_mulU : FunD K "__mul__" "Amount.__mul__" (defArgs s_AmountU_mulU) (defBody s_AmountU_mulU) (defScope s_AmountU_mulU) [] [] (He.ma K (He.ga K "Amount") "__mul__") fd_AmountU_mulU
  F_AmountU_negU : FunD K "__neg__" "Amount.__neg__" (defArgs s_AmountU_negU) (defBody s_AmountU_negU) (defScope s_AmountU_negU) [] [] (He.ma K (He.ga K "Amount") "__neg__") fd_AmountU_negU
  F_Amount_over : FunD K "over" "Amount.over" (defArgs s_Amount_over) (defBody s_Amount_over) (defScope s_Amount_over) [] [] (He.ma K (He.ga K "Amount") "over") fd_Amount_over
  F_Amount_below : FunD K "below" "Amount.below" (defArgs s_Amount_below) (defBody s_Amount_below) (defScope s_Amount_below) [] [] (He.ma K (He.ga K "Amount") "below") fd_Amount_below
  F_AmountU_eqU : FunD K "__eq__" "Amount.__eq__" (defArgs s_AmountU_eqU) (defBody s_AmountU_eqU) (defScope s_AmountU_eqU) [] [] (He.ma K (He.ga K "Amount") "__eq__") fd_AmountU_eqU
  F_AmountU_strU : FunD K "__str__" "Amount.__str__" (defArgs s_AmountU_strU) (defBody s_AmountU_strU) (defScope s_AmountU_strU) [] [] (He.ma K (He.ga K "Amount") "__str__") fd_AmountU_strU
  F_AmountU_reprU : FunD K "__repr__" "Amount.__repr__" (defArgs s_AmountU_reprU) (defBody s_AmountU_reprU) (defScope s_AmountU_reprU) [] [] (He.ma K (He.ga K "Amount") "__repr__") fd_AmountU_reprU
  F_amount_of : FunD K "amount_of" "amount_of" (defArgs s_amount_of) (defBody s_amount_of) (defScope s_amount_of) [] [] (He.ga K "amount_of") fd_amount_of
  F_l_pot : FunD K "_law_pot" "_law_pot" (defArgs s_l_pot) (defBody s_l_pot) (defScope s_l_pot) [] [] (He.ga K "_law_pot") fd_l_pot
  F_l_digit : FunD K "_law_digit" "_law_digit" (defArgs s_l_digit) (defBody s_l_digit) (defScope s_l_digit) [] [] (He.ga K "_law_digit") fd_l_digit
  F_l_pick : FunD K "_law_pick" "_law_pick" (defArgs s_l_pick) (defBody s_l_pick) (defScope s_l_pick) [] [] (He.ga K "_law_pick") fd_l_pick
  F_l_whole : FunD K "_law_whole" "_law_whole" (defArgs s_l_whole) (defBody s_l_whole) (defScope s_l_whole) [] [] (He.ga K "_law_whole") fd_l_whole
  F_l_pair : FunD K "_law_pair" "_law_pair" (defArgs s_l_pair) (defBody s_l_pair) (defScope s_l_pair) [] [] (He.ga K "_law_pair") fd_l_pair
  F_l_lowest : FunD K "_law_lowest" "_law_lowest" (defArgs s_l_lowest) (defBody s_l_lowest) (defScope s_l_lowest) [] [] (He.ga K "_law_lowest") fd_l_lowest
  F_l_is : FunD K "_law_is" "_law_is" (defArgs s_l_is) (defBody s_l_is) (defScope s_l_is) [] [] (He.ga K "_law_is") fd_l_is
  F_l_made : FunD K "_law_made" "_law_made" (defArgs s_l_made) (defBody s_l_made) (defScope s_l_made) [] [] (He.ga K "_law_made") fd_l_made
  F_l_told : FunD K "_law_told" "_law_told" (defArgs s_l_told) (defBody s_l_told) (defScope s_l_told) [] [] (He.ga K "_law_told") fd_l_told
  F_l_compared : FunD K "_law_compared" "_law_compared" (defArgs s_l_compared) (defBody s_l_compared) (defScope s_l_compared) [] [] (He.ga K "_law_compared") fd_l_compared
  F_l_right : FunD K "_law_right" "_law_right" (defArgs s_l_right) (defBody s_l_right) (defScope s_l_right) [] [] (He.ga K "_law_right") fd_l_right
  F_l_long_right : FunD K "_law_long_right" "_law_long_right" (defArgs s_l_long_right) (defBody s_l_long_right) (defScope s_l_long_right) [] [] (He.ga K "_law_long_right") fd_l_long_right
  F_law : FunD K "law" "law" (defArgs s_law) (defBody s_law) (defScope s_law) [] [] (He.ga K "law") fd_law
  m_abs : mg "abs" = none
  m_all : mg "all" = none
  m_bool : mg "bool" = none
  m_divmod : mg "divmod" = none
  m_int : mg "int" = none
  m_isinstance : mg "isinstance" = none
  m_len : mg "len" = none
  m_max : mg "max" = none
  m_min : mg "min" = none
  m_range : mg "range" = none
  m_repr : mg "repr" = none
  m_str : mg "str" = none
  m_zip : mg "zip" = none
  g_is_whole : mg "is_whole" = some (.ref (He.ga K "is_whole"))
  g_amount_of : mg "amount_of" = some (.ref (He.ga K "amount_of"))
  g_l_pot : mg "_law_pot" = some (.ref (He.ga K "_law_pot"))
  g_l_digit : mg "_law_digit" = some (.ref (He.ga K "_law_digit"))
  g_l_pick : mg "_law_pick" = some (.ref (He.ga K "_law_pick"))
  g_l_whole : mg "_law_whole" = some (.ref (He.ga K "_law_whole"))
  g_l_pair : mg "_law_pair" = some (.ref (He.ga K "_law_pair"))
  g_l_lowest : mg "_law_lowest" = some (.ref (He.ga K "_law_lowest"))
  g_l_is : mg "_law_is" = some (.ref (He.ga K "_law_is"))
  g_l_made : mg "_law_made" = some (.ref (He.ga K "_law_made"))
  g_l_told : mg "_law_told" = some (.ref (He.ga K "_law_told"))
  g_l_compared : mg "_law_compared" = some (.ref (He.ga K "_law_compared"))
  g_l_right : mg "_law_right" = some (.ref (He.ga K "_law_right"))
  g_l_long_right : mg "_law_long_right" = some (.ref (He.ga K "_law_long_right"))
  g_law : mg "law" = some (.ref (He.ga K "law"))
  g_Amount : mg "Amount" = some (.ref (He.ga K "Amount"))
  c_Amount : Cls K (He.ga K "Amount")
  k_Amount : Mk K (He.ga K "Amount") (He.ma K (He.ga K "Amount") "__init__")
  n_Amount_top : NoAttr K (He.ga K "Amount") "_top"
  n_Amount_bottom : NoAttr K (He.ga K "Amount") "_bottom"
  mt_Amount_over : Meth K (He.ga K "Amount") "over" (He.ma K (He.ga K "Amount") "over")
  mt_Amount_below : Meth K (He.ga K "Amount") "below" (He.ma K (He.ga K "Amount") "below")
  p_Amount_top : PropOf K (He.ga K "Amount") "top" (He.ma K (He.ga K "Amount") "top") (pget K "Amount" "top")
  p_Amount_bottom : PropOf K (He.ga K "Amount") "bottom" (He.ma K (He.ga K "Amount") "bottom") (pget K "Amount" "bottom")
  p_Amount_sign : PropOf K (He.ga K "Amount") "sign" (He.ma K (He.ga K "Amount") "sign") (pget K "Amount" "sign")
  o_Amount_Add : OpOwn K (He.ga K "Amount") (Operator.info .Add).2 (He.ma K (He.ga K "Amount") "__add__") ["int"]
  o_Amount_Sub : OpOwn K (He.ga K "Amount") (Operator.info .Sub).2 (He.ma K (He.ga K "Amount") "__sub__") ["int"]
  o_Amount_Mult : OpOwn K (He.ga K "Amount") (Operator.info .Mult).2 (He.ma K (He.ga K "Amount") "__mul__") ["int"]
  o_Amount_neg : UnOwn K (He.ga K "Amount") "__neg__" (He.ma K (He.ga K "Amount") "__neg__")
  o_Amount_str : UnOwn K (He.ga K "Amount") "__str__" (He.ma K (He.ga K "Amount") "__str__")
  o_Amount_repr : UnOwn K (He.ga K "Amount") "__repr__" (He.ma K (He.ga K "Amount") "__repr__")
  o_Amount_eq : EqOwn K (He.ga K "Amount") (He.ma K (He.ga K "Amount") "__eq__") ["int"]
  o_Amount_ne : NeOwn K (He.ga K "Amount") (He.ma K (He.ga K "Amount") "__eq__") ["int"]
  i_Amount : IsiOwn K (He.ga K "Amount")
  kt_int_Amount : PySem.W.kitOne K (.type "int") (.ref (He.ga K "Amount")) = some false
  g_gcd : mg "gcd" = some (.builtin "math.gcd")
section
variable {K : PySem.W.Frag} {mg : Str → Option Value}
theorem Tx.b_InvalidAmountU_initU (T : Tx K mg) : Binds K T.fd_InvalidAmountU_initU ["self", "value"] [] := T.F_InvalidAmountU_initU.bindsN fun _ _ _ _ _ _ us hl => match us, hl with | [_, _], _ => rfl
theorem Tx.b_is_whole (T : Tx K mg) : Binds K T.fd_is_whole ["value"] [] := T.F_is_whole.bindsN fun _ _ _ _ _ _ us hl => match us, hl with | [_], _ => rfl
theorem Tx.b_AmountU_initU_1 (T : Tx K mg) : ∃ ds, Vals [V.int 1] ds ∧ Binds K T.fd_AmountU_initU ["self", "top", "bottom"] ds := T.F_AmountU_initU.binds1 (ps := ["self", "top", "bottom"]) 2 0 (by simp) (by rfl) fun _ _ _ _ _ _ _ us its hl hi => match us, its, hl, hi with | [_, _], [_], _, _ => ⟨_, rfl, rfl⟩
theorem Tx.b_AmountU_initU (T : Tx K mg) : Binds K T.fd_AmountU_initU ["self", "top", "bottom"] [] := by
  obtain ⟨ds, hv, hb⟩ := T.F_AmountU_initU.binds1 (ps := ["self", "top", "bottom"]) 3 1 (by simp) (by rfl) fun _ _ _ _ _ _ _ us its hl hi => match us, its, hl, hi with | [_, _, _], [_], _, _ => ⟨_, rfl, rfl⟩
  cases hv; exact hb
theorem Tx.b_Amount_top (T : Tx K mg) : Binds K T.fd_Amount_top ["self"] [] := T.F_Amount_top.bindsN fun _ _ _ _ _ _ us hl => match us, hl with | [_], _ => rfl
theorem Tx.b_Amount_bottom (T : Tx K mg) : Binds K T.fd_Amount_bottom ["self"] [] := T.F_Amount_bottom.bindsN fun _ _ _ _ _ _ us hl => match us, hl with | [_], _ => rfl
theorem Tx.b_Amount_sign (T : Tx K mg) : Binds K T.fd_Amount_sign ["self"] [] := T.F_Amount_sign.bindsN fun _ _ _ _ _ _ us hl => match us, hl with | [_], _ => rfl
theorem Tx.b_AmountU_addU (T : Tx K mg) : Binds K T.fd_AmountU_addU ["self", "other"] [] := T.F_AmountU_addU.bindsN fun _ _ _ _ _ _ us hl => match us, hl with | [_, _], _ => rfl
theorem Tx.b_AmountU_subU (T : Tx K mg) : Binds K T.fd_AmountU_subU ["self", "other"] [] := T.F_AmountU_subU.bindsN fun _ _ _ _ _ _ us hl => match us, hl with | [_, _], _ => rfl
theorem Tx.b_AmountU_mulU (T : Tx K mg) : Binds K T.fd_AmountU_mulU ["self", "other"] [] := T.F_AmountU_mulU.bindsN fun _ _ _ _ _ _ us hl => match us, hl with | [_, _], _ => rfl
theorem Tx.b_AmountU_negU (T : Tx K mg) : Binds K T.fd_AmountU_negU ["self"] [] := T.F_AmountU_negU.bindsN fun _ _ _ _ _ _ us hl => match us, hl with | [_], _ => rfl
theorem Tx.b_Amount_over (T : Tx K mg) : Binds K T.fd_Amount_over ["self", "divisor"] [] := T.F_Amount_over.bindsN fun _ _ _ _ _ _ us hl => match us, hl with | [_, _], _ => rfl
theorem Tx.b_Amount_below (T : Tx K mg) : Binds K T.fd_Amount_below ["self", "other"] [] := T.F_Amount_below.bindsN fun _ _ _ _ _ _ us hl => match us, hl with | [_, _], _ => rfl
theorem Tx.b_AmountU_eqU (T : Tx K mg) : Binds K T.fd_AmountU_eqU ["self", "other"] [] := T.F_AmountU_eqU.bindsN fun _ _ _ _ _ _ us hl => match us, hl with | [_, _], _ => rfl
theorem Tx.b_AmountU_strU (T : Tx K mg) : Binds K T.fd_AmountU_strU ["self"] [] := T.F_AmountU_strU.bindsN fun _ _ _ _ _ _ us hl => match us, hl with | [_], _ => rfl
theorem Tx.b_AmountU_reprU (T : Tx K mg) : Binds K T.fd_AmountU_reprU ["self"] [] := T.F_AmountU_reprU.bindsN fun _ _ _ _ _ _ us hl => match us, hl with | [_], _ => rfl
theorem Tx.b_amount_of (T : Tx K mg) : Binds K T.fd_amount_of ["value"] [] := T.F_amount_of.bindsN fun _ _ _ _ _ _ us hl => match us, hl with | [_], _ => rfl
theorem Tx.b_l_pot (T : Tx K mg) : Binds K T.fd_l_pot ["_law_script", "_law_k"] [] := T.F_l_pot.bindsN fun _ _ _ _ _ _ us hl => match us, hl with | [_, _], _ => rfl
theorem Tx.b_l_digit (T : Tx K mg) : Binds K T.fd_l_digit ["_law_pot_here", "_law_many"] [] := T.F_l_digit.bindsN fun _ _ _ _ _ _ us hl => match us, hl with | [_, _], _ => rfl
theorem Tx.b_l_pick (T : Tx K mg) : Binds K T.fd_l_pick ["_law_pot_here", "_law_some"] [] := T.F_l_pick.bindsN fun _ _ _ _ _ _ us hl => match us, hl with | [_, _], _ => rfl
theorem Tx.b_l_whole (T : Tx K mg) : Binds K T.fd_l_whole ["_law_pot_here"] [] := T.F_l_whole.bindsN fun _ _ _ _ _ _ us hl => match us, hl with | [_], _ => rfl
theorem Tx.b_l_pair (T : Tx K mg) : Binds K T.fd_l_pair ["_law_pot_here"] [] := T.F_l_pair.bindsN fun _ _ _ _ _ _ us hl => match us, hl with | [_], _ => rfl
theorem Tx.b_l_lowest (T : Tx K mg) : Binds K T.fd_l_lowest ["_law_pair_here"] [] := T.F_l_lowest.bindsN fun _ _ _ _ _ _ us hl => match us, hl with | [_], _ => rfl
theorem Tx.b_l_is (T : Tx K mg) : Binds K T.fd_l_is ["_law_amount", "_law_pair_here"] [] := T.F_l_is.bindsN fun _ _ _ _ _ _ us hl => match us, hl with | [_, _], _ => rfl
theorem Tx.b_l_made (T : Tx K mg) : Binds K T.fd_l_made ["_law_way", "_law_one", "_law_second"] [] := T.F_l_made.bindsN fun _ _ _ _ _ _ us hl => match us, hl with | [_, _, _], _ => rfl
theorem Tx.b_l_told (T : Tx K mg) : Binds K T.fd_l_told ["_law_way", "_law_one", "_law_second"] [] := T.F_l_told.bindsN fun _ _ _ _ _ _ us hl => match us, hl with | [_, _, _], _ => rfl
theorem Tx.b_l_compared (T : Tx K mg) : Binds K T.fd_l_compared ["_law_one", "_law_pair_here", "_law_second", "_law_other", "_law_is_whole"] [] := T.F_l_compared.bindsN fun _ _ _ _ _ _ us hl => match us, hl with | [_, _, _, _, _], _ => rfl
theorem Tx.b_l_right (T : Tx K mg) : Binds K T.fd_l_right ["_law_pot_here"] [] := T.F_l_right.bindsN fun _ _ _ _ _ _ us hl => match us, hl with | [_], _ => rfl
theorem Tx.b_l_long_right (T : Tx K mg) : Binds K T.fd_l_long_right [] [] := T.F_l_long_right.bindsN fun _ _ _ _ _ _ us hl => match us, hl with | [], _ => rfl
theorem Tx.b_law (T : Tx K mg) : Binds K T.fd_law ["_law_script"] [] := T.F_law.bindsN fun _ _ _ _ _ _ us hl => match us, hl with | [_], _ => rfl
end
def hfa : List He.Fa := [.free "abs", .free "all", .free "bool", .free "divmod", .free "int", .free "isinstance", .free "len", .free "max", .free "min", .free "range", .free "repr", .free "str", .free "zip", .glo "is_whole", .glo "amount_of", .glo "_law_pot", .glo "_law_digit", .glo "_law_pick", .glo "_law_whole", .glo "_law_pair", .glo "_law_lowest", .glo "_law_is", .glo "_law_made", .glo "_law_told", .glo "_law_compared", .glo "_law_right", .glo "_law_long_right", .glo "law", .glo "Amount", .cls "Amount", .mkr "Amount", .noat "Amount" "_top", .noat "Amount" "_bottom", .meth "Amount" "over", .meth "Amount" "below"]
def hex (K : PySem.W.Frag) : Bool := propB K "Amount" "top" && (propB K "Amount" "bottom" && (propB K "Amount" "sign" && (opB K "Amount" (Operator.info .Add).2 ["int"] && (opB K "Amount" (Operator.info .Sub).2 ["int"] && (opB K "Amount" (Operator.info .Mult).2 ["int"] && (fnB K "Amount" "__neg__" && (fnB K "Amount" "__str__" && (fnB K "Amount" "__repr__" && (eqB K "Amount" ["int"] && (neB K "Amount" ["int"] && (isiB K "Amount" && (kitTB K "int" "Amount" false))))))))))))
def d_InvalidAmountU_initU : He5.DefA := ⟨fun K => (He.ma K (He.ga K "InvalidAmount") "__init__"), "__init__", "InvalidAmount.__init__", defArgs s_InvalidAmountU_initU, defBody s_InvalidAmountU_initU, defScope s_InvalidAmountU_initU, [], []⟩
def d_is_whole : He5.DefA := ⟨fun K => (He.ga K "is_whole"), "is_whole", "is_whole", defArgs s_is_whole, defBody s_is_whole, defScope s_is_whole, [], []⟩
def d_AmountU_initU : He5.DefA := ⟨fun K => (He.ma K (He.ga K "Amount") "__init__"), "__init__", "Amount.__init__", defArgs s_AmountU_initU, defBody s_AmountU_initU, defScope s_AmountU_initU, [.int 1], []⟩
def d_Amount_top : He5.DefA := ⟨fun K => (pget K "Amount" "top"), "top", "Amount.top", defArgs s_Amount_top, defBody s_Amount_top, defScope s_Amount_top, [], []⟩
def d_Amount_bottom : He5.DefA := ⟨fun K => (pget K "Amount" "bottom"), "bottom", "Amount.bottom", defArgs s_Amount_bottom, defBody s_Amount_bottom, defScope s_Amount_bottom, [], []⟩
def d_Amount_sign : He5.DefA := ⟨fun K => (pget K "Amount" "sign"), "sign", "Amount.sign", defArgs s_Amount_sign, defBody s_Amount_sign, defScope s_Amount_sign, [], []⟩
def d_AmountU_addU : He5.DefA := ⟨fun K => (He.ma K (He.ga K "Amount") "__add__"), "__add__", "Amount.__add__", defArgs s_AmountU_addU, defBody s_AmountU_addU, defScope s_AmountU_addU, [], []⟩
def d_AmountU_subU : He5.DefA := ⟨fun K => (He.ma K (He.ga K "Amount") "__sub__"), "__sub__", "Amount.__sub__", defArgs s_AmountU_subU, defBody s_AmountU_subU, defScope s_AmountU_subU, [], []⟩
def d_AmountU_mulU : He5.DefA := ⟨fun K => (He.ma K (He.ga K "Amount") "__mul__"), "__mul__", "Amount.__mul__", defArgs s_AmountU_mulU, defBody s_AmountU_mulU, defScope s_AmountU_mulU, [], []⟩
def d_AmountU_negU : He5.DefA := ⟨fun K => (He.ma K (He.ga K "Amount") "__neg__"), "__neg__", "Amount.__neg__", defArgs s_AmountU_negU, defBody s_AmountU_negU, defScope s_AmountU_negU, [], []⟩
def d_Amount_over : He5.DefA := ⟨fun K => (He.ma K (He.ga K "Amount") "over"), "over", "Amount.over", defArgs s_Amount_over, defBody s_Amount_over, defScope s_Amount_over, [], []⟩
def d_Amount_below : He5.DefA := ⟨fun K => (He.ma K (He.ga K "Amount") "below"), "below", "Amount.below", defArgs s_Amount_below, defBody s_Amount_below, defScope s_Amount_below, [], []⟩
def d_AmountU_eqU : He5.DefA := ⟨fun K => (He.ma K (He.ga K "Amount") "__eq__"), "__eq__", "Amount.__eq__", defArgs s_AmountU_eqU, defBody s_AmountU_eqU, defScope s_AmountU_eqU, [], []⟩
def d_AmountU_strU : He5.DefA := ⟨fun K => (He.ma K (He.ga K "Amount") "__str__"), "__str__", "Amount.__str__", defArgs s_AmountU_strU, defBody s_AmountU_strU, defScope s_AmountU_strU, [], []⟩
def d_AmountU_reprU : He5.DefA := ⟨fun K => (He.ma K (He.ga K "Amount") "__repr__"), "__repr__", "Amount.__repr__", defArgs s_AmountU_reprU, defBody s_AmountU_reprU, defScope s_AmountU_reprU, [], []⟩
def d_amount_of : He5.DefA := ⟨fun K => (He.ga K "amount_of"), "amount_of", "amount_of", defArgs s_amount_of, defBody s_amount_of, defScope s_amount_of, [], []⟩
def d_l_pot : He5.DefA := ⟨fun K => (He.ga K "_law_pot"), "_law_pot", "_law_pot", defArgs s_l_pot, defBody s_l_pot, defScope s_l_pot, [], []⟩
def d_l_digit : He5.DefA := ⟨fun K => (He.ga K "_law_digit"), "_law_digit", "_law_digit", defArgs s_l_digit, defBody s_l_digit, defScope s_l_digit, [], []⟩
def d_l_pick : He5.DefA := ⟨fun K => (He.ga K "_law_pick"), "_law_pick", "_law_pick", defArgs s_l_pick, defBody s_l_pick, defScope s_l_pick, [], []⟩
def d_l_whole : He5.DefA := ⟨fun K => (He.ga K "_law_whole"), "_law_whole", "_law_whole", defArgs s_l_whole, defBody s_l_whole, defScope s_l_whole, [], []⟩
def d_l_pair : He5.DefA := ⟨fun K => (He.ga K "_law_pair"), "_law_pair", "_law_pair", defArgs s_l_pair, defBody s_l_pair, defScope s_l_pair, [], []⟩
def d_l_lowest : He5.DefA := ⟨fun K => (He.ga K "_law_lowest"), "_law_lowest", "_law_lowest", defArgs s_l_lowest, defBody s_l_lowest, defScope s_l_lowest, [], []⟩
def d_l_is : He5.DefA := ⟨fun K => (He.ga K "_law_is"), "_law_is", "_law_is", defArgs s_l_is, defBody s_l_is, defScope s_l_is, [], []⟩
def d_l_made : He5.DefA := ⟨fun K => (He.ga K "_law_made"), "_law_made", "_law_made", defArgs s_l_made, defBody s_l_made, defScope s_l_made, [], []⟩
def d_l_told : He5.DefA := ⟨fun K => (He.ga K "_law_told"), "_law_told", "_law_told", defArgs s_l_told, defBody s_l_told, defScope s_l_told, [], []⟩
def d_l_compared : He5.DefA := ⟨fun K => (He.ga K "_law_compared"), "_law_compared", "_law_compared", defArgs s_l_compared, defBody s_l_compared, defScope s_l_compared, [], []⟩
def d_l_right : He5.DefA := ⟨fun K => (He.ga K "_law_right"), "_law_right", "_law_right", defArgs s_l_right, defBody s_l_right, defScope s_l_right, [], []⟩
def d_l_long_right : He5.DefA := ⟨fun K => (He.ga K "_law_long_right"), "_law_long_right", "_law_long_right", defArgs s_l_long_right, defBody s_l_long_right, defScope s_l_long_right, [], []⟩
def d_law : He5.DefA := ⟨fun K => (He.ga K "law"), "law", "law", defArgs s_law, defBody s_law, defScope s_law, [], []⟩
def hfn : List He5.DefA := [d_InvalidAmountU_initU, d_is_whole, d_AmountU_initU, d_Amount_top, d_Amount_bottom, d_Amount_sign, d_AmountU_addU, d_AmountU_subU, d_AmountU_mulU, d_AmountU_negU, d_Amount_over, d_Amount_below, d_AmountU_eqU, d_AmountU_strU, d_AmountU_reprU, d_amount_of, d_l_pot, d_l_digit, d_l_pick, d_l_whole, d_l_pair, d_l_lowest, d_l_is, d_l_made, d_l_told, d_l_compared, d_l_right, d_l_long_right, d_law]
abbrev R : PySem.W.OpenRow := PySem.W.OpenLaw.row PySem.Challenge.rw_leastlog_k11_amounts_reckoned
def loose : List Str := (["gcd", "LeastlogError", "InvalidAmount", "ZeroDivisor", "is_whole", "Amount", "amount_of", "_law_pot", "_law_digit", "_law_pick", "_law_whole", "_law_pair", "_law_lowest", "_law_is", "_law_made", "_law_told", "_law_compared", "_law_right", "_law_long_right"] : List Str)
abbrev hk : PySem.W.Hook := hookL 6 hfa hfn hex
def ob (s : PySem.W.SharedT) : He.AlD × Bool := obsLG 6 hfa hfn hex (HandSHeadRun.getT s)
theorem ob_eq (s : PySem.W.SharedT) : ob s = hk.obs s.abs := obsLG_eq (HandSHeadRun.getT_eq s)
theorem run (w : World) : RunI R (PySem.W.view R.prog [0, 24]) hk ob 3000 3000 loose w := by
  unfold LL.RunI
  kernel_rfl
theorem tx_of {K : PySem.W.Frag} {h : Heap} {mg : Str → Option Value} (X : K.In h) (G : h.Ns mainGlobals mg) (XX : PySem.W.XL (PySem.W.view R.prog [0, 24]) [] mg h) (c : He5.SaysA hfa hfn K) (x : hex K = true) : ∃ T : Tx K mg, True := by
  obtain ⟨fd0, F0⟩ := c.def_ 0 (d := d_InvalidAmountU_initU) rfl
  obtain ⟨fd1, F1⟩ := c.def_ 1 (d := d_is_whole) rfl
  obtain ⟨fd2, F2⟩ := c.def_ 2 (d := d_AmountU_initU) rfl
  obtain ⟨fd3, F3⟩ := c.def_ 3 (d := d_Amount_top) rfl
  obtain ⟨fd4, F4⟩ := c.def_ 4 (d := d_Amount_bottom) rfl
  obtain ⟨fd5, F5⟩ := c.def_ 5 (d := d_Amount_sign) rfl
  obtain ⟨fd6, F6⟩ := c.def_ 6 (d := d_AmountU_addU) rfl
  obtain ⟨fd7, F7⟩ := c.def_ 7 (d := d_AmountU_subU) rfl
  obtain ⟨fd8, F8⟩ := c.def_ 8 (d := d_AmountU_mulU) rfl
  obtain ⟨fd9, F9⟩ := c.def_ 9 (d := d_AmountU_negU) rfl
  obtain ⟨fd10, F10⟩ := c.def_ 10 (d := d_Amount_over) rfl
  obtain ⟨fd11, F11⟩ := c.def_ 11 (d := d_Amount_below) rfl
  obtain ⟨fd12, F12⟩ := c.def_ 12 (d := d_AmountU_eqU) rfl
  obtain ⟨fd13, F13⟩ := c.def_ 13 (d := d_AmountU_strU) rfl
  obtain ⟨fd14, F14⟩ := c.def_ 14 (d := d_AmountU_reprU) rfl
  obtain ⟨fd15, F15⟩ := c.def_ 15 (d := d_amount_of) rfl
  obtain ⟨fd16, F16⟩ := c.def_ 16 (d := d_l_pot) rfl
  obtain ⟨fd17, F17⟩ := c.def_ 17 (d := d_l_digit) rfl
  obtain ⟨fd18, F18⟩ := c.def_ 18 (d := d_l_pick) rfl
  obtain ⟨fd19, F19⟩ := c.def_ 19 (d := d_l_whole) rfl
  obtain ⟨fd20, F20⟩ := c.def_ 20 (d := d_l_pair) rfl
  obtain ⟨fd21, F21⟩ := c.def_ 21 (d := d_l_lowest) rfl
  obtain ⟨fd22, F22⟩ := c.def_ 22 (d := d_l_is) rfl
  obtain ⟨fd23, F23⟩ := c.def_ 23 (d := d_l_made) rfl
  obtain ⟨fd24, F24⟩ := c.def_ 24 (d := d_l_told) rfl
  obtain ⟨fd25, F25⟩ := c.def_ 25 (d := d_l_compared) rfl
  obtain ⟨fd26, F26⟩ := c.def_ 26 (d := d_l_right) rfl
  obtain ⟨fd27, F27⟩ := c.def_ 27 (d := d_l_long_right) rfl
  obtain ⟨fd28, F28⟩ := c.def_ 28 (d := d_law) rfl
  obtain ⟨x0, x⟩ := He.ba x
  obtain ⟨x1, x⟩ := He.ba x
  obtain ⟨x2, x⟩ := He.ba x
  obtain ⟨x3, x⟩ := He.ba x
  obtain ⟨x4, x⟩ := He.ba x
  obtain ⟨x5, x⟩ := He.ba x
  obtain ⟨x6, x⟩ := He.ba x
  obtain ⟨x7, x⟩ := He.ba x
  obtain ⟨x8, x⟩ := He.ba x
  obtain ⟨x9, x⟩ := He.ba x
  obtain ⟨x10, x⟩ := He.ba x
  obtain ⟨x11, x⟩ := He.ba x
  have x12 := x
  exact ⟨⟨fd0, fd1, fd2, fd3, fd4, fd5, fd6, fd7, fd8, fd9, fd10, fd11, fd12, fd13, fd14, fd15, fd16, fd17, fd18, fd19, fd20, fd21, fd22, fd23, fd24, fd25, fd26, fd27, fd28, F0, F1, F2, F3, F4, F5, F6, F7, F8, F9, F10, F11, F12, F13, F14, F15, F16, F17, F18, F19, F20, F21, F22, F23, F24, F25, F26, F27, F28, (He.free_ok X G (c.fact 0 (f := .free "abs") rfl)), (He.free_ok X G (c.fact 1 (f := .free "all") rfl)), (He.free_ok X G (c.fact 2 (f := .free "bool") rfl)), (He.free_ok X G (c.fact 3 (f := .free "divmod") rfl)), (He.free_ok X G (c.fact 4 (f := .free "int") rfl)), (He.free_ok X G (c.fact 5 (f := .free "isinstance") rfl)), (He.free_ok X G (c.fact 6 (f := .free "len") rfl)), (He.free_ok X G (c.fact 7 (f := .free "max") rfl)), (He.free_ok X G (c.fact 8 (f := .free "min") rfl)), (He.free_ok X G (c.fact 9 (f := .free "range") rfl)), (He.free_ok X G (c.fact 10 (f := .free "repr") rfl)), (He.free_ok X G (c.fact 11 (f := .free "str") rfl)), (He.free_ok X G (c.fact 12 (f := .free "zip") rfl)), (He.glo_ok X G (c.fact 13 (f := .glo "is_whole") rfl)), (He.glo_ok X G (c.fact 14 (f := .glo "amount_of") rfl)), (He.glo_ok X G (c.fact 15 (f := .glo "_law_pot") rfl)), (He.glo_ok X G (c.fact 16 (f := .glo "_law_digit") rfl)), (He.glo_ok X G (c.fact 17 (f := .glo "_law_pick") rfl)), (He.glo_ok X G (c.fact 18 (f := .glo "_law_whole") rfl)), (He.glo_ok X G (c.fact 19 (f := .glo "_law_pair") rfl)), (He.glo_ok X G (c.fact 20 (f := .glo "_law_lowest") rfl)), (He.glo_ok X G (c.fact 21 (f := .glo "_law_is") rfl)), (He.glo_ok X G (c.fact 22 (f := .glo "_law_made") rfl)), (He.glo_ok X G (c.fact 23 (f := .glo "_law_told") rfl)), (He.glo_ok X G (c.fact 24 (f := .glo "_law_compared") rfl)), (He.glo_ok X G (c.fact 25 (f := .glo "_law_right") rfl)), (He.glo_ok X G (c.fact 26 (f := .glo "_law_long_right") rfl)), (He.glo_ok X G (c.fact 27 (f := .glo "law") rfl)), (He.glo_ok X G (c.fact 28 (f := .glo "Amount") rfl)), (He.cls_ok (c.fact 29 (f := .cls "Amount") rfl)), (He.mkr_ok (c.fact 30 (f := .mkr "Amount") rfl)), (He.noat_ok (c.fact 31 (f := .noat "Amount" "_top") rfl)), (He.noat_ok (c.fact 32 (f := .noat "Amount" "_bottom") rfl)), (He.meth_ok (c.fact 33 (f := .meth "Amount" "over") rfl)), (He.meth_ok (c.fact 34 (f := .meth "Amount" "below") rfl)), (propB_ok x0), (propB_ok x1), (propB_ok x2), (opB_ok x3), (opB_ok x4), (opB_ok x5), (fnB_ok x6), (fnB_ok x7), (fnB_ok x8), (eqB_ok x9), (neB_ok x10), (isiB_ok x11), (kitTB_ok x12), (xl_fn (id := "math.gcd") XX (by kernel_rfl))⟩, trivial⟩
/-! ### amounts -/
def amtF (t b : Int) : List (Str × V) := putF "_bottom" (.int b) (putF "_top" (.int t) [])
theorem amtF_top (t b : Int) : (amtF t b).lookup ("_top" : Str) = some (.int t) := by
  unfold amtF
  rw [lookup_putF, if_neg (by decide +kernel), lookup_putF, if_pos rfl]
theorem amtF_bottom (t b : Int) : (amtF t b).lookup ("_bottom" : Str) = some (.int b) := by
  unfold amtF
  rw [lookup_putF, if_pos rfl]
theorem amtF_no (t b : Int) {m : Str} (h1 : ¬ m = "_bottom") (h2 : ¬ m = "_top") : (amtF t b).lookup m = none := by
  unfold amtF
  rw [lookup_putF, if_neg h1, lookup_putF, if_neg h2]
  rfl
/-- the Amount t / b (as it is stored) stands at a -/
def AmtAt (K : PySem.W.Frag) (H : Hp) (a : Addr) (t b : Int) : Prop := ∃ dx, H a = some (.ins (He.ga K "Amount") dx (amtF t b))
theorem AmtAt.same {K : PySem.W.Frag} {H H' : Hp} {a : Addr} {t b : Int} (h : AmtAt K H a t b) (s : Same H H') : AmtAt K H' a t b := let ⟨dx, e⟩ := h; ⟨dx, s a _ e⟩
theorem AmtAt.ins {K : PySem.W.Frag} {H : Hp} {a : Addr} {t b : Int} (h : AmtAt K H a t b) : InsAt (He.ga K "Amount") H a := let ⟨dx, e⟩ := h; ⟨dx, _, e⟩
/-- a value that stands for the amount: an Amount, or an integer -/
def AmtV (K : PySem.W.Frag) (H : Hp) (v : V) (t b : Int) : Prop := (∃ a, v = .ref a ∧ AmtAt K H a t b) ∨ (v = .int t ∧ b = 1)
theorem AmtV.same {K : PySem.W.Frag} {H H' : Hp} {v : V} {t b : Int} (h : AmtV K H v t b) (s : Same H H') : AmtV K H' v t b := by
  rcases h with ⟨a, e, h⟩ | h
  · exact .inl ⟨a, e, h.same s⟩
  · exact .inr h
theorem AmtV.op {K : PySem.W.Frag} {H : Hp} {v : V} {t b : Int} (h : AmtV K H v t b) : (∃ b, v = .ref b ∧ InsAt (He.ga K "Amount") H b) ∨ ∃ T, plT v = some T ∧ T ∈ ["int"] := by
  rcases h with ⟨a, e, h⟩ | ⟨e, _⟩
  · exact .inl ⟨a, e, h.ins⟩
  · exact .inr ⟨"int", by rw [e]; rfl, by simp⟩
/-! promises -/
def sp_whole : Sp := fun vs H Q _ => ∃ i, vs = [.int i] ∧ Q (.bl true) H
def sp_init (K : PySem.W.Frag) : Sp := fun vs H Q _ => ∃ p dx t b, vs = [.ref p, .int t, .int b] ∧ H p = some (.ins (He.ga K "Amount") dx []) ∧ b ≠ 0 ∧ Sz 8000 b ∧
  ∀ H', (∀ c o, c ≠ p → H c = some o → H' c = some o) → H' p = some (.ins (He.ga K "Amount") dx (amtF (low t b).1 (low t b).2)) → Q .non H'
def sp_get (K : PySem.W.Frag) (f : Int → Int → Int) : Sp := fun vs H Q _ => ∃ a t b, vs = [.ref a] ∧ AmtAt K H a t b ∧ Q (.int (f t b)) H
def sgn (t : Int) : Int := if t = 0 then 0 else if 0 < t then 1 else -1
def sp_of (K : PySem.W.Frag) : Sp := fun vs H Q _ => ∃ v t b, vs = [v] ∧ AmtV K H v t b ∧ ∀ a H', Same H H' → AmtAt K H' a t b → Q (.ref a) H'
/-- an operation on two amounts that makes one -/
def sp_op2 (K : PySem.W.Frag) (ok : Int → Int → Int → Int → Prop) (f g : Int → Int → Int → Int → Int) : Sp := fun vs H Q _ => ∃ a v t b t2 b2, vs = [.ref a, v] ∧ AmtAt K H a t b ∧ AmtV K H v t2 b2 ∧ (Sz 1800 t ∧ Sz 1800 b ∧ Sz 1800 t2 ∧ Sz 1800 b2) ∧ b ≠ 0 ∧ b2 ≠ 0 ∧ ok t b t2 b2 ∧
  ∀ p H', Same H H' → AmtAt K H' p (low (f t b t2 b2) (g t b t2 b2)).1 (low (f t b t2 b2) (g t b t2 b2)).2 → Q (.ref p) H'
def sp_neg (K : PySem.W.Frag) : Sp := fun vs H Q _ => ∃ a t b, vs = [.ref a] ∧ AmtAt K H a t b ∧ Sz 8000 b ∧ b ≠ 0 ∧ ∀ p H', Same H H' → AmtAt K H' p (low (-t) b).1 (low (-t) b).2 → Q (.ref p) H'
def sp_below (K : PySem.W.Frag) : Sp := fun vs H Q _ => ∃ a v t b t2 b2, vs = [.ref a, v] ∧ AmtAt K H a t b ∧ AmtV K H v t2 b2 ∧ (Sz 1800 t ∧ Sz 1800 b ∧ Sz 1800 t2 ∧ Sz 1800 b2) ∧
  ∀ H', Same H H' → Q (.bl (decide (t * b2 < t2 * b))) H'
def sp_eq (K : PySem.W.Frag) : Sp := fun vs H Q _ => ∃ a t b, (∃ c t2 b2, vs = [.ref a, .ref c] ∧ AmtAt K H c t2 b2 ∧ AmtAt K H a t b ∧ Q (.bl (decide (t = t2 ∧ b = b2))) H) ∨ (∃ i, vs = [.ref a, .int i] ∧ AmtAt K H a t b ∧ Q (.bl false) H)
def amtS (t b : Int) : Str := if b = 1 then toString t else Str.empty ++ toString t ++ "/" ++ toString b
def amtR (t b : Int) : Str := Str.empty ++ "Amount(" ++ toString t ++ ", " ++ toString b ++ ")"
def sp_text (K : PySem.W.Frag) (f : Int → Int → Str) : Sp := fun vs H Q _ => ∃ a t b, vs = [.ref a] ∧ AmtAt K H a t b ∧ Sz 1900 t ∧ Sz 1900 b ∧ Q (.str (f t b)) H
theorem use_whole {H : Hp} {Q : VK} {E : XK} {i : Int} (q : Q (.bl true) H) : sp_whole ([.int i] ++ []) H Q E := ⟨i, rfl, q⟩
theorem use_get {K : PySem.W.Frag} {f : Int → Int → Int} {H : Hp} {Q : VK} {E : XK} {a : Addr} {t b : Int} (h : AmtAt K H a t b) (q : Q (.int (f t b)) H) : sp_get K f [.ref a] H Q E := ⟨a, t, b, rfl, h, q⟩
theorem use_of {K : PySem.W.Frag} {H : Hp} {Q : VK} {E : XK} {v : V} {t b : Int} (h : AmtV K H v t b) (q : ∀ a H', Same H H' → AmtAt K H' a t b → Q (.ref a) H') : sp_of K ([v] ++ []) H Q E := ⟨v, t, b, rfl, h, q⟩
/-- Amount(t, b) -/
theorem use_make {K : PySem.W.Frag} {H : Hp} {R : Addr → Hp → Prop} {E : XK} {t b : Int} {vs : List V} (e : vs = [.int t, .int b]) (hb : b ≠ 0) (hz : Sz 8000 b) (q : ∀ a H', Same H H' → H a = none → AmtAt K H' a (low t b).1 (low t b).2 → R a H') :
    ∀ x dx, H x = none → H dx = none → dx ≠ x → sp_init K (.ref x :: vs) (upd (upd H dx (.own x)) x (.ins (He.ga K "Amount") dx [])) (fun v H2 => v = .non ∧ R x H2) E := by
  subst e
  intro x dx hx hdx hne
  refine ⟨x, dx, t, b, rfl, upd_same, hb, hz, fun H' keep at_ => ⟨rfl, q x H' (fun c o ec => ?_) hx ⟨dx, at_⟩⟩⟩
  have n1 : c ≠ x := ne_of_none ec hx
  have n2 : c ≠ dx := ne_of_none ec hdx
  exact keep c o n1 (by rw [upd_ne n1, upd_ne n2]; exact ec)
theorem r_prA {K : PySem.W.Frag} {H : Hp} {Q : VK} {E : XK} {a : Addr} {t b : Int} {f : Int → Int → Int} (h : AmtAt K H a t b) (q : Q (.int (f t b)) H) :
    ∃ a' dx fs, V.ref a = .ref a' ∧ H a' = some (.ins (He.ga K "Amount") dx fs) ∧ sp_get K f [.ref a'] H Q E := by
  obtain ⟨dx, e⟩ := id h
  exact ⟨a, dx, _, rfl, e, a, t, b, rfl, h, q⟩
theorem r_flA {K : PySem.W.Frag} {H : Hp} {Q : V → Prop} {a : Addr} {t b : Int} (h : AmtAt K H a t b) (c : Cls K (He.ga K "Amount")) (na : NoAttr K (He.ga K "Amount") "_top") (q : Q (.int t)) :
    ∃ a' C dx fs v, V.ref a = .ref a' ∧ H a' = some (.ins C dx fs) ∧ Cls K C ∧ NoAttr K C "_top" ∧ fs.lookup ("_top" : Str) = some v ∧ Q v := let ⟨dx, e⟩ := h; ⟨a, _, dx, _, _, rfl, e, c, na, amtF_top t b, q⟩
theorem r_flB {K : PySem.W.Frag} {H : Hp} {Q : V → Prop} {a : Addr} {t b : Int} (h : AmtAt K H a t b) (c : Cls K (He.ga K "Amount")) (na : NoAttr K (He.ga K "Amount") "_bottom") (q : Q (.int b)) :
    ∃ a' C dx fs v, V.ref a = .ref a' ∧ H a' = some (.ins C dx fs) ∧ Cls K C ∧ NoAttr K C "_bottom" ∧ fs.lookup ("_bottom" : Str) = some v ∧ Q v := let ⟨dx, e⟩ := h; ⟨a, _, dx, _, _, rfl, e, c, na, amtF_bottom t b, q⟩
theorem ln0 : (Str.empty).length = 0 := by decide +kernel
theorem ln1 : (Str.ofString "/").length = 1 := by decide +kernel
theorem ln2 : (Str.ofString "Amount(").length = 7 := by decide +kernel
theorem ln3 : (Str.ofString ", ").length = 2 := by decide +kernel
theorem ln4 : (Str.ofString ")").length = 1 := by decide +kernel
theorem lnL : sizeLine = 16777216 := by decide +kernel

local macro_rules
  | `(tactic| walk_at "rdv") => `(tactic| first
    | with_reducible refine r_v0 ?_
    | with_reducible refine r_v1 ?_
    | with_reducible refine r_v2 ?_
    | with_reducible refine r_v3 ?_
    | with_reducible refine r_v4 ?_
    | with_reducible refine r_v5 ?_
    | with_reducible refine r_v6 ?_
    | with_reducible refine r_v7 ?_
    | with_reducible refine r_v8 ?_
    | with_reducible refine r_v9 ?_
    | with_reducible refine r_v10 ?_
    | with_reducible refine r_v11 ?_
    | with_reducible refine r_v12 ?_
    | with_reducible refine r_v13 ?_
    | with_reducible refine r_v14 ?_
    | with_reducible refine r_v15 ?_
    | with_reducible refine r_v16 ?_
    | with_reducible refine r_v17 ?_
    | with_reducible refine r_v18 ?_
    | with_reducible refine r_v19 ?_
    | with_reducible refine r_v20 ?_
    | with_reducible refine r_v21 ?_
    | with_reducible refine r_v22 ?_
    | with_reducible refine r_v23 ?_
    | with_reducible refine r_v24 ?_
    | with_reducible refine r_v25 ?_)
local macro_rules
  | `(tactic| walk_at "rds") => `(tactic| first
    | with_reducible refine r_s0 ?_
    | with_reducible refine r_s1 ?_
    | with_reducible refine r_s2 ?_
    | with_reducible refine r_s3 ?_
    | with_reducible refine r_s4 ?_
    | with_reducible refine r_s5 ?_
    | with_reducible refine r_s6 ?_
    | with_reducible refine r_s7 ?_
    | with_reducible refine r_s8 ?_
    | with_reducible refine r_s9 ?_
    | with_reducible refine r_s10 ?_
    | with_reducible refine r_s11 ?_
    | with_reducible refine r_s12 ?_
    | with_reducible refine r_s13 ?_
    | with_reducible refine r_s14 ?_
    | with_reducible refine r_s15 ?_
    | with_reducible refine r_s16 ?_
    | with_reducible refine r_s17 ?_
    | with_reducible refine r_s18 ?_
    | with_reducible refine r_s19 ?_
    | with_reducible refine r_s20 ?_
    | with_reducible refine r_s21 ?_
    | with_reducible refine r_s22 ?_
    | with_reducible refine r_s23 ?_
    | with_reducible refine r_s24 ?_
    | with_reducible refine r_s25 ?_)
local macro_rules
  | `(tactic| walk_at "rd") => `(tactic| first
    | with_reducible refine r_seq ?_
    | with_reducible refine r_asg ?_
    | with_reducible refine r_ret ?_
    | with_reducible refine r_drop ?_
    | with_reducible refine r_next ?_
    | with_reducible refine r_ifS ?_
    | with_reducible refine r_par ?_
    | ((with_reducible refine r_parAt ?_); dsimp only [List.set])
    | walk_at "rdv"
    | with_reducible refine r_c ?_
    | with_reducible refine r_op ?_
    | with_reducible refine r_un ?_
    | with_reducible refine r_test ?_
    | with_reducible refine r_tB ?_
    | with_reducible refine r_and ?_
    | with_reducible refine r_or ?_
    | with_reducible refine r_not ?_
    | with_reducible refine r_andV ?_
    | with_reducible refine r_orV ?_
    | with_reducible refine r_notV ?_
    | with_reducible refine r_if ?_
    | with_reducible refine iteT ?_
    | with_reducible refine r_nT ?_
    | with_reducible refine r_nF ?_
    | with_reducible refine iteF ?_
    | with_reducible refine r_CB ?_
    | with_reducible refine r_nil ?_
    | with_reducible refine r_cons ?_
    | with_reducible refine r_tup ?_
    | with_reducible refine r_lst ?_
    | (with_reducible refine r_I0 ?_)
    | (with_reducible refine r_U ?_)
    | with_reducible refine r_eqI ?_
    | with_reducible refine r_neI ?_
    | with_reducible refine r_eqS ?_
    | with_reducible refine r_neS ?_
    | with_reducible refine r_gcd ?_
    | with_reducible refine r_abs ?_
    | with_reducible refine r_max ?_
    | with_reducible refine r_min ?_
    | with_reducible refine r_int ?_
    | with_reducible refine r_intB ?_
    | with_reducible refine r_reprB ?_
    | with_reducible refine q_int ?_
    | with_reducible refine q_intB ?_
    | with_reducible refine q_1 ?_
    | with_reducible refine r_for ?_
    | with_reducible refine r_rng1 ?_
    | with_reducible refine r_itl ?_
    | with_reducible refine r_zip ?_
    | with_reducible refine r_lc ?_
    | with_reducible refine q_2 ?_
    | refine q_len (.inl (.inl (by assumption))) ?_
    | refine r_fld ?_
    | with_reducible refine r_prop ?_
    | with_reducible refine r_call ?_
    | with_reducible refine r_meth ?_
    | with_reducible refine r_make ?_
    | walk_at "rds"
    | with_reducible refine r_gnil ?_
    | with_reducible refine r_gcons ?_
    | with_reducible refine r_gsub ?_
    | with_reducible refine r_fmt ?_
    | with_reducible refine r_js0 ?_
    | with_reducible refine r_js ?_
    | with_reducible refine r_fieldS ?_
    | with_reducible refine r_blV ?_
    | ((with_reducible refine r_I ?sd ?_); (case sd => walk_at "sd"))
    | dsimp only [L2.wipe, List.set])
local macro_rules
  | `(tactic| walk_at "sd") => `(tactic| first
    | assumption
    | (show (0 : Int) < _; decide)
    | (show (0 : Int) < _; omega)
    | (refine ⟨?_, ?_⟩ <;> first | decide | omega))
local macro_rules
  | `(tactic| walk_at "st") => `(tactic| simp only [L2.cxOf, L2.start, List.map_cons, List.map_nil, List.length_cons, List.length_nil, Nat.reduceAdd, Nat.reduceSub, List.replicate_succ, List.replicate_zero, List.cons_append, List.nil_append, Nat.sub_self, Nat.add_one_sub_one, List.replicate])

local macro_rules
  | `(tactic| walk_at "rd") => `(tactic| first
    | with_reducible refine use_whole ?_
    | refine r_prA (by assumption) ?_
    | refine r_flA (by assumption) (by walk_at "cA") (by walk_at "nT") ?_
    | refine r_flB (by assumption) (by walk_at "cA") (by walk_at "nB") ?_)
local macro_rules
  | `(tactic| walk_at "cA") => `(tactic| exact Tx.c_Amount (by assumption))
local macro_rules
  | `(tactic| walk_at "nT") => `(tactic| exact Tx.n_Amount_top (by assumption))
local macro_rules
  | `(tactic| walk_at "nB") => `(tactic| exact Tx.n_Amount_bottom (by assumption))
local macro_rules
  | `(tactic| walk_at "len") => `(tactic| (simp only [PySem.Str.length_append, ln0, ln1, ln2, ln3, ln4, lnL]; omega))

section
variable {P : Program} {w : World} {K : PySem.W.Frag} {mg : Str → Option Value} {base : Heap}
theorem sc_is_whole : FnScope ["value"] ["value"] (defScope s_is_whole) := ⟨rfl, rfl, rfl, by decide +kernel, rfl, by decide +kernel, by decide +kernel⟩
theorem ok_is_whole {gg : Bool} (T : Tx K mg) : FnG P w K mg base CX0 gg 1 (He.ga K "is_whole") T.fd_is_whole ["value"] (sp_whole) := by
  refine funG T.F_is_whole sc_is_whole (fun vs H Q E h => ?_) (fun cdv A outer s H vs Q E hr hg h => ?_)
  · obtain ⟨i, e, _⟩ := h; rw [e]; rfl
  · obtain ⟨i, rfl, k⟩ := h
    refine ⟨_, (pss_one (ps_ret (pe_and (pe_callB call_isi (by rfl) T.m_isinstance (by decide +kernel) (pa_cons (pv 0) (pa_cons (pe_bltn (v := .ty "int") (u := .type "int") (by rfl) T.m_int (by decide +kernel) rfl) pa_nil))) (pe_one (pe_not (pe_callB call_isi (by rfl) T.m_isinstance (by decide +kernel) (pa_cons (pv 0) (pa_cons (pe_bltn (v := .ty "bool") (u := .type "bool") (by rfl) T.m_bool (by decide +kernel) rfl) pa_nil)))))))), ?_⟩
    walk_at "st"
    repeat walk_at "rd"
    refine r_isi (b := true) ty_int (.ty _) (kit_ty (by decide +kernel)) ?_
    repeat walk_at "rd"
    refine r_isi (b := false) ty_int (.ty _) (kit_ty (by decide +kernel)) ?_
    repeat walk_at "rd"
    exact k
local macro_rules
  | `(tactic| walk_at "init") => `(tactic| repeat walk_at "rd")
local macro_rules
  | `(tactic| walk_at "init2") => `(tactic| (repeat walk_at "rd"); refine r_fieldAt (by assumption) (by walk_at "cA") (by walk_at "nT") (by show 0 < 1000; decide) ?_; (repeat walk_at "rd"))
theorem sc_AmountU_initU : FnScope ["self", "top", "bottom", "common"] ["self", "top", "bottom"] (defScope s_AmountU_initU) := ⟨rfl, rfl, rfl, by decide +kernel, rfl, by decide +kernel, by decide +kernel⟩
theorem ok_AmountU_initU {gg : Bool} (T : Tx K mg) : FnG P w K mg base CX0 gg 2 (He.ma K (He.ga K "Amount") "__init__") T.fd_AmountU_initU ["self", "top", "bottom"] (sp_init K) := by
  refine funG T.F_AmountU_initU sc_AmountU_initU (fun vs H Q E h => ?_) (fun cdv A outer s H vs Q E hr hg h => ?_)
  · obtain ⟨p, dx, t, b, e, _⟩ := h; rw [e]; rfl
  · obtain ⟨p, dx, t, b, rfl, hp, hb, hz, k⟩ := h
    refine ⟨_, (pss_cons (ps_if (pt_not (pt_val (pg_call (ok_is_whole T) (hr.mono (by decide)) hg (by rfl) T.g_is_whole T.F_is_whole.kp T.b_is_whole .nil pass0 (pa_cons (pv 1) pa_nil)))) (pss_one ps_never) pss_nil)
    (pss_cons (ps_if (PW.pt (pw_or (pt_not (pt_val (pg_call (ok_is_whole T) (hr.mono (by decide)) hg (by rfl) T.g_is_whole T.F_is_whole.kp T.b_is_whole .nil pass0 (pa_cons (pv 2) pa_nil)))) (pw_or1 (pt_cmpR op_eq (pv 2) pe_int (nomark _))))) (pss_one ps_never) pss_nil)
    (pss_cons (ps_set (i := 3) sc_AmountU_initU.nd rfl (by first | exact Or.inl rfl | exact Or.inr rfl) (pe_callBfun cr_gcd (by rfl) T.g_gcd (pa_cons (pv 1) (pa_cons (pv 2) pa_nil))))
    (pss_cons (ps_if (pt_cmpR op_lt (pv 2) pe_int (nomark _)) (pss_one (ps_set (i := 3) sc_AmountU_initU.nd rfl (by first | exact Or.inl rfl | exact Or.inr rfl) (pe_un un_neg (pv 3)))) pss_nil)
    (pss_cons (ps_fld (pv 0) (pe_op op_fdivS (pv 1) (pv 3)) rfl)
    (pss_one (ps_fld (pv 0) (pe_op op_fdivS (pv 2) (pv 3)) rfl))))))), ?_⟩
    walk_at "st"
    repeat walk_at "rd"
    refine r_dec (fun e => absurd e hb) (fun _ => ?_)
    repeat walk_at "rd"
    have gz : ((Nat.gcd t.natAbs b.natAbs : Nat) : Int) ≠ 0 := by
      have h1 : 0 < Nat.gcd t.natAbs b.natAbs := Nat.gcd_pos_of_pos_right _ (by omega)
      omega
    have gs : Sz 8000 ((Nat.gcd t.natAbs b.natAbs : Nat) : Int) := hz.le (by
      have := Nat.le_of_dvd (by omega) (Nat.gcd_dvd_right t.natAbs b.natAbs)
      simpa using this)
    have gn := gs.neg
    refine r_dec (fun hneg => ?_) (fun hneg => ?_)
    · walk_at "init"
      refine r_I ⟨by omega, gn.log (by decide) (by decide)⟩ ?_
      walk_at "init2"
      refine r_I ⟨by omega, gn.log (by decide) (by decide)⟩ ?_
      repeat walk_at "rd"
      refine ⟨_, _, _, _, rfl, upd_same, Tx.c_Amount T, Tx.n_Amount_bottom T, Nat.lt_of_le_of_lt (length_putF _ _ []) (by decide), ?_⟩
      refine k _ (fun c o hc ec => ?_) (upd_same.trans ?_)
      · rw [upd_ne hc, upd_ne hc]; exact ec
      · unfold amtF low gd; rw [if_pos hneg]
    · walk_at "init"
      refine r_I ⟨gz, gs.log (by decide) (by decide)⟩ ?_
      walk_at "init2"
      refine r_I ⟨gz, gs.log (by decide) (by decide)⟩ ?_
      repeat walk_at "rd"
      refine ⟨_, _, _, _, rfl, upd_same, Tx.c_Amount T, Tx.n_Amount_bottom T, Nat.lt_of_le_of_lt (length_putF _ _ []) (by decide), ?_⟩
      refine k _ (fun c o hc ec => ?_) (upd_same.trans ?_)
      · rw [upd_ne hc, upd_ne hc]; exact ec
      · unfold amtF low gd; rw [if_neg hneg]
theorem sc_Amount_top : FnScope ["self"] ["self"] (defScope s_Amount_top) := ⟨rfl, rfl, rfl, by decide +kernel, rfl, by decide +kernel, by decide +kernel⟩
theorem ok_Amount_top {gg : Bool} (T : Tx K mg) : FnG P w K mg base CX0 gg 1 (pget K "Amount" "top") T.fd_Amount_top ["self"] (sp_get K fun t _ => t) := by
  refine funG T.F_Amount_top sc_Amount_top (fun vs H Q E h => ?_) (fun cdv A outer s H vs Q E hr hg h => ?_)
  · obtain ⟨a, t, b, e, _⟩ := h; rw [e]; rfl
  · obtain ⟨a, t, b, rfl, ha, k⟩ := h
    refine ⟨_, (pss_one (ps_ret (pe_fld (pv 0) rfl))), ?_⟩
    walk_at "st"
    repeat walk_at "rd"
    exact k
theorem sc_Amount_bottom : FnScope ["self"] ["self"] (defScope s_Amount_bottom) := ⟨rfl, rfl, rfl, by decide +kernel, rfl, by decide +kernel, by decide +kernel⟩
theorem ok_Amount_bottom {gg : Bool} (T : Tx K mg) : FnG P w K mg base CX0 gg 1 (pget K "Amount" "bottom") T.fd_Amount_bottom ["self"] (sp_get K fun _ b => b) := by
  refine funG T.F_Amount_bottom sc_Amount_bottom (fun vs H Q E h => ?_) (fun cdv A outer s H vs Q E hr hg h => ?_)
  · obtain ⟨a, t, b, e, _⟩ := h; rw [e]; rfl
  · obtain ⟨a, t, b, rfl, ha, k⟩ := h
    refine ⟨_, (pss_one (ps_ret (pe_fld (pv 0) rfl))), ?_⟩
    walk_at "st"
    repeat walk_at "rd"
    exact k
theorem sc_Amount_sign : FnScope ["self"] ["self"] (defScope s_Amount_sign) := ⟨rfl, rfl, rfl, by decide +kernel, rfl, by decide +kernel, by decide +kernel⟩
theorem ok_Amount_sign {gg : Bool} (T : Tx K mg) : FnG P w K mg base CX0 gg 1 (pget K "Amount" "sign") T.fd_Amount_sign ["self"] (sp_get K fun t _ => sgn t) := by
  refine funG T.F_Amount_sign sc_Amount_sign (fun vs H Q E h => ?_) (fun cdv A outer s H vs Q E hr hg h => ?_)
  · obtain ⟨a, t, b, e, _⟩ := h; rw [e]; rfl
  · obtain ⟨a, t, b, rfl, ha, k⟩ := h
    refine ⟨_, (pss_cons (ps_if (pt_cmpR op_eq (pe_fld (pv 0) rfl) pe_int (nomark _)) (pss_one (ps_ret pe_int)) pss_nil)
    (pss_one (ps_ret (pe_ifExp (pt_cmpR op_gt (pe_fld (pv 0) rfl) pe_int (nomark _)) pe_int (pe_un un_neg pe_int))))), ?_⟩
    walk_at "st"
    simp only [sgn] at k
    repeat walk_at "rd"
    refine r_dec (fun e => ?_) (fun e => ?_)
    · rw [if_pos e] at k
      repeat walk_at "rd"
      exact k
    · rw [if_neg e] at k
      repeat walk_at "rd"
      refine r_dec (fun e2 => ?_) (fun e2 => ?_)
      · rw [if_pos e2] at k
        repeat walk_at "rd"
        exact k
      · rw [if_neg e2] at k
        repeat walk_at "rd"
        exact k
theorem sc_amount_of : FnScope ["value"] ["value"] (defScope s_amount_of) := ⟨rfl, rfl, rfl, by decide +kernel, rfl, by decide +kernel, by decide +kernel⟩
theorem ok_amount_of {gg : Bool} (T : Tx K mg) : FnG P w K mg base CX0 gg 4 (He.ga K "amount_of") T.fd_amount_of ["value"] (sp_of K) := by
  refine funG T.F_amount_of sc_amount_of (fun vs H Q E h => ?_) (fun cdv A outer s H vs Q E hr hg h => ?_)
  · obtain ⟨v, t, b, e, _⟩ := h; rw [e]; rfl
  · obtain ⟨v, t, b, rfl, hv, k⟩ := h
    refine ⟨_, (pss_one (ps_ret (pe_ifExp (pt_val (pe_callB call_isi (by rfl) T.m_isinstance (by decide +kernel) (pa_cons (pv 0) (pa_cons (pe_glob (v := .ref (He.ga K "Amount")) (by rfl) T.g_Amount rfl) pa_nil)))) (pv 0) (pg_make T.k_Amount (ok_AmountU_initU T) (hr.mono (by decide)) hg (by rfl) T.g_Amount T.b_AmountU_initU_1.choose_spec.2 T.b_AmountU_initU_1.choose_spec.1 pass0 (pa_cons (pv 0) pa_nil))))), ?_⟩
    walk_at "st"
    repeat walk_at "rd"
    rcases hv with ⟨a, rfl, ha⟩ | ⟨rfl, rfl⟩
    · obtain ⟨dx, ea⟩ := id ha
      refine r_isi (b := true) (ty_own ea T.c_Amount T.i_Amount) (.own _) kit_self ?_
      repeat walk_at "rd"
      exact k a H (fun _ _ e => e) ha
    · refine r_isi (b := false) ty_int (.own _) T.kt_int_Amount ?_
      repeat walk_at "rd"
      refine use_make rfl (by decide) (by unfold Sz; decide +kernel) (fun a H' s hn h => ?_)
      rw [low_one] at h
      exact k a H' s h
theorem sc_AmountU_addU : FnScope ["self", "other"] ["self", "other"] (defScope s_AmountU_addU) := ⟨rfl, rfl, rfl, by decide +kernel, rfl, by decide +kernel, by decide +kernel⟩
theorem ok_AmountU_addU {gg : Bool} (T : Tx K mg) : FnG P w K mg base CX0 gg 5 (He.ma K (He.ga K "Amount") "__add__") T.fd_AmountU_addU ["self", "other"] (sp_op2 K (fun _ _ _ _ => True) (fun t b t2 b2 => t * b2 + t2 * b) (fun _ b _ b2 => b * b2)) := by
  refine funG T.F_AmountU_addU sc_AmountU_addU (fun vs H Q E h => ?_) (fun cdv A outer s H vs Q E hr hg h => ?_)
  · obtain ⟨a, v, t, b, t2, b2, e, _⟩ := h; rw [e]; rfl
  · obtain ⟨a, v, t, b, t2, b2, rfl, ha, hv, ⟨z1, z2, z3, z4⟩, h1, h2, _, k⟩ := h
    refine ⟨_, (pss_cons (ps_set (i := 1) sc_AmountU_addU.nd rfl (by first | exact Or.inl rfl | exact Or.inr rfl) (pg_call (ok_amount_of T) (hr.mono (by decide)) hg (by rfl) T.g_amount_of T.F_amount_of.kp T.b_amount_of .nil pass0 (pa_cons (pv 1) pa_nil)))
    (pss_one (ps_ret (pg_make T.k_Amount (ok_AmountU_initU T) (hr.mono (by decide)) hg (by rfl) T.g_Amount T.b_AmountU_initU .nil pass0 (pa_cons (pe_op op_add (pe_op op_mulW (pe_fld (pv 0) rfl) (pg_prop (pv 1) T.c_Amount T.p_Amount_bottom (ok_Amount_bottom T) (hr.mono (by decide)) hg T.b_Amount_bottom .nil pass0 rfl)) (pe_op op_mulW (pg_prop (pv 1) T.c_Amount T.p_Amount_top (ok_Amount_top T) (hr.mono (by decide)) hg T.b_Amount_top .nil pass0 rfl) (pe_fld (pv 0) rfl))) (pa_cons (pe_op op_mulW (pe_fld (pv 0) rfl) (pg_prop (pv 1) T.c_Amount T.p_Amount_bottom (ok_Amount_bottom T) (hr.mono (by decide)) hg T.b_Amount_bottom .nil pass0 rfl)) pa_nil)))))), ?_⟩
    walk_at "st"
    repeat walk_at "rd"
    refine use_of hv (fun c H1 s1 hc => ?_)
    have ha := ha.same s1
    repeat walk_at "rd"
    refine r_I (Sz.cm z1 z4 (by decide) (by decide) (by decide)) ?_
    repeat walk_at "rd"
    refine r_I (Sz.cm z3 z2 (by decide) (by decide) (by decide)) ?_
    repeat walk_at "rd"
    refine r_I (Sz.cm z2 z4 (by decide) (by decide) (by decide)) ?_
    repeat walk_at "rd"
    refine use_make rfl (Int.mul_ne_zero h1 h2) ((z2.mul z4).mono (by decide)) (fun p H2 s2 hn h => ?_)
    exact k p H2 (s1.trans s2) h
theorem sc_AmountU_subU : FnScope ["self", "other"] ["self", "other"] (defScope s_AmountU_subU) := ⟨rfl, rfl, rfl, by decide +kernel, rfl, by decide +kernel, by decide +kernel⟩
theorem ok_AmountU_subU {gg : Bool} (T : Tx K mg) : FnG P w K mg base CX0 gg 5 (He.ma K (He.ga K "Amount") "__sub__") T.fd_AmountU_subU ["self", "other"] (sp_op2 K (fun _ _ t2 _ => True) (fun t b t2 b2 => t * b2 - t2 * b) (fun t b t2 b2 => b * b2)) := by
  refine funG T.F_AmountU_subU sc_AmountU_subU (fun vs H Q E h => ?_) (fun cdv A outer s H vs Q E hr hg h => ?_)
  · obtain ⟨a, v, t, b, t2, b2, e, _⟩ := h; rw [e]; rfl
  · obtain ⟨a, v, t, b, t2, b2, rfl, ha, hv, ⟨z1, z2, z3, z4⟩, h1, h2, h3, k⟩ := h
    refine ⟨_, (pss_cons (ps_set (i := 1) sc_AmountU_subU.nd rfl (by first | exact Or.inl rfl | exact Or.inr rfl) (pg_call (ok_amount_of T) (hr.mono (by decide)) hg (by rfl) T.g_amount_of T.F_amount_of.kp T.b_amount_of .nil pass0 (pa_cons (pv 1) pa_nil)))
    (pss_one (ps_ret (pg_make T.k_Amount (ok_AmountU_initU T) (hr.mono (by decide)) hg (by rfl) T.g_Amount T.b_AmountU_initU .nil pass0 (pa_cons (pe_op op_sub (pe_op op_mulW (pe_fld (pv 0) rfl) (pg_prop (pv 1) T.c_Amount T.p_Amount_bottom (ok_Amount_bottom T) (hr.mono (by decide)) hg T.b_Amount_bottom .nil pass0 rfl)) (pe_op op_mulW (pg_prop (pv 1) T.c_Amount T.p_Amount_top (ok_Amount_top T) (hr.mono (by decide)) hg T.b_Amount_top .nil pass0 rfl) (pe_fld (pv 0) rfl))) (pa_cons (pe_op op_mulW (pe_fld (pv 0) rfl) (pg_prop (pv 1) T.c_Amount T.p_Amount_bottom (ok_Amount_bottom T) (hr.mono (by decide)) hg T.b_Amount_bottom .nil pass0 rfl)) pa_nil)))))), ?_⟩
    walk_at "st"
    repeat walk_at "rd"
    refine use_of hv (fun c H1 s1 hc => ?_)
    have ha := ha.same s1
    repeat walk_at "rd"
    refine r_I (Sz.cm z1 z4 (by decide) (by decide) (by decide)) ?_
    repeat walk_at "rd"
    refine r_I (Sz.cm z3 z2 (by decide) (by decide) (by decide)) ?_
    repeat walk_at "rd"
    refine r_I (Sz.cm z2 z4 (by decide) (by decide) (by decide)) ?_
    repeat walk_at "rd"
    refine use_make rfl (Int.mul_ne_zero h1 h2) ((z2.mul z4).mono (by decide)) (fun p H2 s2 hn h => ?_)
    exact k p H2 (s1.trans s2) h
theorem sc_AmountU_mulU : FnScope ["self", "other"] ["self", "other"] (defScope s_AmountU_mulU) := ⟨rfl, rfl, rfl, by decide +kernel, rfl, by decide +kernel, by decide +kernel⟩
theorem ok_AmountU_mulU {gg : Bool} (T : Tx K mg) : FnG P w K mg base CX0 gg 5 (He.ma K (He.ga K "Amount") "__mul__") T.fd_AmountU_mulU ["self", "other"] (sp_op2 K (fun _ _ t2 _ => True) (fun t b t2 b2 => t * t2) (fun t b t2 b2 => b * b2)) := by
  refine funG T.F_AmountU_mulU sc_AmountU_mulU (fun vs H Q E h => ?_) (fun cdv A outer s H vs Q E hr hg h => ?_)
  · obtain ⟨a, v, t, b, t2, b2, e, _⟩ := h; rw [e]; rfl
  · obtain ⟨a, v, t, b, t2, b2, rfl, ha, hv, ⟨z1, z2, z3, z4⟩, h1, h2, h3, k⟩ := h
    refine ⟨_, (pss_cons (ps_set (i := 1) sc_AmountU_mulU.nd rfl (by first | exact Or.inl rfl | exact Or.inr rfl) (pg_call (ok_amount_of T) (hr.mono (by decide)) hg (by rfl) T.g_amount_of T.F_amount_of.kp T.b_amount_of .nil pass0 (pa_cons (pv 1) pa_nil)))
    (pss_one (ps_ret (pg_make T.k_Amount (ok_AmountU_initU T) (hr.mono (by decide)) hg (by rfl) T.g_Amount T.b_AmountU_initU .nil pass0 (pa_cons (pe_op op_mulW (pe_fld (pv 0) rfl) (pg_prop (pv 1) T.c_Amount T.p_Amount_top (ok_Amount_top T) (hr.mono (by decide)) hg T.b_Amount_top .nil pass0 rfl)) (pa_cons (pe_op op_mulW (pe_fld (pv 0) rfl) (pg_prop (pv 1) T.c_Amount T.p_Amount_bottom (ok_Amount_bottom T) (hr.mono (by decide)) hg T.b_Amount_bottom .nil pass0 rfl)) pa_nil)))))), ?_⟩
    walk_at "st"
    repeat walk_at "rd"
    refine use_of hv (fun c H1 s1 hc => ?_)
    have ha := ha.same s1
    repeat walk_at "rd"
    refine r_I (Sz.cm z1 z3 (by decide) (by decide) (by decide)) ?_
    repeat walk_at "rd"
    refine r_I (Sz.cm z2 z4 (by decide) (by decide) (by decide)) ?_
    repeat walk_at "rd"
    refine use_make rfl (Int.mul_ne_zero h1 h2) ((z2.mul z4).mono (by decide)) (fun p H2 s2 hn h => ?_)
    exact k p H2 (s1.trans s2) h
theorem sc_Amount_over : FnScope ["self", "divisor", "other"] ["self", "divisor"] (defScope s_Amount_over) := ⟨rfl, rfl, rfl, by decide +kernel, rfl, by decide +kernel, by decide +kernel⟩
theorem ok_Amount_over {gg : Bool} (T : Tx K mg) : FnG P w K mg base CX0 gg 5 (He.ma K (He.ga K "Amount") "over") T.fd_Amount_over ["self", "divisor"] (sp_op2 K (fun _ _ t2 _ => t2 ≠ 0) (fun t b t2 b2 => t * b2) (fun t b t2 b2 => b * t2)) := by
  refine funG T.F_Amount_over sc_Amount_over (fun vs H Q E h => ?_) (fun cdv A outer s H vs Q E hr hg h => ?_)
  · obtain ⟨a, v, t, b, t2, b2, e, _⟩ := h; rw [e]; rfl
  · obtain ⟨a, v, t, b, t2, b2, rfl, ha, hv, ⟨z1, z2, z3, z4⟩, h1, h2, h3, k⟩ := h
    refine ⟨_, (pss_cons (ps_set (i := 2) sc_Amount_over.nd rfl (by first | exact Or.inl rfl | exact Or.inr rfl) (pg_call (ok_amount_of T) (hr.mono (by decide)) hg (by rfl) T.g_amount_of T.F_amount_of.kp T.b_amount_of .nil pass0 (pa_cons (pv 1) pa_nil)))
    (pss_cons (ps_if (pt_cmpR op_eq (pg_prop (pv 2) T.c_Amount T.p_Amount_top (ok_Amount_top T) (hr.mono (by decide)) hg T.b_Amount_top .nil pass0 rfl) pe_int (nomark _)) (pss_one ps_never) pss_nil)
    (pss_one (ps_ret (pg_make T.k_Amount (ok_AmountU_initU T) (hr.mono (by decide)) hg (by rfl) T.g_Amount T.b_AmountU_initU .nil pass0 (pa_cons (pe_op op_mulW (pe_fld (pv 0) rfl) (pg_prop (pv 2) T.c_Amount T.p_Amount_bottom (ok_Amount_bottom T) (hr.mono (by decide)) hg T.b_Amount_bottom .nil pass0 rfl)) (pa_cons (pe_op op_mulW (pe_fld (pv 0) rfl) (pg_prop (pv 2) T.c_Amount T.p_Amount_top (ok_Amount_top T) (hr.mono (by decide)) hg T.b_Amount_top .nil pass0 rfl)) pa_nil))))))), ?_⟩
    walk_at "st"
    repeat walk_at "rd"
    refine use_of hv (fun c H1 s1 hc => ?_)
    have ha := ha.same s1
    repeat walk_at "rd"
    refine r_dec (fun e => absurd e h3) (fun _ => ?_)
    repeat walk_at "rd"
    refine r_I (Sz.cm z1 z4 (by decide) (by decide) (by decide)) ?_
    repeat walk_at "rd"
    refine r_I (Sz.cm z2 z3 (by decide) (by decide) (by decide)) ?_
    repeat walk_at "rd"
    refine use_make rfl (Int.mul_ne_zero h1 h3) ((z2.mul z3).mono (by decide)) (fun p H2 s2 hn h => ?_)
    exact k p H2 (s1.trans s2) h
theorem sc_AmountU_negU : FnScope ["self"] ["self"] (defScope s_AmountU_negU) := ⟨rfl, rfl, rfl, by decide +kernel, rfl, by decide +kernel, by decide +kernel⟩
theorem ok_AmountU_negU {gg : Bool} (T : Tx K mg) : FnG P w K mg base CX0 gg 4 (He.ma K (He.ga K "Amount") "__neg__") T.fd_AmountU_negU ["self"] (sp_neg K) := by
  refine funG T.F_AmountU_negU sc_AmountU_negU (fun vs H Q E h => ?_) (fun cdv A outer s H vs Q E hr hg h => ?_)
  · obtain ⟨a, t, b, e, _⟩ := h; rw [e]; rfl
  · obtain ⟨a, t, b, rfl, ha, hz, hb, k⟩ := h
    refine ⟨_, (pss_one (ps_ret (pg_make T.k_Amount (ok_AmountU_initU T) (hr.mono (by decide)) hg (by rfl) T.g_Amount T.b_AmountU_initU .nil pass0 (pa_cons (pe_un un_neg (pe_fld (pv 0) rfl)) (pa_cons (pe_fld (pv 0) rfl) pa_nil))))), ?_⟩
    walk_at "st"
    repeat walk_at "rd"
    exact use_make rfl hb hz (fun p H2 s2 hn h => k p H2 s2 h)
theorem sc_Amount_below : FnScope ["self", "other"] ["self", "other"] (defScope s_Amount_below) := ⟨rfl, rfl, rfl, by decide +kernel, rfl, by decide +kernel, by decide +kernel⟩
theorem ok_Amount_below {gg : Bool} (T : Tx K mg) : FnG P w K mg base CX0 gg 5 (He.ma K (He.ga K "Amount") "below") T.fd_Amount_below ["self", "other"] (sp_below K) := by
  refine funG T.F_Amount_below sc_Amount_below (fun vs H Q E h => ?_) (fun cdv A outer s H vs Q E hr hg h => ?_)
  · obtain ⟨a, v, t, b, t2, b2, e, _⟩ := h; rw [e]; rfl
  · obtain ⟨a, v, t, b, t2, b2, rfl, ha, hv, ⟨z1, z2, z3, z4⟩, k⟩ := h
    refine ⟨_, (pss_cons (ps_set (i := 1) sc_Amount_below.nd rfl (by first | exact Or.inl rfl | exact Or.inr rfl) (pg_call (ok_amount_of T) (hr.mono (by decide)) hg (by rfl) T.g_amount_of T.F_amount_of.kp T.b_amount_of .nil pass0 (pa_cons (pv 1) pa_nil)))
    (pss_one (ps_ret (pe_cmpR op_lt (pe_op op_mulW (pe_fld (pv 0) rfl) (pg_prop (pv 1) T.c_Amount T.p_Amount_bottom (ok_Amount_bottom T) (hr.mono (by decide)) hg T.b_Amount_bottom .nil pass0 rfl)) (pe_op op_mulW (pg_prop (pv 1) T.c_Amount T.p_Amount_top (ok_Amount_top T) (hr.mono (by decide)) hg T.b_Amount_top .nil pass0 rfl) (pe_fld (pv 0) rfl)) (nomark _))))), ?_⟩
    walk_at "st"
    repeat walk_at "rd"
    refine use_of hv (fun c H1 s1 hc => ?_)
    have ha := ha.same s1
    repeat walk_at "rd"
    refine r_I (Sz.cm z1 z4 (by decide) (by decide) (by decide)) ?_
    repeat walk_at "rd"
    refine r_I (Sz.cm z3 z2 (by decide) (by decide) (by decide)) ?_
    repeat walk_at "rd"
    exact k H1 s1
theorem sc_AmountU_eqU : FnScope ["self", "other"] ["self", "other"] (defScope s_AmountU_eqU) := ⟨rfl, rfl, rfl, by decide +kernel, rfl, by decide +kernel, by decide +kernel⟩
theorem ok_AmountU_eqU {gg : Bool} (T : Tx K mg) : FnG P w K mg base CX0 gg 1 (He.ma K (He.ga K "Amount") "__eq__") T.fd_AmountU_eqU ["self", "other"] (sp_eq K) := by
  refine funG T.F_AmountU_eqU sc_AmountU_eqU (fun vs H Q E h => ?_) (fun cdv A outer s H vs Q E hr hg h => ?_)
  · obtain ⟨a, t, b, ⟨c, t2, b2, e, _⟩ | ⟨i, e, _⟩⟩ := h <;> (rw [e]; rfl)
  · obtain ⟨a, t, b, ⟨c, t2, b2, rfl, hc, ha, k⟩ | ⟨i, rfl, ha, k⟩⟩ := h
    · refine ⟨_, (pss_one (ps_ret (pe_and (pe_callB call_isi (by rfl) T.m_isinstance (by decide +kernel) (pa_cons (pv 1) (pa_cons (pe_glob (v := .ref (He.ga K "Amount")) (by rfl) T.g_Amount rfl) pa_nil))) (pe_and (pe_cmpR op_eq (pe_fld (pv 0) rfl) (pe_fld (pv 1) rfl) (nomark _)) (pe_one (pe_cmpR op_eq (pe_fld (pv 0) rfl) (pe_fld (pv 1) rfl) (nomark _))))))), ?_⟩
      walk_at "st"
      repeat walk_at "rd"
      obtain ⟨dx, ec⟩ := id hc
      refine r_isi (b := true) (ty_own ec T.c_Amount T.i_Amount) (.own _) kit_self ?_
      repeat walk_at "rd"
      refine r_dec (fun e => ?_) (fun e => ?_)
      · repeat walk_at "rd"
        rw [show decide (b = b2) = decide (t = t2 ∧ b = b2) from decide_eq_decide.mpr ⟨fun h => ⟨e, h⟩, fun h => h.2⟩]
        exact k
      · rw [decide_eq_false (fun h => e h.1)] at k
        exact k
    · refine ⟨_, (pss_one (ps_ret (pe_and (pe_callB call_isi (by rfl) T.m_isinstance (by decide +kernel) (pa_cons (pv 1) (pa_cons (pe_glob (v := .ref (He.ga K "Amount")) (by rfl) T.g_Amount rfl) pa_nil))) (pe_and (pe_cmpR op_eq (pe_fld (pv 0) rfl) (pe_fld (pv 1) rfl) (nomark _)) (pe_one (pe_cmpR op_eq (pe_fld (pv 0) rfl) (pe_fld (pv 1) rfl) (nomark _))))))), ?_⟩
      walk_at "st"
      repeat walk_at "rd"
      refine r_isi (b := false) ty_int (.own _) T.kt_int_Amount ?_
      repeat walk_at "rd"
      exact k
theorem sc_AmountU_strU : FnScope ["self"] ["self"] (defScope s_AmountU_strU) := ⟨rfl, rfl, rfl, by decide +kernel, rfl, by decide +kernel, by decide +kernel⟩
theorem ok_AmountU_strU {gg : Bool} (T : Tx K mg) : FnG P w K mg base CX0 gg 1 (He.ma K (He.ga K "Amount") "__str__") T.fd_AmountU_strU ["self"] (sp_text K amtS) := by
  refine funG T.F_AmountU_strU sc_AmountU_strU (fun vs H Q E h => ?_) (fun cdv A outer s H vs Q E hr hg h => ?_)
  · obtain ⟨a, t, b, e, _⟩ := h; rw [e]; rfl
  · obtain ⟨a, t, b, rfl, ha, z1, z2, k⟩ := h
    refine ⟨_, (pss_cons (ps_if (pt_cmpR op_eq (pe_fld (pv 0) rfl) pe_int (nomark _)) (pss_one (ps_ret (pe_callTy call_str_int (by rfl) T.m_str (by decide +kernel) (pa_cons (pe_fld (pv 0) rfl) pa_nil)))) pss_nil)
    (pss_one (ps_ret (pe_joined (.cons (pe_fmt (pe_fld (pv 0) rfl)) (.cons pe_str (.cons (pe_fmt (pe_fld (pv 0) rfl)) .nil))))))), ?_⟩
    simp only [amtS] at k
    walk_at "st"
    repeat walk_at "rd"
    refine r_dec (fun e => ?_) (fun e => ?_)
    · rw [if_pos e] at k
      repeat walk_at "rd"
      refine ⟨z1.log (by decide) (by decide), ?_⟩
      exact k
    · rw [if_neg e] at k
      have y1 := int_text_len_1921 (z1.log (m := 1920) (by decide) (by decide))
      have y2 := int_text_len_1921 (z2.log (m := 1920) (by decide) (by decide))
      repeat walk_at "rd"
      refine .inr ⟨t, rfl, z1.log (by decide) (by decide), ⟨_, rfl, by walk_at "len", ?_⟩⟩
      repeat walk_at "rd"
      refine ⟨_, rfl, by walk_at "len", ?_⟩
      repeat walk_at "rd"
      refine .inr ⟨b, rfl, z2.log (by decide) (by decide), ⟨_, rfl, by walk_at "len", ?_⟩⟩
      repeat walk_at "rd"
      exact k
theorem sc_AmountU_reprU : FnScope ["self"] ["self"] (defScope s_AmountU_reprU) := ⟨rfl, rfl, rfl, by decide +kernel, rfl, by decide +kernel, by decide +kernel⟩
theorem ok_AmountU_reprU {gg : Bool} (T : Tx K mg) : FnG P w K mg base CX0 gg 1 (He.ma K (He.ga K "Amount") "__repr__") T.fd_AmountU_reprU ["self"] (sp_text K amtR) := by
  refine funG T.F_AmountU_reprU sc_AmountU_reprU (fun vs H Q E h => ?_) (fun cdv A outer s H vs Q E hr hg h => ?_)
  · obtain ⟨a, t, b, e, _⟩ := h; rw [e]; rfl
  · obtain ⟨a, t, b, rfl, ha, z1, z2, k⟩ := h
    refine ⟨_, (pss_one (ps_ret (pe_joined (.cons pe_str (.cons (pe_fmt (pe_fld (pv 0) rfl)) (.cons pe_str (.cons (pe_fmt (pe_fld (pv 0) rfl)) (.cons pe_str .nil)))))))), ?_⟩
    simp only [amtR] at k
    have y1 := int_text_len_1921 (z1.log (m := 1920) (by decide) (by decide))
    have y2 := int_text_len_1921 (z2.log (m := 1920) (by decide) (by decide))
    walk_at "st"
    repeat walk_at "rd"
    refine ⟨_, rfl, by walk_at "len", ?_⟩
    repeat walk_at "rd"
    refine .inr ⟨t, rfl, z1.log (by decide) (by decide), ⟨_, rfl, by walk_at "len", ?_⟩⟩
    repeat walk_at "rd"
    refine ⟨_, rfl, by walk_at "len", ?_⟩
    repeat walk_at "rd"
    refine .inr ⟨b, rfl, z2.log (by decide) (by decide), ⟨_, rfl, by walk_at "len", ?_⟩⟩
    repeat walk_at "rd"
    refine ⟨_, rfl, by walk_at "len", ?_⟩
    repeat walk_at "rd"
    exact k

end
/-! ### what the laws draw with -/
theorem q_par {v w : V} {A : V → V → Prop} (q : A v w) : ∃ v' w', [v, w] = [v', w'] ∧ A v' w' := ⟨v, w, rfl, q⟩
def KeepBut (p : Addr) (H H' : Hp) : Prop := ∀ b o, b ≠ p → H b = some o → H' b = some o
theorem KeepBut.refl {p : Addr} {H : Hp} : KeepBut p H H := fun _ _ _ e => e
theorem KeepBut.trans {p : Addr} {H H1 H2 : Hp} (a : KeepBut p H H1) (b : KeepBut p H1 H2) : KeepBut p H H2 := fun c o n e => b c o n (a c o n e)
theorem KeepBut.of {p : Addr} {H H' : Hp} (s : Same H H') : KeepBut p H H' := fun b o _ e => s b o e
def PotAt (H : Hp) (p : Addr) : Prop := ∃ c0 c1, H p = some (.lst [.int c0, .int c1]) ∧ 0 ≤ c1 ∧ c1 < 2147483648
theorem PotAt.same {H H' : Hp} {p : Addr} (h : PotAt H p) (s : Same H H') : PotAt H' p := let ⟨c0, c1, e, z⟩ := h; ⟨c0, c1, s _ _ e, z⟩
theorem KeepBut.none {p q : Addr} {H H' : Hp} (k : KeepBut p H H') (hp : PotAt H' p) (h : H' q = none) : H q = none := by
  obtain ⟨c0, c1, e, _⟩ := hp
  have hq : q ≠ p := by
    rintro rfl
    rw [e] at h
    cases h
  cases z : H q with
  | none => rfl
  | some o => rw [k q o hq z] at h; cases h
def TupAt (H : Hp) (q : Addr) (t b : Int) : Prop := H q = some (.tup [.int t, .int b])
theorem TupAt.keep {p q : Addr} {H H' : Hp} {t b : Int} (h : TupAt H q t b) (s : KeepBut p H H') (hp : PotAt H p) : TupAt H' q t b := s q _ (fun e => by
  obtain ⟨c0, c1, z, _⟩ := hp
  unfold TupAt at h
  rw [e, z] at h
  cases h) h
theorem TupAt.same {q : Addr} {H H' : Hp} {t b : Int} (h : TupAt H q t b) (s : Same H H') : TupAt H' q t b := s _ _ h
theorem cm_small {i j : Int} (h1 : -18446744073709551616 < i) (h2 : i < 18446744073709551616) (h3 : -18446744073709551616 < j) (h4 : j < 18446744073709551616) : CMulW i j :=
  Sz.cm (a := 64) (b := 64) (by unfold Sz; omega) (by unfold Sz; omega) (by decide) (by decide) (by decide)
def sp_pot (K : PySem.W.Frag) : Sp := fun vs H Q _ => ∃ a, ∃ ns : List Int, ∃ k, vs = [.ref a, .int k] ∧ SqL K H a (ns.map V.int) ∧ 0 ≤ k ∧ k < 1000 ∧ ∀ p H', H p = none → Same H H' → PotAt H' p → Q (.ref p) H'
def sp_digit : Sp := fun vs H Q _ => ∃ p m, vs = [.ref p, .int m] ∧ PotAt H p ∧ 0 < m ∧ m < 1073741824 ∧ ∀ d H', 0 ≤ d → d < m → PotAt H' p → KeepBut p H H' → Q (.int d) H'
def sp_pick : Sp := fun vs H Q _ => ∃ p l xs, vs = [.ref p, .ref l] ∧ PotAt H p ∧ H l = some (.lst xs) ∧ l ≠ p ∧ xs ≠ [] ∧ xs.length < 1000 ∧ ∀ x H', x ∈ xs → PotAt H' p → KeepBut p H H' → Q x H'
def sp_draw : Sp := fun vs H Q _ => ∃ p, vs = [.ref p] ∧ PotAt H p ∧ ∀ i H', Sz 90 i → PotAt H' p → KeepBut p H H' → Q (.int i) H'
def sp_pair : Sp := fun vs H Q _ => ∃ p, vs = [.ref p] ∧ PotAt H p ∧ ∀ q t b H', Sz 90 t → Sz 90 b → b ≠ 0 → H q = none → TupAt H' q t b → PotAt H' p → KeepBut p H H' → Q (.ref q) H'
section
variable {K : PySem.W.Frag} {H : Hp} {Q : VK} {E : XK} {p a : Addr}
theorem use_pot {ns : List Int} {k : Int} (h : SqL K H a (ns.map V.int)) (h0 : 0 ≤ k) (h1 : k < 1000) (q : ∀ p H', H p = none → Same H H' → PotAt H' p → Q (.ref p) H') : sp_pot K ([.ref a, .int k] ++ []) H Q E := ⟨a, ns, k, rfl, h, h0, h1, q⟩
theorem use_digit {m : Int} (h : PotAt H p) (h0 : 0 < m) (h1 : m < 1073741824) (q : ∀ d H', 0 ≤ d → d < m → PotAt H' p → KeepBut p H H' → Q (.int d) H') : sp_digit ([.ref p, .int m] ++ []) H Q E := ⟨p, m, rfl, h, h0, h1, q⟩
theorem use_pick {l : Addr} {xs : List V} (h : PotAt H p) (hl : H l = some (.lst xs)) (hn : l ≠ p) (h0 : xs ≠ []) (h1 : xs.length < 1000) (q : ∀ x H', x ∈ xs → PotAt H' p → KeepBut p H H' → Q x H') : sp_pick ([.ref p, .ref l] ++ []) H Q E := ⟨p, l, xs, rfl, h, hl, hn, h0, h1, q⟩
theorem use_draw (h : PotAt H p) (q : ∀ i H', Sz 90 i → PotAt H' p → KeepBut p H H' → Q (.int i) H') : sp_draw ([.ref p] ++ []) H Q E := ⟨p, rfl, h, q⟩
theorem use_pair (h : PotAt H p) (q : ∀ q t b H', Sz 90 t → Sz 90 b → b ≠ 0 → H q = none → TupAt H' q t b → PotAt H' p → KeepBut p H H' → Q (.ref q) H') : sp_pair ([.ref p] ++ []) H Q E := ⟨p, rfl, h, q⟩
theorem r_setL {l : Addr} {xs : List V} {m : Int} {j : Nat} {v : V} {QH : Hp → Prop} (h : H l = some (.lst xs)) (e : ixN xs.length m = some j) (q : ∀ H2, H2 l = some (.lst (xs.set j v)) → (∀ b, b ≠ l → H2 b = H b) → QH H2) : rSetL (.ref l) (.int m) v H QH := ⟨l, xs, m, j, rfl, rfl, h, e, q _ upd_same fun b hb => upd_ne hb⟩
end
theorem r_bm {K : PySem.W.Frag} {T : String} {r : V → List V → Hp → VK → Prop} {to : TE} {t : TA} {σ : L2.St} {H : Hp} {Q : VK} (q : to σ H fun x H1 => tyV K T x H1 ∧ t σ H1 fun xs H2 => r x xs H2 Q) : tBM K T r to t σ H Q := q
theorem q_list {K : PySem.W.Frag} {p : Addr} {xs : List V} {H : Hp} {A : Prop} (h : H p = some (.lst xs)) (q : A) : tyV K "list" (.ref p) H ∧ A := ⟨.inl ⟨rfl, _, .inl (.inl h)⟩, q⟩
theorem q_itl {K : PySem.W.Frag} {a : Addr} {xs : List V} {H : Hp} {A : Addr → Prop} (h : H a = some (.lst xs)) (q : A a) : ∃ a', V.ref a = .ref a' ∧ (∃ xs, SqL K H a' xs) ∧ A a' := ⟨a, rfl, ⟨xs, .inl (.inl h)⟩, q⟩

local macro_rules
  | `(tactic| walk_at "sd") => `(tactic| first
    | exact cm_small (by omega) (by omega) (by omega) (by omega)
    | (show (0 : Int) ≤ _ ∧ _; decide +kernel))
local macro_rules
  | `(tactic| walk_at "rd") => `(tactic| first
    | with_reducible refine r_bm ?_
    | refine q_list (by assumption) ?_
    | refine q_itl (by assumption) ?_
    | ((with_reducible refine q_par ?_); dsimp only [List.set])
    | with_reducible refine q_par ?_
    | refine r_ixL (.inl (.inl (by assumption))) (by rfl) ?_
    | refine r_ixT (.inl (.inl (by assumption))) (by rfl) ?_)

section
variable {P : Program} {w : World} {K : PySem.W.Frag} {mg : Str → Option Value} {base : Heap}
theorem sc_l_pot : FnScope ["_law_script", "_law_k", "_law_cell"] ["_law_script", "_law_k"] (defScope s_l_pot) := ⟨rfl, rfl, rfl, by decide +kernel, rfl, by decide +kernel, by decide +kernel⟩
theorem ok_l_pot (T : Tx K mg) : FnG P w K mg base CX0 true 1 (He.ga K "_law_pot") T.fd_l_pot ["_law_script", "_law_k"] (sp_pot K) := by
  refine funG T.F_l_pot sc_l_pot (fun vs H Q E h => ?_) (fun cdv A outer s H vs Q E hr hg h => ?_)
  · obtain ⟨a, ns, k, e, _⟩ := h; rw [e]; rfl
  · obtain ⟨a, ns, k, rfl, hs, h0, h1, q⟩ := h
    refine ⟨_, (pss_cons (ps_set (i := 2) sc_l_pot.nd rfl (by first | exact Or.inl rfl | exact Or.inr rfl) (pe_ifExp (pt_cmpR op_lt (pv 1) (pe_callB call_len_seq (by rfl) T.m_len (by decide +kernel) (pa_cons (pv 0) pa_nil)) (nomark _)) (pe_callB call_abs (by rfl) T.m_abs (by decide +kernel) (pa_cons (pe_ix (ix_listK (K' := K)) (pv 0) (pv 1) (fun _ _ => rfl)) pa_nil)) pe_int))
    (pss_one (ps_ret (pe_lst (pa_cons (pe_callB (call_max2 rfl) (by rfl) T.m_max (by decide +kernel) (pa_cons pe_int (pa_cons (pe_op op_sub (pv 2) (pe_op op_pow pe_int pe_int)) pa_nil))) (pa_cons (pe_op op_mod (pe_callTy call_int1 (by rfl) T.m_int (by decide +kernel) (pa_cons (pe_op op_add (pe_op op_add (pe_op op_mulW (pe_op op_mod (pe_callTy call_int1 (by rfl) T.m_int (by decide +kernel) (pa_cons (pv 2) pa_nil)) pe_int) pe_int) (pe_op op_mulW pe_int (pv 1))) pe_int) pa_nil)) pe_int) pa_nil)))))), ?_⟩
    walk_at "st"
    repeat walk_at "rd"
    refine q_len hs ?_
    repeat walk_at "rd"
    refine r_dec (fun e => ?_) (fun e => ?_)
    · repeat walk_at "rd"
      obtain ⟨j, rfl⟩ := Int.eq_ofNat_of_zero_le h0
      rw [List.length_map] at e
      refine r_ixL (v := .int (ns.getD j 0)) hs (atI_nat (by rw [List.getElem?_map, List.getD_eq_getElem?_getD, List.getElem?_eq_getElem (by omega)]; rfl)) ?_
      repeat walk_at "rd"
      refine r_new (by show 2 ≤ 100000; decide) (fun p H2 hp s e2 _ => ?_)
      exact q p H2 hp s ⟨_, _, e2, by omega, by omega⟩
    · repeat walk_at "rd"
      refine r_new (by show 2 ≤ 100000; decide) (fun p H2 hp s e2 _ => ?_)
      exact q p H2 hp s ⟨_, _, e2, by omega, by omega⟩
theorem sc_l_digit : FnScope ["_law_pot_here", "_law_many", "_law_digit_here"] ["_law_pot_here", "_law_many"] (defScope s_l_digit) := ⟨rfl, rfl, rfl, by decide +kernel, rfl, by decide +kernel, by decide +kernel⟩
theorem ok_l_digit (T : Tx K mg) : FnG P w K mg base CX0 true 1 (He.ga K "_law_digit") T.fd_l_digit ["_law_pot_here", "_law_many"] (sp_digit) := by
  refine funG T.F_l_digit sc_l_digit (fun vs H Q E h => ?_) (fun cdv A outer s H vs Q E hr hg h => ?_)
  · obtain ⟨p, m, e, _⟩ := h; rw [e]; rfl
  · obtain ⟨p, m, rfl, ⟨c0, c1, ep, z0, z1⟩, m0, m1, q⟩ := h
    refine ⟨_, (pss_cons (ps_if (pt_cmpR op_gt (pe_ix (ix_listK (K' := K)) (pv 0) pe_int (fun _ _ => rfl)) pe_int (nomark _)) (pss_cons (ps_asg (pe_callB call_divmod (by rfl) T.m_divmod (by decide +kernel) (pa_cons (pe_ix (ix_listK (K' := K)) (pv 0) pe_int (fun _ _ => rfl)) (pa_cons (pv 1) pa_nil))) (pg_tupK (K' := K) (n := 2) (by rfl) (pgs_cons (pg_sub (pv 0) pe_int set_list) (pgs_cons (pg_name (i := 2) sc_l_digit.nd rfl (by first | exact Or.inl rfl | exact Or.inr rfl)) pgs_nil))))
    (pss_one (ps_ret (pv 2)))) pss_nil)
    (pss_cons (ps_asg (pe_op op_mod (pe_callTy call_int1 (by rfl) T.m_int (by decide +kernel) (pa_cons (pe_op op_add (pe_op op_mulW (pe_ix (ix_listK (K' := K)) (pv 0) pe_int (fun _ _ => rfl)) pe_int) pe_int) pa_nil)) pe_int) (pg_sub (pv 0) pe_int set_list))
    (pss_one (ps_ret (pe_op op_mod (pe_callTy call_int1 (by rfl) T.m_int (by decide +kernel) (pa_cons (pe_op op_fdiv (pe_op op_mod (pe_callTy call_int1 (by rfl) T.m_int (by decide +kernel) (pa_cons (pe_op op_mulW (pe_ix (ix_listK (K' := K)) (pv 0) pe_int (fun _ _ => rfl)) (pe_ix (ix_listK (K' := K)) (pv 0) pe_int (fun _ _ => rfl))) pa_nil)) pe_int) pe_int) pa_nil)) (pv 1)))))), ?_⟩
    walk_at "st"
    repeat walk_at "rd"
    refine r_dec (fun e => ?_) (fun e => ?_)
    · repeat walk_at "rd"
      refine ⟨⟨m0, m1⟩, fun r hr0 => ?_⟩
      have np : p ≠ r := ne_of_none ep hr0
      refine r_gtup (.inl (.inl upd_same)) (by rfl) ?_
      repeat walk_at "rd"
      refine r_setL (by rw [upd_ne np]; exact ep) (by rfl) (fun H3 e3 ne3 => ?_)
      have e3 : H3 p = some (.lst [.int (c0 / m), .int c1]) := e3
      repeat walk_at "rd"
      refine q (c0 % m) _ (Int.emod_nonneg _ (by omega)) (Int.emod_lt_of_pos _ m0) ⟨c0 / m, c1, e3, z0, z1⟩ (fun b o hb eb => ?_)
      rw [ne3 b hb, upd_ne (ne_of_none eb hr0)]
      exact eb
    · repeat walk_at "rd"
      refine r_setL ep (by rfl) (fun H3 e3 ne3 => ?_)
      have e3 : H3 p = some (.lst [.int c0, .int ((c1 * 39373 + 12227) % 2147483629)]) := e3
      repeat walk_at "rd"
      refine q _ _ (Int.emod_nonneg _ (by omega)) (Int.emod_lt_of_pos _ m0) ⟨c0, _, e3, by omega, by omega⟩ (fun b o hb eb => ?_)
      rw [ne3 b hb]
      exact eb
theorem sc_l_pick : FnScope ["_law_pot_here", "_law_some"] ["_law_pot_here", "_law_some"] (defScope s_l_pick) := ⟨rfl, rfl, rfl, by decide +kernel, rfl, by decide +kernel, by decide +kernel⟩
theorem ok_l_pick (T : Tx K mg) : FnG P w K mg base CX0 true 2 (He.ga K "_law_pick") T.fd_l_pick ["_law_pot_here", "_law_some"] (sp_pick) := by
  refine funG T.F_l_pick sc_l_pick (fun vs H Q E h => ?_) (fun cdv A outer s H vs Q E hr hg h => ?_)
  · obtain ⟨p, l, xs, e, _⟩ := h; rw [e]; rfl
  · obtain ⟨p, l, xs, rfl, hp, hl, hn, h0, h1, q⟩ := h
    refine ⟨_, (pss_one (ps_ret (pe_ix (ix_listK (K' := K)) (pv 1) (pg_call (ok_l_digit T) (hr.mono (by decide)) hg (by rfl) T.g_l_digit T.F_l_digit.kp T.b_l_digit .nil pass0 (pa_cons (pv 0) (pa_cons (pe_callB call_len_seq (by rfl) T.m_len (by decide +kernel) (pa_cons (pv 1) pa_nil)) pa_nil))) (fun _ _ => rfl)))), ?_⟩
    have hx : 0 < xs.length := List.length_pos_iff.mpr h0
    walk_at "st"
    repeat walk_at "rd"
    refine use_digit hp (by omega) (by omega) (fun d H1 d0 d1 hp1 kp => ?_)
    have hl1 := kp l _ hn hl
    obtain ⟨j, rfl⟩ := Int.eq_ofNat_of_zero_le d0
    repeat walk_at "rd"
    refine r_ixL (.inl (.inl hl1)) (atI_nat (List.getElem?_eq_getElem (by omega))) ?_
    exact q _ _ (List.getElem_mem _) hp1 kp
theorem sc_l_whole : FnScope ["_law_pot_here", "_law_kind", "_law_number", "_law_turn"] ["_law_pot_here"] (defScope s_l_whole) := ⟨rfl, rfl, rfl, by decide +kernel, rfl, by decide +kernel, by decide +kernel⟩
theorem ok_l_whole (T : Tx K mg) : FnG P w K mg base CX0 true 3 (He.ga K "_law_whole") T.fd_l_whole ["_law_pot_here"] (sp_draw) := by
  refine funG T.F_l_whole sc_l_whole (fun vs H Q E h => ?_) (fun cdv A outer s H vs Q E hr hg h => ?_)
  · obtain ⟨p, e, _⟩ := h; rw [e]; rfl
  · obtain ⟨p, rfl, hp, q⟩ := h
    refine ⟨_, (pss_cons (ps_set (i := 1) sc_l_whole.nd rfl (by first | exact Or.inl rfl | exact Or.inr rfl) (pg_call (ok_l_digit T) (hr.mono (by decide)) hg (by rfl) T.g_l_digit T.F_l_digit.kp T.b_l_digit .nil pass0 (pa_cons (pv 0) (pa_cons pe_int pa_nil))))
    (pss_cons (ps_if (pt_cmpR op_lt (pv 1) pe_int (nomark _)) (pss_one (ps_ret (pe_op op_sub (pg_call (ok_l_digit T) (hr.mono (by decide)) hg (by rfl) T.g_l_digit T.F_l_digit.kp T.b_l_digit .nil pass0 (pa_cons (pv 0) (pa_cons pe_int pa_nil))) pe_int))) pss_nil)
    (pss_cons (ps_if (pt_cmpR op_eq (pv 1) pe_int (nomark _)) (pss_one (ps_ret (pe_op op_sub (pg_call (ok_l_digit T) (hr.mono (by decide)) hg (by rfl) T.g_l_digit T.F_l_digit.kp T.b_l_digit .nil pass0 (pa_cons (pv 0) (pa_cons pe_int pa_nil))) pe_int))) pss_nil)
    (pss_cons (ps_set (i := 2) sc_l_whole.nd rfl (by first | exact Or.inl rfl | exact Or.inr rfl) pe_int)
    (pss_cons (ps_for PassesOwn.never (by rfl) (pi_range1 (by rfl) T.m_range (pa_cons (pe_op op_add pe_int (pg_call (ok_l_digit T) (hr.mono (by decide)) hg (by rfl) T.g_l_digit T.F_l_digit.kp T.b_l_digit .nil pass0 (pa_cons (pv 0) (pa_cons pe_int pa_nil)))) pa_nil)) (pg_name (i := 3) sc_l_whole.nd rfl (by first | exact Or.inl rfl | exact Or.inr rfl)) (pss_one (ps_set (i := 2) sc_l_whole.nd rfl (by first | exact Or.inl rfl | exact Or.inr rfl) (pe_op op_add (pe_op op_mulW (pv 2) pe_int) (pg_call (ok_l_digit T) (hr.mono (by decide)) hg (by rfl) T.g_l_digit T.F_l_digit.kp T.b_l_digit .nil pass0 (pa_cons (pv 0) (pa_cons pe_int pa_nil)))))))
    (pss_one (ps_ret (pe_op op_mulW (pv 2) (pg_call (ok_l_pick T) (hr.mono (by decide)) hg (by rfl) T.g_l_pick T.F_l_pick.kp T.b_l_pick .nil pass0 (pa_cons (pv 0) (pa_cons (pe_lst (pa_cons pe_int (pa_cons (pe_un un_neg pe_int) pa_nil))) pa_nil))))))))))), ?_⟩
    walk_at "st"
    repeat walk_at "rd"
    refine use_digit hp (by omega) (by omega) (fun d H1 d0 d1 hp1 k1 => ?_)
    repeat walk_at "rd"
    refine r_dec (fun e => ?_) (fun e => ?_)
    · repeat walk_at "rd"
      refine use_digit hp1 (by omega) (by omega) (fun d2 H2 d20 d21 hp2 k2 => ?_)
      repeat walk_at "rd"
      exact q _ H2 (by unfold Sz; omega) hp2 (k1.trans k2)
    · repeat walk_at "rd"
      refine r_dec (fun e2 => ?_) (fun e2 => ?_)
      · repeat walk_at "rd"
        refine use_digit hp1 (by omega) (by omega) (fun d2 H2 d20 d21 hp2 k2 => ?_)
        repeat walk_at "rd"
        exact q _ H2 (by unfold Sz; omega) hp2 (k1.trans k2)
      · repeat walk_at "rd"
        refine use_digit hp1 (by omega) (by omega) (fun d5 H5 d50 d51 hp5 k5 => ?_)
        repeat walk_at "rd"
        refine ⟨by omega, by omega, ?_⟩
        refine u_range (fun i σ H2 => ∃ N x, σ = [some (V.ref p), some (.int d), some (.int N), x] ∧ 0 ≤ N ∧ N < ((100003 ^ i : Nat) : Int) ∧ PotAt H2 p ∧ KeepBut p H H2) ⟨0, _, rfl, by decide, by decide, hp5, k1.trans k5⟩ ?_ ?_
        · rintro i σ H3 hi ⟨N, x, rfl, n0, n1, hp3, k3⟩
          repeat walk_at "rd"
          have le : ((100003 ^ i : Nat) : Int) ≤ ((100003 ^ 5 : Nat) : Int) := Int.ofNat_le.mpr (Nat.pow_le_pow_right (by decide) (by omega))
          have sN : Sz 85 N := by
            have h2 : ((100003 ^ 5 : Nat) : Int) < ((2 ^ 85 : Nat) : Int) := by decide +kernel
            unfold Sz
            omega
          refine r_I (Sz.cm (b := 17) sN (by unfold Sz; decide) (by decide) (by decide) (by decide)) ?_
          repeat walk_at "rd"
          refine use_digit hp3 (by omega) (by omega) (fun d6 H6 d60 d61 hp6 k6 => ?_)
          repeat walk_at "rd"
          refine ⟨_, _, rfl, by omega, ?_, hp6, k3.trans k6⟩
          rw [Nat.pow_succ, Int.natCast_mul]
          generalize ((100003 ^ i : Nat) : Int) = X at *
          omega
        · rintro σ H3 ⟨N, x, rfl, n0, n1, hp3, k3⟩
          repeat walk_at "rd"
          have le : ((100003 ^ (1 + d5).toNat : Nat) : Int) ≤ ((100003 ^ 5 : Nat) : Int) := Int.ofNat_le.mpr (Nat.pow_le_pow_right (by decide) (by omega))
          have sN : Sz 85 N := by
            have h2 : ((100003 ^ 5 : Nat) : Int) < ((2 ^ 85 : Nat) : Int) := by decide +kernel
            unfold Sz
            omega
          refine r_new (by show 2 ≤ 100000; decide) (fun l H4 hl s4 e4 _ => ?_)
          repeat walk_at "rd"
          refine use_pick (hp3.same s4) e4 (fun e => by
            obtain ⟨c0, c1, z, _⟩ := hp3
            rw [← e, hl] at z
            cases z) (by simp) (by simp) (fun v H6 hv hp6 k6 => ?_)
          have kk : KeepBut p H H6 := (k3.trans (KeepBut.of s4)).trans k6
          rcases List.mem_cons.mp hv with rfl | hv
          · refine r_I (Sz.cm (b := 2) sN (by unfold Sz; decide) (by decide) (by decide) (by decide)) ?_
            exact q _ _ ((sN.mul (b := 2) (by unfold Sz; decide)).mono (by decide)) hp6 kk
          · obtain rfl := List.mem_singleton.mp hv
            refine r_I (Sz.cm (b := 2) sN (by unfold Sz; decide) (by decide) (by decide) (by decide)) ?_
            exact q _ _ ((sN.mul (b := 2) (by unfold Sz; decide)).mono (by decide)) hp6 kk
theorem sc_l_pair : FnScope ["_law_pot_here", "_law_low"] ["_law_pot_here"] (defScope s_l_pair) := ⟨rfl, rfl, rfl, by decide +kernel, rfl, by decide +kernel, by decide +kernel⟩
theorem ok_l_pair (T : Tx K mg) : FnG P w K mg base CX0 true 4 (He.ga K "_law_pair") T.fd_l_pair ["_law_pot_here"] (sp_pair) := by
  refine funG T.F_l_pair sc_l_pair (fun vs H Q E h => ?_) (fun cdv A outer s H vs Q E hr hg h => ?_)
  · obtain ⟨p, e, _⟩ := h; rw [e]; rfl
  · obtain ⟨p, rfl, hp, q⟩ := h
    refine ⟨_, (pss_cons (ps_set (i := 1) sc_l_pair.nd rfl (by first | exact Or.inl rfl | exact Or.inr rfl) (pg_call (ok_l_whole T) (hr.mono (by decide)) hg (by rfl) T.g_l_whole T.F_l_whole.kp T.b_l_whole .nil pass0 (pa_cons (pv 0) pa_nil)))
    (pss_one (ps_ret (pe_tup (pa_cons (pg_call (ok_l_whole T) (hr.mono (by decide)) hg (by rfl) T.g_l_whole T.F_l_whole.kp T.b_l_whole .nil pass0 (pa_cons (pv 0) pa_nil)) (pa_cons (pe_ifExp (pt_cmpR op_ne (pv 1) pe_int (nomark _)) (pv 1) (pe_op op_add pe_int (pg_call (ok_l_digit T) (hr.mono (by decide)) hg (by rfl) T.g_l_digit T.F_l_digit.kp T.b_l_digit .nil pass0 (pa_cons (pv 0) (pa_cons pe_int pa_nil))))) pa_nil)))))), ?_⟩
    walk_at "st"
    repeat walk_at "rd"
    refine use_draw hp (fun b H1 zb hp1 k1 => ?_)
    repeat walk_at "rd"
    refine use_draw hp1 (fun t H2 zt hp2 k2 => ?_)
    repeat walk_at "rd"
    refine r_ndec (fun e => ?_) (fun e => ?_)
    · repeat walk_at "rd"
      refine r_new (by show 2 ≤ 100000; decide) (fun c H3 hc s e3 _ => ?_)
      exact q c t b H3 zt zb e ((k1.trans k2).none hp2 hc) e3 (hp2.same s) ((k1.trans k2).trans (KeepBut.of s))
    · repeat walk_at "rd"
      refine use_digit hp2 (by omega) (by omega) (fun d H3 d0 d1 hp3 k3 => ?_)
      repeat walk_at "rd"
      refine r_new (by show 2 ≤ 100000; decide) (fun c H4 hc s e4 _ => ?_)
      exact q c t _ H4 zt (by unfold Sz; omega) (by omega) (((k1.trans k2).trans k3).none hp3 hc) e4 (hp3.same s) (((k1.trans k2).trans k3).trans (KeepBut.of s))

end
/-! ### what the defs of the law promise -/
theorem abs_nat (t : Int) : (if t < 0 then -t else t) = (t.natAbs : Int) := by split <;> omega
def sp_low : Sp := fun vs H Q _ => ∃ q t b, vs = [.ref q] ∧ TupAt H q t b ∧ b ≠ 0 ∧ Sz 4000 t ∧ Sz 4000 b ∧ ∀ c H', H c = none → Same H H' → TupAt H' c (low t b).1 (low t b).2 → Q (.ref c) H'
def sp_is (K : PySem.W.Frag) : Sp := fun vs H Q _ => ∃ a q t b t' b', vs = [.ref a, .ref q] ∧ AmtAt K H a t b ∧ TupAt H q t' b' ∧ b' ≠ 0 ∧ (Sz 4000 t' ∧ Sz 4000 b') ∧ low t' b' = (t, b) ∧ (Sz 1800 t ∧ Sz 1800 b) ∧ ∀ H', Same H H' → Q (.bl true) H'
def madeT (way : Str) (t b t2 b2 : Int) : Int := if way = "sum" then t * b2 + t2 * b else if way = "gap" then t * b2 - t2 * b else if way = "product" then t * t2 else if way = "part" then t * b2 else -t
def madeB (way : Str) (t b t2 b2 : Int) : Int := if way = "sum" then b * b2 else if way = "gap" then b * b2 else if way = "product" then b * b2 else if way = "part" then b * t2 else b
def sp_made : Sp := fun vs H Q _ => ∃ way q1 q2 t b t2 b2, vs = [.str way, .ref q1, .ref q2] ∧ TupAt H q1 t b ∧ TupAt H q2 t2 b2 ∧ (Sz 1800 t ∧ Sz 1800 b ∧ Sz 1800 t2 ∧ Sz 1800 b2) ∧ ∀ c H', H c = none → Same H H' → TupAt H' c (madeT way t b t2 b2) (madeB way t b t2 b2) → Q (.ref c) H'
def sp_told (K : PySem.W.Frag) : Sp := fun vs H Q _ => ∃ (way : Str) (a : Addr) (v : V) (t b t2 b2 : Int), vs = [.str way, .ref a, v] ∧ AmtAt K H a t b ∧ AmtV K H v t2 b2 ∧ (Sz 1800 t ∧ Sz 1800 b ∧ Sz 1800 t2 ∧ Sz 1800 b2) ∧ b ≠ 0 ∧ b2 ≠ 0 ∧ (way = "part" → t2 ≠ 0) ∧
  ∀ p H', Same H H' → AmtAt K H' p (low (madeT way t b t2 b2) (madeB way t b t2 b2)).1 (low (madeT way t b t2 b2) (madeB way t b t2 b2)).2 → Q (.ref p) H'
def sp_cmp (K : PySem.W.Frag) : Sp := fun vs H Q _ => ∃ a q1 v q2 w t b t' b' u d u' d', vs = [.ref a, .ref q1, v, .ref q2, .bl w] ∧ AmtAt K H a t b ∧ TupAt H q1 t' b' ∧ b' ≠ 0 ∧ low t' b' = (t, b) ∧ TupAt H q2 u' d' ∧ d' ≠ 0 ∧ low u' d' = (u, d) ∧ AmtV K H v u d ∧
  ((w = true ∧ ∃ i, v = .int i) ∨ (w = false ∧ ∃ c, v = .ref c ∧ AmtAt K H c u d)) ∧ (Sz 1800 t ∧ Sz 1800 b ∧ Sz 1800 u ∧ Sz 1800 d) ∧ (Sz 4000 t' ∧ Sz 4000 b' ∧ Sz 4000 u' ∧ Sz 4000 d') ∧ ∀ H', Same H H' → Q (.bl true) H'
theorem use_low {H : Hp} {Q : VK} {E : XK} {q : Addr} {t b u d : Int} (h : TupAt H q t b) (hb : b ≠ 0) (z1 : Sz 4000 t) (z2 : Sz 4000 b) (e : low t b = (u, d)) (k : ∀ c H', H c = none → Same H H' → TupAt H' c u d → Q (.ref c) H') : sp_low ([.ref q] ++ []) H Q E :=
  ⟨q, t, b, rfl, h, hb, z1, z2, fun c H' hc s z => k c H' hc s (by rw [e] at z; exact z)⟩
theorem use_str {K : PySem.W.Frag} {f : Int → Int → Str} {H : Hp} {Q : VK} {E : XK} {a : Addr} {t b : Int} (h : AmtAt K H a t b) (z1 : Sz 1800 t) (z2 : Sz 1800 b) (q : Q (.str (f t b)) H) : rStrOwn (He.ga K "Amount") (sp_text K f) E [.ref a] H Q :=
  r_strOwn h.ins ⟨a, t, b, rfl, h, z1.mono (by decide), z2.mono (by decide), _, rfl, q⟩
theorem r_dec2 {P : Prop} [Decidable P] {ta tb : TE} {σ : L2.St} {H : Hp} {Q : VK} (z : V) (h1 : P → ∀ Q : VK, Q z H → ta σ H Q) (h2 : ¬ P → ∀ Q : VK, Q z H → tb σ H Q) (hq : Q z H) : if decide P = true then ta σ H Q else tb σ H Q := r_dec (fun e => h1 e Q hq) (fun e => h2 e Q hq)
theorem r_andQ {P : Prop} [Decidable P] {tb : TE} {σ : L2.St} {H : Hp} {Q : VK} (z : V) (h1 : P → ∀ Q : VK, Q z H → tb σ H Q) (h2 : ¬ P → z = .bl false) (hq : Q z H) : if decide P = true then tb σ H Q else Q (.bl false) H := r_dec (fun e => h1 e Q hq) (fun e => h2 e ▸ hq)
theorem q_meth {K : PySem.W.Frag} {H : Hp} {a : Addr} {t b : Int} {m : Str} {A : Prop} (h : AmtAt K H a t b) (h1 : ¬ m = "_bottom") (h2 : ¬ m = "_top") (q : A) : ∃ a' dx fs, V.ref a = .ref a' ∧ H a' = some (.ins (He.ga K "Amount") dx fs) ∧ fs.lookup m = none ∧ A := let ⟨dx, e⟩ := h; ⟨a, dx, _, rfl, e, amtF_no t b h1 h2, q⟩
theorem amtS_ok (t b : Int) : Ok8 (amtS t b) := by
  unfold amtS
  split
  · exact ok8_of _
  · exact ((ok8_nil.app (ok8_of _)).app (ok8_of _)).app (ok8_of _)
theorem amtR_ok (t b : Int) : Ok8 (amtR t b) := ((((ok8_nil.app (ok8_of _)).app (ok8_of _)).app (ok8_of _)).app (ok8_of _)).app (ok8_of _)
theorem amtS_len {t b : Int} (h1 : t.natAbs.log2 < 1920) (h2 : b.natAbs.log2 < 1920) : (amtS t b).length ≤ 4000 := by
  have y1 := int_text_len_1921 h1
  have y2 := int_text_len_1921 h2
  unfold amtS
  split
  · omega
  · simp only [PySem.Str.length_append, ln0, ln1]; omega
theorem amtR_len {t b : Int} (h1 : t.natAbs.log2 < 1920) (h2 : b.natAbs.log2 < 1920) : (amtR t b).length ≤ 4000 := by
  have y1 := int_text_len_1921 h1
  have y2 := int_text_len_1921 h2
  unfold amtR
  simp only [PySem.Str.length_append, ln0, ln2, ln3, ln4]; omega
theorem sgn_log (t : Int) : (sgn t).natAbs.log2 < 1920 := by
  unfold sgn
  split
  · decide
  · split <;> decide
def tellD (t b : Int) : PyData := .list [.int t, .int b, .int (sgn t), .str (amtS t b), .str (amtR t b)]
theorem tellD_show {t b : Int} (h1 : t.natAbs.log2 < 1920) (h2 : b.natAbs.log2 < 1920) : (tellD t b).showable = true := by
  simp only [tellD, PyData.showable, PyData.showableAll, decide_eq_true h1, decide_eq_true h2, decide_eq_true (sgn_log t), Bool.and_self]
theorem tellD_len {t b : Int} (h1 : t.natAbs.log2 < 1920) (h2 : b.natAbs.log2 < 1920) : (tellD t b).shown.length ≤ sizeLine := by
  have y1 := int_text_len_1921 h1
  have y2 := int_text_len_1921 h2
  have y3 := int_text_len_1921 (sgn_log t)
  have y4 := (amtS_ok t b).len
  have y5 := (amtR_ok t b).len
  have y6 := amtS_len h1 h2
  have y7 := amtR_len h1 h2
  have e : (tellD t b).shown = listText [Str.ofString (toString t), Str.ofString (toString b), Str.ofString (toString (sgn t)), reprText (amtS t b), reprText (amtR t b)] := by
    simp only [tellD, PyData.shown, PyData.shownAll]
  have y := listText_len_le [Str.ofString (toString t), Str.ofString (toString b), Str.ofString (toString (sgn t)), reprText (amtS t b), reprText (amtR t b)]
  rw [e]
  simp only [List.map_cons, List.map_nil, List.sum_cons, List.sum_nil, List.length_cons, List.length_nil] at y
  rw [lnL]
  omega
theorem bools_len (bs : List Bool) (h : bs.length ≤ 3) : (PyData.list (bs.map PyData.bool)).shown.length ≤ sizeLine := by
  match bs, h with
  | [], _ => decide +kernel
  | [a], _ => cases a <;> decide +kernel
  | [a, b], _ => cases a <;> cases b <;> decide +kernel
  | [a, b, c], _ => cases a <;> cases b <;> cases c <;> decide +kernel

section
variable {P : Program} {w : World} {K : PySem.W.Frag} {mg : Str → Option Value} {base : Heap}
theorem sc_l_lowest : FnScope ["_law_pair_here", "_law_one", "_law_rest"] ["_law_pair_here"] (defScope s_l_lowest) := ⟨rfl, rfl, rfl, by decide +kernel, rfl, by decide +kernel, by decide +kernel⟩
theorem ok_l_lowest (T : Tx K mg) : FnG P w K mg base CX0 true 1 (He.ga K "_law_lowest") T.fd_l_lowest ["_law_pair_here"] (sp_low) := by
  refine funG T.F_l_lowest sc_l_lowest (fun vs H Q E h => ?_) (fun cdv A outer s H vs Q E hr hg h => ?_)
  · obtain ⟨q, t, b, e, _⟩ := h; rw [e]; rfl
  · obtain ⟨q, t, b, rfl, hq, hb, z1, z2, k⟩ := h
    refine ⟨_, (pss_cons (ps_par (i := 1) (j := 2) (by rfl) sc_l_lowest.nd rfl rfl (by decide) rfl rfl (pa_cons (pe_callB call_abs (by rfl) T.m_abs (by decide +kernel) (pa_cons (pe_ix (ix_tupK (K' := K)) (pv 0) pe_int (fun _ _ => rfl)) pa_nil)) (pa_cons (pe_callB call_abs (by rfl) T.m_abs (by decide +kernel) (pa_cons (pe_ix (ix_tupK (K' := K)) (pv 0) pe_int (fun _ _ => rfl)) pa_nil)) pa_nil)) (by rfl))
    (pss_cons (ps_while PassesOwn.never (pt_cmpR op_ne (pv 2) pe_int (nomark _)) (pss_one (ps_par (i := 1) (j := 2) (by rfl) sc_l_lowest.nd rfl rfl (by decide) rfl rfl (pa_cons (pv 2) (pa_cons (pe_op op_mod (pe_callTy call_int1 (by rfl) T.m_int (by decide +kernel) (pa_cons (pv 1) pa_nil)) (pv 2)) pa_nil)) (by rfl))))
    (pss_cons (ps_if (pt_cmpR op_lt (pe_ix (ix_tupK (K' := K)) (pv 0) pe_int (fun _ _ => rfl)) pe_int (nomark _)) (pss_one (ps_set (i := 1) sc_l_lowest.nd rfl (by first | exact Or.inl rfl | exact Or.inr rfl) (pe_un un_neg (pv 1)))) pss_nil)
    (pss_one (ps_ret (pe_tup (pa_cons (pe_op op_fdivS (pe_ix (ix_tupK (K' := K)) (pv 0) pe_int (fun _ _ => rfl)) (pv 1)) (pa_cons (pe_op op_fdivS (pe_ix (ix_tupK (K' := K)) (pv 0) pe_int (fun _ _ => rfl)) (pv 1)) pa_nil)))))))), ?_⟩
    unfold TupAt at hq
    walk_at "st"
    repeat walk_at "rd"
    rw [abs_nat, abs_nat]
    refine r_while ⟨fun m σ H' => ∃ x y : Nat, σ = [some (V.ref q), some (.int x), some (.int y)] ∧ Nat.gcd x y = Nat.gcd t.natAbs b.natAbs ∧ m = y ∧ H' = H, ⟨_, _, _, rfl, rfl, rfl, rfl⟩, ?_⟩
    rintro m σ H' ⟨x, y, rfl, hxy, rfl, rfl⟩
    repeat walk_at "rd"
    refine r_ndec (fun e => ⟨fun σ' H'' => ∃ m', m' < m ∧ ∃ x y : Nat, σ' = [some (V.ref q), some (.int x), some (.int y)] ∧ Nat.gcd x y = Nat.gcd t.natAbs b.natAbs ∧ m' = y ∧ H'' = H', fun _ _ z => z, ?_⟩) (fun e => ?_)
    · repeat walk_at "rd"
      have hy : 0 < m := by omega
      refine ⟨x % m, Nat.mod_lt _ hy, m, x % m, rfl, ?_, rfl, rfl⟩
      rw [← hxy, Nat.gcd_comm x m, Nat.gcd_comm m (x % m)]
      exact (Nat.gcd_rec m x).symm
    · have e0 : m = 0 := by omega
      subst e0
      rw [Nat.gcd_zero_right] at hxy
      subst hxy
      have gz : 0 < Nat.gcd t.natAbs b.natAbs := Nat.gcd_pos_of_pos_right _ (by omega)
      have gs : Sz 4000 ((Nat.gcd t.natAbs b.natAbs : Nat) : Int) := z2.le (by
        have := Nat.le_of_dvd (by omega) (Nat.gcd_dvd_right t.natAbs b.natAbs)
        simpa using this)
      have gn := gs.neg
      repeat walk_at "rd"
      refine r_dec (fun hneg => ?_) (fun hneg => ?_)
      · repeat walk_at "rd"
        refine r_I ⟨by omega, gn.log (by decide) (by decide)⟩ ?_
        repeat walk_at "rd"
        refine r_I ⟨by omega, gn.log (by decide) (by decide)⟩ ?_
        repeat walk_at "rd"
        refine r_new (by show 2 ≤ 100000; decide) (fun c H2 hc s e2 _ => k c H2 hc s ?_)
        unfold TupAt low gd
        rw [if_pos hneg]
        exact e2
      · repeat walk_at "rd"
        refine r_I ⟨by omega, gs.log (by decide) (by decide)⟩ ?_
        repeat walk_at "rd"
        refine r_I ⟨by omega, gs.log (by decide) (by decide)⟩ ?_
        repeat walk_at "rd"
        refine r_new (by show 2 ≤ 100000; decide) (fun c H2 hc s e2 _ => k c H2 hc s ?_)
        unfold TupAt low gd
        rw [if_neg hneg]
        exact e2
theorem sc_l_is : FnScope ["_law_amount", "_law_pair_here", "_law_top", "_law_low", "_law_shown", "_law_whole_here", "_law_told_here"] ["_law_amount", "_law_pair_here"] (defScope s_l_is) := ⟨rfl, rfl, rfl, by decide +kernel, rfl, by decide +kernel, by decide +kernel⟩
theorem ok_l_is (T : Tx K mg) : FnG P w K mg base CX0 true 4 (He.ga K "_law_is") T.fd_l_is ["_law_amount", "_law_pair_here"] (sp_is K) := by
  refine funG T.F_l_is sc_l_is (fun vs H Q E h => ?_) (fun cdv A outer s H vs Q E hr hg h => ?_)
  · obtain ⟨a, q, t, b, t', b', e, _⟩ := h; rw [e]; rfl
  · obtain ⟨a, q, t, b, t', b', rfl, ha, hq, hb', ⟨y1, y2⟩, el, ⟨z1, z2⟩, k⟩ := h
    refine ⟨_, (pss_cons (ps_asg (pg_call (ok_l_lowest T) (hr.mono (by decide)) hg (by rfl) T.g_l_lowest T.F_l_lowest.kp T.b_l_lowest .nil pass0 (pa_cons (pv 1) pa_nil)) (pg_tupK (K' := K) (n := 2) (by rfl) (pgs_cons (pg_name (i := 2) sc_l_is.nd rfl (by first | exact Or.inl rfl | exact Or.inr rfl)) (pgs_cons (pg_name (i := 3) sc_l_is.nd rfl (by first | exact Or.inl rfl | exact Or.inr rfl)) pgs_nil))))
    (pss_cons (ps_set (i := 4) sc_l_is.nd rfl (by first | exact Or.inl rfl | exact Or.inr rfl) (pe_ifExp (pt_cmpR op_eq (pv 3) pe_int (nomark _)) (pe_callTy call_str_int (by rfl) T.m_str (by decide +kernel) (pa_cons (pv 2) pa_nil)) (pe_op op_add_str (pe_op op_add_str (pe_callTy call_str_int (by rfl) T.m_str (by decide +kernel) (pa_cons (pv 2) pa_nil)) pe_str) (pe_callTy call_str_int (by rfl) T.m_str (by decide +kernel) (pa_cons (pv 3) pa_nil)))))
    (pss_cons (ps_set (i := 5) sc_l_is.nd rfl (by first | exact Or.inl rfl | exact Or.inr rfl) (pe_op op_add_str (pe_op op_add_str (pe_op op_add_str (pe_op op_add_str pe_str (pe_callTy call_str_int (by rfl) T.m_str (by decide +kernel) (pa_cons (pv 2) pa_nil))) pe_str) (pe_callTy call_str_int (by rfl) T.m_str (by decide +kernel) (pa_cons (pv 3) pa_nil))) pe_str))
    (pss_cons (ps_set (i := 6) sc_l_is.nd rfl (by first | exact Or.inl rfl | exact Or.inr rfl) (pe_lst (pa_cons (pg_prop (pv 0) T.c_Amount T.p_Amount_top (ok_Amount_top T) (hr.mono (by decide)) hg T.b_Amount_top .nil pass0 rfl) (pa_cons (pg_prop (pv 0) T.c_Amount T.p_Amount_bottom (ok_Amount_bottom T) (hr.mono (by decide)) hg T.b_Amount_bottom .nil pass0 rfl) (pa_cons (pg_prop (pv 0) T.c_Amount T.p_Amount_sign (ok_Amount_sign T) (hr.mono (by decide)) hg T.b_Amount_sign .nil pass0 rfl) (pa_cons (pe_callTy (cr_strOwn T.o_Amount_str (ok_AmountU_strU T) (hr.mono (by decide)) hg T.b_AmountU_strU pass0) (by rfl) T.m_str (by decide +kernel) (pa_cons (pv 0) pa_nil)) (pa_cons (pe_callB (cr_reprOwn T.o_Amount_repr (ok_AmountU_reprU T) (hr.mono (by decide)) hg T.b_AmountU_reprU pass0) (by rfl) T.m_repr (by decide +kernel) (pa_cons (pv 0) pa_nil)) pa_nil)))))))
    (pss_one (ps_ret (pe_cmpR op_eq (pe_callB (cr_reprD hg hr.units) (by rfl) T.m_repr (by decide +kernel) (pa_cons (pv 6) pa_nil)) (pe_callB (cr_reprD hg hr.units) (by rfl) T.m_repr (by decide +kernel) (pa_cons (pe_lst (pa_cons (pv 2) (pa_cons (pv 3) (pa_cons (pe_op op_sub (pe_callTy call_int1 (by rfl) T.m_int (by decide +kernel) (pa_cons (pe_cmpR op_gt (pv 2) pe_int (nomark _)) pa_nil)) (pe_callTy call_int1 (by rfl) T.m_int (by decide +kernel) (pa_cons (pe_cmpR op_lt (pv 2) pe_int (nomark _)) pa_nil))) (pa_cons (pv 4) (pa_cons (pv 5) pa_nil)))))) pa_nil)) (nomark _)))))))), ?_⟩
    have l1 : t.natAbs.log2 < 1920 := z1.log (by decide) (by decide)
    have l2 : b.natAbs.log2 < 1920 := z2.log (by decide) (by decide)
    have w1 := int_text_len_1921 l1
    have w2 := int_text_len_1921 l2
    walk_at "st"
    repeat walk_at "rd"
    refine use_low hq hb' y1 y2 el (fun c H1 _ s1 hc => ?_)
    have ha := ha.same s1
    refine r_gtup (.inl (.inl hc)) (by rfl) ?_
    repeat walk_at "rd"
    refine r_dec2 (.str (amtS t b)) (fun e Q kq => ?_) (fun e Q kq => ?_) ?_
    · unfold amtS at kq
      rw [if_pos e] at kq
      repeat walk_at "rd"
      exact ⟨l1, kq⟩
    · unfold amtS at kq
      rw [if_neg e, nil_app] at kq
      repeat walk_at "rd"
      refine ⟨l1, ?_⟩
      repeat walk_at "rd"
      refine q_addS (by walk_at "len") ?_
      repeat walk_at "rd"
      refine ⟨l2, ?_⟩
      exact q_addS (by walk_at "len") kq
    repeat walk_at "rd"
    refine ⟨l1, ?_⟩
    refine q_addS (by walk_at "len") ?_
    repeat walk_at "rd"
    refine q_addS (by walk_at "len") ?_
    repeat walk_at "rd"
    refine ⟨l2, ?_⟩
    refine q_addS (by walk_at "len") ?_
    repeat walk_at "rd"
    refine q_addS (by walk_at "len") ?_
    repeat walk_at "rd"
    refine use_str ha z1 z2 ?_
    repeat walk_at "rd"
    refine use_str ha z1 z2 ?_
    repeat walk_at "rd"
    refine r_new (by show 5 ≤ 100000; decide) (fun p H2 hp s2 e2 _ => ?_)
    repeat walk_at "rd"
    refine r_reprD (d := tellD t b) (.lst (.inl (.inl e2)) (.cons (.int _) (.cons (.int _) (.cons (.int _) (.cons (.str _) (.cons (.str _) .nil)))))) (tellD_show l1 l2) (by rfl) (Nat.le_of_ble_eq_true (by rfl)) (tellD_len l1 l2) ?_
    repeat walk_at "rd"
    refine r_new (by show 5 ≤ 100000; decide) (fun p2 H3 hp2 s3 e3 _ => ?_)
    have q1 : ((if decide (0 < t) = true then (1 : Int) else 0) - (if decide (t < 0) = true then 1 else 0)) = sgn t := by
      unfold sgn
      by_cases h0 : t = 0
      · subst h0; rfl
      · by_cases h1 : 0 < t
        · rw [decide_eq_true h1, decide_eq_false (by omega : ¬ t < 0), if_neg h0, if_pos h1]; rfl
        · rw [decide_eq_false h1, decide_eq_true (by omega : t < 0), if_neg h0, if_neg h1]; rfl
    have q2 : amtR t b = Str.ofString "Amount(" ++ Str.ofString (toString t) ++ Str.ofString ", " ++ Str.ofString (toString b) ++ Str.ofString ")" := by
      unfold amtR; rw [nil_app]
    rw [q1, ← q2] at e3
    repeat walk_at "rd"
    refine r_reprD (d := tellD t b) (.lst (.inl (.inl e3)) (.cons (.int _) (.cons (.int _) (.cons (.int _) (.cons (.str _) (.cons (.str _) .nil)))))) (tellD_show l1 l2) (by rfl) (Nat.le_of_ble_eq_true (by rfl)) (tellD_len l1 l2) ?_
    repeat walk_at "rd"
    rw [decide_eq_true rfl]
    exact k _ ((s1.trans s2).trans s3)
theorem sc_l_made : FnScope ["_law_way", "_law_one", "_law_second"] ["_law_way", "_law_one", "_law_second"] (defScope s_l_made) := ⟨rfl, rfl, rfl, by decide +kernel, rfl, by decide +kernel, by decide +kernel⟩
theorem ok_l_made (T : Tx K mg) : FnG P w K mg base CX0 true 1 (He.ga K "_law_made") T.fd_l_made ["_law_way", "_law_one", "_law_second"] (sp_made) := by
  refine funG T.F_l_made sc_l_made (fun vs H Q E h => ?_) (fun cdv A outer s H vs Q E hr hg h => ?_)
  · obtain ⟨way, q1, q2, t, b, t2, b2, e, _⟩ := h; rw [e]; rfl
  · obtain ⟨way, q1, q2, t, b, t2, b2, rfl, h1, h2, ⟨z1, z2, z3, z4⟩, k⟩ := h
    refine ⟨_, (pss_cons (ps_if (pt_cmpR op_eq (pv 0) pe_str (nomark _)) (pss_one (ps_ret (pe_tup (pa_cons (pe_op op_add (pe_op op_mulW (pe_ix (ix_tupK (K' := K)) (pv 1) pe_int (fun _ _ => rfl)) (pe_ix (ix_tupK (K' := K)) (pv 2) pe_int (fun _ _ => rfl))) (pe_op op_mulW (pe_ix (ix_tupK (K' := K)) (pv 2) pe_int (fun _ _ => rfl)) (pe_ix (ix_tupK (K' := K)) (pv 1) pe_int (fun _ _ => rfl)))) (pa_cons (pe_op op_mulW (pe_ix (ix_tupK (K' := K)) (pv 1) pe_int (fun _ _ => rfl)) (pe_ix (ix_tupK (K' := K)) (pv 2) pe_int (fun _ _ => rfl))) pa_nil))))) pss_nil)
    (pss_cons (ps_if (pt_cmpR op_eq (pv 0) pe_str (nomark _)) (pss_one (ps_ret (pe_tup (pa_cons (pe_op op_sub (pe_op op_mulW (pe_ix (ix_tupK (K' := K)) (pv 1) pe_int (fun _ _ => rfl)) (pe_ix (ix_tupK (K' := K)) (pv 2) pe_int (fun _ _ => rfl))) (pe_op op_mulW (pe_ix (ix_tupK (K' := K)) (pv 2) pe_int (fun _ _ => rfl)) (pe_ix (ix_tupK (K' := K)) (pv 1) pe_int (fun _ _ => rfl)))) (pa_cons (pe_op op_mulW (pe_ix (ix_tupK (K' := K)) (pv 1) pe_int (fun _ _ => rfl)) (pe_ix (ix_tupK (K' := K)) (pv 2) pe_int (fun _ _ => rfl))) pa_nil))))) pss_nil)
    (pss_cons (ps_if (pt_cmpR op_eq (pv 0) pe_str (nomark _)) (pss_one (ps_ret (pe_tup (pa_cons (pe_op op_mulW (pe_ix (ix_tupK (K' := K)) (pv 1) pe_int (fun _ _ => rfl)) (pe_ix (ix_tupK (K' := K)) (pv 2) pe_int (fun _ _ => rfl))) (pa_cons (pe_op op_mulW (pe_ix (ix_tupK (K' := K)) (pv 1) pe_int (fun _ _ => rfl)) (pe_ix (ix_tupK (K' := K)) (pv 2) pe_int (fun _ _ => rfl))) pa_nil))))) pss_nil)
    (pss_cons (ps_if (pt_cmpR op_eq (pv 0) pe_str (nomark _)) (pss_one (ps_ret (pe_tup (pa_cons (pe_op op_mulW (pe_ix (ix_tupK (K' := K)) (pv 1) pe_int (fun _ _ => rfl)) (pe_ix (ix_tupK (K' := K)) (pv 2) pe_int (fun _ _ => rfl))) (pa_cons (pe_op op_mulW (pe_ix (ix_tupK (K' := K)) (pv 1) pe_int (fun _ _ => rfl)) (pe_ix (ix_tupK (K' := K)) (pv 2) pe_int (fun _ _ => rfl))) pa_nil))))) pss_nil)
    (pss_one (ps_ret (pe_tup (pa_cons (pe_un un_neg (pe_ix (ix_tupK (K' := K)) (pv 1) pe_int (fun _ _ => rfl))) (pa_cons (pe_ix (ix_tupK (K' := K)) (pv 1) pe_int (fun _ _ => rfl)) pa_nil))))))))), ?_⟩
    unfold TupAt at h1 h2
    unfold madeT madeB at k
    walk_at "st"
    repeat walk_at "rd"
    refine r_dec (fun e => ?_) (fun e => ?_)
    · rw [if_pos e, if_pos e] at k
      repeat walk_at "rd"
      refine r_I (Sz.cm z1 z4 (by decide) (by decide) (by decide)) ?_
      repeat walk_at "rd"
      refine r_I (Sz.cm z3 z2 (by decide) (by decide) (by decide)) ?_
      repeat walk_at "rd"
      refine r_I (Sz.cm z2 z4 (by decide) (by decide) (by decide)) ?_
      repeat walk_at "rd"
      exact r_new (by show 2 ≤ 100000; decide) (fun c H2 hc s e2 _ => k c H2 hc s e2)
    rw [if_neg e, if_neg e] at k
    repeat walk_at "rd"
    refine r_dec (fun e => ?_) (fun e => ?_)
    · rw [if_pos e, if_pos e] at k
      repeat walk_at "rd"
      refine r_I (Sz.cm z1 z4 (by decide) (by decide) (by decide)) ?_
      repeat walk_at "rd"
      refine r_I (Sz.cm z3 z2 (by decide) (by decide) (by decide)) ?_
      repeat walk_at "rd"
      refine r_I (Sz.cm z2 z4 (by decide) (by decide) (by decide)) ?_
      repeat walk_at "rd"
      exact r_new (by show 2 ≤ 100000; decide) (fun c H2 hc s e2 _ => k c H2 hc s e2)
    rw [if_neg e, if_neg e] at k
    repeat walk_at "rd"
    refine r_dec (fun e => ?_) (fun e => ?_)
    · rw [if_pos e, if_pos e] at k
      repeat walk_at "rd"
      refine r_I (Sz.cm z1 z3 (by decide) (by decide) (by decide)) ?_
      repeat walk_at "rd"
      refine r_I (Sz.cm z2 z4 (by decide) (by decide) (by decide)) ?_
      repeat walk_at "rd"
      exact r_new (by show 2 ≤ 100000; decide) (fun c H2 hc s e2 _ => k c H2 hc s e2)
    rw [if_neg e, if_neg e] at k
    repeat walk_at "rd"
    refine r_dec (fun e => ?_) (fun e => ?_)
    · rw [if_pos e, if_pos e] at k
      repeat walk_at "rd"
      refine r_I (Sz.cm z1 z4 (by decide) (by decide) (by decide)) ?_
      repeat walk_at "rd"
      refine r_I (Sz.cm z2 z3 (by decide) (by decide) (by decide)) ?_
      repeat walk_at "rd"
      exact r_new (by show 2 ≤ 100000; decide) (fun c H2 hc s e2 _ => k c H2 hc s e2)
    rw [if_neg e, if_neg e] at k
    repeat walk_at "rd"
    exact r_new (by show 2 ≤ 100000; decide) (fun c H2 hc s e2 _ => k c H2 hc s e2)
theorem sc_l_told : FnScope ["_law_way", "_law_one", "_law_second"] ["_law_way", "_law_one", "_law_second"] (defScope s_l_told) := ⟨rfl, rfl, rfl, by decide +kernel, rfl, by decide +kernel, by decide +kernel⟩
theorem ok_l_told (T : Tx K mg) : FnG P w K mg base CX0 true 6 (He.ga K "_law_told") T.fd_l_told ["_law_way", "_law_one", "_law_second"] (sp_told K) := by
  refine funG T.F_l_told sc_l_told (fun vs H Q E h => ?_) (fun cdv A outer s H vs Q E hr hg h => ?_)
  · obtain ⟨way, a, v, t, b, t2, b2, e, _⟩ := h; rw [e]; rfl
  · obtain ⟨way, a, v, t, b, t2, b2, rfl, ha, hv, ⟨z1, z2, z3, z4⟩, n1, n2, n3, k⟩ := h
    refine ⟨_, (pss_cons (ps_if (pt_cmpR op_eq (pv 0) pe_str (nomark _)) (pss_one (ps_ret (pe_op (op_own T.o_Amount_Add (ok_AmountU_addU T) (hr.mono (by decide)) hg T.b_AmountU_addU pass0) (pv 1) (pv 2)))) pss_nil)
    (pss_cons (ps_if (pt_cmpR op_eq (pv 0) pe_str (nomark _)) (pss_one (ps_ret (pe_op (op_own T.o_Amount_Sub (ok_AmountU_subU T) (hr.mono (by decide)) hg T.b_AmountU_subU pass0) (pv 1) (pv 2)))) pss_nil)
    (pss_cons (ps_if (pt_cmpR op_eq (pv 0) pe_str (nomark _)) (pss_one (ps_ret (pe_op (op_own T.o_Amount_Mult (ok_AmountU_mulU T) (hr.mono (by decide)) hg T.b_AmountU_mulU pass0) (pv 1) (pv 2)))) pss_nil)
    (pss_one (ps_ret (pe_ifExp (pt_cmpR op_eq (pv 0) pe_str (nomark _)) (pg_meth (pv 1) T.c_Amount T.mt_Amount_over (ok_Amount_over T) (hr.mono (by decide)) hg T.b_Amount_over .nil pass0 (pa_cons (pv 2) pa_nil)) (pe_un (un_own T.o_Amount_neg (ok_AmountU_negU T) (hr.mono (by decide)) hg T.b_AmountU_negU pass0) (pv 1)))))))), ?_⟩
    unfold madeT madeB at k
    walk_at "st"
    repeat walk_at "rd"
    refine r_dec (fun e => ?_) (fun e => ?_)
    · rw [if_pos e, if_pos e] at k
      repeat walk_at "rd"
      exact r_opOwn ha.ins hv.op ⟨a, v, t, b, t2, b2, rfl, ha, hv, ⟨z1, z2, z3, z4⟩, n1, n2, trivial, k⟩
    rw [if_neg e, if_neg e] at k
    repeat walk_at "rd"
    refine r_dec (fun e => ?_) (fun e => ?_)
    · rw [if_pos e, if_pos e] at k
      repeat walk_at "rd"
      exact r_opOwn ha.ins hv.op ⟨a, v, t, b, t2, b2, rfl, ha, hv, ⟨z1, z2, z3, z4⟩, n1, n2, trivial, k⟩
    rw [if_neg e, if_neg e] at k
    repeat walk_at "rd"
    refine r_dec (fun e => ?_) (fun e => ?_)
    · rw [if_pos e, if_pos e] at k
      repeat walk_at "rd"
      exact r_opOwn ha.ins hv.op ⟨a, v, t, b, t2, b2, rfl, ha, hv, ⟨z1, z2, z3, z4⟩, n1, n2, trivial, k⟩
    rw [if_neg e, if_neg e] at k
    repeat walk_at "rd"
    refine r_dec (fun e => ?_) (fun e => ?_)
    · rw [if_pos e, if_pos e] at k
      repeat walk_at "rd"
      refine q_meth ha (by decide +kernel) (by decide +kernel) ?_
      repeat walk_at "rd"
      exact ⟨a, v, t, b, t2, b2, rfl, ha, hv, ⟨z1, z2, z3, z4⟩, n1, n2, n3 e, k⟩
    · rw [if_neg e, if_neg e] at k
      repeat walk_at "rd"
      exact r_unOwn ha.ins ⟨a, t, b, rfl, ha, z2.mono (by decide), n1, k⟩
theorem sc_l_compared : FnScope ["_law_one", "_law_pair_here", "_law_second", "_law_other", "_law_is_whole", "_law_top", "_law_low", "_law_upper", "_law_lower", "_law_is_same"] ["_law_one", "_law_pair_here", "_law_second", "_law_other", "_law_is_whole"] (defScope s_l_compared) := ⟨rfl, rfl, rfl, by decide +kernel, rfl, by decide +kernel, by decide +kernel⟩
theorem ok_l_compared (T : Tx K mg) : FnG P w K mg base CX0 true 6 (He.ga K "_law_compared") T.fd_l_compared ["_law_one", "_law_pair_here", "_law_second", "_law_other", "_law_is_whole"] (sp_cmp K) := by
  refine funG T.F_l_compared sc_l_compared (fun vs H Q E h => ?_) (fun cdv A outer s H vs Q E hr hg h => ?_)
  · obtain ⟨a, q1, v, q2, w, t, b, t', b', u, d, u', d', e, _⟩ := h; rw [e]; rfl
  · obtain ⟨a, q1, v, q2, w, t, b, t', b', u, d, u', d', rfl, ha, h1, n1, el1, h2, n2, el2, hv, hw, ⟨z1, z2, z3, z4⟩, ⟨y1, y2, y3, y4⟩, k⟩ := h
    refine ⟨_, (pss_cons (ps_asg (pe_tup (pa_cons (pg_call (ok_l_lowest T) (hr.mono (by decide)) hg (by rfl) T.g_l_lowest T.F_l_lowest.kp T.b_l_lowest .nil pass0 (pa_cons (pv 1) pa_nil)) (pa_cons (pg_call (ok_l_lowest T) (hr.mono (by decide)) hg (by rfl) T.g_l_lowest T.F_l_lowest.kp T.b_l_lowest .nil pass0 (pa_cons (pv 3) pa_nil)) pa_nil))) (pg_tupK (K' := K) (n := 2) (by rfl) (pgs_cons (pg_tupK (K' := K) (n := 2) (by rfl) (pgs_cons (pg_name (i := 5) sc_l_compared.nd rfl (by first | exact Or.inl rfl | exact Or.inr rfl)) (pgs_cons (pg_name (i := 6) sc_l_compared.nd rfl (by first | exact Or.inl rfl | exact Or.inr rfl)) pgs_nil))) (pgs_cons (pg_tupK (K' := K) (n := 2) (by rfl) (pgs_cons (pg_name (i := 7) sc_l_compared.nd rfl (by first | exact Or.inl rfl | exact Or.inr rfl)) (pgs_cons (pg_name (i := 8) sc_l_compared.nd rfl (by first | exact Or.inl rfl | exact Or.inr rfl)) pgs_nil))) pgs_nil))))
    (pss_cons (ps_if (pt_cmpR op_ne (pe_callB cr_reprB (by rfl) T.m_repr (by decide +kernel) (pa_cons (pg_meth (pv 0) T.c_Amount T.mt_Amount_below (ok_Amount_below T) (hr.mono (by decide)) hg T.b_Amount_below .nil pass0 (pa_cons (pv 2) pa_nil)) pa_nil)) (pe_callB cr_reprB (by rfl) T.m_repr (by decide +kernel) (pa_cons (pe_cmpR op_lt (pe_op op_mulW (pv 5) (pv 8)) (pe_op op_mulW (pv 7) (pv 6)) (nomark _)) pa_nil)) (nomark _)) (pss_one (ps_ret pe_bl)) pss_nil)
    (pss_cons (ps_if (pt_val (pv 4)) (pss_one (ps_ret (pe_cmpR op_eq (pe_callB (cr_reprD hg hr.units) (by rfl) T.m_repr (by decide +kernel) (pa_cons (pe_lst (pa_cons (pe_cmpR (op_eqOwn T.o_Amount_eq (ok_AmountU_eqU T) (hr.mono (by decide)) hg T.b_AmountU_eqU pass0) (pv 0) (pv 2) (nomark _)) (pa_cons (pe_cmpR (op_neOwn T.o_Amount_ne (ok_AmountU_eqU T) (hr.mono (by decide)) hg T.b_AmountU_eqU pass0) (pv 0) (pv 2) (nomark _)) pa_nil))) pa_nil)) (pe_callB (cr_reprD hg hr.units) (by rfl) T.m_repr (by decide +kernel) (pa_cons (pe_lst (pa_cons pe_bl (pa_cons pe_bl pa_nil))) pa_nil)) (nomark _)))) pss_nil)
    (pss_cons (ps_set (i := 9) sc_l_compared.nd rfl (by first | exact Or.inl rfl | exact Or.inr rfl) (pe_and (pe_cmpR op_eq (pv 5) (pv 7) (nomark _)) (pe_one (pe_cmpR op_eq (pv 6) (pv 8) (nomark _)))))
    (pss_one (ps_ret (pe_cmpR op_eq (pe_callB (cr_reprD hg hr.units) (by rfl) T.m_repr (by decide +kernel) (pa_cons (pe_lst (pa_cons (pe_cmpR (op_eqOwn T.o_Amount_eq (ok_AmountU_eqU T) (hr.mono (by decide)) hg T.b_AmountU_eqU pass0) (pv 0) (pv 2) (nomark _)) (pa_cons (pe_cmpR (op_neOwn T.o_Amount_ne (ok_AmountU_eqU T) (hr.mono (by decide)) hg T.b_AmountU_eqU pass0) (pv 0) (pv 2) (nomark _)) (pa_cons (pe_cmpR (op_eqOwn T.o_Amount_eq (ok_AmountU_eqU T) (hr.mono (by decide)) hg T.b_AmountU_eqU pass0) (pv 2) (pv 0) (nomark _)) pa_nil)))) pa_nil)) (pe_callB (cr_reprD hg hr.units) (by rfl) T.m_repr (by decide +kernel) (pa_cons (pe_lst (pa_cons (pv 9) (pa_cons (pe_not (pv 9)) (pa_cons (pv 9) pa_nil)))) pa_nil)) (nomark _)))))))), ?_⟩
    walk_at "st"
    repeat walk_at "rd"
    refine use_low h1 n1 y1 y2 el1 (fun c1 H1 _ s1 hc1 => ?_)
    repeat walk_at "rd"
    refine use_low (h2.same s1) n2 y3 y4 el2 (fun c2 H2 _ s2 hc2 => ?_)
    have hc1 := hc1.same s2
    repeat walk_at "rd"
    refine r_new (by show 2 ≤ 100000; decide) (fun p H3 hp s3 e3 _ => ?_)
    have hc1 := hc1.same s3
    have hc2 := hc2.same s3
    have ss := (s1.trans s2).trans s3
    have ha := ha.same ss
    have hv := hv.same ss
    refine r_gtup (.inl (.inl e3)) (by rfl) ?_
    repeat walk_at "rd"
    refine r_gtup (.inl (.inl hc1)) (by rfl) ?_
    repeat walk_at "rd"
    refine r_gtup (.inl (.inl hc2)) (by rfl) ?_
    repeat walk_at "rd"
    refine q_meth ha (by decide +kernel) (by decide +kernel) ?_
    repeat walk_at "rd"
    refine ⟨a, v, t, b, u, d, rfl, ha, hv, ⟨z1, z2, z3, z4⟩, fun H4 s4 => ?_⟩
    have ss := ss.trans s4
    have ha := ha.same s4
    have hv := hv.same s4
    repeat walk_at "rd"
    refine r_I (Sz.cm z1 z4 (by decide) (by decide) (by decide)) ?_
    repeat walk_at "rd"
    refine r_I (Sz.cm z3 z2 (by decide) (by decide) (by decide)) ?_
    repeat walk_at "rd"
    refine r_ndec (fun e => absurd rfl e) (fun _ => ?_)
    repeat walk_at "rd"
    rcases hw with ⟨rfl, i, rfl⟩ | ⟨rfl, c, rfl, hc⟩
    · repeat walk_at "rd"
      refine r_opOwn ha.ins hv.op ⟨a, t, b, .inr ⟨i, rfl, ha, ?_⟩⟩
      repeat walk_at "rd"
      refine r_neOwn ha.ins hv.op ⟨a, t, b, .inr ⟨i, rfl, ha, ⟨_, rfl, ?_⟩⟩⟩
      repeat walk_at "rd"
      refine r_new (by show 2 ≤ 100000; decide) (fun p5 H5 hp5 s5 e5 _ => ?_)
      repeat walk_at "rd"
      refine r_reprD (d := .list [.bool _, .bool _]) (.lst (.inl (.inl e5)) (.cons (.bl _) (.cons (.bl _) .nil))) (by rfl) (by rfl) (Nat.le_of_ble_eq_true (by rfl)) (bools_len [_, _] (by show 2 ≤ 3; decide)) ?_
      repeat walk_at "rd"
      refine r_new (by show 2 ≤ 100000; decide) (fun p6 H6 hp6 s6 e6 _ => ?_)
      repeat walk_at "rd"
      refine r_reprD (d := .list [.bool _, .bool _]) (.lst (.inl (.inl e6)) (.cons (.bl _) (.cons (.bl _) .nil))) (by rfl) (by rfl) (Nat.le_of_ble_eq_true (by rfl)) (bools_len [_, _] (by show 2 ≤ 3; decide)) ?_
      repeat walk_at "rd"
      rw [Bool.not_false, decide_eq_true rfl]
      exact k _ ((ss.trans s5).trans s6)
    · have hc := hc.same ss
      repeat walk_at "rd"
      refine r_andQ (.bl (decide (t = u ∧ b = d))) (fun e Q kq => ?_) (fun e => ?_) ?_
      · repeat walk_at "rd"
        rw [show decide (b = d) = decide (t = u ∧ b = d) from decide_eq_decide.mpr ⟨fun h => ⟨e, h⟩, fun h => h.2⟩]
        exact kq
      · rw [decide_eq_false (fun h => e h.1)]
      repeat walk_at "rd"
      refine r_opOwn ha.ins hv.op ⟨a, t, b, .inl ⟨c, u, d, rfl, hc, ha, ?_⟩⟩
      repeat walk_at "rd"
      refine r_neOwn ha.ins hv.op ⟨a, t, b, .inl ⟨c, u, d, rfl, hc, ha, ⟨_, rfl, ?_⟩⟩⟩
      repeat walk_at "rd"
      refine r_opOwn hc.ins (.inl ⟨a, rfl, ha.ins⟩) ⟨c, u, d, .inl ⟨a, t, b, rfl, ha, hc, ?_⟩⟩
      rw [show decide (u = t ∧ d = b) = decide (t = u ∧ b = d) from decide_eq_decide.mpr ⟨fun h => ⟨h.1.symm, h.2.symm⟩, fun h => ⟨h.1.symm, h.2.symm⟩⟩]
      generalize decide (t = u ∧ b = d) = bb
      repeat walk_at "rd"
      refine r_new (by show 3 ≤ 100000; decide) (fun p5 H5 hp5 s5 e5 _ => ?_)
      repeat walk_at "rd"
      refine r_reprD (d := .list [.bool _, .bool _, .bool _]) (.lst (.inl (.inl e5)) (.cons (.bl _) (.cons (.bl _) (.cons (.bl _) .nil)))) (by rfl) (by rfl) (Nat.le_of_ble_eq_true (by rfl)) (bools_len [_, _, _] (by show 3 ≤ 3; decide)) ?_
      repeat walk_at "rd"
      refine r_new (by show 3 ≤ 100000; decide) (fun p6 H6 hp6 s6 e6 _ => ?_)
      repeat walk_at "rd"
      refine r_reprD (d := .list [.bool _, .bool _, .bool _]) (.lst (.inl (.inl e6)) (.cons (.bl _) (.cons (.bl _) (.cons (.bl _) .nil)))) (by rfl) (by rfl) (Nat.le_of_ble_eq_true (by rfl)) (bools_len [_, _, _] (by show 3 ≤ 3; decide)) ?_
      repeat walk_at "rd"
      rw [decide_eq_true rfl]
      exact k _ ((ss.trans s5).trans s6)

end
/-! ### reckoning: what the amounts and the pairs of a turn have to do with one another -/
theorem made_bot {way : Str} {t b u d : Int} (hb : b ≠ 0) (hd : d ≠ 0) (hw : way = "part" → u ≠ 0) : madeB way t b u d ≠ 0 := by
  unfold madeB
  split
  · exact Int.mul_ne_zero hb hd
  · split
    · exact Int.mul_ne_zero hb hd
    · split
      · exact Int.mul_ne_zero hb hd
      · split
        · exact Int.mul_ne_zero hb (hw (by assumption))
        · exact hb
theorem made_szT {way : Str} {t b u d : Int} (h1 : Sz 200 t) (h2 : Sz 200 b) (h3 : Sz 200 u) (h4 : Sz 200 d) : Sz 1800 (madeT way t b u d) := by
  unfold madeT
  split
  · exact ((h1.mul h4).add (h3.mul h2)).mono (by decide)
  · split
    · exact ((h1.mul h4).sub (h3.mul h2)).mono (by decide)
    · split
      · exact (h1.mul h3).mono (by decide)
      · split
        · exact (h1.mul h4).mono (by decide)
        · exact h1.neg.mono (by decide)
theorem made_szB {way : Str} {t b u d : Int} (h1 : Sz 200 t) (h2 : Sz 200 b) (h3 : Sz 200 u) (h4 : Sz 200 d) : Sz 1800 (madeB way t b u d) := by
  unfold madeB
  split
  · exact (h2.mul h4).mono (by decide)
  · split
    · exact (h2.mul h4).mono (by decide)
    · split
      · exact (h2.mul h4).mono (by decide)
      · split
        · exact (h2.mul h3).mono (by decide)
        · exact h2.mono (by decide)
theorem low_ne {t b : Int} (h : b ≠ 0) : (low t b).2 ≠ 0 := by
  have := low_pos (t := t) h
  omega
theorem low_top {t b : Int} (h : b ≠ 0) (ht : t ≠ 0) : (low t b).1 ≠ 0 := fun e => by
  have := (low_mul (t := t) h).1
  rw [e, Int.zero_mul] at this
  exact ht this.symm
theorem low_szT {n : Nat} {t b : Int} (h : b ≠ 0) (z : Sz n t) : Sz n (low t b).1 := z.le (low_abs h).1
theorem low_szB {n : Nat} {t b : Int} (h : b ≠ 0) (z : Sz n b) : Sz n (low t b).2 := z.le (low_abs h).2
theorem low_idem {t b : Int} (h : b ≠ 0) : low (low t b).1 (low t b).2 = ((low t b).1, (low t b).2) := by
  have ⟨h1, h2⟩ := low_mul (t := t) h
  refine low_cross (low_ne h) h ?_
  generalize (low t b).1 = x at *
  generalize (low t b).2 = y at *
  generalize gd t b = g at *
  subst h1
  grind
theorem made_low {way : Str} {t b u d : Int} (hb : b ≠ 0) (hd : d ≠ 0) (hw : way = "part" → u ≠ 0) :
    low (madeT way (low t b).1 (low t b).2 (low u d).1 (low u d).2) (madeB way (low t b).1 (low t b).2 (low u d).1 (low u d).2) = low (madeT way t b u d) (madeB way t b u d) := by
  have ⟨h1, h2⟩ := low_mul (t := t) hb
  have ⟨h3, h4⟩ := low_mul (t := u) hd
  have n1 := low_ne (t := t) hb
  have n2 := low_ne (t := u) hd
  refine low_cross (made_bot n1 n2 fun e => low_top hd (hw e)) (made_bot hb hd hw) ?_
  generalize (low t b).1 = x at *
  generalize (low t b).2 = y at *
  generalize (low u d).1 = x' at *
  generalize (low u d).2 = y' at *
  generalize gd t b = g at *
  generalize gd u d = g' at *
  subst h1 h2 h3 h4
  unfold madeT madeB
  split
  · grind
  · split
    · grind
    · split
      · grind
      · split
        · grind
        · grind
/-- a turn's pair at q, its amount at a, what the pair holds -/
structure Row where
  q : Addr
  a : Addr
  t : Int
  b : Int
def RowAt (K : PySem.W.Frag) (H : Hp) (r : Row) : Prop := TupAt H r.q r.t r.b ∧ r.b ≠ 0 ∧ Sz 200 r.t ∧ Sz 200 r.b ∧ AmtAt K H r.a (low r.t r.b).1 (low r.t r.b).2
theorem AmtAt.keep {K : PySem.W.Frag} {p a : Addr} {H H' : Hp} {t b : Int} (h : AmtAt K H a t b) (s : KeepBut p H H') (hp : PotAt H p) : AmtAt K H' a t b := by
  obtain ⟨dx, e⟩ := h
  refine ⟨dx, s a _ (fun e2 => ?_) e⟩
  obtain ⟨c0, c1, z, _⟩ := hp
  rw [← e2, e] at z
  cases z
theorem RowAt.keep {K : PySem.W.Frag} {p : Addr} {H H' : Hp} {r : Row} (h : RowAt K H r) (s : KeepBut p H H') (hp : PotAt H p) : RowAt K H' r := ⟨h.1.keep s hp, h.2.1, h.2.2.1, h.2.2.2.1, h.2.2.2.2.keep s hp⟩
theorem RowAt.same {K : PySem.W.Frag} {H H' : Hp} {r : Row} (h : RowAt K H r) (s : Same H H') : RowAt K H' r := ⟨h.1.same s, h.2.1, h.2.2.1, h.2.2.2.1, h.2.2.2.2.same s⟩
/-- the two lists of the law, row by row; p: where it draws -/
structure LV (K : PySem.W.Frag) (p lp la : Addr) (H : Hp) (rs : List Row) : Prop where
  ps : H lp = some (.lst (rs.map fun r => .ref r.q))
  as : H la = some (.lst (rs.map fun r => .ref r.a))
  n1 : lp ≠ la
  n2 : lp ≠ p
  n3 : la ≠ p
  rows : ∀ r ∈ rs, RowAt K H r
  pot : PotAt H p
theorem LV.keep {K : PySem.W.Frag} {p lp la : Addr} {H H' : Hp} {rs : List Row} (h : LV K p lp la H rs) (s : KeepBut p H H') (hp : PotAt H' p) : LV K p lp la H' rs := ⟨s lp _ h.n2 h.ps, s la _ h.n3 h.as, h.n1, h.n2, h.n3, fun r hr => (h.rows r hr).keep s h.pot, hp⟩
theorem LV.same {K : PySem.W.Frag} {p lp la : Addr} {H H' : Hp} {rs : List Row} (h : LV K p lp la H rs) (s : Same H H') : LV K p lp la H' rs := h.keep (KeepBut.of s) (h.pot.same s)
theorem LV.at_ {K : PySem.W.Frag} {p lp la : Addr} {H : Hp} {rs : List Row} (h : LV K p lp la H rs) {k : Int} (k0 : 0 ≤ k) (k1 : k < ((rs.map fun r => V.ref r.a).length : Int)) : ∃ r ∈ rs, atI (rs.map fun r => V.ref r.q) k = some (.ref r.q) ∧ atI (rs.map fun r => V.ref r.a) k = some (.ref r.a) := by
  obtain ⟨j, rfl⟩ := Int.eq_ofNat_of_zero_le k0
  rw [List.length_map] at k1
  have hj : j < rs.length := by omega
  exact ⟨rs[j], List.getElem_mem hj, atI_nat (by simp [hj]), atI_nat (by simp [hj])⟩
theorem q_app {l : Addr} {xs : List V} {y : V} {H : Hp} {Q : VK} (h : H l = some (.lst xs)) (hz : xs.length < 100000) (q : ∀ H2, H2 l = some (.lst (xs ++ [y])) → (∀ b, b ≠ l → H2 b = H b) → Q .non H2) : rAppend (.ref l) [y] H Q := r_append h (Nat.lt_of_lt_of_le hz (by decide)) (q _ upd_same fun b hb => upd_ne hb)
theorem ten60 : (10 : Int) ^ (60 : Int).toNat < 2 ^ 200 := by decide +kernel
theorem r_ifR {P : Prop} [Decidable P] {ta tb : TE} {σ : L2.St} {H : Hp} {Q : VK} (R : V → Hp → Prop) (h1 : P → ∀ Q : VK, (∀ x H', R x H' → Q x H') → ta σ H Q) (h2 : ¬ P → ∀ Q : VK, (∀ x H', R x H' → Q x H') → tb σ H Q) (hq : ∀ x H', R x H' → Q x H') :
    if decide P = true then ta σ H Q else tb σ H Q := r_dec (fun e => h1 e Q hq) (fun e => h2 e Q hq)
def sp_right : Sp := fun vs H Q _ => ∃ p, vs = [.ref p] ∧ PotAt H p ∧ ∀ H', KeepBut p H H' → Q (.bl true) H'
def sp_long : Sp := fun vs H Q _ => vs = [] ∧ ∀ H', Same H H' → Q (.bl true) H'
def sp_law (K : PySem.W.Frag) : Sp := fun vs H Q _ => ∃ a, ∃ ns : List Int, vs = [.ref a] ∧ SqL K H a (ns.map V.int) ∧ ns.length ≤ 63 ∧ ∀ H', Q (.bl true) H'
theorem KeepBut.new {p D : Addr} {H H2 H3 : Hp} (k : KeepBut p H H2) (hD : H D = Option.none) (ne : ∀ b, b ≠ D → H3 b = H2 b) : KeepBut p H H3 := fun b o hb e => by rw [ne b (ne_of_none e hD)]; exact k b o hb e
theorem PotAt.off {p D : Addr} {H H' : Hp} (h : PotAt H p) (n : D ≠ p) (ne : ∀ b, b ≠ D → H' b = H b) : PotAt H' p := by
  obtain ⟨c0, c1, e, z⟩ := h
  exact ⟨c0, c1, by rw [ne p n.symm]; exact e, z⟩
theorem PotAt.neq {p D : Addr} {H : Hp} (h : PotAt H p) (n : H D = none) : D ≠ p := by
  rintro rfl
  obtain ⟨c0, c1, e, _⟩ := h
  rw [n] at e
  cases e
theorem TupAt.off {D q : Addr} {H H' : Hp} {t b : Int} {l : List V} (h : TupAt H q t b) (hD : H D = some (.lst l)) (ne : ∀ b, b ≠ D → H' b = H b) : TupAt H' q t b := by
  unfold TupAt at *
  rw [ne q (fun e => by rw [e, hD] at h; cases h)]
  exact h
theorem AmtAt.off {K : PySem.W.Frag} {D a : Addr} {H H' : Hp} {t b : Int} {l : List V} (h : AmtAt K H a t b) (hD : H D = some (.lst l)) (ne : ∀ b, b ≠ D → H' b = H b) : AmtAt K H' a t b := by
  obtain ⟨dx, e⟩ := h
  exact ⟨dx, by rw [ne a (fun z => by rw [z, hD] at e; cases e)]; exact e⟩
theorem RowAt.off {K : PySem.W.Frag} {D : Addr} {H H' : Hp} {r : Row} {l : List V} (h : RowAt K H r) (hD : H D = some (.lst l)) (ne : ∀ b, b ≠ D → H' b = H b) : RowAt K H' r := ⟨h.1.off hD ne, h.2.1, h.2.2.1, h.2.2.2.1, h.2.2.2.2.off hD ne⟩
theorem g_grow {D : Addr} {acc : List V} {y : V} {Nx : Hp → Prop} {H : Hp} (h : H D = some (.lst acc)) (hz : acc.length < 100000) (q : ∀ H2, H2 D = some (.lst (acc ++ [y])) → (∀ b, b ≠ D → H2 b = H b) → Nx H2) : Grow D Nx y H := ⟨acc, h, Nat.lt_of_lt_of_le hz (by decide), q _ upd_same fun b hb => upd_ne hb⟩
def PA (H : Hp) (xs : List (Addr × Int × Int)) : Prop := ∀ x ∈ xs, TupAt H x.1 x.2.1 x.2.2 ∧ x.2.2 ≠ 0 ∧ Sz 180 x.2.1 ∧ Sz 180 x.2.2
theorem PA.keep {p : Addr} {H H' : Hp} {xs : List (Addr × Int × Int)} (h : PA H xs) (s : KeepBut p H H') (hp : PotAt H p) : PA H' xs := fun x hx => ⟨(h x hx).1.keep s hp, (h x hx).2⟩
theorem PA.same {H H' : Hp} {xs : List (Addr × Int × Int)} (h : PA H xs) (s : Same H H') : PA H' xs := fun x hx => ⟨(h x hx).1.same s, (h x hx).2⟩
theorem PA.off {D : Addr} {H H' : Hp} {xs : List (Addr × Int × Int)} {l : List V} (h : PA H xs) (hD : H D = some (.lst l)) (ne : ∀ b, b ≠ D → H' b = H b) : PA H' xs := fun x hx => ⟨(h x hx).1.off hD ne, (h x hx).2⟩
theorem PA.nil {H : Hp} : PA H [] := fun x hx => by cases hx
theorem PA.snoc {H : Hp} {xs : List (Addr × Int × Int)} {q : Addr} {t b : Int} (h : PA H xs) (h1 : TupAt H q t b) (h2 : b ≠ 0) (h3 : Sz 180 t) (h4 : Sz 180 b) : PA H (xs ++ [(q, t, b)]) := fun x hx => by
  rcases List.mem_append.mp hx with z | z
  · exact h x z
  · obtain rfl := List.mem_singleton.mp z
    exact ⟨h1, h2, h3, h4⟩
theorem atI0 {x : V} {xs : List V} : atI (x :: xs) 0 = some x := atI_nat (j := 0) rfl
theorem way_if {K : PySem.W.Frag} {n : L2.St → Hp → Prop} {r : VK} {b c : L2.St → Hp → Prop} {way : Str} {q : Addr} {u d : Int} {H : Hp} {x0 x1 x2 x3 x4 x5 x7 x8 x9 x10 x12 x13 x14 : Option V} (hq : TupAt H q u d)
    (h : ∀ way' : Str, (way' = "part" → u ≠ 0) → n [x0, x1, x2, x3, x4, x5, some (.str way'), x7, x8, x9, x10, some (.ref q), x12, x13, x14] H) :
    tIfS (tAnd (tTest (tOp rEq (tVar 6) (tC (.str "part")))) (tTest (tOp rEq (tOp (rIxT K) (tVar 11) (tC (.int 0))) (tC (.int 0))))) (tAsg (tC (.str "sum")) (gName 6)) tNext { nx := n, rt := r, bk := b, ct := c } [x0, x1, x2, x3, x4, x5, some (.str way), x7, x8, x9, x10, some (.ref q), x12, x13, x14] H := by
  refine r_ifS (r_and (r_test (r_op (r_v6 (r_c (r_eqS (r_blV ?_)))))))
  refine r_dec (fun e => ?_) (fun e => ?_)
  · refine r_test (r_op (r_op (r_v11 (r_c (r_ixT (.inl (.inl hq)) (by rfl) (r_c (r_eqI (r_blV ?_))))))))
    refine r_dec (fun e2 => ?_) (fun e2 => ?_)
    · exact r_asg (r_c (r_s6 (h "sum" fun z => absurd z (by decide +kernel))))
    · exact r_next (h way fun _ => e2)
  · rw [if_neg Bool.false_ne_true]
    exact r_next (h way fun z => absurd z e)
theorem RowsNil {K : PySem.W.Frag} {H : Hp} : ∀ r ∈ ([] : List Row), RowAt K H r := fun r h => by cases h
/-- the doubling of the long law -/
def fibs : Nat → Int × Int
  | 0 => (1, 1)
  | i + 1 => ((fibs i).1 * ((fibs i).2 * 2 - (fibs i).1), (fibs i).1 * (fibs i).1 + (fibs i).2 * (fibs i).2)
theorem fibs_sz (i : Nat) (h : i ≤ 10) : Sz 800 (fibs i).1 ∧ Sz 800 (fibs i).2 := by
  have all : ∀ i, i < 11 → (decide ((fibs i).1.natAbs < 2 ^ 800) && decide ((fibs i).2.natAbs < 2 ^ 800)) = true := by decide +kernel
  have h2 := all i (by omega)
  rw [Bool.and_eq_true] at h2
  exact ⟨show (fibs i).1.natAbs < 2 ^ 800 from of_decide_eq_true h2.1, show (fibs i).2.natAbs < 2 ^ 800 from of_decide_eq_true h2.2⟩
theorem use_op {K : PySem.W.Frag} {f g : Int → Int → Int → Int → Int} {H : Hp} {Q : VK} {E : XK} {a : Addr} {v : V} {t t2 x : Int} (h : AmtAt K H a t 1) (hv : AmtV K H v t2 1) (z1 : Sz 1800 t) (z2 : Sz 1800 t2) (ex : f t 1 t2 1 = x) (eg : g t 1 t2 1 = 1) (q : ∀ p H', Same H H' → AmtAt K H' p x 1 → Q (.ref p) H') :
    rOpOwn (He.ga K "Amount") ["int"] (sp_op2 K (fun _ _ _ _ => True) f g) E (.ref a) v H Q :=
  r_opOwn h.ins hv.op ⟨a, v, t, 1, t2, 1, rfl, h, hv, ⟨z1, by unfold Sz; decide +kernel, z2, by unfold Sz; decide +kernel⟩, by decide, by decide, trivial, fun p H' s e => q p H' s (by rw [ex, eg, low_one] at e; exact e)⟩
theorem sql_same {K : PySem.W.Frag} {H H' : Hp} {a : Addr} {xs : List V} (h : SqL K H a xs) (s : Same H H') : SqL K H' a xs := by
  rcases h with (h | ⟨o, h⟩) | h
  · exact .inl (.inl (s _ _ h))
  · exact .inl (.inr ⟨o, s _ _ h⟩)
  · exact .inr h
theorem strOk_of {x : Str} (h : ∀ c ∈ x.cps.toList, c < 0x110000) : PyData.strOk x = true := by
  unfold PyData.strOk
  rw [← Array.all_toList, List.all_eq_true]
  exact fun c hc => decide_eq_true (h c hc)
theorem low11_of (s : String) : ∀ c ∈ (Str.ofString s).cps.toList, c < 0x110000 := by
  intro c hc
  rw [signs_ofString] at hc
  obtain ⟨d, _, rfl⟩ := List.mem_map.mp hc
  have := d.valid
  show d.val.toNat < _
  rcases this with h | h
  · have : d.val.toNat < 0xd800 := h
    omega
  · exact h.2
theorem low11_app {x y : Str} (hx : ∀ c ∈ x.cps.toList, c < 0x110000) (hy : ∀ c ∈ y.cps.toList, c < 0x110000) : ∀ c ∈ (x ++ y).cps.toList, c < 0x110000 := by
  intro c hc
  have e : (x ++ y).cps.toList = x.cps.toList ++ y.cps.toList := Array.toList_append
  rw [e] at hc
  exact (List.mem_append.mp hc).elim (hx c) (hy c)
theorem amtS_strOk (t b : Int) : PyData.strOk (amtS t b) = true := by
  refine strOk_of ?_
  unfold amtS
  split
  · exact low11_of _
  · exact low11_app (low11_app (low11_app (fun c hc => by cases hc) (low11_of _)) (low11_of _)) (low11_of _)
theorem tri_shaped (a b t u : Int) : SeqAt.shaped (.list [.int a, .int b, .str (amtS t u)]) = true := by
  unfold SeqAt.shaped
  rw [Bool.and_eq_true]
  refine ⟨?_, decide_eq_true (Nat.le_of_ble_eq_true (by rfl))⟩
  simp [PyData.canLay0, PyData.canLayAll0, amtS_strOk]

local macro_rules
  | `(tactic| walk_at "rd") => `(tactic| refine way_if (by assumption) ?_)
section
variable {P : Program} {w : World} {K : PySem.W.Frag} {mg : Str → Option Value} {base : Heap}
theorem sc_l_right : FnScope ["_law_pot_here", "_law_pairs", "_law_turn", "_law_amounts", "_law_pair_here", "_law_place", "_law_way", "_law_whole_here", "_law_spot", "_law_is_whole", "_law_second", "_law_other", "_law_due", "_law_made_here", "_law_amount"] ["_law_pot_here"] (defScope s_l_right) := ⟨rfl, rfl, rfl, by decide +kernel, rfl, by decide +kernel, by decide +kernel⟩
theorem ok_l_right (T : Tx K mg) : FnG P w K mg base CX0 true 7 (He.ga K "_law_right") T.fd_l_right ["_law_pot_here"] (sp_right) := by
  refine funG T.F_l_right sc_l_right (fun vs H Q E h => ?_) (fun cdv A outer s H vs Q E hr hg h => ?_)
  · obtain ⟨p, e, _⟩ := h; rw [e]; rfl
  · obtain ⟨p, rfl, hp, k⟩ := h
    refine ⟨_, (pss_cons (ps_setLc (i := 1) (own := [("_law_turn", 2)]) (by rfl) sc_l_right.nd rfl rfl (sw_true rfl rfl rfl (by decide +kernel)) (pi_range1 (by rfl) T.m_range (pa_cons pe_int pa_nil)) (blkOk_by (own := [("_law_turn", 2)]) (N := ["_law_pot_here", "_law_pairs", "_law_turn", "_law_amounts", "_law_pair_here", "_law_place", "_law_way", "_law_whole_here", "_law_spot", "_law_is_whole", "_law_second", "_law_other", "_law_due", "_law_made_here", "_law_amount"]) (sc := defScope s_l_right) (by decide +kernel)) (fun _ _ _ _ _ => (pg_name (i := 2) sc_l_right.nd rfl (by first | exact Or.inl rfl | exact Or.inr rfl))) (fun _ _ _ _ _ => pts_nil) (fun _ _ _ _ _ => (pg_call (ok_l_pair T) (hr.mono (by decide)) hg (by rfl) T.g_l_pair T.F_l_pair.kp T.b_l_pair .nil pass0 (pa_cons (pv 0) pa_nil))))
    (pss_cons (ps_expr (pe_bm PySem.F.plainAttrs_list PySem.F.slot_list_append PySem.F.type_list_append mt_append (pv 1) (pa_cons (pe_tup (pa_cons (pe_op op_mulW (pe_ix (ix_tupK (K' := K)) (pe_ix (ix_listK (K' := K)) (pv 1) pe_int (fun _ _ => rfl)) pe_int (fun _ _ => rfl)) (pe_un un_neg pe_int)) (pa_cons (pe_op op_mulW (pe_ix (ix_tupK (K' := K)) (pe_ix (ix_listK (K' := K)) (pv 1) pe_int (fun _ _ => rfl)) pe_int (fun _ _ => rfl)) (pe_un un_neg pe_int)) pa_nil))) pa_nil)))
    (pss_cons (ps_setLc (i := 3) (own := [("_law_pair_here", 4)]) (by rfl) sc_l_right.nd rfl rfl (sw_true rfl rfl rfl (by decide +kernel)) (pi_list (pv 1)) (blkOk_by (own := [("_law_pair_here", 4)]) (N := ["_law_pot_here", "_law_pairs", "_law_turn", "_law_amounts", "_law_pair_here", "_law_place", "_law_way", "_law_whole_here", "_law_spot", "_law_is_whole", "_law_second", "_law_other", "_law_due", "_law_made_here", "_law_amount"]) (sc := defScope s_l_right) (by decide +kernel)) (fun _ _ _ _ _ => (pg_name (i := 4) sc_l_right.nd rfl (by first | exact Or.inl rfl | exact Or.inr rfl))) (fun _ _ _ _ _ => pts_nil) (fun _ _ _ _ _ => (pg_make T.k_Amount (ok_AmountU_initU T) (hr.mono (by decide)) hg (by rfl) T.g_Amount T.b_AmountU_initU .nil pass0 (pa_cons (pe_ix (ix_tupK (K' := K)) (pv 4) pe_int (fun _ _ => rfl)) (pa_cons (pe_ix (ix_tupK (K' := K)) (pv 4) pe_int (fun _ _ => rfl)) pa_nil)))))
    (pss_cons (ps_for PassesOwn.never (by rfl) (pi_range1 (by rfl) T.m_range (pa_cons (pg_call (ok_l_digit T) (hr.mono (by decide)) hg (by rfl) T.g_l_digit T.F_l_digit.kp T.b_l_digit .nil pass0 (pa_cons (pv 0) (pa_cons pe_int pa_nil))) pa_nil)) (pg_name (i := 2) sc_l_right.nd rfl (by first | exact Or.inl rfl | exact Or.inr rfl)) (pss_cons (ps_par (i := 5) (j := 6) (by rfl) sc_l_right.nd rfl rfl (by decide) rfl rfl (pa_cons (pg_call (ok_l_digit T) (hr.mono (by decide)) hg (by rfl) T.g_l_digit T.F_l_digit.kp T.b_l_digit .nil pass0 (pa_cons (pv 0) (pa_cons (pe_callB call_len_seq (by rfl) T.m_len (by decide +kernel) (pa_cons (pv 3) pa_nil)) pa_nil))) (pa_cons (pg_call (ok_l_pick T) (hr.mono (by decide)) hg (by rfl) T.g_l_pick T.F_l_pick.kp T.b_l_pick .nil pass0 (pa_cons (pv 0) (pa_cons (pe_lst (pa_cons pe_str (pa_cons pe_str (pa_cons pe_str (pa_cons pe_str (pa_cons pe_str pa_nil)))))) pa_nil))) pa_nil)) (by rfl))
    (pss_cons (ps_par (i := 7) (j := 8) (by rfl) sc_l_right.nd rfl rfl (by decide) rfl rfl (pa_cons (pg_call (ok_l_whole T) (hr.mono (by decide)) hg (by rfl) T.g_l_whole T.F_l_whole.kp T.b_l_whole .nil pass0 (pa_cons (pv 0) pa_nil)) (pa_cons (pg_call (ok_l_digit T) (hr.mono (by decide)) hg (by rfl) T.g_l_digit T.F_l_digit.kp T.b_l_digit .nil pass0 (pa_cons (pv 0) (pa_cons (pe_callB call_len_seq (by rfl) T.m_len (by decide +kernel) (pa_cons (pv 3) pa_nil)) pa_nil))) pa_nil)) (by rfl))
    (pss_cons (ps_set (i := 9) sc_l_right.nd rfl (by first | exact Or.inl rfl | exact Or.inr rfl) (pe_cmpR op_eq (pg_call (ok_l_digit T) (hr.mono (by decide)) hg (by rfl) T.g_l_digit T.F_l_digit.kp T.b_l_digit .nil pass0 (pa_cons (pv 0) (pa_cons pe_int pa_nil))) pe_int (nomark _)))
    (pss_cons (ps_asg (pe_ifExp (pt_val (pv 9)) (pe_tup (pa_cons (pv 7) (pa_cons (pe_tup (pa_cons (pv 7) (pa_cons pe_int pa_nil))) pa_nil))) (pe_tup (pa_cons (pe_ix (ix_listK (K' := K)) (pv 3) (pv 8) (fun _ _ => rfl)) (pa_cons (pe_ix (ix_listK (K' := K)) (pv 1) (pv 8) (fun _ _ => rfl)) pa_nil)))) (pg_tupK (K' := K) (n := 2) (by rfl) (pgs_cons (pg_name (i := 10) sc_l_right.nd rfl (by first | exact Or.inl rfl | exact Or.inr rfl)) (pgs_cons (pg_name (i := 11) sc_l_right.nd rfl (by first | exact Or.inl rfl | exact Or.inr rfl)) pgs_nil))))
    (pss_cons (ps_if (pt_not (pt_val (pg_call (ok_l_compared T) (hr.mono (by decide)) hg (by rfl) T.g_l_compared T.F_l_compared.kp T.b_l_compared .nil pass0 (pa_cons (pe_ix (ix_listK (K' := K)) (pv 3) (pv 5) (fun _ _ => rfl)) (pa_cons (pe_ix (ix_listK (K' := K)) (pv 1) (pv 5) (fun _ _ => rfl)) (pa_cons (pv 10) (pa_cons (pv 11) (pa_cons (pv 9) pa_nil)))))))) (pss_one (ps_ret pe_bl)) pss_nil)
    (pss_cons (ps_if (PW.pt (pw_and (pt_cmpR op_eq (pv 6) pe_str (nomark _)) (pw_and1 (pt_cmpR op_eq (pe_ix (ix_tupK (K' := K)) (pv 11) pe_int (fun _ _ => rfl)) pe_int (nomark _))))) (pss_one (ps_set (i := 6) sc_l_right.nd rfl (by first | exact Or.inl rfl | exact Or.inr rfl) pe_str)) pss_nil)
    (pss_cons (ps_set (i := 12) sc_l_right.nd rfl (by first | exact Or.inl rfl | exact Or.inr rfl) (pg_call (ok_l_lowest T) (hr.mono (by decide)) hg (by rfl) T.g_l_lowest T.F_l_lowest.kp T.b_l_lowest .nil pass0 (pa_cons (pg_call (ok_l_made T) (hr.mono (by decide)) hg (by rfl) T.g_l_made T.F_l_made.kp T.b_l_made .nil pass0 (pa_cons (pv 6) (pa_cons (pe_ix (ix_listK (K' := K)) (pv 1) (pv 5) (fun _ _ => rfl)) (pa_cons (pv 11) pa_nil)))) pa_nil)))
    (pss_cons (ps_set (i := 13) sc_l_right.nd rfl (by first | exact Or.inl rfl | exact Or.inr rfl) (pg_call (ok_l_told T) (hr.mono (by decide)) hg (by rfl) T.g_l_told T.F_l_told.kp T.b_l_told .nil pass0 (pa_cons (pv 6) (pa_cons (pe_ix (ix_listK (K' := K)) (pv 3) (pv 5) (fun _ _ => rfl)) (pa_cons (pv 10) pa_nil)))))
    (pss_cons (ps_if (pt_not (pt_val (pg_call (ok_l_is T) (hr.mono (by decide)) hg (by rfl) T.g_l_is T.F_l_is.kp T.b_l_is .nil pass0 (pa_cons (pv 13) (pa_cons (pv 12) pa_nil))))) (pss_one (ps_ret pe_bl)) pss_nil)
    (pss_one (ps_if (pt_cmpR op_lt (pe_callB (call_max2 rfl) (by rfl) T.m_max (by decide +kernel) (pa_cons (pe_callB call_abs (by rfl) T.m_abs (by decide +kernel) (pa_cons (pe_ix (ix_tupK (K' := K)) (pv 12) pe_int (fun _ _ => rfl)) pa_nil)) (pa_cons (pe_ix (ix_tupK (K' := K)) (pv 12) pe_int (fun _ _ => rfl)) pa_nil))) (pe_op op_pow pe_int pe_int) (nomark _)) (pss_cons (ps_expr (pe_bm PySem.F.plainAttrs_list PySem.F.slot_list_append PySem.F.type_list_append mt_append (pv 1) (pa_cons (pv 12) pa_nil)))
    (pss_one (ps_expr (pe_bm PySem.F.plainAttrs_list PySem.F.slot_list_append PySem.F.type_list_append mt_append (pv 3) (pa_cons (pv 13) pa_nil))))) pss_nil))))))))))))
    (pss_cons (ps_if (pt_cmpR op_ne (pe_callB (cr_reprOwn T.o_Amount_repr (ok_AmountU_reprU T) (hr.mono (by decide)) hg T.b_AmountU_reprU pass0) (by rfl) T.m_repr (by decide +kernel) (pa_cons (pg_make T.k_Amount (ok_AmountU_initU T) (hr.mono (by decide)) hg (by rfl) T.g_Amount T.b_AmountU_initU_1.choose_spec.2 T.b_AmountU_initU_1.choose_spec.1 pass0 (pa_cons pe_int pa_nil)) pa_nil)) pe_str (nomark _)) (pss_one (ps_ret pe_bl)) pss_nil)
    (pss_one (ps_ret (pe_callB (cr_all rfl) (by rfl) T.m_all (by decide +kernel) (pa_cons (pe_lc (own := [("_law_amount", 14), ("_law_pair_here", 4)]) (by rfl) sc_l_right.nd (pi_zip (by rfl) T.m_zip (pa_cons (pv 3) (pa_cons (pv 1) pa_nil))) (blkOk_by (own := [("_law_amount", 14), ("_law_pair_here", 4)]) (N := ["_law_pot_here", "_law_pairs", "_law_turn", "_law_amounts", "_law_pair_here", "_law_place", "_law_way", "_law_whole_here", "_law_spot", "_law_is_whole", "_law_second", "_law_other", "_law_due", "_law_made_here", "_law_amount"]) (sc := defScope s_l_right) (by decide +kernel)) (fun _ _ _ _ _ => (pg_tupK (K' := K) (n := 2) (by rfl) (pgs_cons (pg_name (i := 14) sc_l_right.nd rfl (by first | exact Or.inl rfl | exact Or.inr rfl)) (pgs_cons (pg_name (i := 4) sc_l_right.nd rfl (by first | exact Or.inl rfl | exact Or.inr rfl)) pgs_nil)))) (fun _ _ _ _ _ => pts_nil) (fun _ _ _ _ _ => (pg_call (ok_l_is T) (hr.mono (by decide)) hg (by rfl) T.g_l_is T.F_l_is.kp T.b_l_is .nil pass0 (pa_cons (pv 14) (pa_cons (pv 4) pa_nil))))) pa_nil))))))))), ?_⟩
    walk_at "st"
    repeat walk_at "rd"
    refine ⟨by omega, by omega, u_lcR (fun D H0 hD sD eD nD => ?_)⟩
    have nDp : D ≠ p := hp.neq hD
    refine ⟨fun i H' => ∃ xs : List (Addr × Int × Int), xs.length = i ∧ H' D = some (.lst (xs.map fun x => .ref x.1)) ∧ PA H' xs ∧ PotAt H' p ∧ KeepBut p H H' ∧ ∀ x ∈ xs, Sz 90 x.2.1 ∧ Sz 90 x.2.2, ⟨[], rfl, eD, PA.nil, hp.same sD, KeepBut.of sD, fun x hx => nomatch hx⟩, ?_, ?_⟩
    · rintro i H1 hi ⟨xs, hl, el, hx, hp1, k1, h90⟩
      repeat walk_at "rd"
      refine ⟨rfl, ?_⟩
      repeat walk_at "rd"
      refine use_pair hp1 (fun q t b H2 zt zb nb hq hq2 hp2 k2 => ?_)
      have el2 := k2 D _ nDp el
      refine g_grow el2 (by rw [List.length_map]; omega) (fun H3 e3 ne3 => ?_)
      refine ⟨xs ++ [(q, t, b)], by rw [List.length_append, hl]; rfl, by rw [e3, List.map_append]; rfl, PA.snoc ((hx.keep k2 hp1).off el2 ne3) (hq2.off el2 ne3) nb (zt.mono (by decide)) (zb.mono (by decide)), hp2.off nDp ne3, (k1.trans k2).new hD ne3, fun x hx => ?_⟩
      rcases List.mem_append.mp hx with z | z
      · exact h90 x z
      · obtain rfl := List.mem_singleton.mp z
        exact ⟨zt, zb⟩
    · rintro H1 ⟨xs, hl, el, hx, hp1, k1, h90⟩
      rcases xs with _ | ⟨x0, rest⟩
      · cases hl
      rw [List.map_cons] at el
      have e0 : H1 x0.1 = some (.tup [.int x0.2.1, .int x0.2.2]) := (hx x0 (List.mem_cons_self ..)).1
      have y0 := (hx x0 (List.mem_cons_self ..)).2
      repeat walk_at "rd"
      refine r_ixL (.inl (.inl el)) atI0 ?_
      repeat walk_at "rd"
      refine r_I (Sz.cm (b := 3) y0.2.1 (by unfold Sz; decide) (by decide) (by decide) (by decide)) ?_
      repeat walk_at "rd"
      refine r_ixL (.inl (.inl el)) atI0 ?_
      repeat walk_at "rd"
      refine r_I (Sz.cm (b := 3) y0.2.2 (by unfold Sz; decide) (by decide) (by decide) (by decide)) ?_
      repeat walk_at "rd"
      refine r_new (by show 2 ≤ 100000; decide) (fun q4 H2 hq4 s2 e2 _ => ?_)
      have el2 := s2 _ _ el
      repeat walk_at "rd"
      refine q_app el2 (by rw [List.length_cons, List.length_map]; have : rest.length + 1 = 4 := hl; omega) (fun H3 e3 ne3 => ?_)
      have hx3 : PA H3 (x0 :: rest ++ [(q4, x0.2.1 * -7, x0.2.2 * -7)]) := by
        refine PA.snoc ((hx.same s2).off el2 ne3) (TupAt.off e2 el2 ne3) (by have := y0.1; omega) ?_ ?_
        · exact ((h90 x0 (List.mem_cons_self ..)).1.mul (b := 3) (by unfold Sz; decide)).mono (by decide)
        · exact ((h90 x0 (List.mem_cons_self ..)).2.mul (b := 3) (by unfold Sz; decide)).mono (by decide)
      have hp3 : PotAt H3 p := (hp1.same s2).off nDp ne3
      have k3 : KeepBut p H H3 := (k1.trans (KeepBut.of s2)).new hD ne3
      obtain ⟨xs, exs⟩ : ∃ xs, xs = x0 :: rest ++ [(q4, x0.2.1 * -7, x0.2.2 * -7)] := ⟨_, rfl⟩
      have e3 : H3 D = some (.lst (xs.map fun x => .ref x.1)) := by
        rw [e3, exs, List.map_append, List.map_cons]; rfl
      rw [← exs] at hx3
      have lxs : xs.length = 5 := by
        rw [exs, List.length_append, hl]; rfl
      clear exs
      repeat walk_at "rd"
      refine u_lcL (xs := xs.map fun x => .ref x.1) (fun D2 H4 hD2 sD2 eD2 nD2 => ?_)
      have nD2p : D2 ≠ p := hp3.neq hD2
      have nDD2 : D ≠ D2 := ne_of_none e3 hD2
      have hDD2 : H D2 = none := k3.none hp3 hD2
      refine ⟨fun i H' => ∃ rs : List Row, rs.map (fun r => (r.q, r.t, r.b)) = xs.take i ∧ H' D2 = some (.lst (rs.map fun r => .ref r.a)) ∧ H' D = some (.lst (xs.map fun x => .ref x.1)) ∧ (∀ r ∈ rs, RowAt K H' r) ∧ PA H' xs ∧ PotAt H' p ∧ KeepBut p H H',
        ⟨[], by simp, eD2, sD2 _ _ e3, RowsNil, hx3.same sD2, hp3.same sD2, k3.trans (KeepBut.of sD2)⟩, ?_, ?_, ?_⟩
      · rintro i H' _ ⟨rs, _, _, z, _⟩
        exact .inl (.inl z)
      · rintro i x H5 hxi ⟨rs, er, ed, el5, hr, hx5, hp5, k5⟩
        rw [List.getElem?_map] at hxi
        obtain ⟨y, hy, rfl⟩ := Option.map_eq_some_iff.mp hxi
        obtain ⟨ty, nb, zt, zb⟩ := hx5 y (List.mem_of_getElem? hy)
        have ty' : H5 y.1 = some (.tup [.int y.2.1, .int y.2.2]) := ty
        have hi : i < 5 := by
          have := (List.getElem?_eq_some_iff.mp hy).1
          omega
        repeat walk_at "rd"
        refine ⟨rfl, ?_⟩
        repeat walk_at "rd"
        refine use_make rfl nb (zb.mono (by decide)) (fun a H6 s6 ha6 ha => ?_)
        have ed6 := s6 _ _ ed
        have lrs : rs.length = i := by
          have := congrArg List.length er
          rw [List.length_map, List.length_take] at this
          omega
        refine g_grow ed6 (by rw [List.length_map]; omega) (fun H7 e7 ne7 => ?_)
        refine ⟨rs ++ [⟨y.1, a, y.2.1, y.2.2⟩], ?_, by rw [e7, List.map_append]; rfl, by rw [ne7 D nDD2]; exact s6 _ _ el5, ?_, (hx5.same s6).off ed6 ne7, (hp5.same s6).off nD2p ne7, (k5.trans (KeepBut.of s6)).new hDD2 ne7⟩
        · rw [List.map_append, er, List.take_add_one, hy]; rfl
        · intro r hr2
          rcases List.mem_append.mp hr2 with z | z
          · exact ((hr r z).same s6).off ed6 ne7
          · obtain rfl := List.mem_singleton.mp z
            exact ⟨(ty.same s6).off ed6 ne7, nb, zt.mono (by decide), zb.mono (by decide), ha.off ed6 ne7⟩
      · rintro H5 ⟨rs, er, ed, el5, hr, hx5, hp5, k5⟩
        have lv : LV K p D D2 H5 rs := by
          refine ⟨?_, ed, nDD2, nDp, nD2p, hr, hp5⟩
          rw [List.length_map, List.take_length] at er
          rw [el5, ← er, List.map_map]; rfl
        have lrs : rs.length = 5 := by
          rw [List.length_map, List.take_length] at er
          rw [← lxs, ← er, List.length_map]
        clear er ed el5 hr hx5
        repeat walk_at "rd"
        refine use_digit hp5 (by omega) (by omega) (fun d6 H6 d60 d61 hp6 k6 => ?_)
        have lv := lv.keep k6 hp6
        repeat walk_at "rd"
        refine ⟨by omega, by omega, ?_⟩
        refine u_range (fun i σ H' => ∃ rs y2 y4 y5 y6 y7 y8 y9 y10 y11 y12 y13 y14, σ = [some (V.ref p), some (V.ref D), y2, some (V.ref D2), y4, y5, y6, y7, y8, y9, y10, y11, y12, y13, y14] ∧ LV K p D D2 H' rs ∧ rs.length ≤ 5 + i ∧ 0 < rs.length ∧ KeepBut p H H')
          ⟨rs, _, _, _, _, _, _, _, _, _, _, _, _, rfl, lv, by omega, by omega, k5.trans k6⟩ ?_ ?_
        · clear lv lrs hp6 k6 d60
          rintro i σ H6 hi ⟨rs, y2, y4, y5, y6, y7, y8, y9, y10, y11, y12, y13, y14, rfl, lv, hl1, hl2, k6⟩
          have las := lv.as
          repeat walk_at "rd"
          refine use_digit lv.pot (by rw [List.length_map]; omega) (by rw [List.length_map]; omega) (fun d7 H7 d70 d71 hp7 k7 => ?_)
          have k6 := k6.trans k7
          have lv := lv.keep k7 hp7
          repeat walk_at "rd"
          refine r_new (by show 5 ≤ 100000; decide) (fun l8 H8 hl8 s8 e8 _ => ?_)
          have n8 := hp7.neq hl8
          have k6 := k6.trans (KeepBut.of s8)
          have lv := lv.same s8
          repeat walk_at "rd"
          refine use_pick lv.pot e8 n8 (by simp) (by simp) (fun v H9 hv hp9 k9 => ?_)
          have k6 := k6.trans k9
          have lv := lv.keep k9 hp9
          obtain ⟨way, rfl⟩ : ∃ way : Str, v = .str way := by
            simp only [List.mem_cons, List.not_mem_nil, or_false] at hv
            rcases hv with rfl | rfl | rfl | rfl | rfl <;> exact ⟨_, rfl⟩
          clear hv e8 hl8 n8
          repeat walk_at "rd"
          refine use_draw lv.pot (fun wh H10 zw hp10 k10 => ?_)
          have k6 := k6.trans k10
          have lv := lv.keep k10 hp10
          have las := lv.as
          repeat walk_at "rd"
          refine use_digit lv.pot (by rw [List.length_map]; omega) (by rw [List.length_map]; omega) (fun d11 H11 d110 d111 hp11 k11 => ?_)
          have k6 := k6.trans k11
          have lv := lv.keep k11 hp11
          repeat walk_at "rd"
          refine use_digit lv.pot (by omega) (by omega) (fun d12 H12 _ _ hp12 k12 => ?_)
          have k6 := k6.trans k12
          have lv := lv.keep k12 hp12
          repeat walk_at "rd"
          obtain ⟨r1, hr1, ip1, ia1⟩ := lv.at_ d70 (by rw [List.length_map] at d71 ⊢; exact d71)
          obtain ⟨r2, hr2, ip2, ia2⟩ := lv.at_ d110 (by rw [List.length_map] at d111 ⊢; exact d111)
          refine r_ifR (fun x H' => ∃ v q2 u d, (∃ c, x = V.ref c ∧ H' c = some (.tup [v, .ref q2])) ∧ TupAt H' q2 u d ∧ d ≠ 0 ∧ Sz 200 u ∧ Sz 200 d ∧ AmtV K H' v (low u d).1 (low u d).2 ∧
            ((decide (d12 = 0) = true ∧ ∃ i, v = .int i) ∨ (decide (d12 = 0) = false ∧ ∃ c, v = .ref c ∧ AmtAt K H' c (low u d).1 (low u d).2)) ∧ Same H12 H') (fun e Q kq => ?_) (fun e Q kq => ?_) ?_
          · repeat walk_at "rd"
            refine r_new (by show 2 ≤ 100000; decide) (fun c13 H13 hc13 s13 e13 _ => ?_)
            repeat walk_at "rd"
            refine r_new (by show 2 ≤ 100000; decide) (fun c14 H14 hc14 s14 e14 _ => ?_)
            refine kq _ _ ⟨.int wh, c13, wh, 1, ⟨c14, rfl, e14⟩, s14 _ _ e13, by decide, zw.mono (by decide), by unfold Sz; decide, .inr ⟨?_, ?_⟩, .inl ⟨decide_eq_true e, _, rfl⟩, s13.trans s14⟩
            · rw [low_one]
            · rw [low_one]
          · obtain ⟨z1, z2, z3, z4, z5⟩ := lv.rows r2 hr2
            repeat walk_at "rd"
            refine r_ixL (.inl (.inl lv.as)) ia2 ?_
            repeat walk_at "rd"
            refine r_ixL (.inl (.inl lv.ps)) ip2 ?_
            repeat walk_at "rd"
            refine r_new (by show 2 ≤ 100000; decide) (fun c14 H14 hc14 s14 e14 _ => ?_)
            exact kq _ _ ⟨.ref r2.a, r2.q, r2.t, r2.b, ⟨c14, rfl, e14⟩, z1.same s14, z2, z3, z4, .inl ⟨_, rfl, z5.same s14⟩, .inr ⟨decide_eq_false e, _, rfl, z5.same s14⟩, s14⟩
          rintro x H13 ⟨v, q2, u, d, ⟨c, rfl, e13⟩, hq2, nd, zu, zd, hv, hw, s13⟩
          have k6 := k6.trans (KeepBut.of s13)
          have lv := lv.same s13
          refine r_gtup (.inl (.inl e13)) (by rfl) ?_
          repeat walk_at "rd"
          refine r_ixL (.inl (.inl lv.as)) ia1 ?_
          repeat walk_at "rd"
          refine r_ixL (.inl (.inl lv.ps)) ip1 ?_
          repeat walk_at "rd"
          obtain ⟨tq, nb, zt, zb, ha⟩ := lv.rows r1 hr1
          refine ⟨r1.a, r1.q, v, q2, decide (d12 = 0), (low r1.t r1.b).1, (low r1.t r1.b).2, r1.t, r1.b, (low u d).1, (low u d).2, u, d, rfl, ha, tq, nb, rfl, hq2, nd, rfl, hv, hw,
            ⟨(low_szT nb zt).mono (by decide), (low_szB nb zb).mono (by decide), (low_szT nd zu).mono (by decide), (low_szB nd zd).mono (by decide)⟩, ⟨zt.mono (by decide), zb.mono (by decide), zu.mono (by decide), zd.mono (by decide)⟩, fun H14 s14 => ?_⟩
          have k6 := k6.trans (KeepBut.of s14)
          have lv := lv.same s14
          have tq := tq.same s14
          have ha := ha.same s14
          have hq2 := hq2.same s14
          have hv := hv.same s14
          clear hw e13
          repeat walk_at "rd"
          intro way2 hway
          have nM := made_bot (t := r1.t) nb nd hway
          have zM1 := made_szT (way := way2) zt zb zu zd
          have zM2 := made_szB (way := way2) (t := r1.t) (b := r1.b) (u := u) (d := d) zt zb zu zd
          repeat walk_at "rd"
          refine r_ixL (.inl (.inl lv.ps)) ip1 ?_
          repeat walk_at "rd"
          refine ⟨way2, r1.q, q2, r1.t, r1.b, u, d, rfl, tq, hq2, ⟨zt.mono (by decide), zb.mono (by decide), zu.mono (by decide), zd.mono (by decide)⟩, fun c15 H15 hc15 s15 t15 => ?_⟩
          repeat walk_at "rd"
          refine use_low t15 nM (zM1.mono (by decide)) (zM2.mono (by decide)) (show low (madeT way2 r1.t r1.b u d) (madeB way2 r1.t r1.b u d) = ((low (madeT way2 r1.t r1.b u d) (madeB way2 r1.t r1.b u d)).1, (low (madeT way2 r1.t r1.b u d) (madeB way2 r1.t r1.b u d)).2) from rfl) (fun c16 H16 hc16 s16 t16 => ?_)
          have s56 := s15.trans s16
          have k6 := k6.trans (KeepBut.of s56)
          have lv := lv.same s56
          have ha := ha.same s56
          have hv := hv.same s56
          repeat walk_at "rd"
          refine r_ixL (.inl (.inl lv.as)) ia1 ?_
          repeat walk_at "rd"
          refine ⟨way2, r1.a, v, _, _, _, _, rfl, ha, hv, ⟨(low_szT nb zt).mono (by decide), (low_szB nb zb).mono (by decide), (low_szT nd zu).mono (by decide), (low_szB nd zd).mono (by decide)⟩, low_ne nb, low_ne nd, fun e => low_top nd (hway e), fun p17 H17 s17 a17 => ?_⟩
          rw [made_low nb nd hway] at a17
          have idem := low_idem (t := madeT way2 r1.t r1.b u d) nM
          have nL := low_ne (t := madeT way2 r1.t r1.b u d) nM
          have pL := low_pos (t := madeT way2 r1.t r1.b u d) nM
          have zL1 := low_szT (t := madeT way2 r1.t r1.b u d) nM zM1
          have zL2 := low_szB (t := madeT way2 r1.t r1.b u d) nM zM2
          have t16 := t16.same s17
          have k6 := k6.trans (KeepBut.of s17)
          have lv := lv.same s17
          generalize (low (madeT way2 r1.t r1.b u d) (madeB way2 r1.t r1.b u d)).1 = TT at *
          generalize (low (madeT way2 r1.t r1.b u d) (madeB way2 r1.t r1.b u d)).2 = BB at *
          repeat walk_at "rd"
          refine ⟨p17, c16, TT, BB, TT, BB, rfl, a17, t16, nL, ⟨zL1.mono (by decide), zL2.mono (by decide)⟩, idem, ⟨zL1, zL2⟩, fun H18 s18 => ?_⟩
          have t16 := t16.same s18
          have a17 := a17.same s18
          have k6 := k6.trans (KeepBut.of s18)
          have lv := lv.same s18
          have lps := lv.ps
          have t16' : H18 c16 = some (.tup [.int TT, .int BB]) := t16
          repeat walk_at "rd"
          refine r_dec (fun e => ?_) (fun e => ?_)
          · have sT : Sz 200 TT := by
              have := ten60
              unfold Sz
              split at e <;> split at e <;> omega
            have sB : Sz 200 BB := by
              have := ten60
              unfold Sz
              split at e <;> split at e <;> omega
            repeat walk_at "rd"
            refine q_app lv.ps (by rw [List.length_map]; omega) (fun H19 e19 ne19 => ?_)
            have las19 : H19 D2 = some (.lst (rs.map fun r => .ref r.a)) := by rw [ne19 D2 nDD2.symm]; exact lv.as
            repeat walk_at "rd"
            refine q_app las19 (by rw [List.length_map]; omega) (fun H20 e20 ne20 => ?_)
            repeat walk_at "rd"
            refine ⟨rs ++ [⟨c16, p17, TT, BB⟩], _, _, _, _, _, _, _, _, _, _, _, _, rfl, ⟨?_, ?_, nDD2, nDp, nD2p, ?_, (lv.pot.off nDp ne19).off nD2p ne20⟩, ?_, ?_, (k6.new hD ne19).new hDD2 ne20⟩
            · rw [ne20 D nDD2, e19, List.map_append]; rfl
            · rw [e20, List.map_append]; rfl
            · intro r hr2
              rcases List.mem_append.mp hr2 with z | z
              · exact ((lv.rows r z).off lv.ps ne19).off las19 ne20
              · obtain rfl := List.mem_singleton.mp z
                refine ⟨(t16.off lv.ps ne19).off las19 ne20, nL, sT, sB, ?_⟩
                rw [idem]
                exact (a17.off lv.ps ne19).off las19 ne20
            · rw [List.length_append]; show rs.length + 1 ≤ _; omega
            · rw [List.length_append]; omega
          · repeat walk_at "rd"
            exact ⟨rs, _, _, _, _, _, _, _, _, _, _, _, _, rfl, lv, by omega, hl2, k6⟩
        · clear lv lrs hp6 k6 d60
          rintro σ H6 ⟨rs, y2, y4, y5, y6, y7, y8, y9, y10, y11, y12, y13, y14, rfl, lv, hl1, hl2, k6⟩
          repeat walk_at "rd"
          refine use_make rfl (by decide) (by unfold Sz; decide +kernel) (fun a7 H7 s7 ha7 a7' => ?_)
          rw [low_one] at a7'
          have k6 := k6.trans (KeepBut.of s7)
          have lv := lv.same s7
          repeat walk_at "rd"
          refine use_str a7' (by unfold Sz; decide +kernel) (by unfold Sz; decide +kernel) ?_
          repeat walk_at "rd"
          refine r_ndec (fun e => absurd (by decide +kernel) e) (fun _ => ?_)
          repeat walk_at "rd"
          refine ⟨_, _, _, _, rfl, .inl (.inl lv.as), .inl (.inl lv.ps), u_lcZ (xs := rs.map fun r => .ref r.a) (ys := rs.map fun r => .ref r.q) (fun D3 H8 hD3 sD3 eD3 nD3 => ?_)⟩
          have nD3p := lv.pot.neq hD3
          have hDD3 := k6.none lv.pot hD3
          have m1 : D ≠ D3 := ne_of_none lv.ps hD3
          have m2 : D2 ≠ D3 := ne_of_none lv.as hD3
          have lv := lv.same sD3
          have k6 := k6.trans (KeepBut.of sD3)
          refine ⟨fun i H' => H' D3 = some (.lst ((List.replicate i true).map V.bl)) ∧ LV K p D D2 H' rs ∧ KeepBut p H H', ⟨eD3, lv, k6⟩, ?_, by rw [List.length_map, List.length_map], ?_, ?_⟩
          · rintro i H9 _ ⟨_, lv9, _⟩
            exact ⟨.inl (.inl lv9.as), .inl (.inl lv9.ps)⟩
          · rintro i x y T H9 H10 hx hy ⟨e9, lv9, k9⟩ hT sT eT nT
            rw [List.getElem?_map] at hx hy
            obtain ⟨r, er, rfl⟩ := Option.map_eq_some_iff.mp hx
            rw [er] at hy
            obtain rfl := Option.some.inj hy
            obtain ⟨z1, z2, z3, z4, z5⟩ := (lv9.same sT).rows r (List.mem_of_getElem? er)
            have hi : i < rs.length := (List.getElem?_eq_some_iff.mp er).1
            have e10 := sT _ _ e9
            refine r_gtup (.inl (.inl eT)) (by rfl) ?_
            repeat walk_at "rd"
            refine ⟨rfl, ?_⟩
            repeat walk_at "rd"
            refine ⟨r.a, r.q, _, _, r.t, r.b, rfl, z5, z1, z2, ⟨z3.mono (by decide), z4.mono (by decide)⟩, rfl, ⟨(low_szT z2 z3).mono (by decide), (low_szB z2 z4).mono (by decide)⟩, fun H11 s11 => ?_⟩
            have e11 := s11 _ _ e10
            refine g_grow e11 (by rw [List.length_map, List.length_replicate]; omega) (fun H12 e12 ne12 => ?_)
            have lv11 := (lv9.same sT).same s11
            refine ⟨by rw [e12, List.replicate_succ', List.map_append]; rfl, ⟨by rw [ne12 D m1]; exact lv11.ps, by rw [ne12 D2 m2]; exact lv11.as, nDD2, nDp, nD2p, fun r hr => (lv11.rows r hr).off e11 ne12, lv11.pot.off nD3p ne12⟩, ((k9.trans (KeepBut.of sT)).trans (KeepBut.of s11)).new hDD3 ne12⟩
          · rintro H9 ⟨e9, lv9, k9⟩
            repeat walk_at "rd"
            refine r_all (.inl (.inl e9)) ?_
            rw [show (List.replicate (rs.map fun r => V.ref r.a).length true).all id = true from by rw [List.all_replicate]; simp]
            exact k _ k9
theorem sc_l_long_right : FnScope ["_law_one", "_law_other", "_law_low", "_law_high", "_law_turn", "_law_told_here"] [] (defScope s_l_long_right) := ⟨rfl, rfl, rfl, by decide +kernel, rfl, by decide +kernel, by decide +kernel⟩
theorem ok_l_long_right (T : Tx K mg) : FnG P w K mg base CX0 true 6 (He.ga K "_law_long_right") T.fd_l_long_right [] (sp_long) := by
  refine funG T.F_l_long_right sc_l_long_right (fun vs H Q E h => ?_) (fun cdv A outer s H vs Q E hr hg h => ?_)
  · obtain ⟨e, _⟩ := h; rw [e]; rfl
  · obtain ⟨rfl, k⟩ := h
    refine ⟨_, (pss_cons (ps_asg (pe_tup (pa_cons (pg_make T.k_Amount (ok_AmountU_initU T) (hr.mono (by decide)) hg (by rfl) T.g_Amount T.b_AmountU_initU_1.choose_spec.2 T.b_AmountU_initU_1.choose_spec.1 pass0 (pa_cons pe_int pa_nil)) (pa_cons (pg_make T.k_Amount (ok_AmountU_initU T) (hr.mono (by decide)) hg (by rfl) T.g_Amount T.b_AmountU_initU_1.choose_spec.2 T.b_AmountU_initU_1.choose_spec.1 pass0 (pa_cons pe_int pa_nil)) (pa_cons pe_int (pa_cons pe_int pa_nil))))) (pg_tupK (K' := K) (n := 4) (by rfl) (pgs_cons (pg_name (i := 0) sc_l_long_right.nd rfl (by first | exact Or.inl rfl | exact Or.inr rfl)) (pgs_cons (pg_name (i := 1) sc_l_long_right.nd rfl (by first | exact Or.inl rfl | exact Or.inr rfl)) (pgs_cons (pg_name (i := 2) sc_l_long_right.nd rfl (by first | exact Or.inl rfl | exact Or.inr rfl)) (pgs_cons (pg_name (i := 3) sc_l_long_right.nd rfl (by first | exact Or.inl rfl | exact Or.inr rfl)) pgs_nil))))))
    (pss_cons (ps_for PassesOwn.never (by rfl) (pi_range1 (by rfl) T.m_range (pa_cons pe_int pa_nil)) (pg_name (i := 4) sc_l_long_right.nd rfl (by first | exact Or.inl rfl | exact Or.inr rfl)) (pss_cons (ps_par (i := 0) (j := 1) (by rfl) sc_l_long_right.nd rfl rfl (by decide) rfl rfl (pa_cons (pe_op (op_own T.o_Amount_Mult (ok_AmountU_mulU T) (hr.mono (by decide)) hg T.b_AmountU_mulU pass0) (pv 0) (pe_op (op_own T.o_Amount_Sub (ok_AmountU_subU T) (hr.mono (by decide)) hg T.b_AmountU_subU pass0) (pe_op (op_own T.o_Amount_Mult (ok_AmountU_mulU T) (hr.mono (by decide)) hg T.b_AmountU_mulU pass0) (pv 1) pe_int) (pv 0))) (pa_cons (pe_op (op_own T.o_Amount_Add (ok_AmountU_addU T) (hr.mono (by decide)) hg T.b_AmountU_addU pass0) (pe_op (op_own T.o_Amount_Mult (ok_AmountU_mulU T) (hr.mono (by decide)) hg T.b_AmountU_mulU pass0) (pv 0) (pv 0)) (pe_op (op_own T.o_Amount_Mult (ok_AmountU_mulU T) (hr.mono (by decide)) hg T.b_AmountU_mulU pass0) (pv 1) (pv 1))) pa_nil)) (by rfl))
    (pss_one (ps_par (i := 2) (j := 3) (by rfl) sc_l_long_right.nd rfl rfl (by decide) rfl rfl (pa_cons (pe_op op_mulW (pv 2) (pe_op op_sub (pe_op op_mulW pe_int (pv 3)) (pv 2))) (pa_cons (pe_op op_add (pe_op op_mulW (pv 2) (pv 2)) (pe_op op_mulW (pv 3) (pv 3))) pa_nil)) (by rfl)))))
    (pss_cons (ps_set (i := 5) sc_l_long_right.nd rfl (by first | exact Or.inl rfl | exact Or.inr rfl) (pg_meth (pv 1) T.c_Amount T.mt_Amount_over (ok_Amount_over T) (hr.mono (by decide)) hg T.b_Amount_over .nil pass0 (pa_cons (pv 0) pa_nil)))
    (pss_one (ps_ret (pe_cmpR (op_eqD hr.units) (pe_lst (pa_cons (pg_prop (pv 5) T.c_Amount T.p_Amount_top (ok_Amount_top T) (hr.mono (by decide)) hg T.b_Amount_top .nil pass0 rfl) (pa_cons (pg_prop (pv 5) T.c_Amount T.p_Amount_bottom (ok_Amount_bottom T) (hr.mono (by decide)) hg T.b_Amount_bottom .nil pass0 rfl) (pa_cons (pe_callTy (cr_strOwn T.o_Amount_str (ok_AmountU_strU T) (hr.mono (by decide)) hg T.b_AmountU_strU pass0) (by rfl) T.m_str (by decide +kernel) (pa_cons (pv 5) pa_nil)) pa_nil)))) (pe_lst (pa_cons (pv 3) (pa_cons (pv 2) (pa_cons (pe_op op_add_str (pe_op op_add_str (pe_callTy call_str_int (by rfl) T.m_str (by decide +kernel) (pa_cons (pv 3) pa_nil)) pe_str) (pe_callTy call_str_int (by rfl) T.m_str (by decide +kernel) (pa_cons (pv 2) pa_nil))) pa_nil)))) (nomark _))))))), ?_⟩
    walk_at "st"
    repeat walk_at "rd"
    refine use_make rfl (by decide) (by unfold Sz; decide +kernel) (fun a1 H1 s1 _ ha1 => ?_)
    rw [low_one] at ha1
    repeat walk_at "rd"
    refine use_make rfl (by decide) (by unfold Sz; decide +kernel) (fun a2 H2 s2 _ ha2 => ?_)
    rw [low_one] at ha2
    have ha1 := ha1.same s2
    repeat walk_at "rd"
    refine r_new (by show 4 ≤ 100000; decide) (fun c H3 hc s3 e3 _ => ?_)
    refine r_gtup (.inl (.inl e3)) (by rfl) ?_
    repeat walk_at "rd"
    refine ⟨by omega, by omega, ?_⟩
    have s13 := (s1.trans s2).trans s3
    refine u_range (fun i σ H' => ∃ b1 b2 y4 y5, σ = [some (V.ref b1), some (V.ref b2), some (.int (fibs i).1), some (.int (fibs i).2), y4, y5] ∧ AmtAt K H' b1 (fibs i).1 1 ∧ AmtAt K H' b2 (fibs i).2 1 ∧ Same H H') ⟨a1, a2, _, _, rfl, ha1.same s3, ha2.same s3, s13⟩ ?_ ?_
    · rintro i σ H4 hi ⟨b1, b2, y4, y5, rfl, h1, h2, s4⟩
      have hi : i < 10 := hi
      obtain ⟨z1, z2⟩ := fibs_sz i (by omega)
      repeat walk_at "rd"
      refine use_op h2 (.inr ⟨rfl, rfl⟩) (z2.mono (by decide)) (by unfold Sz; decide +kernel) rfl rfl (fun p1 H5 s5 e5 => ?_)
      have y1 : Sz 803 ((fibs i).2 * 2) := (z2.mul (b := 3) (by unfold Sz; decide)).mono (by decide)
      have h1 := h1.same s5
      have h2 := h2.same s5
      repeat walk_at "rd"
      refine use_op e5 (.inl ⟨_, rfl, h1⟩) (y1.mono (by decide)) (z1.mono (by decide)) rfl rfl (fun p2 H6 s6 e6 => ?_)
      have y2 : Sz 804 ((fibs i).2 * 2 * 1 - (fibs i).1 * 1) := by
        rw [Int.mul_one, Int.mul_one]; exact (y1.sub z1).mono (by decide)
      have h1 := h1.same s6
      have h2 := h2.same s6
      repeat walk_at "rd"
      refine use_op h1 (.inl ⟨_, rfl, e6⟩) (z1.mono (by decide)) (y2.mono (by decide)) rfl rfl (fun p3 H7 s7 e7 => ?_)
      have h1 := h1.same s7
      have h2 := h2.same s7
      repeat walk_at "rd"
      refine use_op h1 (.inl ⟨_, rfl, h1⟩) (z1.mono (by decide)) (z1.mono (by decide)) rfl rfl (fun p4 H8 s8 e8 => ?_)
      have h2 := h2.same s8
      repeat walk_at "rd"
      refine use_op h2 (.inl ⟨_, rfl, h2⟩) (z2.mono (by decide)) (z2.mono (by decide)) rfl rfl (fun p5 H9 s9 e9 => ?_)
      repeat walk_at "rd"
      refine use_op (e8.same s9) (.inl ⟨_, rfl, e9⟩) ((z1.mul z1).mono (by decide)) ((z2.mul z2).mono (by decide)) rfl rfl (fun p6 H10 s10 e10 => ?_)
      repeat walk_at "rd"
      refine r_I (Sz.cm (a := 3) (by unfold Sz; decide) z2 (by decide) (by decide) (by decide)) ?_
      repeat walk_at "rd"
      have y3 : Sz 804 (2 * (fibs i).2 - (fibs i).1) := by
        rw [Int.mul_comm 2]; exact (y1.sub z1).mono (by decide)
      refine r_I (Sz.cm z1 y3 (by decide) (by decide) (by decide)) ?_
      repeat walk_at "rd"
      refine r_I (Sz.cm z1 z1 (by decide) (by decide) (by decide)) ?_
      repeat walk_at "rd"
      refine r_I (Sz.cm z2 z2 (by decide) (by decide) (by decide)) ?_
      repeat walk_at "rd"
      have q1 : (fibs i).1 * (2 * (fibs i).2 - (fibs i).1) = (fibs (i + 1)).1 := by
        show _ = (fibs i).1 * ((fibs i).2 * 2 - (fibs i).1)
        rw [Int.mul_comm 2]
      have q2 : (fibs i).1 * ((fibs i).2 * 2 * 1 - (fibs i).1 * 1) = (fibs (i + 1)).1 := by
        show _ = (fibs i).1 * ((fibs i).2 * 2 - (fibs i).1)
        rw [Int.mul_one, Int.mul_one]
      have q3 : (fibs i).1 * (fibs i).1 * 1 + (fibs i).2 * (fibs i).2 * 1 = (fibs (i + 1)).2 := by
        show _ = (fibs i).1 * (fibs i).1 + (fibs i).2 * (fibs i).2
        rw [Int.mul_one, Int.mul_one]
      rw [q2] at e7
      rw [q3] at e10
      rw [q1]
      exact ⟨p3, p6, _, _, rfl, (e7.same (s8.trans s9)).same s10, e10, s4.trans (s5.trans (s6.trans (s7.trans (s8.trans (s9.trans s10)))))⟩
    · rintro σ H4 ⟨b1, b2, y4, y5, rfl, h1, h2, s4⟩
      have h1 : AmtAt K H4 b1 (fibs 10).1 1 := h1
      have h2 : AmtAt K H4 b2 (fibs 10).2 1 := h2
      obtain ⟨z1, z2⟩ := fibs_sz 10 (by omega)
      have f1 : (fibs 10).1 ≠ 0 := by decide +kernel
      have f2 : (fibs 10).1 ≠ 1 := by decide +kernel
      have f3 : low ((fibs 10).2 * 1) (1 * (fibs 10).1) = ((fibs 10).2, (fibs 10).1) := by decide +kernel
      show tSeq _ _ _ [some (V.ref b1), some (V.ref b2), some (.int (fibs 10).1), some (.int (fibs 10).2), y4, y5] H4
      generalize (fibs 10).1 = F at *
      generalize (fibs 10).2 = G at *
      have l1 : F.natAbs.log2 < 1920 := z1.log (by decide) (by decide)
      have l2 : G.natAbs.log2 < 1920 := z2.log (by decide) (by decide)
      have w1 := int_text_len_1921 l1
      have w2 := int_text_len_1921 l2
      repeat walk_at "rd"
      refine q_meth h2 (by decide +kernel) (by decide +kernel) ?_
      repeat walk_at "rd"
      refine ⟨b2, .ref b1, G, 1, F, 1, rfl, h2, .inl ⟨_, rfl, h1⟩, ⟨z2.mono (by decide), by unfold Sz; decide +kernel, z1.mono (by decide), by unfold Sz; decide +kernel⟩, by decide, by decide, f1, fun p H5 s5 e5 => ?_⟩
      rw [f3] at e5
      have e5 : AmtAt K H5 p G F := e5
      repeat walk_at "rd"
      refine use_str e5 (z2.mono (by decide)) (z1.mono (by decide)) ?_
      repeat walk_at "rd"
      refine r_new (by show 3 ≤ 100000; decide) (fun c6 H6 hc6 s6 e6 _ => ?_)
      repeat walk_at "rd"
      refine ⟨l2, ?_⟩
      repeat walk_at "rd"
      refine q_addS (by walk_at "len") ?_
      repeat walk_at "rd"
      refine ⟨l1, ?_⟩
      refine q_addS (by walk_at "len") ?_
      repeat walk_at "rd"
      refine r_new (by show 3 ≤ 100000; decide) (fun c7 H7 hc7 s7 e7 _ => ?_)
      have et : amtS G F = Str.ofString (toString G) ++ Str.ofString "/" ++ Str.ofString (toString F) := by
        unfold amtS; rw [if_neg f2, nil_app]
      rw [← et] at e7
      refine r_eqD (d := .list [.int G, .int F, .str (amtS G F)]) (e := .list [.int G, .int F, .str (amtS G F)]) (.lst (.inl (.inl (s7 _ _ e6))) (.cons (.int _) (.cons (.int _) (.cons (.str _) .nil)))) (.lst (.inl (.inl e7)) (.cons (.int _) (.cons (.int _) (.cons (.str _) .nil)))) (tri_shaped G F G F) (tri_shaped G F G F) ?_
      rw [show PyData.eqv (.list [.int G, .int F, .str (amtS G F)]) (.list [.int G, .int F, .str (amtS G F)]) = true from by simp [PyData.eqv, PyData.eqvAll]]
      exact k _ (s4.trans (s5.trans (s6.trans s7)))
theorem sc_law : FnScope ["_law_script", "_law_k"] ["_law_script"] (defScope s_law) := ⟨rfl, rfl, rfl, by decide +kernel, rfl, by decide +kernel, by decide +kernel⟩
theorem ok_law (T : Tx K mg) : FnG P w K mg base CX0 true 8 (He.ga K "law") T.fd_law ["_law_script"] (sp_law K) := by
  refine funG T.F_law sc_law (fun vs H Q E h => ?_) (fun cdv A outer s H vs Q E hr hg h => ?_)
  · obtain ⟨a, ns, e, _⟩ := h; rw [e]; rfl
  · obtain ⟨a, ns, rfl, hs, hn, k⟩ := h
    refine ⟨_, (pss_cons (ps_if (pt_not (pt_val (pg_call0 (ok_l_long_right T) (hr.mono (by decide)) hg (by rfl) T.g_l_long_right T.F_l_long_right.kp T.b_l_long_right .nil pass0))) (pss_one (ps_ret pe_bl)) pss_nil)
    (pss_one (ps_ret (pe_callB (cr_all rfl) (by rfl) T.m_all (by decide +kernel) (pa_cons (pe_lc (own := [("_law_k", 1)]) (by rfl) sc_law.nd (pi_range1 (by rfl) T.m_range (pa_cons (pe_callB (call_max2 rfl) (by rfl) T.m_max (by decide +kernel) (pa_cons pe_int (pa_cons (pe_callB (call_min2 rfl) (by rfl) T.m_min (by decide +kernel) (pa_cons (pe_callB call_len_seq (by rfl) T.m_len (by decide +kernel) (pa_cons (pv 0) pa_nil)) (pa_cons pe_int pa_nil))) pa_nil))) pa_nil)) (blkOk_by (own := [("_law_k", 1)]) (N := ["_law_script", "_law_k"]) (sc := defScope s_law) (by decide +kernel)) (fun _ _ _ _ _ => (pg_name (i := 1) sc_law.nd rfl (by first | exact Or.inl rfl | exact Or.inr rfl))) (fun _ _ _ _ _ => pts_nil) (fun _ _ _ _ _ => (pg_call (ok_l_right T) (hr.mono (by decide)) hg (by rfl) T.g_l_right T.F_l_right.kp T.b_l_right .nil pass0 (pa_cons (pg_call (ok_l_pot T) (hr.mono (by decide)) hg (by rfl) T.g_l_pot T.F_l_pot.kp T.b_l_pot .nil pass0 (pa_cons (pv 0) (pa_cons (pv 1) pa_nil))) pa_nil)))) pa_nil))))), ?_⟩
    walk_at "st"
    repeat walk_at "rd"
    refine ⟨rfl, fun H1 s1 => ?_⟩
    have hs := sql_same hs s1
    repeat walk_at "rd"
    refine q_len hs ?_
    repeat walk_at "rd"
    rw [List.length_map]
    obtain ⟨m, em⟩ : ∃ m : Int, m = (if (if (8 : Int) < ns.length then 8 else (ns.length : Int)) > 1 then (if (8 : Int) < ns.length then 8 else (ns.length : Int)) else 1) := ⟨_, rfl⟩
    rw [← em]
    have m8 : m ≤ 8 ∧ 0 ≤ m := by
      rw [em]
      split <;> split <;> omega
    clear em
    refine ⟨by omega, by omega, u_lcR (fun D H0 hD sD eD nD => ?_)⟩
    refine ⟨fun i H' => H' D = some (.lst ((List.replicate i true).map V.bl)) ∧ Same H1 H', ⟨eD, sD⟩, ?_, ?_⟩
    · rintro i H2 hi ⟨e2, s2⟩
      repeat walk_at "rd"
      refine ⟨rfl, ?_⟩
      repeat walk_at "rd"
      refine use_pot (sql_same hs s2) (by omega) (by omega) (fun p H3 hp s3 pp => ?_)
      repeat walk_at "rd"
      refine ⟨p, rfl, pp, fun H4 k4 => ?_⟩
      have nDp : D ≠ p := ne_of_none e2 hp
      have e4 := k4 D _ nDp (s3 _ _ e2)
      refine g_grow e4 (by rw [List.length_map, List.length_replicate]; omega) (fun H5 e5 ne5 => ⟨by rw [e5, List.replicate_succ', List.map_append]; rfl, fun b o eb => ?_⟩)
      rw [ne5 b (ne_of_none eb hD)]
      exact k4 b o (ne_of_none (s2 b o eb) hp) (s3 b o (s2 b o eb))
    · rintro H2 ⟨e2, s2⟩
      repeat walk_at "rd"
      refine r_all (.inl (.inl e2)) ?_
      rw [show (List.replicate m.toNat true).all id = true from by rw [List.all_replicate]; simp]
      exact k _

end
end K11
open PySem PySem.W PySem.Calls PyProof.Rows
set_option maxRecDepth 100000 in
set_option maxHeartbeats 0 in
theorem PySem.Challenge.cw_leastlog_k11_amounts_reckoned_holds : PySem.Challenge.rw_leastlog_k11_amounts_reckoned.Holds := by
  w_on; o_law
  refine LL.head_imp (r := OpenLaw.row PySem.Challenge.rw_leastlog_k11_amounts_reckoned) (q := view (OpenLaw.row PySem.Challenge.rw_leastlog_k11_amounts_reckoned).prog [0, 24]) (H := K11.hk) (ob := K11.ob) (N := 3000) (M := 3000) (loose := K11.loose)
    (d := HandSHeadRun.topDef (OpenLaw.row PySem.Challenge.rw_leastlog_k11_amounts_reckoned).prog 24) (kwd := []) K11.ob_eq (by decide +kernel) K11.run
    (by kernel_rfl) (by kernel_rfl) (by kernel_rfl) (by rfl) (by first | assumption | decide +kernel) (by decide +kernel) ⟨rfl, rfl, rfl, rfl, rfl, by decide +kernel⟩ ?hw ?hc
  case hw => w_witness2
  case hc =>
    refine LL.walk_g (g := true) (l := PySem.Challenge.rw_leastlog_k11_amounts_reckoned) (n := 63) (k := 8) (x := "_law_script") (CX := L2.CX0) rfl (by decide) (by kernel_rfl) ⟨rfl, by decide, by decide⟩ ?F (fun _ _ _ _ z => z)
    intro w mg fa h Y XX G hmg0
    obtain ⟨K, KX, c, x⟩ := Y
    have hmg : mg ("law" : PySem.Str) = some (.ref fa) := by
      have e : (HandSHeadRun.topDef (OpenLaw.row PySem.Challenge.rw_leastlog_k11_amounts_reckoned).prog 24).name = ("law" : PySem.Str) := by kernel_rfl
      rw [← e]
      exact hmg0
    obtain ⟨T, _⟩ := K11.tx_of KX G XX c x
    have e := hmg.symm.trans T.g_law
    cases e
    exact ⟨K, T.fd_law, K11.sp_law K, KX, fun s v => L2.FunD.bindsA (ps := ["_law_script"]) T.F_law (fun _ _ _ _ _ _ us hl => match us, hl with | [_], _ => rfl) s [v] rfl, fun H a ns hl _ hS => ⟨a, ns, rfl, hS, hl, fun _ => rfl⟩, fun base _ _ => K11.ok_law T⟩
