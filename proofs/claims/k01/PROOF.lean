import PyProof.Rows.All
import Wide.All
import OpenK.AllK
import Wide.FinOn
import HandS.ForMost
import HandS.Exc
import HandS.TryOnly
import HandS.Lambda
import HandS.Star
import HandS.IsInst
import PyProof.InstNe
import KE.KCallOwn
import KE.KFmtOwn
import HandS.RaiseMore
import KE.KExcInit
import HandS.ExcInit
import HandS.ExcIs
import HandS.ExcField
import KE.KTryMore
import KE.KExcHand
import KE.KExcIs
import HandS.EndTab
import HandS.FStr
import PyProof.FString2
import PyProof.CallStr
import PyProof.FactsAll.NoneType
import PyProof.ReprLen
import HandS.MakeKw
import HandS.ClsMeth
import HandS.WordsExc
import HandS.MakeKwOnly
import HandS.Comp
import HandS.HeadWalk
import PySem.Challenge.RW_everframe_k01_leads_as_values
set_option Elab.async false
set_option linter.all false
set_option maxRecDepth 100000
set_option maxHeartbeats 2000000
/-! Promises of defs that display lists: they want that no display is under way. -/
namespace Ev
open PySem PySem.Spec PyProof.Rows L2

/-- a def's promise, where no display is under way -/
structure FnG (P : Program) (w : World) (K : PySem.W.Frag) (mg : Str → Option Value) (base : Heap) (CX : CXT) (k : Nat) (f : Addr) (fd : FuncData) (ps : List Str) (sp : Sp) : Prop where
  len : ∀ vs H Q E, sp vs H Q E → vs.length = ps.length
  run : ∀ (A : Around) (outer : List Env) (s : Shared) (H : Hp) (args : Args) (us : List Value) (vs : List V) (Q : VK) (E : XK),
    Room k A → A.guards = some [] → Env0 P w K mg base A outer s H → BindsTo s fd args (ps.zip us) → Vals vs us → sp vs H Q E →
    codeAny (model P w) A (.call (.ref f) args) (CR CX outer P w H s Q E) s

section
variable {P : Program} {w : World} {K : PySem.W.Frag} {mg : Str → Option Value} {base : Heap}
theorem okG {x qual : Str} {st : Stmt} {f : Addr} {fd : FuncData} {N ps : List Str} {k : Nat} {sp : Sp} (F : Fun K x qual st f fd) (S : FnScope N ps (defScope st))
    (len : ∀ vs H Q E, sp vs H Q E → vs.length = ps.length)
    (body : ∀ (cdv : Value) (A : Around) (outer : List Env) (s : Shared) (H : Hp) (vs : List V) (Q : VK) (E : XK),
      PySem.W.codeIn K cdv qual = true → A.guards = some [] → Room k (A.deeper (envOfC qual (defScope st) s.heap.objs.size f cdv)) → sp vs H Q E →
      ∃ t, PSs (cxOf CX0 P w K mg base N qual (defScope st) f cdv A outer s H E).nox (defBody st) t ∧
        t { nx := fun _ H' => Q .non H', rt := Q } (start N vs) H) :
    FnG P w K mg base CX0 (k + 1) f fd ps sp := by
  obtain ⟨oc, od, kV, doc, pm, an, cdv, ct, osl, rfl, lk, hcd⟩ := F.ex
  refine ⟨len, fun A outer s H args us vs Q E hr hg e0 hb r hsp => ?_⟩
  refine LamX.run_ofS lk hcd S hr e0 hb r (len _ _ _ _ hsp) fun hr' => ?_
  obtain ⟨t, h, q⟩ := body cdv A outer s H vs Q E hcd hg hr' hsp
  exact ⟨t, h.nox, q⟩
end

section
variable {X : Cx} {k : Nat} {f : Addr} {fd : FuncData} {ps : List Str} {sp : Sp} {x : Str} {p pos : Pos} {e : Expr} {es : List Expr} {t : TA}
/-- a call of such a def, all its arguments written -/
theorem pe_callG (F : FnG X.prog X.w X.K X.mg X.base CX0 k f fd ps sp) (hr : Room k X.A) (hgd : X.A.guards = some [])
    (hg : Gl X x) (hm : X.mg x = some (.ref f)) (hk : PySem.W.keepIn X.K (.ref f) = true) (hb : L2.Binds X.K fd ps [])
    (ha : PA X (e :: es) t) (hdb : (x == ("__debug__" : Str)) = false := by decide)
    (he : starEach (e :: es) X.env = (false, eval e X.env) :: starEach es X.env := by rfl)
    (hpl : (backTo pos (starEach es X.env)).any (·.1) = false := by rfl) :
    PE X (.Call (.Name x p) (e :: es) [] pos) (fun σ H Q => t σ H fun vs H1 => sp vs H1 Q E0) := by
  refine ⟨fun pins s σ H Q I h => ?_⟩
  refine wpAny_Call_Name_kw (ld_glob I hg hm ?_ hdb)
  refine PySem.W.callWith_K (h₀ := X.base) I.ok.mod.kin hk (thn (ha.run pos pins s σ H _ I h) ?_) he hpl
  rintro us s1 ⟨vs, H1, I1, r, q⟩
  refine ⟨I1.kIn, ?_⟩
  have hl : (us ++ []).length = ps.length := by
    rw [List.append_nil, ← r.length]
    exact F.len _ _ _ _ q
  have hb' := hb s1 us I1.kIn hl
  rw [List.append_nil] at hb'
  refine wpAny_call (codeAny_mono (F.run X.A X.stack s1 H1 ⟨us, []⟩ us vs Q E0 hr hgd I1.env0 hb' r q) ?_)
  intro res s' hq
  rcases res with er | fl
  · exact (show False from hq).elim
  · cases fl with
    | ret u => exact I1.after hq
    | next => exact False.elim hq
    | brk => exact False.elim hq
    | cont => exact False.elim hq
end
end Ev

set_option Elab.async false
set_option linter.all false
set_option maxRecDepth 100000
set_option maxHeartbeats 2000000
/-! Operators of own classes: a * b, a + b, a == y, a != b. -/
namespace Ev
open PySem PySem.Spec PyProof.Rows L2

theorem back_of {x : V} {v : Value} {Q : Value → Shared → Prop} {s : Shared} (r : RelV x v) (q : Q v s) : PySem.W.CmpBack Q v s := by
  cases x with
  | non => cases r; exact q
  | bl b => cases r; exact q
  | int i => obtain ⟨t, rfl⟩ := r; exact q
  | str i => obtain ⟨t, rfl⟩ := r; exact q
  | byt i => obtain ⟨t, rfl⟩ := r; exact q
  | flt i => obtain ⟨t, rfl⟩ := r; exact q
  | ref a => cases r; exact q
  | ty n => cases r; exact q

/-- a special method of an own class, a def of the text -/
structure Spec (K : PySem.W.Frag) (C : Addr) (name : Str) (f : Addr) : Prop where
  at_ : PySem.W.findIn K (.ref C) name = some (some (.ref f))
  fn : PySem.W.isFn K (.ref f) = true

/-- the callee runs, from inside a builtin that the body called -/
theorem run_at {X : Cx} {CX : CXT} {k : Nat} {f : Addr} {fd : FuncData} {ps : List Str} {sp : Sp} {E : XK} {A : Around} {pins : List (Addr × Obj)} {σ : L2.St} {H : Hp} {s : Shared} {Q : VK} {us : List Value} {vs : List V}
    (F : FnOk X.prog X.w X.K X.mg X.base CX k f fd ps sp) (hr : Room k A) (hA : A.frames = X.A.frames) (hb : L2.Binds X.K fd ps []) (hx : Passes CX X E)
    (I : Inv X pins σ H s) (r : Vals vs us) (h : sp vs H Q E) : wpAny (model X.prog X.w) A (call (.ref f) us) (EP X pins σ Q) X.xe s := by
  have hl : (us ++ []).length = ps.length := by
    rw [List.append_nil, ← r.length]
    exact F.len _ _ _ _ h
  have hb' := hb s us I.kIn hl
  rw [List.append_nil] at hb'
  have e := I.env0
  have e0 : Env0 X.prog X.w X.K X.mg X.base A X.stack s H := ⟨hA.trans e.frames, e.mod, e.bs, e.bsz, e.funs, e.frf, e.hok, e.bare⟩
  refine wpAny_call (codeAny_mono (F.run A X.stack s H ⟨us, []⟩ us vs Q E hr e0 hb' r h) fun res s' hq => ?_)
  rcases res with er | fl
  · exact hx pins σ H s er s' I hq
  · cases fl with
    | ret u => exact I.after hq
    | next => exact False.elim hq
    | brk => exact False.elim hq
    | cont => exact False.elim hq

section
variable {X : Cx} {CX : CXT} {k : Nat} {f C : Addr} {fd : FuncData} {ps : List Str} {sp : Sp} {E : XK}
/-- two instances of one own class, an operator that the class defines -/
def rBin (C : Addr) (sp : Sp) (E : XK) : R2 := fun x y H Q => ∃ a b dx dy fs gs, x = .ref a ∧ y = .ref b ∧
  H a = some (.ins C dx fs) ∧ H b = some (.ins C dy gs) ∧ sp [x, y] H Q E
theorem op_bin {op : Operator} (F : FnOk X.prog X.w X.K X.mg X.base CX k f fd ps sp) (hr : Room k X.A) (hb : L2.Binds X.K fd ps []) (hx : Passes CX X E)
    (hs : Spec X.K C (PySem.dunder op.info.2) f) (hc : PySem.W.selfFirst X.K C = true) : OpR X (binaryOp op) (rBin C sp E) := by
  intro pins s σ H x y v u Q I rx ry h
  obtain ⟨a, b, dx, dy, fs, gs, rfl, rfl, ha, hb', q⟩ := h
  cases rx
  cases ry
  obtain ⟨mA, JA, _⟩ := ins_get I.hok ha
  obtain ⟨mB, JB, _⟩ := ins_get I.hok hb'
  obtain ⟨oa, JA, _⟩ := JA.look
  obtain ⟨ob, JB, _⟩ := JB.look
  obtain ⟨m, hF⟩ := I.fr
  refine PySem.W.binop_K hF I.ok.mod.kin JA JB.type hc hs.at_ hs.fn ?_
  have run := run_fn (vs := [V.ref a, V.ref b]) (us := [Value.ref a, Value.ref b]) F hr hb .nil hx I (.cons rfl (.cons rfl .nil)) q
  exact thn run fun v s' ⟨z, H', I', r, q'⟩ => back_of r ⟨z, H', I', r, q'⟩
/-- an own == (or <, ..) of an instance with anything whose type is known -/
def rCmp (K : PySem.W.Frag) (C : Addr) (sp : Sp) (E : XK) : R2 := fun x y H Q => ∃ a dx fs t, x = .ref a ∧ H a = some (.ins C dx fs) ∧ TyX K H y t ∧
  PySem.W.notFirst K C t = true ∧ sp [x, y] H Q E
theorem op_cmp {op : CmpOp} (hop : compareOp op = richCompare op) (F : FnOk X.prog X.w X.K X.mg X.base CX k f fd ps sp) (hr : Room k X.A) (hb : L2.Binds X.K fd ps []) (hx : Passes CX X E)
    (hs : Spec X.K C (cmpInfo op).2.1 f) : OpR X (compareOp op) (rCmp X.K C sp E) := by
  intro pins s σ H x y v u Q I rx ry h
  obtain ⟨a, dx, fs, t, rfl, ha, ty, hn, q⟩ := h
  cases rx
  obtain ⟨mA, JA, _⟩ := ins_get I.hok ha
  obtain ⟨oa, JA, _⟩ := JA.look
  obtain ⟨m, hF⟩ := I.fr
  obtain ⟨P, Z, p, _⟩ := kit_of I ry ty
  rw [hop]
  refine PySem.W.cmp_K (by have := hr.un; omega) hF I.ok.mod.kin JA (Z.ty _ _ I.kIn p) hn hs.at_ hs.fn ?_
  have run := run_fn (vs := [V.ref a, y]) (us := [Value.ref a, u]) F hr hb .nil hx I (.cons rfl (.cons ry .nil)) q
  exact thn run fun v s' ⟨z, H', I', r, q'⟩ => back_of r ⟨z, H', I', r, q'⟩

/-- object's != where the class has its own == alone -/
theorem op_neOwn (G : FnOk X.prog X.w X.K X.mg X.base CX k f fd ps sp) (hr : Room (k + 1) X.A) (hb : L2.Binds X.K fd ps []) (hx : Passes CX X E)
    (hs : Spec X.K C "__eq__" f) (hne : PySem.W.findIn X.K (.ref C) "__ne__" = some (some (.builtin "object.__ne__")))
    (hobj : PySem.W.mroIn X.K C (.type "object") = some true) :
    OpR X (compareOp .NotEq) (fun x y H Q => ∃ a b dx dy fs gs, x = .ref a ∧ y = .ref b ∧ H a = some (.ins C dx fs) ∧ H b = some (.ins C dy gs) ∧
      sp [x, y] H (fun v H' => ∃ c, v = .bl c ∧ Q (.bl (!c)) H') E) := by
  intro pins s σ H x y v u Q I rx ry h
  obtain ⟨a, b, dx, dy, fs, gs, rfl, rfl, ha, hb', q⟩ := h
  cases rx
  cases ry
  obtain ⟨mA, JA, _⟩ := ins_get I.hok ha
  obtain ⟨mB, JB, _⟩ := ins_get I.hok hb'
  obtain ⟨oa, JA, _⟩ := JA.look
  obtain ⟨ob, JB, _⟩ := JB.look
  have hu0 : X.A.units < cLine := by have := hr.un; omega
  have hu1 : X.A.in1.units < cLine := by have := hr.un; show X.A.units + 1 < cLine; omega
  show wpAny (model X.prog X.w) X.A (richCompare .NotEq (.ref a) (.ref b)) _ _ s
  unfold richCompare
  simp only [oneThing_ref]
  refine wpAny_holding (wpAny_bind (wpAny_cRoomFor hu0 ?_))
  refine wpAny_bind (JA.type.here (wpAny_bind (JB.type.here ?_)))
  rw [show (Value.ref C != Value.ref C) = false from by simp]
  simp only [Bool.false_eq_true, if_false]
  refine wpAny_bind (wpAny_pure ?_)
  simp only [Bool.false_eq_true, if_false]
  -- its __ne__ is object's
  have key : wpAny (model X.prog X.w) X.A (tryCompare (.ref a) (cmpInfo .NotEq).2.1 (.ref b)) (fun r s' => ∃ v, r = some v ∧ EP X pins σ Q v s') X.xe s := by
    unfold tryCompare callSpecialIfBound? bindSpecialIfBound? specialOf
    refine wpAny_bind (wpAny_holding (wpAny_bind (wpAny_bind (wpAny_bind (JA.type.here ((PySem.W.looks_findIn I.kIn hne).here ?_))))))
    have bnd : bindSpecial (.builtin "object.__ne__") (.ref a) = pure (.builtin "object.__ne__", [.ref a]) := F.cmp_object.ne.bind (.ref a)
    have rest : wpAny (model X.prog X.w) X.A (call (.builtin "object.__ne__") ([Value.ref a] ++ [Value.ref b])) (fun v s' => v ≠ .notImplemented ∧ EP X pins σ Q v s') X.xe s := by
      have sub : PySem.W.Looks (model X.prog X.w) s.heap (isInstance (.ref a) (.type "object")) true := JA.type.andThen (PySem.W.looks_mroIn I.kIn hobj)
      refine wpAny_call (codeAny_call_builtin F.cmp_object.ne.plain F.cmpEntry_ne (PySem.W.check_slot F.cmpKind_ne F.cmpSplit_ne sub (F.cmpArgs_ne _ _) ?_))
      unfold Builtin.«object.__ne__»
      refine wpAny_bind (wpAny_of_eq (a := ((Value.ref a : Value), [Value.ref b])) (by first | rfl | (simp only [slotArgs]; rfl)) ?_)
      refine wpAny_bind (wpAny_cRoomFor hu1 (wpAny_bind (PySem.W.ifBound_K I.kIn JA hs.at_ hs.fn ?_)))
      have run := run_at (A := X.A.in1) (vs := [V.ref a, V.ref b]) (us := [Value.ref a, Value.ref b]) G hr.in1 rfl hb hx I (.cons rfl (.cons rfl .nil)) q
      refine thn run fun v s' ⟨z, H', I', r, c, ez, q'⟩ => ?_
      subst ez
      cases r
      refine wpAny_bind (wpAny_truthy_bool ?_)
      exact wpAny_pure ⟨(fun z => nomatch z), V.bl (!c), H', I', rfl, q'⟩
    refine wpAny_bind (wpAny_askSetting (wpAny_ite ?_))
    have fin : wpAny (model X.prog X.w) X.A (call (.builtin "object.__ne__") ([Value.ref a] ++ [Value.ref b]) >>= fun v => pure (some v))
        (fun r s' => ∃ v, r = some v ∧ v ≠ .notImplemented ∧ EP X pins σ Q v s') X.xe s := wpAny_bind (thn rest fun v s' h' => wpAny_pure ⟨v, rfl, h'⟩)
    have tail : ∀ r s', (∃ v, r = some v ∧ v ≠ .notImplemented ∧ EP X pins σ Q v s') → wpAny (model X.prog X.w) X.A
          (match r with
            | some Value.notImplemented => pure none
            | none => pure none
            | some v => pure (some v)) (fun r s' => ∃ v, r = some v ∧ EP X pins σ Q v s') X.xe s' := by
      rintro r s' ⟨v, rfl, hn, q'⟩
      cases v <;> first | exact absurd rfl hn | exact wpAny_pure ⟨_, rfl, q'⟩
    split
    · rw [bnd]
      exact wpAny_bind (wpAny_pure (wpAny_pure (thn fin tail)))
    · rw [bnd]
      exact wpAny_tryCatch (wpAny_bind (wpAny_pure (wpAny_pure (thn fin tail))))
  exact wpAny_bind (thn key fun r s' ⟨v, e, q'⟩ => by subst e; exact wpAny_pure q')
end
end Ev

set_option Elab.async false
set_option linter.all false
set_option maxRecDepth 100000
set_option maxHeartbeats 2000000
/-! bool(a), str(a), repr(a) of an own instance; repr of data. -/
namespace Ev
open PySem PySem.Spec PyProof.Rows L2

section
variable {X : Cx} {CX : CXT} {k : Nat} {f C : Addr} {fd : FuncData} {ps : List Str} {sp : Sp} {E : XK}
theorem strBack_of {x : Str} {v : Value} {Q : Value → Shared → Prop} {s : Shared} (r : RelV (.str x) v) (q : Q v s) : PySem.W.StrBack Q v s := by
  obtain ⟨t, rfl⟩ := r
  exact q
/-- repr(a), the class's own def -/
theorem call_reprOwn (F : FnOk X.prog X.w X.K X.mg X.base CX k f fd ps sp) (hr : Room (k + 1) X.A) (hb : L2.Binds X.K fd ps []) (hx : Passes CX X E)
    (hs : Spec X.K C "__repr__" f) : CallR X (.builtin "repr") (fun xs H Q => ∃ a dx fs, xs = [.ref a] ∧ H a = some (.ins C dx fs) ∧
      sp [.ref a] H (fun v H' => ∃ x, v = .str x ∧ Q (.str x) H') E) := by
  intro pins s σ H xs us Q I r h
  obtain ⟨a, dx, fs, rfl, ha, q⟩ := h
  obtain ⟨u, rfl, ru⟩ := vals1 r
  cases ru
  obtain ⟨mA, JA, _⟩ := ins_get I.hok ha
  obtain ⟨oa, JA, _⟩ := JA.look
  obtain ⟨m, hF⟩ := I.fr
  refine PySem.W.repr_K (by have := hr.un; show X.A.units + 1 < cLine; omega) hF I.ok.mod.kin JA hs.at_ hs.fn ?_
  refine thn (run_at (A := X.A.in1) (vs := [V.ref a]) (us := [Value.ref a]) F hr.in1 rfl hb hx I (.cons rfl .nil) q) fun v s' ⟨z, H', I', r, x, ez, q'⟩ => ?_
  subst ez
  exact strBack_of r ⟨.str x, H', I', r, q'⟩
/-- str(a) -/
theorem call_strOwn (F : FnOk X.prog X.w X.K X.mg X.base CX k f fd ps sp) (hr : Room (k + 2) X.A) (hb : L2.Binds X.K fd ps []) (hx : Passes CX X E)
    (hs : Spec X.K C "__str__" f) : CallR X (.type "str") (fun xs H Q => ∃ a dx fs, xs = [.ref a] ∧ H a = some (.ins C dx fs) ∧
      sp [.ref a] H (fun v H' => ∃ x, v = .str x ∧ Q (.str x) H') E) := by
  intro pins s σ H xs us Q I r h
  obtain ⟨a, dx, fs, rfl, ha, q⟩ := h
  obtain ⟨u, rfl, ru⟩ := vals1 r
  cases ru
  obtain ⟨mA, JA, _⟩ := ins_get I.hok ha
  obtain ⟨oa, JA, _⟩ := JA.look
  refine PySem.W.kso_call (by have := hr.un; show X.A.units + 1 + 1 < cLine; omega) I.kIn JA hs.at_ hs.fn ?_
  refine thn (run_at (A := X.A.in1.in1) (vs := [V.ref a]) (us := [Value.ref a]) F hr.in1.in1 rfl hb hx I (.cons rfl .nil) q) fun v s' ⟨z, H', I', r, x, ez, q'⟩ => ?_
  subst ez
  exact strBack_of r ⟨.str x, H', I', r, q'⟩
/-- bool(a) -/
theorem call_boolOwn (G : FnOk X.prog X.w X.K X.mg X.base CX k f fd ps sp) (hr : Room (k + 2) X.A) (hb : L2.Binds X.K fd ps []) (hx : Passes CX X E)
    (hs : Spec X.K C "__bool__" f) : CallR X (.type "bool") (fun xs H Q => ∃ a dx fs, xs = [.ref a] ∧ H a = some (.ins C dx fs) ∧
      sp [.ref a] H (fun v H' => ∃ c, v = .bl c ∧ Q (.bl c) H') E) := by
  intro pins s σ H xs us Q I r h
  obtain ⟨a, dx, fs, rfl, ha, q⟩ := h
  obtain ⟨u, rfl, ru⟩ := vals1 r
  cases ru
  obtain ⟨mA, JA, _⟩ := ins_get I.hok ha
  obtain ⟨oa, JA, _⟩ := JA.look
  obtain ⟨m, hF⟩ := I.fr
  have run := run_at (A := X.A.in1.in1) (vs := [V.ref a]) (us := [Value.ref a]) G hr.in1.in1 rfl hb hx I (.cons rfl .nil) q
  have tru : wpAny (model X.prog X.w) X.A.in1.in1 (truthy (.ref a)) (fun c s' => EP X pins σ Q (.bool c) s') X.xe s := by
    refine PySem.W.truthy_K hF I.ok.mod.kin JA hs.at_ hs.fn (thn run fun v s' ⟨z, H', I', r, c, ez, q'⟩ => ?_)
    subst ez
    cases r
    exact ⟨.bl c, H', I', rfl, q'⟩
  refine callType_codes (T := "bool") (Bi := Builtin.«object.__init__») (Q₁ := fun r s₁ => ∃ c, r = .bool c ∧ EP X pins σ Q r s₁) F.called_bool (F.typeCall_bool_1 _) F.entry_object_init ?_ ?_
  · refine codeAny_of_tree ?_
    show wpAny _ X.A.in1.in1 (do checkBuiltinCall "bool.__new__" ⟨[.type "bool", .ref a], []⟩; again (.builtin "bool.__new__" ⟨[.type "bool", .ref a], []⟩)) _ _ s
    refine wpAny_bind (wpAny_of_eq (F.newCall_bool_1 _) (wpAny_pure ⟨plainId_quiet (by decide +kernel) _, codeAny_builtin F.entry_bool_new ?_⟩))
    rw [Around.under_plainId (by decide +kernel) _]
    unfold Builtin.«bool.__new__»
    dsimp only
    refine wpAny_bind (m := isType (.type "bool")) (wpAny_pure ?_)
    refine wpAny_bind (wpAny_of_eq F.conv_sub_bool ?_)
    refine wpAny_bind (m := someArgs "bool" 0 1 _) (wpAny_pure ?_)
    exact wpAny_bind (thn tru fun c s' q' => wpAny_pure ⟨c, rfl, q'⟩)
  · rintro obj s₁ ⟨c, rfl, hq⟩
    have hT : s₁.TypeIs (.bool c) "bool" := PySem.typeIs_bool s₁ c
    exact ⟨hT, F.args_object_init_2 _ _, object_init_meets F.called_bool.init.lookup F.called_bool.made (by decide) X.prog X.w X.A.in1 _ s₁ ⟨hT, rfl, hq⟩⟩
/-- bool(True) -/
theorem call_boolB : CallR X (.type "bool") (fun xs H Q => ∃ c, xs = [.bl c] ∧ Q (.bl c) H) := by
  intro pins s σ H xs us Q I r h
  obtain ⟨c, rfl, q⟩ := h
  obtain ⟨u, rfl, ru⟩ := vals1 r
  cases ru
  exact call_bool_bool ⟨.bl c, H, I, rfl, q⟩

/-! ### repr of data -/
mutual
/-- data as they stand, an empty dict among them -/
inductive Dx (K : PySem.W.Frag) (H : Hp) : V → PyData → Prop
  | non : Dx K H .non .none
  | bl (b : Bool) : Dx K H (.bl b) (.bool b)
  | int (i : Int) : Dx K H (.int i) (.int i)
  | str (x : Str) : Dx K H (.str x) (.str x)
  | dict {a : Addr} : H a = some (.dK []) → Dx K H (.ref a) (.dict [])
  | lst {a : Addr} {xs : List V} {ds : List PyData} : SqL K H a xs → DxAll K H xs ds → Dx K H (.ref a) (.list ds)
  | tup {a : Addr} {xs : List V} {ds : List PyData} : SqT K H a xs → DxAll K H xs ds → Dx K H (.ref a) (.tuple ds)
inductive DxAll (K : PySem.W.Frag) (H : Hp) : List V → List PyData → Prop
  | nil : DxAll K H [] []
  | cons {v : V} {vs : List V} {d : PyData} {ds : List PyData} : Dx K H v d → DxAll K H vs ds → DxAll K H (v :: vs) (d :: ds)
end
mutual
/-- a list within -/
def lsAny : PyData → Bool
  | .list _ => true
  | .tuple xs => lsAll xs
  | _ => false
def lsAll : List PyData → Bool
  | [] => false
  | x :: xs => lsAny x || lsAll xs
end
section
variable {pins : List (Addr × Obj)} {σ : L2.St} {H : Hp} {s : Shared}
mutual
theorem Dx.reads (I : Inv X pins σ H s) : ∀ (d : PyData) (v : V) (u : Value), Dx X.K H v d → RelV v u → ∃ as, Reads s.heap u d as ∧ (lsAny d = false → sysModules ∉ as)
  | .none, _, _, .non, r => by
    cases r
    exact ⟨_, .none, fun _ => List.not_mem_nil⟩
  | .bool b, _, _, .bl _, r => by
    cases r
    exact ⟨_, .bool b, fun _ => List.not_mem_nil⟩
  | .int i, _, _, .int _, r => by
    obtain ⟨t, rfl⟩ := r
    exact ⟨_, .int i t, fun _ => List.not_mem_nil⟩
  | .str x, _, _, .str _, r => by
    obtain ⟨t, rfl⟩ := r
    exact ⟨_, .str x t, fun _ => List.not_mem_nil⟩
  | .list ds, _, _, .lst hq ha, r => by
    cases r
    obtain ⟨its, rv, ⟨o, n, ho, hc, _, hd⟩, _⟩ := I.list hq
    obtain ⟨as, h, hn⟩ := DxAll.reads I ds _ its ha rv
    exact ⟨_, .list ho hc hd h, fun e => by simp [lsAny] at e⟩
  | .tuple ds, _, _, .tup hq ha, r => by
    cases r
    obtain ⟨its, rv, ⟨o, ho, hc, n, hd⟩, _⟩ := I.tuple hq
    obtain ⟨as, h, hn⟩ := DxAll.reads I ds _ its ha rv
    exact ⟨_, .tuple ho hc hd h, fun e => hn (by simpa [lsAny] using e)⟩
  | .dict _, _, _, .dict ha, r => by
    cases r
    obtain ⟨_, hS, vs, rv, o, es, ep, ho, hx, hd, _, hp, _⟩ := I.hok _ _ ha
    cases rv
    have e0 : es.toList = [] := by
      cases q : es.toList with
      | nil => rfl
      | cons p l => rw [q] at hp; cases hp
    refine ⟨_, .dict (as := []) (bs := []) ho hx.1 hd (by rw [e0]; exact .nil) (by rw [e0]; exact .nil), fun _ hm => ?_⟩
    have hS' := beq_eq_false_iff_ne.mp hS
    have z : sysModules = _ := List.mem_singleton.mp (by simpa using hm)
    exact hS' z.symm
theorem DxAll.reads (I : Inv X pins σ H s) : ∀ (ds : List PyData) (vs : List V) (us : List Value), DxAll X.K H vs ds → Vals vs us → ∃ as, ReadsAll s.heap us ds as ∧ (lsAll ds = false → sysModules ∉ as)
  | [], _, _, .nil, r => by
    cases r
    exact ⟨_, .nil, fun _ => List.not_mem_nil⟩
  | d :: ds, _, _, .cons h1 h2, r => by
    cases r with
    | cons r1 r2 =>
      obtain ⟨as, q1, n1⟩ := Dx.reads I d _ _ h1 r1
      obtain ⟨bs, q2, n2⟩ := DxAll.reads I ds _ _ h2 r2
      refine ⟨_, .cons q1 q2, fun e hm => ?_⟩
      have e' : (lsAny d || lsAll ds) = false := by simpa [lsAll] using e
      obtain ⟨e1, e2⟩ := Bool.or_eq_false_iff.mp e'
      rcases List.mem_append.mp hm with z | z
      · exact n1 e1 z
      · exact n2 e2 z
end
end
theorem dictShow {d : PyData} (h : d.hasDict = true → lsAny d = false) {as : List Addr} (n : lsAny d = false → sysModules ∉ as) : d.hasDict = true → sysModules ∉ as := fun e => n (h e)
/-- what is wanted of data that are shown -/
structure Shows (d : PyData) : Prop where
  sh : d.showable = true
  dc : d.hasDict = true → lsAny d = false
  dp : d.depth ≤ 64
  sz : d.shown.length ≤ sizeLine
/-- repr(x) of data, where no display is under way -/
theorem call_reprD (hg : X.A.guards = some []) (hu : X.A.units + 70 < cLine) : CallR X (.builtin "repr") (fun xs H Q => ∃ v d, xs = [v] ∧ Dx X.K H v d ∧ Shows d ∧ Q (.str d.shown) H) := by
  intro pins s σ H xs us Q I r h
  obtain ⟨v, d, rfl, hd, S, q⟩ := h
  obtain ⟨u, rfl, ru⟩ := vals1 r
  have fin : ∀ (h' : Heap) (u : Tok) (tk : Nat), (∀ b o, s.heap.get? b = some o → h'.get? b = some o) → EP X pins σ Q (.str d.shown u) { s with heap := h', toks := tk } := fun h' u tk hk =>
    ⟨.str d.shown, H, I.kept hk, ⟨u, rfl⟩, q⟩
  obtain ⟨as, hr, hn⟩ := Dx.reads I d v u hd ru
  cases hr with
  | none => exact PySem.P.repr_of_none ⟨.str _, H, I.tok _, ⟨_, rfl⟩, by rw [PyData.shown_none] at q; exact q⟩
  | bool b => exact PySem.P.repr_of_bool ⟨.str _, H, I.tok _, ⟨_, rfl⟩, by rw [PyData.shown_bool] at q; exact q⟩
  | int i t =>
    have hz : i.natAbs.log2 < 1920 := by have := S.sh; simpa [PyData.showable] using this
    exact PySem.P.repr_of_int hz ⟨.str _, H, I.tok _, ⟨_, rfl⟩, by rw [PyData.shown_int] at q; exact q⟩
  | str x t =>
    have hz : (reprText x).length ≤ sizeLine := by have := S.sz; rw [PyData.shown_str] at this; exact this
    exact PySem.P.repr_of_str ⟨.str _, H, I.tok _, ⟨_, rfl⟩, by rw [PyData.shown_str] at q; exact q⟩ hz
  | list h1 h2 h3 h4 => exact repr_of_reads' (.list h1 h2 h3 h4) S.sh (dictShow S.dc hn) hg (by have := S.dp; omega) (fun _ _ e => e) fin S.sz
  | tuple h1 h2 h3 h4 => exact repr_of_reads' (.tuple h1 h2 h3 h4) S.sh (dictShow S.dc hn) hg (by have := S.dp; omega) (fun _ _ e => e) fin S.sz
  | dict h1 h2 h3 h4 h5 => exact repr_of_reads' (.dict h1 h2 h3 h4 h5) S.sh (dictShow S.dc hn) hg (by have := S.dp; omega) (fun _ _ e => e) fin S.sz
end
end Ev

set_option Elab.async false
set_option linter.all false
set_option maxRecDepth 100000
set_option maxHeartbeats 4000000
/-! Own errors with one field, over any built-in error: made, raised. -/
namespace Ev
open PySem PySem.Spec PyProof.Rows L2

/-- what the written part says of an own error class -/
structure ErrC (K : PySem.W.Frag) (C : Addr) (B newId initId : String) (bmB : List Value) : Prop where
  fb : ExcBaseFacts B newId initId bmB
  sf : StoreFacts B bmB "object.__setattr__" "object"
  ini : PySem.W.excInitIn K C bmB newId = true
  over : PySem.W.excOver K C bmB = true
  sa : PySem.W.findIn K (.ref C) "__setattr__" = some (some (.builtin "object.__setattr__"))
  exC : PySem.W.subIn K (.ref C) (.type "BaseException") = some true
  tyC : PySem.W.typeIn K (.ref C) = some (.type "type")
  kC : PySem.W.keepIn K (.ref C) = true
  hd : PySem.W.hasDictIn K C = true
/-- class X(..): def __init__(self, f): self.f = f; f0 the argument's name, fld the field's -/
def errA (fld : Str) (p1 p2 : Pos) : Arguments := { posonlyargs := [], args := [{ arg := "self", annotation := none, pos := p1 }, { arg := fld, annotation := none, pos := p2 }], vararg := none, kwonlyargs := [], kw_defaults := [], kwarg := none, defaults := [] }
def errB (fld : Str) (q1 q2 q3 q4 : Pos) : List Stmt := [.Assign [.Attribute (.Name "self" q1) fld q2] (.Name fld q3) q4]
def errS (fld : Str) : Scope := { kind := .function, names := [(PySem.Str.ofString "self", .local), (fld, .local)], isGenerator := false, isCoroutine := false, more := [] }
structure Err1 (K : PySem.W.Frag) (qual fld : Str) (C fI : Addr) : Prop where
  iC : PySem.W.findIn K (.ref C) "__init__" = some (some (.ref fI))
  tI : PySem.W.typeIn K (.ref fI) = some (.type "function")
  noN : PySem.W.findIn K (.ref C) fld = some none
  fn : ∃ (oc : Value) (od : Option Addr) (doc pm : Value) (an : Option Addr) (cdv ct : Value) (osl : Array (Option Value)) (p1 p2 q1 q2 q3 q4 : Pos),
    K.lookup fI = some ⟨oc, od, .func (PySem.W.fnOf "__init__" qual (errA fld p1 p2) (errB fld q1 q2 q3 q4) (errS fld) .none .none doc pm an cdv ct), osl⟩ ∧ PySem.W.codeIn K cdv qual = true
/-- an error that has been made: its object at e, its dict at d -/
structure MadeE (h h' : Heap) (e C d : Addr) (fld : Str) (v : Value) : Prop where
  keep : ∀ b o, h.get? b = some o → h'.get? b = some o
  new : h.objs.size ≤ e
  obj : ∃ oe vs, h'.get? e = some oe ∧ oe.cls = .ref C ∧ oe.dict = some d ∧ oe.data = .fields vs ∧ vs[1]? = some .none
  dbig : h.objs.size ≤ d
  dne : d ≠ e
  ns : h'.Ns1 d (fun y => if y = fld then some v else none)
section
variable {prog : Program} {w : World} {A : Around} {R : Result → Shared → Prop} {s : Shared} {K : PySem.W.Frag} {C fI : Addr} {B newId initId : String} {bmB : List Value} {qual fld : Str}
/-- self.f = v, the first store of an error at x -/
theorem err_set {E : Value → Shared → Prop} (T : ErrC K C B newId initId bmB) {x t0 : Addr} {v : Value} {Q : Unit → Shared → Prop} (no : PySem.W.findIn K (.ref C) fld = some none) (X : K.In s.heap) (hx : s.heap.get? x = some (HandSPX.excO C t0))
    (hq : ∀ h' tk d, (∀ b o, b ≠ x → s.heap.get? b = some o → h'.get? b = some o) → s.heap.objs.size ≤ d → d ≠ x → h'.get? x = some { cls := .ref C, dict := some d, data := .fields #[.ref t0, .none, .none, .none, .bool false, .none] } →
      h'.Ns1 d (fun y => if y = fld then some v else none) → Q () { s with heap := h', toks := tk }) :
    wpAny (model prog w) A (setAttr (.ref x) fld v) Q E s := by
  obtain ⟨hp, g, d, t, os⟩ := s
  have hxs : x ≠ hp.objs.size := Nat.ne_of_lt (Heap.lt_size hx)
  have I : PySem.W.InstAt hp x (HandSPX.excO C t0) C none := ⟨hx, rfl, rfl, trivial⟩
  refine PySem.W.set_plain X I T.sa (PySem.W.osa_openX (r := none) T.sf X I T.over (by unfold PySem.W.takerIn; rw [no]; rfl) fun b => ?_)
  obtain ⟨cd, hc, hd'⟩ := PySem.W.any_some T.hd
  refine wpAny_bind (wpAny_pure (wpAny_bind (PySem.W.instanceDict_exc hx (PySem.W.looks_clsIn X hc) hd' ?_)))
  show wpAny _ _ (Builtin.ObjectAttr.storeInDict hp.objs.size (.str fld _) fld v) _ _ _
  refine HandSPX.store_in_new ?_ fun h' tk' hn' hs => ?_
  · exact ⟨_, #[], _, (Heap.get?_update_ne _ _ _ _ hxs.symm).trans (Heap.get?_push_at rfl rfl), rfl, fun e he => absurd he (by simp), fun _ => rfl⟩
  · have hx₁ : (hp.push (PySem.W.dictOf [] 0)).get? x = some (HandSPX.excO C t0) := Heap.get?_push_of_some _ hx
    refine hq h' _ hp.objs.size (fun b o hb ho => ?_) (Nat.le_refl _) hxs.symm ?_ hn'
    · exact (hs.2 b (Nat.ne_of_lt (Heap.lt_size ho))).trans ((Heap.get?_update_ne _ _ _ _ hb).trans (Heap.get?_push_of_some _ ho))
    · exact (hs.2 x hxs).trans (Heap.get?_update_self _ hx₁ rfl)
theorem scopeOf (fld : Str) : (errS fld).names.lookup fld = some .local ∧ (errS fld).names.lookup ("self" : Str) = some .local := by
  refine ⟨?_, rfl⟩
  by_cases h : fld = ("self" : Str)
  · rw [h]; rfl
  · have e : (fld == ("self" : Str)) = false := by simpa using h
    show List.lookup fld [(PySem.Str.ofString "self", NameKind.local), (fld, NameKind.local)] = some .local
    simp [List.lookup]
    split <;> rfl
/-- __init__ of a fresh error at x -/
theorem err_init (T : ErrC K C B newId initId bmB) (Z : Err1 K qual fld C fI) (hne : ¬ fld = ("self" : Str)) (hd : (fld == ("__debug__" : Str)) = false) {x t0 : Addr} {v : Value} (X : K.In s.heap) (hlim : s.heap.NoLimit) (hx : s.heap.get? x = some (HandSPX.excO C t0)) (hroom : A.depth < recursionLimit)
    (hbind : ∀ (doc pm : Value) (an : Option Addr) (cdv ct : Value) (p1 p2 q1 q2 q3 q4 : Pos), bindArgs (PySem.W.fnOf "__init__" qual (errA fld p1 p2) (errB fld q1 q2 q3 q4) (errS fld) .none .none doc pm an cdv ct) ⟨[.ref x, v], []⟩ = pure ([(("self" : Str), Value.ref x), (fld, v)] : List (Str × Value)))
    (hq : ∀ h' tk d, (∀ b o, b ≠ x → s.heap.get? b = some o → h'.get? b = some o) → s.heap.objs.size ≤ d → d ≠ x → h'.get? x = some { cls := .ref C, dict := some d, data := .fields #[.ref t0, .none, .none, .none, .bool false, .none] } →
      h'.Ns1 d (fun y => if y = fld then some v else none) → R (.ok (.ret .none)) { s with heap := h', toks := tk }) :
    codeAny (model prog w) A (.call (.ref fI) ⟨[.ref x, v], []⟩) R s := by
  obtain ⟨oc, od, doc, pm, an, cdv, ct, osl, p1, p2, q1, q2, q3, q4, ho, hcd⟩ := Z.fn
  obtain ⟨k1, k2⟩ := scopeOf fld
  refine Att.call_fn (binds := [(("self" : Str), Value.ref x), (fld, v)]) X hlim ho hcd hroom (BindsTo.of_eq (hbind _ _ _ _ _ _ _ _ _ _ _)) ?_ (fun s₁ IC => ?_) rfl rfl rfl
  · simp only [List.all_cons, List.all_nil, k1, k2]
    decide
  obtain ⟨h₁, tk₁, rfl⟩ := IC.toInCall.same
  have k : ∀ b o, s.heap.get? b = some o → h₁.get? b = some o := IC.toInCall.keep
  have hn := IC.toInCall.ns
  have kf : (envOfC qual (errS fld) s.heap.objs.size fI cdv).kindOf fld = some .local := k1
  have ks : (envOfC qual (errS fld) s.heap.objs.size fI cdv).kindOf "self" = some .local := k2
  have m1 : bindL (envOfC qual (errS fld) s.heap.objs.size fI cdv).kindOf [(("self" : Str), Value.ref x), (fld, v)] (fun _ => none) fld = some v := by
    simp only [bindL, kf, ks, if_true]
  have m2 : bindL (envOfC qual (errS fld) s.heap.objs.size fI cdv).kindOf [(("self" : Str), Value.ref x), (fld, v)] (fun _ => none) "self" = some (Value.ref x) := by
    simp only [bindL, kf, ks, if_true]
    rw [if_neg (Ne.symm hne)]
  refine wpAny_execs_cons (plainObj_wpAny_Assign_Attribute ?_)
  refine wpAny_Name (wpAny_loadName_local rfl kf hn m1 ?_) hd
  refine wpAny_Name (wpAny_loadName_local rfl ks hn m2 ?_) (by decide)
  refine err_set T Z.noN (X.keeps k) (k _ _ hx) fun h' tk d kk dn dne hx' hns => ?_
  refine wpAny_execs_nil (hq h' tk d (fun b o hb e => kk b o hb (k b o e)) ?_ dne hx' hns)
  have z : s.heap.objs.size < h₁.objs.size := hn.lt
  exact Nat.le_of_lt (Nat.lt_of_lt_of_le z dn)
/-- X(v) -/
theorem err_made (T : ErrC K C B newId initId bmB) (Z : Err1 K qual fld C fI) (hne : ¬ fld = ("self" : Str)) (hd : (fld == ("__debug__" : Str)) = false) {v : Value} (X : K.In s.heap) (hlim : s.heap.NoLimit) (hroom : A.depth + 1 < recursionLimit)
    (hbind : ∀ (x : Value) (doc pm : Value) (an : Option Addr) (cdv ct : Value) (p1 p2 q1 q2 q3 q4 : Pos), bindArgs (PySem.W.fnOf "__init__" qual (errA fld p1 p2) (errB fld q1 q2 q3 q4) (errS fld) .none .none doc pm an cdv ct) ⟨[x, v], []⟩ = pure ([(("self" : Str), x), (fld, v)] : List (Str × Value)))
    (hq : ∀ h' tk e d, MadeE s.heap h' e C d fld v → R (.ok (.ret (.ref e))) { s with heap := h', toks := tk }) :
    codeAny (model prog w) A (.call (.ref C) ⟨[v], []⟩) R s := by
  obtain ⟨nm, N', qn, bs, bm, hdct, sn, sub, ab, col, dd, k0, k1, k2, k3, k5, hC, hT⟩ := PySem.W.excInit_of X T.ini
  obtain ⟨hp, g, dr, tk, os⟩ := s
  have kk : ∀ b o, hp.get? b = some o → ((hp.push (PySem.W.kdv_tup [v])).push (HandSPX.excO C hp.objs.size)).get? b = some o := fun b o e =>
    Heap.get?_push_of_some _ (Heap.get?_push_of_some _ e)
  have at_ : ((hp.push (PySem.W.kdv_tup [v])).push (HandSPX.excO C hp.objs.size)).get? (hp.objs.size + 1) = some (HandSPX.excO C hp.objs.size) := by heap_get
  refine HandSPX.call_own T.fb hT hC (PySem.W.looks_findIn X Z.iC) (fun self => PySem.W.bind_fn X self Z.tI) (by rw [sizeLine_eq]; show 1 ≤ 16777216; decide) ?_
  refine err_init (s := ⟨(hp.push (PySem.W.kdv_tup [v])).push (HandSPX.excO C hp.objs.size), g, dr, tk, os⟩) T Z hne hd (X.keeps kk) (hlim.keeps kk) at_ hroom (hbind _) fun h' tk' d k' dn dne hx hns => ?_
  have old : ∀ b o, hp.get? b = some o → h'.get? b = some o := fun b o e => k' b o (Nat.ne_of_lt (Nat.lt_succ_of_lt (Heap.lt_size e))) (kk b o e)
  have sz : ((hp.push (PySem.W.kdv_tup [v])).push (HandSPX.excO C hp.objs.size)).objs.size = hp.objs.size + 1 + 1 := by rw [Heap.size_push, Heap.size_push]
  have dn' : hp.objs.size + 1 + 1 ≤ d := by rw [← sz]; exact dn
  exact ⟨rfl, hq h' tk' (hp.objs.size + 1) d ⟨old, Nat.le_succ _, ⟨_, _, hx, rfl, rfl, rfl, rfl⟩, Nat.le_trans (Nat.le_add_right hp.objs.size (1 + 1)) dn', dne, hns⟩⟩
end
/-- raising X(e), X an own error with one field -/
def tErr (C : Addr) (fld : Str) (ta : TA) : L2.St → Hp → XK → Prop := fun σ H Q => ta σ H fun vs H1 => ∃ v, vs = [v] ∧
  ∀ d, H1 d = none → Q (.ref C) (some d) (upd H1 d (.xd [(fld, v)]))
section
variable {X : Cx} {C fI : Addr} {B newId initId : String} {bmB : List Value} {qual fld x : Str}
theorem pmk_err {a : Expr} {ta : TA} {p pos : Pos} {k : Nat} (T : ErrC X.K C B newId initId bmB) (Z : Err1 X.K qual fld C fI) (hne : ¬ fld = ("self" : Str)) (hd : (fld == ("__debug__" : Str)) = false) (hr : Room k X.A) (ha : PA X [a] ta)
    (hbind : ∀ (x v : Value) (doc pm : Value) (an : Option Addr) (cdv ct : Value) (p1 p2 q1 q2 q3 q4 : Pos), bindArgs (PySem.W.fnOf "__init__" qual (errA fld p1 p2) (errB fld q1 q2 q3 q4) (errS fld) .none .none doc pm an cdv ct) ⟨[x, v], []⟩ = pure ([(("self" : Str), x), (fld, v)] : List (Str × Value)))
    (hg : Gl X x) (hm : X.mg x = some (.ref C)) (hdb : (x == ("__debug__" : Str)) = false := by decide)
    (he : starEach (a :: []) X.env = (false, eval a X.env) :: starEach [] X.env := by rfl) (hpl : (backTo pos (starEach [] X.env)).any (·.1) = false := by rfl) :
    PMk X (.Call (.Name x p) [a] [] pos) (tErr C fld ta) := by
  intro pins s σ H Q I h
  refine wpAny_Call_Name_kw (ld_glob I hg hm ?_ hdb)
  refine PySem.W.callWith_K (h₀ := X.base) I.ok.mod.kin T.kC (thn (ha.run pos pins s σ H _ I h) ?_) he hpl
  rintro us s1 ⟨vs, H1, I1, r1, v, rfl, q1⟩
  refine ⟨I1.kIn, ?_⟩
  obtain ⟨v', rfl, rv⟩ := vals1 r1
  show wpAny _ _ (call (.ref C) [v']) _ _ _
  have hlim := I1.nolimit
  obtain ⟨hp, g, dr, tk, os⟩ := s1
  refine wpAny_call (err_made T Z hne hd I1.kIn hlim (by have := hr.dp; omega) (fun x => hbind x v') fun h' tk' e d M => ?_)
  show MkP X pins σ Q (.ref e) ⟨h', g, dr, tk', os⟩
  obtain ⟨oe, fv, hoe, hc, hdd, hdat, h1⟩ := M.obj
  obtain ⟨G, g1, g2⟩ := restrict h' fun b => decide (b ≠ e)
  have gk : ∀ b, b ≠ e → G.get? b = h'.get? b := fun b hb => g1 b (decide_eq_true hb)
  have ge : G.get? e = none := g2 e (by simp)
  have old : ∀ b o, hp.get? b = some o → G.get? b = some o := fun b o q =>
    (gk b (Nat.ne_of_lt (Nat.lt_of_lt_of_le (Heap.lt_size q) M.new))).trans (M.keep b o q)
  have rel : ∀ f, RelO (List.lookup f [(fld, v)]) (if f = fld then some v' else none) := fun f => by
    by_cases hw : f = fld
    · subst hw
      rw [if_pos rfl, show List.lookup f [(f, v)] = some v from by simp [List.lookup]]
      exact rv
    · have qw : (f == fld) = false := by simpa using hw
      rw [if_neg hw, show List.lookup f [(fld, v)] = none from by simp [List.lookup, qw]]
      trivial
  have ob : ObjOk X.prog X.w (upd H1 d (.xd [(fld, v)])) G d (.xd [(fld, v)]) := ⟨_, M.ns.at (fun o q => (gk d M.dne).trans q), rel⟩
  have J : Inv X pins σ (upd H1 d (.xd [(fld, v)])) ⟨G, g, dr, tk', os⟩ := I1.laid (t' := tk') old M.dbig ob
  refine ⟨e, oe, fv, ⟨G, g, dr, tk', os⟩, _, .ref C, some d, rfl, J, fun b o q => ?_, ge, hoe, ⟨hc, hdd⟩, hdat, h1, ?_, rfl, I1.bare, raises_own T.exC T.tyC, q1 d (I1.hok.fresh M.dbig)⟩
  · by_cases hb : b = e
    · have q' : G.get? b = some o := q
      rw [hb, ge] at q'; cases q'
    · exact (gk b hb).symm.trans q
  · rw [upd_ne (Ne.symm M.dne)]
    exact I1.hok.fresh M.new
end
end Ev

set_option Elab.async false
set_option linter.all false
set_option maxRecDepth 100000
set_option maxHeartbeats 4000000
/-! except (A, B, ..) as n, the error kept behind the suite. -/
namespace Ev
open PySem PySem.Spec PyProof.Rows L2

section
variable {M : Model} {A : Around} {E : Value → Shared → Prop} {s : Shared}
theorem forIn_all {f : Value → PUnit → Sem (ForInStep PUnit)} : ∀ {cs : List Value} {Q : PUnit → Shared → Prop},
    (∀ c ∈ cs, ∀ Q : ForInStep PUnit → Shared → Prop, Q (.yield ⟨⟩) s → wpAny M A (f c ⟨⟩) Q E s) → Q ⟨⟩ s → wpAny M A (forIn cs PUnit.unit f) Q E s
  | [], Q, _, q => by
    rw [List.forIn_nil]
    exact wpAny_pure q
  | c :: cs, Q, h, q => by
    rw [List.forIn_cons]
    refine wpAny_bind (h c List.mem_cons_self _ ?_)
    exact forIn_all (fun d hd => h d (List.mem_cons_of_mem _ hd)) q
theorem forIn_first {f : Value → Option Bool × Unit → Sem (ForInStep (Option Bool × Unit))} {p : Value → Bool} : ∀ {cs : List Value} {Q : Option Bool × Unit → Shared → Prop},
    (∀ c ∈ cs, ∀ Q : ForInStep (Option Bool × Unit) → Shared → Prop, Q (if p c = true then .done (some true, ()) else .yield (none, ())) s → wpAny M A (f c (none, ())) Q E s) →
    Q (if cs.any p = true then (some true, ()) else (none, ())) s → wpAny M A (forIn cs (none, ()) f) Q E s
  | [], Q, _, q => by
    rw [List.forIn_nil]
    exact wpAny_pure q
  | c :: cs, Q, h, q => by
    rw [List.forIn_cons]
    refine wpAny_bind (h c List.mem_cons_self _ ?_)
    cases e : p c with
    | true =>
      have e2 : (c :: cs).any p = true := by rw [List.any_cons, e]; rfl
      rw [e2] at q
      exact wpAny_pure q
    | false =>
      have e2 : (c :: cs).any p = cs.any p := by rw [List.any_cons, e]; rfl
      rw [e2] at q
      exact forIn_first (fun d hd => h d (List.mem_cons_of_mem _ hd)) q
end
/-- the answers one by one -/
theorem exm_pick {K : PySem.W.Frag} {cls : Value} : ∀ {cs : List Value} {b : Bool}, PySem.W.exmAny K cls cs = some b → ∃ p : Value → Bool, (∀ c ∈ cs, PySem.W.exmOne K cls c = some (p c)) ∧ cs.any p = b
  | [], b, h => by
    have e : some false = some b := h
    cases e
    exact ⟨fun _ => false, fun c hc => (nomatch hc), rfl⟩
  | c :: cs, b, h => by
    obtain ⟨b1, d1, h1, h2, rfl⟩ := PySem.W.exmAny_cons h
    obtain ⟨p, hp, rfl⟩ := exm_pick h2
    refine ⟨fun v => if v = c then b1 else p v, fun v hv => ?_, ?_⟩
    · dsimp only
      by_cases e : v = c
      · rw [if_pos e, e]; exact h1
      · rw [if_neg e]
        rcases List.mem_cons.mp hv with z | z
        · exact absurd z e
        · exact hp v z
    · rw [List.any_cons, if_pos rfl]
      cases b1 with
      | true => rfl
      | false =>
        rw [Bool.false_or, Bool.false_or]
        have : ∀ l : List Value, (∀ v ∈ l, PySem.W.exmOne K cls v = some (p v)) → l.any (fun v => if v = c then false else p v) = l.any p := by
          intro l
          induction l with
          | nil => intro _; rfl
          | cons v l ih =>
            intro hl
            rw [List.any_cons, List.any_cons, ih fun u hu => hl u (List.mem_cons_of_mem _ hu)]
            by_cases e : v = c
            · have z := hl v List.mem_cons_self
              rw [e, h1] at z
              rw [if_pos e, e, ← Option.some.inj z]
            · rw [if_neg e]
        exact this cs hp
theorem exm_tupN {M : Model} {K : PySem.W.Frag} {cs : List Value} {cls : Value} {tp e : Addr} {b : Bool} {h : Heap} {o : Obj} {n : Nat} (X : K.In h) (LT : PySem.W.Looks M h (typeOf (.ref e)) cls)
    (hp : h.get? tp = some o) (hc : o.cls = .type "tuple") (hd : o.data = .seq cs.toArray n) (hx : PySem.W.exmAny K cls cs = some b) : PySem.W.Looks M h (excMatches (.ref e) (.ref tp)) b := by
  intro A Q E s k q
  obtain ⟨p, hq, rfl⟩ := exm_pick hx
  unfold excMatches
  refine wpAny_bind (wpAny_isInstance (T := "tuple") ⟨o, k _ _ hp, hc⟩ isSubtype_tuple_tuple ?_)
  dsimp only
  rw [if_pos rfl]
  first
    | refine wpAny_bind (wpAny_seqItems (k _ _ hp) hd ?_)
    | refine wpAny_bind (wpAny_bind (wpAny_seqItems (k _ _ hp) hd (wpAny_pure ?_)))
  refine wpAny_bind (wpAny_pure ?_)
  have el : Array.toList (Option.getD (some cs.toArray) #[]) = cs := rfl
  rw [el]
  refine wpAny_bind (forIn_all (fun c hc Q q => ?_) ?_)
  · refine wpAny_bind ((PySem.W.exm_cls X (hq c hc)).1.keeps k |>.here ?_)
    exact wpAny_pure q
  refine wpAny_bind ((LT.keeps k).here ?_)
  refine wpAny_bind (forIn_first (p := p) (fun c hc Q q => ?_) ?_)
  · refine wpAny_bind ((PySem.W.exm_cls X (hq c hc)).2.keeps k |>.here ?_)
    cases e : p c with
    | true => rw [e] at q; exact wpAny_pure q
    | false => rw [e] at q; exact wpAny_pure q
  cases e : cs.any p with
  | true => rw [e] at q; exact wpAny_pure q
  | false => rw [e] at q; exact wpAny_pure q

/-- an error that was caught and is kept: its class, its own dict -/
def exk (a : Addr) (cls : Value) (d : Option Addr) : HO := .ext fun h => ∃ oe, h.get? a = some oe ∧ Zc cls d oe ∧ ∃ vs, oe.data = .fields vs
theorem exk_ne {a : Addr} {cls : Value} {d : Option Addr} : (∀ x, exk a cls d ≠ .own x) ∧ (∀ xs, exk a cls d ≠ .tup xs) ∧ (∀ o u, exk a cls d ≠ .frz o u) ∧ (∀ ps, exk a cls d ≠ .tbl ps) := by
  refine ⟨fun x z => ?_, fun x z => ?_, fun x y z => ?_, fun x z => ?_⟩ <;> (unfold exk at z; cases z)
theorem exk_ok {P : Program} {w : World} {H : Hp} {h : Heap} {a : Addr} {cls : Value} {d : Option Addr} {oe : Obj} (he : h.get? a = some oe) (hz : Zc cls d oe) (hd : ∃ vs, oe.data = .fields vs) : ObjOk P w H h a (exk a cls d) :=
  ⟨⟨oe, he, hz, hd⟩, ⟨oe, he⟩, fun h1 h2 ⟨o, e, z, v⟩ k => ⟨o, k _ e, z, v⟩⟩
theorem exk_at {P : Program} {w : World} {H : Hp} {h : Heap} {a : Addr} {cls : Value} {d : Option Addr} (hok : HOk P w H h) (he : H a = some (exk a cls d)) : ∃ oe, h.get? a = some oe ∧ Zc cls d oe ∧ ∃ vs, oe.data = .fields vs := by
  have x : ObjOk P w H h a (.ext fun h => ∃ oe, h.get? a = some oe ∧ Zc cls d oe ∧ ∃ vs, oe.data = .fields vs) := hok a _ he
  exact x.1

section
variable {X : Cx} {pins : List (Addr × Obj)} {σ : L2.St} {H : Hp} {s : Shared}
/-- an object that nobody tracks, made in this frame, is tracked from now on -/
theorem Inv.track {a : Addr} {oe : Obj} {cls : Value} {d : Option Addr} (I : Inv X ((a, oe) :: pins) σ H s) (hz : Zc cls d oe) (hd : ∃ vs, oe.data = .fields vs) (h0 : X.s_0.heap.get? a = none) (hp : ∀ p ∈ X.pn ++ pins, p.1 ≠ a) :
    Inv X pins σ (upd H a (exk a cls d)) s := by
  obtain ⟨he, na, nL, nF, _⟩ := I.pin (a, oe) (List.mem_append_right _ List.mem_cons_self)
  have ne : ∀ b u, H b = some u → b ≠ a := fun b u e => ne_of_none e na
  refine ⟨I.ok, I.os, I.bare, ⟨I.base.keep, I.base.slot, fun b o e n hx => ?_, I.base.there, fun b xs e => ?_, fun b o u e => ?_, fun b ps e => ?_⟩, I.loc, I.cell, ?_, fun x c e => ?_, fun p hm => ?_, fun b u e => ?_, I.len⟩
  · rw [upd_ne (fun z => by rw [z, h0] at e; cases e)]
    exact I.base.free b o e n hx
  · have q := I.base.tups b xs e
    rw [upd_ne (ne b _ q)]
    exact q
  · have q := I.base.frzs b o u e
    rw [upd_ne (ne b _ q)]
    exact q
  · obtain ⟨more, q⟩ := I.base.tbls b ps e
    exact ⟨more, by rw [upd_ne (ne b _ q)]; exact q⟩
  · rw [upd_ne (Ne.symm nL)]
    exact I.free
  · have nc : c ≠ a := fun z => by
      obtain ⟨v, o, ho, hc⟩ := I.cell x c e
      obtain ⟨vs, hv⟩ := hd
      rw [z] at ho
      have ho' : s.heap.get? a = some o := ho
      rw [show s.heap.get? a = some oe from he] at ho'
      cases ho'
      rw [hv] at hc
      cases hc
    rw [upd_ne nc]
    exact I.freeC x c e
  · have hm' : p ∈ X.pn ++ (a, oe) :: pins := by
      rcases List.mem_append.mp hm with z | z
      · exact List.mem_append_left _ z
      · exact List.mem_append_right _ (List.mem_cons_of_mem _ z)
    obtain ⟨e1, e2, e3⟩ := I.pin p hm'
    exact ⟨e1, by rw [upd_ne (hp p hm)]; exact e2, e3⟩
  · by_cases hb : b = a
    · subst hb
      rw [upd_same] at e
      cases e
      exact exk_ok he hz hd
    · rw [upd_ne hb] at e
      exact (I.hok b u e).stay (fun _ _ _ q => q) (fun c q => by rw [upd_ne (ne c _ q)]; exact q) fun c xs q => by rw [upd_ne (ne c _ q)]; exact q
end

/-- a written tuple of classes -/
inductive NamesT (X : Cx) : List Expr → List Value → Prop
  | nil : NamesT X [] []
  | cons {x : Str} {c : Value} {np : Pos} {es : List Expr} {cs : List Value} (h : Names X x c) (r : NamesT X es cs) : NamesT X (.Name x np :: es) (c :: cs)
section
variable {X : Cx} {pins : List (Addr × Obj)} {σ : L2.St} {H : Hp} {s : Shared}
theorem names_run {E : Value → Shared → Prop} {pos : Pos} {a : Addr} {pn : List (Addr × Obj)} {es : List Expr} {cs : List Value} (S : Inv (X.suite a pn) pins σ H s) (nt : NamesT X es cs) :
    ∀ {Q : List Value → Shared → Prop}, Q cs s → wpAny (model X.prog X.w) (X.A.mark (some (.ref a))) (spliced (backTo pos (starEach es X.env))) Q E s := by
  induction nt with
  | nil => intro Q q; exact PySem.Calls.spliced_nil q
  | @cons x c np es cs hc r ih =>
    intro Q q
    have e0 : starEach (.Name x np :: es) X.env = (false, eval (.Name x np) X.env) :: starEach es X.env := rfl
    rw [e0]
    refine PySem.Calls.spliced_cons ?_
    have next : wpAny (model X.prog X.w) (X.A.mark (some (.ref a))) (spliced (backTo pos (starEach es X.env))) (fun vs s₂ => Q (c :: vs) s₂) E s := ih q
    obtain ⟨hg, hdbg, hm | ⟨hm, hv, hnn⟩⟩ := hc
    · exact ld_glob (X := X.suite a pn) S hg hm next hdbg
    · exact ld_blt (X := X.suite a pn) S hg hm hv next hnn hdbg
theorem flies_on {B h h' : Heap} {l : List Env} {a : Addr} {Z : Obj → Prop} (k : ∀ b o, h.get? b = some o → h'.get? b = some o) (x : HandSPX.FlyingZ B l a Z h) : HandSPX.FlyingZ B l a Z h' := by
  obtain ⟨k1, k2, k3, oe, vs, T, oT, ts, h1, h2, h3, h4, h5, h6, h7, h8, h9⟩ := x
  exact ⟨fun b o e => k b o (k1 b o e), k2, Heap.FunFrames.of_keeps (fun b o e _ => ⟨o, k b o e, rfl⟩) k3, oe, vs, T, oT, ts, k _ _ h1, h2, h3, h4, h5, h6, k _ _ h7, h8, h9⟩
end
/-- what «except (A, ..) as n: y = n» wishes of an error of the body: it is one of these, and stands in y's place behind the suite -/
def wKeep (K : PySem.W.Frag) (cs : List Value) (i j n : Nat) (D : Ends) : WX := fun cls d σ H => PySem.W.exmAny K cls cs = some true ∧
  (σ.length = n → ∀ a, H a = none → D.nx (((σ.set i (some (.ref a))).set j (some (.ref a))).set i none) (upd H a (exk a cls d)))
section
variable {X : Cx} {n y : Str} {cs : List Value} {es : List Expr} {i j : Nat} {body : List Stmt} {tk : PySem.Ctx → PySem.Ctx} {np sp' py pos pos' tpos : Pos} {k1 : Nat} {tb : WX → TS}
theorem ps_try_keep (hs : X.stack = X.env :: X.outer) (hf : X.env.frame = some X.env.locals) (hex : X.ex = []) (hN : X.N.Nodup) (hi : X.N[i]? = some n) (hln : X.env.kindOf n = some .local)
    (hj : X.N[j]? = some y) (hly : X.env.kindOf y = some .local) (hlen : cs.length ≤ sizeLine) (nt : NamesT X es cs) (hdn : (n == ("__debug__" : Str)) = false) (hcn : (n == ("__classdict__" : Str)) = false)
    (hb : ∀ (W : WX) (pn : List (Addr × Obj)) (xe : Value → Shared → Prop), Takes (X.tr pn xe) W → PassesOwn (model X.prog X.w) X.A X.env xe → PSs (X.tr pn xe) body (tb W))
    (hsw : swapsWith (.Name n np) (some (.Name y py)) sp'.line X.env = pure false := by rfl) :
    PS X (.Try body [.ExceptHandler (some (.Tuple es k1 tpos)) (some n) [.Assign [.Name y py] (.Name n np) sp'] pos'] [] [] pos) (fun D σ H => tb (wKeep X.K cs i j X.N.length D) D σ H) := by
  refine ⟨fun pins s σ H D I h => ?_⟩
  have ok := I.ok
  have hfr : X.A.frames = some (X.env :: X.outer) := by rw [ok.frames, hs]
  refine wpAny_Try_except (wpAny_mono ((hb (wKeep X.K cs i j X.N.length D) (X.pn ++ pins) (fun e s₁ => wpAny (model X.prog X.w) X.A (noteFrame e X.env) (fun _ s₂ =>
    wpAny (model X.prog X.w) X.A (setFlight e none) (fun _ s₃ => wpAny (model X.prog X.w) X.A (handleBy e X.env _) (SP X pins D) X.xe s₃) X.xe s₂) X.xe s₁)
    (fun u s' xx => ?_) PassesOwn.looking).run [] s σ H D (I.toTry _) h) (fun f s1 q => ?_) (fun e s1 he => he))
  · obtain ⟨a, B, sI, pins', σ', H', cls, d, rfl, J', nb, up, sky, na, os, ag, hx, hk⟩ := xx
    have J : Inv X pins σ' H' sI := J'.ofTry ok
    rw [hs] at sky
    show wpAny (model X.prog X.w) X.A (noteFrame (.ref a) X.env) _ _ _
    refine Sky.land Zc.steady hfr hf sky fun h3 fl3 up3 => ?_
    -- where the error lies
    have hBa : B.get? a = none := fl3.2.1
    have J3 : Inv X pins σ' H' { s' with heap := h3 } := J.landed nb fl3.1 (up.trans up3) os ag
    obtain ⟨oe3, vs3, he3, hz3, hd3⟩ := fl3.there
    have nfr : a ∉ frs (X.env :: X.outer) := fun hm => by
      obtain ⟨_, o', e', hnf⟩ := fl3.2.2.1.mem hm
      rw [he3] at e'; cases e'
      exact hnf _ hd3
    have nL : a ≠ X.env.locals := fun z => nfr (List.mem_filterMap.mpr ⟨X.env, List.mem_cons_self, by rw [hf, z]⟩)
    have nF : a ∉ X.fs := fun hm => by
      obtain ⟨e, he, q⟩ := List.mem_filterMap.mp hm
      exact nfr (List.mem_filterMap.mpr ⟨e, List.mem_cons_of_mem _ he, q⟩)
    have nI : sI.heap.get? a = none := by
      cases e : sI.heap.get? a with
      | none => rfl
      | some o =>
        have := nb a o e (by rw [hs]; exact nfr)
        rw [hBa] at this; cases this
    have n0 : X.s_0.heap.get? a = none := by
      cases e : X.s_0.heap.get? a with
      | none => rfl
      | some o =>
        obtain ⟨o', e'⟩ := J.base.there a o e (by rw [hex]; exact List.not_mem_nil)
        rw [nI] at e'; cases e'
    have npn : ∀ p ∈ X.pn ++ pins, p.1 ≠ a := fun p hp z => by
      have := (J.pin p hp).1
      rw [z, nI] at this; cases this
    have S3 := J3.suite he3 hd3 na nL nF
    refine PySem.W.exc_clause_as (wpAny_Tuple_spliced (names_run S3 nt ⟨hlen, true, ?_, ?_⟩))
    · -- the test
      have X3 : X.K.In (h3.push { cls := .type "tuple", data := .seq cs.toArray }) := J3.kIn.keeps fun b o e => Heap.get?_push_of_some _ e
      exact exm_tupN X3 (fun A Q E s k q => wpAny_typeOf_ref (k _ _ (Heap.get?_push_of_some _ he3)) (by rw [hz3.1]; exact q)) (Heap.get?_push_size _ rfl) rfl rfl hx
    · dsimp only
      rw [if_pos rfl]
      have up3' : sI.heap.UpToSlots (h3.push { cls := .type "tuple", data := .seq cs.toArray }) := (up.trans up3).trans (Heap.UpToSlots.of_keeps fun b o e => Heap.get?_push_of_some _ e)
      refine HandSPX.lands_againZ (s := { s' with heap := h3.push { cls := .type "tuple", data := .seq cs.toArray } }) (flies_on (fun b o e => Heap.get?_push_of_some _ e) fl3) fun h4 fl4 up4 => ?_
      have J4 : Inv X pins σ' H' { s' with heap := h4 } := J.landed nb fl4.1 (up3'.trans up4) os ag
      obtain ⟨oe4, vs4, he4, hz4, hd4⟩ := fl4.there
      have S4 := J4.suite he4 hd4 na nL nF
      refine store_ok (X := X.suite a ((a, oe4) :: (X.pn ++ pins))) (v := .ref a) S4 hN hi (.inl hln) rfl (fun s5 S5 => ?_) (.inr hln)
      have he : PE (X.suite a ((a, oe4) :: (X.pn ++ pins))) (.Name n np) (tVar i) := pe_var hi (.inl hln) hdn hcn
      have hst : PS (X.suite a ((a, oe4) :: (X.pn ++ pins))) (.Assign [.Name y py] (.Name n np) sp') (tAsg (tVar i) (gName j)) := ps_set hN hj (.inl hly) he hsw (.inr hly)
      have hli : i < σ'.length := by
        rw [J.len]
        exact (List.getElem?_eq_some_iff.mp hi).1
      refine wpAny_mono ((pss_one hst).run [] s5 _ H' { nx := fun σ2 H2 => σ2 = (σ'.set i (some (.ref a))).set j (some (.ref a)) ∧ H2 = H', rt := fun _ _ => False } S5 ?_) (fun f s6 hq => ?_) (fun _ _ z => False.elim z)
      · exact ⟨.ref a, by rw [List.getElem?_set_self hli], rfl, rfl⟩
      · cases f with
        | next =>
          obtain ⟨σ6, H6, S6, e1, e2⟩ := hq
          subst e1
          subst e2
          have K6 : L2.Inv X ((a, oe4) :: pins) ((σ'.set i (some (.ref a))).set j (some (.ref a))) H6 s6 :=
            ⟨ok, S6.os, S6.bare, S6.base, S6.loc, S6.cell, S6.free, S6.freeC, fun p hp => S6.pin p (by
              rw [List.append_nil]
              rcases List.mem_append.mp hp with z | z
              · exact List.mem_cons_of_mem _ (List.mem_append_left _ z)
              · rcases List.mem_cons.mp z with z | z
                · rw [z]; exact List.mem_cons_self
                · exact List.mem_cons_of_mem _ (List.mem_append_right _ z)), S6.hok, S6.len⟩
          exact gone_ok K6 hN hi hln fun s7 K7 => ⟨_, _, Inv.track K7 hz4 ⟨_, hd4⟩ n0 npn, hk J.len a na⟩
        | brk => obtain ⟨_, _, _, z⟩ := hq; exact z.elim
        | cont => obtain ⟨_, _, _, z⟩ := hq; exact z.elim
        | ret u => obtain ⟨_, _, _, _, _, z⟩ := hq; exact z.elim
  · cases f with
    | next =>
      obtain ⟨σ', H', J', q⟩ := q
      exact wpAny_execs_nil ⟨σ', H', J'.ofTry ok, q⟩
    | brk =>
      obtain ⟨σ', H', J', q⟩ := q
      exact ⟨σ', H', J'.ofTry ok, q⟩
    | cont =>
      obtain ⟨σ', H', J', q⟩ := q
      exact ⟨σ', H', J'.ofTry ok, q⟩
    | ret u =>
      obtain ⟨v, σ', H', J', r, q⟩ := q
      exact ⟨v, σ', H', J'.ofTry ok, r, q⟩
end
end Ev

set_option Elab.async false
set_option linter.all false
set_option maxRecDepth 100000
set_option maxHeartbeats 4000000
/-! Of an error that is kept: isinstance, its fields. -/
namespace Ev
open PySem PySem.Spec PyProof.Rows L2

/-- what the written part says of an error class, so that isinstance and fields of its instances are told -/
structure ErrK (K : PySem.W.Frag) (D : Addr) : Prop where
  cl : (PySem.W.clsIn K D).isSome = true
  ga : PySem.W.findIn K (.ref D) "__getattribute__" = some (some (.builtin "BaseException.__getattribute__"))
  gg : PySem.W.findIn K (.ref D) "__getattr__" = some none
  sb : PySem.W.subIn K (.ref D) (.type "BaseException") = some true
  ca : PySem.W.findIn K (.ref D) "__class__" = some (some (.builtin "object.__class__"))
  cg : PySem.W.specialIn K (.builtin "object.__class__") "__get__" = some (some (.builtin "getset_descriptor.__get__"))
  ct : PySem.W.takesIn K (.builtin "object.__class__") = some true
  ob : PySem.W.mroIn K D (.type "object") = some true
  hd : PySem.W.hasDictIn K D = true
/-- x is a kept error of the class at D, its fields fs -/
def Kept (H : Hp) (a D : Addr) (fs : List (Str × V)) : Prop := ∃ dd, H a = some (exk a (.ref D) (some dd)) ∧ H dd = some (.xd fs)
section
variable {X : Cx} {pins : List (Addr × Obj)} {σ : L2.St} {H : Hp} {s : Shared} {a D : Addr} {fs : List (Str × V)}
theorem Kept.at_ (I : Inv X pins σ H s) (h : Kept H a D fs) : ∃ (oe od : Obj) (mA : Str → Option Value), PySem.W.InstAt s.heap a oe D (some od) ∧ (∀ name, PySem.W.lookIn name od = some (mA name)) ∧ ∀ f, RelO (fs.lookup f) (mA f) := by
  obtain ⟨dd, h1, h2⟩ := h
  obtain ⟨oe, he, hz, vs, hv⟩ := exk_at I.hok h1
  have hx : ObjOk X.prog X.w H s.heap dd (.xd fs) := I.hok dd _ h2
  obtain ⟨mA, hns, hr⟩ := hx
  obtain ⟨od, ho, hl⟩ := lookIn_ns hns
  exact ⟨oe, od, mA, ⟨he, hz.1, by unfold PySem.W.notCls; rw [hv] <;> rfl, by rw [hz.2]; exact ho⟩, hl, hr⟩
theorem ErrK.kit (T : ErrK X.K D) {ox : Obj} {od : Option Obj} : PySem.W.KitX X.K (.ref a) (.ref D) (fun h => PySem.W.InstAt h a ox D od) :=
  PySem.W.kitx_exc T.cl T.ga T.gg T.sb T.ca T.cg T.ct T.ob
end
section
variable {X : Cx}
/-- isinstance(x, C) -/
theorem call_isk : CallR X (.builtin "isinstance") (fun xs H Q => ∃ a D fs c cv b, xs = [.ref a, c] ∧ Kept H a D fs ∧ ErrK X.K D ∧ ClsV c cv ∧ PySem.W.kitOne X.K (.ref D) cv = some b ∧ Q (.bl b) H) := by
  intro pins s σ H xs us Q I r h
  obtain ⟨a, D, fs, c, cv, b, rfl, hk, T, hc, e, q⟩ := h
  obtain ⟨u1, u2, rfl, r1, r2⟩ := vals2 r
  cases r1
  have e2 := hc.eq r2
  subst e2
  obtain ⟨oe, od, mA, J, _⟩ := hk.at_ I
  exact PySem.W.kia_one T.kit I.kIn J e (fun z => nomatch z) fun tk => ⟨.bl b, H, I.tok tk, rfl, q⟩
/-- isinstance(x, (C, ..)), the tuple just laid -/
theorem call_iskT : CallR X (.builtin "isinstance") (fun xs H Q => ∃ a D fs tp cs us b, xs = [.ref a, .ref tp] ∧ Kept H a D fs ∧ ErrK X.K D ∧ H tp = some (.tup cs) ∧ Paired ClsV cs us ∧ PySem.W.kitAny X.K (.ref D) us = some b ∧ Q (.bl b) H) := by
  intro pins s σ H xs vs Q I r h
  obtain ⟨a, D, fs, tp, cs, us, b, rfl, hk, T, hT, hc, e, q⟩ := h
  obtain ⟨u1, u2, rfl, r1, r2⟩ := vals2 r
  cases r1
  cases r2
  obtain ⟨oe, od, mA, J, _⟩ := hk.at_ I
  obtain ⟨_, its, rv, o, h1, h2, n, h3⟩ := (show ObjOk X.prog X.w H s.heap tp (.tup cs) from I.hok tp _ hT)
  have e3 := ClsV.all hc rv
  subst e3
  obtain ⟨oc, odd, dt, sl⟩ := o
  simp only at h2 h3
  subst h2 h3
  exact PySem.W.kia_tup T.kit I.kIn J h1 e (fun z => nomatch z) fun tk => ⟨.bl b, H, I.tok tk, rfl, q⟩
/-- x.f -/
def tKf (K : PySem.W.Frag) (f : Str) (te : TE) : TE := fun σ H Q => te σ H fun x H1 => ∃ a D fs v, x = .ref a ∧ Kept H1 a D fs ∧ ErrK K D ∧ PySem.W.findIn K (.ref D) f = some none ∧ fs.lookup f = some v ∧ Q v H1
theorem pe_kf {e : Expr} {te : TE} {f : Str} {pos : Pos} (he : PE X e te) (hb : attributeBase e f X.env (eval e X.env) = eval e X.env := by rfl) : PE X (.Attribute e f pos) (tKf X.K f te) := by
  refine ⟨fun pins s σ H Q I h => ?_⟩
  refine attr_of hb (thn (he.run pins s σ H _ I h) fun u s1 ⟨x, H1, I1, rx, a, D, fs, v, ex, hk, T, no, hl, q⟩ => ?_)
  subst ex
  cases rx
  obtain ⟨oe, od, mA, J, lk, rel⟩ := hk.at_ I1
  have rf := rel f
  rw [hl] at rf
  obtain ⟨u, hu, ru⟩ := RelO.some_of rf
  exact HandSPX.exc_get I1.kIn J T.ga T.gg T.sb (PySem.W.findObj_own T.hd no rfl (by rw [lk, hu])) (handed_of ru) ⟨v, H1, I1.tok _, ru, q⟩
end
end Ev

set_option Elab.async false
set_option linter.all false
set_option maxRecDepth 100000
set_option maxHeartbeats 4000000
/-! The end of a law whose defs display lists. -/
namespace Ev
open PySem PySem.Spec PyProof.Rows L2

/-- what is tracked at the law's call: the script (where the written part does not hold it) and the tables -/
def hp0 (a : Addr) (o : Obj) (u : HO) (free : Bool) (ts : List Addr) : Hp := fun b =>
  if b ∈ ts then some (.tbl #[]) else if b = a ∧ free = true then some (.frz o u) else none
section
variable {a b : Addr} {o : Obj} {u v : HO} {free : Bool} {ts : List Addr}
theorem hp0_cases (h : hp0 a o u free ts b = some v) : (b ∈ ts ∧ v = .tbl #[]) ∨ (b = a ∧ free = true ∧ v = .frz o u ∧ b ∉ ts) := by
  unfold hp0 at h
  by_cases hb : b ∈ ts
  · rw [if_pos hb] at h
    exact .inl ⟨hb, (Option.some.inj h).symm⟩
  · rw [if_neg hb] at h
    by_cases hc : b = a ∧ free = true
    · rw [if_pos hc] at h
      exact .inr ⟨hc.1, hc.2, (Option.some.inj h).symm, hb⟩
    · rw [if_neg hc] at h
      cases h
theorem hp0_tab (hb : b ∈ ts) : hp0 a o u free ts b = some (.tbl #[]) := by
  unfold hp0
  rw [if_pos hb]
theorem hp0_scr (ha : a ∉ ts) : hp0 a o u true ts a = some (.frz o u) := by
  unfold hp0
  rw [if_neg ha, if_pos ⟨rfl, rfl⟩]
end
theorem law_ground {P : Program} {w : World} {K : PySem.W.Frag} {mg mb : Str → Option Value} {a : Addr} {cs : List (Addr × Addr)} {s₁ : Shared} {vs : List Value} {ns : List Int}
    (KX : K.In s₁.heap) (hns : s₁.heap.Ns mainGlobals mg) (hb : s₁.heap.Ns builtinsNs mb) (hbb : ∀ x : Str, x ≠ "__name__" → mb x = bootBuiltins x) (hlim : s₁.heap.NoLimit) (hg : s₁.gens = #[])
    (hT : ∀ p ∈ cs, s₁.heap.get? p.2 = some { cls := .none, data := .fields #[] }) (nT : ∀ p ∈ cs, K.lookup p.2 = none) (C : ∀ p ∈ cs, PySem.W.CodeHd s₁.heap p.1 p.2)
    (hbm : ∃ (bm : Addr) (ob : Obj), mg "__builtins__" = some (.ref bm) ∧ bm ≠ builtinsNs ∧ s₁.heap.get? bm = some ob ∧ ob.cls = .type "module" ∧ ob.dict = some builtinsNs ∧ ob.data = .plain)
    (ha : s₁.heap.get? a = some { cls := .type "list", data := .seq vs.toArray }) (hi : IntsAre vs ns) (hl : ns.length ≤ sizeLine) :
    ∃ (H : Hp) (base : Heap), Env0 P w K mg base callerA [] s₁ H ∧ (∀ p ∈ cs, H p.2 = some (.tbl #[])) ∧ SqL K H a (ns.map V.int) ∧ (∀ p ∈ cs, LamX.TabB base mg p.1 p.2) ∧ K.In base ∧ base.Ns mainGlobals mg ∧
      ∀ (H' : Hp) (h' : Heap), Un [] [] H H' s₁.heap h' → HOk P w H' h' → OldK s₁.heap h' := by
  have rv := vals_ints hi
  have hlen := hi.length
  have tab : ∀ b, b ∈ cs.map (·.2) → s₁.heap.get? b = some { cls := .none, data := .fields #[] } := fun b hb => by
    obtain ⟨p, hp, e⟩ := List.mem_map.mp hb
    rw [← e]; exact hT p hp
  have tabK : ∀ b, b ∈ cs.map (·.2) → K.lookup b = none := fun b hb => by
    obtain ⟨p, hp, e⟩ := List.mem_map.mp hb
    rw [← e]; exact nT p hp
  have aT : a ∉ cs.map (·.2) := fun z => by
    have q := tab a z
    rw [ha] at q
    cases q
  -- the abstract heap
  obtain ⟨free, hfree⟩ : ∃ free : Bool, free = true ↔ K.lookup a = none := ⟨(K.lookup a).isNone, by simp⟩
  have key : ∀ {b : Addr} {u : HO}, hp0 a { cls := .type "list", data := .seq vs.toArray } (.lst (ns.map V.int)) free (cs.map (·.2)) b = some u →
      (b ∈ cs.map (·.2) ∧ u = .tbl #[]) ∨ (b = a ∧ free = true ∧ u = .frz { cls := .type "list", data := .seq vs.toArray } (.lst (ns.map V.int)) ∧ b ∉ cs.map (·.2)) := fun h => hp0_cases h
  have htab : ∀ b, b ∈ cs.map (·.2) → hp0 a { cls := .type "list", data := .seq vs.toArray } (.lst (ns.map V.int)) free (cs.map (·.2)) b = some (.tbl #[]) := fun b hb => hp0_tab hb
  have hscr : free = true → hp0 a { cls := .type "list", data := .seq vs.toArray } (.lst (ns.map V.int)) free (cs.map (·.2)) a = some (.frz { cls := .type "list", data := .seq vs.toArray } (.lst (ns.map V.int))) := fun e => by
    rw [e]; exact hp0_scr aT
  generalize hp0 a { cls := .type "list", data := .seq vs.toArray } (.lst (ns.map V.int)) free (cs.map (·.2)) = H at key htab hscr
  -- objects that are no list and no table are not tracked
  have unt : ∀ {b : Addr} {o : Obj}, s₁.heap.get? b = some o → (∀ x n, o.data ≠ .seq x n) → o.data ≠ .fields #[] → H b = none := fun {b o} e h1 h2 => by
    cases q : H b with
    | none => rfl
    | some u =>
      rcases key q with ⟨hb, _⟩ | ⟨hb, _⟩
      · rw [tab b hb] at e; cases e; exact absurd rfl h2
      · rw [hb, ha] at e; cases e; exact absurd rfl (h1 _ _)
  have untD : ∀ {b : Addr} {o : Obj} {es : Array DictEntry} {ep : Nat}, s₁.heap.get? b = some o → o.data = .dict es ep → H b = none := fun {b o es ep} e d =>
    unt e (fun x n z => by rw [d] at z; cases z) (fun z => by rw [d] at z; cases z)
  have inB : ∀ {b : Addr} {o : Obj}, s₁.heap.get? b = some o → H b = none → (hidT s₁.heap H).get? b = some o := fun e n => hidT_get e n
  have nsB : ∀ {b : Addr} {m : Str → Option Value}, s₁.heap.Ns b m → (hidT s₁.heap H).Ns b m := fun {b m} ⟨o, es, ep, e, d, r⟩ => ⟨o, es, ep, inB e (untD e d), d, r⟩
  have KB : K.In (hidT s₁.heap H) := fun b o e => inB (KX b o e) (by
    cases q : H b with
    | none => rfl
    | some u =>
      rcases key q with ⟨hb, _⟩ | ⟨hb, hf, _⟩
      · rw [tabK b hb] at e; cases e
      · rw [hb, hfree.mp hf] at e; cases e)
  have hok : HOk P w H s₁.heap := fun b u q => by
    rcases key q with ⟨hb, e⟩ | ⟨hb, _, e, _⟩
    · subst e; exact tab b hb
    · subst e; subst hb
      exact ⟨ha, by rw [List.length_map]; exact hl, vs, _, rv, ha⟩
  have bcode : ∀ p ∈ cs, PySem.W.CodeHd (hidT s₁.heap H) p.1 p.2 := fun p hp => by
    obtain ⟨o, us, file, tf, flags, tg, inF, text, tt, e1, r1, r2, r3, r4, r5, r6, r7, r8, hne⟩ := C p hp
    refine ⟨o, us, file, tf, flags, tg, inF, text, tt, inB e1 (unt e1 (fun x n z => ?_) fun z => ?_), r1, r2, r3, r4, r5, r6, r7, r8, hne⟩
    · rw [r2] at z; cases z
    · rw [r2] at z; cases z; simp at r3
  have gT : ∀ p ∈ cs, mainGlobals ≠ p.2 := fun p hp z => by
    obtain ⟨o, es, ep, e, d, _⟩ := hns
    rw [z, hT p hp] at e; cases e; cases d
  refine ⟨H, hidT s₁.heap H, ⟨rfl, ⟨KB, nsB hns, ⟨mb, nsB hb, hbb⟩, let ⟨mc, h1, h2⟩ := hlim; ⟨mc, nsB h1, h2⟩⟩, fun b o e => of_hidT e, Nat.le_of_eq (hidT_size _ _), trivial, fun b hb => absurd hb List.not_mem_nil, hok, .of_eq hg⟩,
    fun p hp => htab p.2 (List.mem_map.mpr ⟨p, hp, rfl⟩), ?_, fun p hp => ⟨bcode p hp, ?_, gT p hp⟩, KB, nsB hns, ?_⟩
  · cases e : K.lookup a with
    | some o =>
      have e' := KX a o e
      rw [ha] at e'; cases e'
      exact .inr ⟨_, vs.toArray, _, e, rfl, rfl, rfl, by rw [List.size_toArray, hlen]; exact hl, by simpa using rv⟩
    | none => exact .inl (.inr ⟨_, hscr (hfree.mpr e)⟩)
  · obtain ⟨bm, ob, b1, b2, b3, b4, b5, b6⟩ := hbm
    refine ⟨bm, ob, b1, b2, fun z => ?_, fun z => ?_, inB b3 (unt b3 (fun x n z => by rw [b6] at z; cases z) fun z => by rw [b6] at z; cases z), b4, b5, b6⟩
    · obtain ⟨o, es, ep, e, d, _⟩ := hns
      rw [z, e] at b3; cases b3; rw [d] at b6; cases b6
    · rw [z, hT p hp] at b3; cases b3; cases b6
  · intro H' h' un hok'
    have grown : ∀ p ∈ cs, ∃ more : Array Value, h'.get? p.2 = some { cls := .none, data := .fields more } := fun p hp => by
      obtain ⟨more, z⟩ := un.tbls p.2 #[] (htab p.2 (List.mem_map.mpr ⟨p, hp, rfl⟩))
      exact ⟨_, hok' p.2 _ z⟩
    have rest : ∀ b o, b ∉ cs.map (·.2) → s₁.heap.get? b = some o → h'.get? b = some o := fun b o nb e => by
      cases q : H b with
      | none => exact un.keep b o e q List.not_mem_nil List.not_mem_nil
      | some u =>
        rcases key q with ⟨z, _⟩ | ⟨_, _, z, _⟩
        · exact absurd z nb
        · subst z
          obtain ⟨e1, _⟩ := hok b _ q
          obtain ⟨e2, _⟩ := hok' b _ (un.frzs b _ _ q)
          rw [e] at e1; cases e1
          exact e2
    refine ⟨fun b o e => ?_, fun b o e => ?_⟩ <;> by_cases hb : b ∈ cs.map (·.2)
    · obtain ⟨p, hp, ep⟩ := List.mem_map.mp hb
      obtain ⟨more, hm⟩ := grown p hp
      rw [← ep] at e ⊢
      rw [hT p hp] at e
      cases e
      exact .inr (.inl ⟨((C p hp).tab (hT p hp)).isCodeTable, rfl, #[], more, rfl, by rw [Array.empty_append]; exact hm⟩)
    · exact .inl (rest b o hb e)
    · obtain ⟨p, hp, ep⟩ := List.mem_map.mp hb
      obtain ⟨more, hm⟩ := grown p hp
      rw [← ep]
      exact ⟨_, hm⟩
    · exact ⟨o, rest b o hb e⟩
/-- what is to be shown of a law behind its top -/
def LawG (l : PySem.W.OpenLaw) (w : World) (K : PySem.W.Frag) (k n : Nat) (x : Str) (mg : Str → Option Value) (fa : Addr) (h : Heap) : Prop :=
  ∃ (fd : FuncData) (cs : List (Addr × Addr)) (sp : Sp), (∀ p ∈ cs, h.get? p.2 = some { cls := .none, data := .fields #[] }) ∧ (∀ p ∈ cs, K.lookup p.2 = none) ∧ (∀ p ∈ cs, PySem.W.CodeHd h p.1 p.2) ∧
    (∀ (s : Shared) (u : Value), BindsTo s fd ⟨[u], []⟩ [(x, u)]) ∧
    (∀ (H : Hp) (a : Addr) (ns : List Int), ns.length ≤ n → (∀ z ∈ ns, Builtin.Int.intBits z ≤ 1048576) → (∀ p ∈ cs, H p.2 = some (.tbl #[])) → SqL K H a (ns.map V.int) → sp [.ref a] H (fun v _ => v = .bl true) E0) ∧
    ∀ base : Heap, K.In base → base.Ns mainGlobals mg → (∀ p ∈ cs, LamX.TabB base mg p.1 p.2) → FnG l.prog w K mg base CX0 k fa fd [x] sp
theorem walk_ofG {l : PySem.W.OpenLaw} {n k : Nat} {q : Program} {loose : List Str} {XP : (Str → Option Value) → Heap → Prop} {YP : World → Heap → Prop} {d : DefRec} {x : Str}
    (hn : l.most = some n) (hn2 : n ≤ sizeLine) (hdf : d.params.defaults = []) (hr : Room k callerA)
    (F : ∀ (w : World) (mg : Str → Option Value) (fa : Addr) (h : Heap), YP w h → h.Ns mainGlobals mg → mg d.name = some (.ref fa) → ∃ K : PySem.W.Frag, K.In h ∧ LawG l w K k n x mg fa h) :
    PySem.W.WalkO q loose XP YP l.row.toRowW d [] (fun f vs => PySem.call f vs) := by
  refine Att.attach_callB hn hdf fun w s₀ s₁ mg mb fa o pm cd doc a vs ns G Y ho hd hcd hmg hobj hints hlen hbits hg => ?_
  obtain ⟨K, KX, fd, cs, sp, hT, nT, C, hb, hsp, hF⟩ := F w mg fa _ Y G.T.g hmg
  obtain ⟨H, base, e0, h1, h2, h3, h4, h5, hold⟩ := law_ground (P := l.prog) (w := w) KX G.T.g G.T.b G.T.builtins G.T.nolimit hg hT nT C G.T.bmain hobj hints (Nat.le_trans hlen hn2)
  refine codeAny_mono ((hF base h4 h5 h3).run callerA [] s₁ H ⟨[.ref a], []⟩ [.ref a] [.ref a] _ E0 hr rfl e0 (hb s₁ (.ref a)) (.cons rfl .nil) (hsp H a ns hlen hbits h1 h2)) fun r s' h => ?_
  rcases r with e | fl
  · exact (show False from h).elim
  · cases fl with
    | ret u =>
      obtain ⟨v, H', os, bare, un, hok', r, q⟩ := h
      have q' : v = .bl true := q
      subst q'
      cases r
      exact ⟨rfl, hold H' _ un hok', os, bare⟩
    | next => exact False.elim h
    | brk => exact False.elim h
    | cont => exact False.elim h
end Ev

set_option Elab.async false
set_option linter.all false
set_option maxRecDepth 100000
set_option maxHeartbeats 4000000
/-! None in an f-string, str(None). -/
namespace Ev
open PySem PySem.Spec PyProof.Rows L2
section
variable {prog : Program} {w : World} {A : Around} {E : Value → Shared → Prop} {s : Shared}
theorem field_none {Q : Value → Shared → Prop} (h : ∀ t k, Q (.str "None" t) { s with toks := k }) : wpAny (model prog w) A (formatField .none Str.empty) Q E s := by
  show wpAny _ _ (holding [Value.none] (pyFormat .none Str.empty)) Q E s
  refine wpAny_holding ?_
  unfold pyFormat
  refine wpAny_bind (wpAny_mkStr ?_ (by decide))
  refine wpAny_bind (m := callSpecial? .none (Str.ofString "__format__") [.str Str.empty s.toks]) (wpAny_callSpecial?_slot (name := Str.ofString "__format__") (typeIs_none _) F.slot_NoneType_format ?_)
  refine wpAny_call (codeAny_call_builtin F.slot_NoneType_format.plain F.entry_object_format (F.slot_NoneType_format.check _ _ _ _ _ _ _ _ (typeIs_none _) (F.args_object_format_2 _ _) ?_))
  show wpAny _ _ (do let _shown ← PySem.typeNameOf (Value.str Str.empty s.toks); (do ret (← pyStrObj Value.none))) _ _ _
  refine wpAny_bind (PySem.wpAny_typeNameOf (T := "str") (typeIs_str _ _ _) (by decide) fun _ => ?_)
  refine wpAny_bind (wpAny_pyStrObj_gives (x := "None") (fun y t z => nomatch z) (typeIs_none _) F.slot_NoneType_str F.slot_NoneType_repr F.entry_NoneType_repr (F.args_NoneType_repr_1 _) gives_none_repr ?_ (hx := by decide))
  refine wpAny_pure ?_
  show wpAny _ _ (do if ← isInstance (.str "None" (s.toks + 1)) (.type "str") then return (.str "None" (s.toks + 1)) else _) Q E _
  exact wpAny_bind (wpAny_isInstance (typeIs_str _ _ _) isSubtype_str_str (wpAny_pure (h _ _)))
end
section
variable {X : Cx}
/-- {x}: None or an int -/
def tFmtL (te : TE) : TE := fun σ H Q => te σ H fun x H1 => (x = .non ∧ Q (.str "None") H1) ∨ ∃ i : Int, x = .int i ∧ i.natAbs.log2 < 1920 ∧ Q (.str (toString i)) H1
theorem pe_fmtL {e : Expr} {te : TE} {pos : Pos} (he : PE X e te) : PE X (.FormattedValue e (-1) none pos) (tFmtL te) := by
  refine ⟨fun pins s σ H Q I h => ?_⟩
  refine wpAny_FormattedValue_plain (thn (he.run pins s σ H _ I h) fun v s1 hv => ?_)
  obtain ⟨x, H1, I1, r1, q⟩ := hv
  rcases q with ⟨rfl, q⟩ | ⟨i, rfl, hz, q⟩
  · cases r1
    exact field_none fun t k => ⟨.str _, H1, I1.tok _, ⟨_, rfl⟩, q⟩
  · obtain ⟨t, rfl⟩ := r1
    exact wpAny_formatField_int hz ⟨.str (toString i), H1, I1.tok _, ⟨_, rfl⟩, q⟩
/-- str(x): None or an int -/
theorem call_strL : CallR X (.type "str") (fun xs H Q => (xs = [.non] ∧ Q (.str "None") H) ∨ ∃ i : Int, xs = [.int i] ∧ i.natAbs.log2 < 1920 ∧ Q (.str (toString i)) H) := by
  intro pins s σ H xs us Q I r h
  rcases h with ⟨rfl, q⟩ | h
  · obtain ⟨u, rfl, ru⟩ := vals1 r
    cases ru
    exact PySem.P.str_of_none ⟨.str _, H, I.tok _, ⟨_, rfl⟩, q⟩
  · exact call_str_int pins s σ H xs us Q I r h
end
end Ev

set_option Elab.async false
set_option linter.all false
set_option maxRecDepth 100000
set_option maxHeartbeats 4000000
/-! Calls of defs with *args, all arguments written. -/
namespace Ev
open PySem PySem.Spec PyProof.Rows L2
section
variable {X : Cx} {CX : CXT} {k : Nat} {f : Addr} {sp : Sp} {E : XK} {x : Str} {p pos : Pos} {e : Expr} {es : List Expr} {t : TA}
theorem pe_callF (F : FnR X.prog X.w X.K X.mg X.base CX k f sp) (hr : Room k X.A) (hk : PySem.W.keepIn X.K (.ref f) = true) (hg : Gl X x) (hm : X.mg x = some (.ref f)) (hx : Passes CX X E) (ha : PA X (e :: es) t) (hd : (x == ("__debug__" : Str)) = false := by decide)
    (he : starEach (e :: es) X.env = (false, eval e X.env) :: starEach es X.env := by rfl) (hpl : (backTo pos (starEach es X.env)).any (·.1) = false := by rfl) :
    PE X (.Call (.Name x p) (e :: es) [] pos) (fun σ H Q => t σ H fun vs H1 => sp vs H1 Q E) := by
  refine ⟨fun pins s σ H Q I h => ?_⟩
  refine wpAny_Call_Name_kw (ld_glob I hg hm ?_ hd)
  refine PySem.W.callWith_K (h₀ := X.base) I.ok.mod.kin hk (thn (ha.run pos pins s σ H _ I h) ?_) he hpl
  rintro us s1 ⟨vs, H1, I1, r, q⟩
  exact ⟨I1.kIn, wpAny_call (run_fnR F hr hx I1 r q)⟩
theorem pe_callF0 (F : FnR X.prog X.w X.K X.mg X.base CX k f sp) (hr : Room k X.A) (hk : PySem.W.keepIn X.K (.ref f) = true) (hg : Gl X x) (hm : X.mg x = some (.ref f)) (hx : Passes CX X E) (hd : (x == ("__debug__" : Str)) = false := by decide) :
    PE X (.Call (.Name x p) [] [] pos) (fun σ H Q => sp [] H Q E) := by
  refine ⟨fun pins s σ H Q I h => ?_⟩
  refine wpAny_Call_Name_kw (ld_glob I hg hm ?_ hd)
  exact PySem.W.callWith_K0 I.kIn hk (wpAny_call (run_fnR F hr hx I .nil h))
end
end Ev

set_option Elab.async false
set_option linter.all false
set_option maxRecDepth 100000
set_option maxHeartbeats 4000000
/-! Defs by their code objects; small data are shown. -/
namespace Ev
open PySem PySem.Spec PyProof.Rows L2

/-- a def whose code object is told -/
structure FunC (K : PySem.W.Frag) (x qual : Str) (st : Stmt) (f : Addr) (fd : FuncData) (c : Addr) : Prop where
  ex : ∃ (oc : Value) (od : Option Addr) (kV doc pm : Value) (an : Option Addr) (ct : Value) (osl : Array (Option Value)),
    fd = PySem.W.fnOf x qual (defArgs st) (defBody st) (defScope st) .none kV doc pm an (.ref c) ct ∧ K.lookup f = some ⟨oc, od, .func fd, osl⟩ ∧ PySem.W.codeIn K (.ref c) qual = true
  kp : PySem.W.keepIn K (.ref f) = true
theorem Fun.code {K : PySem.W.Frag} {x qual : Str} {st : Stmt} {f c : Addr} {fd : FuncData} (F : Fun K x qual st f fd) (h : fd.code = .ref c) : FunC K x qual st f fd c := by
  obtain ⟨oc, od, kV, doc, pm, an, cdv, ct, osl, rfl, lk, hcd⟩ := F.ex
  have e : cdv = .ref c := h
  subst e
  exact ⟨⟨oc, od, kV, doc, pm, an, ct, osl, rfl, lk, hcd⟩, F.kp⟩
theorem okGC {P : Program} {w : World} {K : PySem.W.Frag} {mg : Str → Option Value} {base : Heap} {x qual : Str} {st : Stmt} {f c : Addr} {fd : FuncData} {N ps : List Str} {k : Nat} {sp : Sp} (F : FunC K x qual st f fd c) (S : FnScope N ps (defScope st))
    (len : ∀ vs H Q E, sp vs H Q E → vs.length = ps.length)
    (body : ∀ (A : Around) (outer : List Env) (s : Shared) (H : Hp) (vs : List V) (Q : VK) (E : XK),
      A.guards = some [] → Room k (A.deeper (envOfC qual (defScope st) s.heap.objs.size f (.ref c))) → sp vs H Q E →
      ∃ t, PSs (cxOf CX0 P w K mg base N qual (defScope st) f (.ref c) A outer s H E).nox (defBody st) t ∧
        t { nx := fun _ H' => Q .non H', rt := Q } (L2.start N vs) H) :
    FnG P w K mg base CX0 (k + 1) f fd ps sp := by
  obtain ⟨oc, od, kV, doc, pm, an, ct, osl, rfl, lk, hcd⟩ := F.ex
  refine ⟨len, fun A outer s H args us vs Q E hr hg e0 hb r hsp => ?_⟩
  refine LamX.run_ofS lk hcd S hr e0 hb r (len _ _ _ _ hsp) fun hr' => ?_
  obtain ⟨t, h, q⟩ := body A outer s H vs Q E hg hr' hsp
  exact ⟨t, h.nox, q⟩
/-- the same where no display is shown -/
theorem okC {P : Program} {w : World} {K : PySem.W.Frag} {mg : Str → Option Value} {base : Heap} {x qual : Str} {st : Stmt} {f c : Addr} {fd : FuncData} {N ps : List Str} {k : Nat} {sp : Sp} (F : FunC K x qual st f fd c) (S : FnScope N ps (defScope st))
    (len : ∀ vs H Q E, sp vs H Q E → vs.length = ps.length)
    (body : ∀ (A : Around) (outer : List Env) (s : Shared) (H : Hp) (vs : List V) (Q : VK) (E : XK),
      Room k (A.deeper (envOfC qual (defScope st) s.heap.objs.size f (.ref c))) → sp vs H Q E →
      ∃ t, PSs (cxOf CX0 P w K mg base N qual (defScope st) f (.ref c) A outer s H E).nox (defBody st) t ∧
        t { nx := fun _ H' => Q .non H', rt := Q } (L2.start N vs) H) :
    FnOk P w K mg base CX0 (k + 1) f fd ps sp := by
  obtain ⟨oc, od, kV, doc, pm, an, ct, osl, rfl, lk, hcd⟩ := F.ex
  refine fn_of lk hcd S len fun A outer s H vs Q E hr hsp => ?_
  obtain ⟨t, h, q⟩ := body A outer s H vs Q E hr hsp
  exact ⟨t, h.nox, q⟩

/-- a small leaf -/
structure Lf (d : PyData) : Prop where
  sh : d.showable = true
  nd : d.hasDict = false
  dp : d.depth = 0
  wt : d.weight ≤ 40
  ls : d.leavesShort 12 = true
theorem Lf.none : Lf .none := ⟨rfl, rfl, rfl, by decide, rfl⟩
theorem Lf.bool (b : Bool) : Lf (.bool b) := ⟨rfl, rfl, rfl, Nat.zero_le _, rfl⟩
theorem lf_log {i : Int} (h : i.natAbs < 10 ^ 8) : i.natAbs.log2 < 30 := by
  by_cases z : i.natAbs = 0
  · rw [z]; decide
  · rw [Nat.log2_lt z]
    exact Nat.lt_trans h (by decide)
theorem Lf.int {i : Int} (h : i.natAbs < 10 ^ 8) : Lf (.int i) := by
  have hl := lf_log h
  refine ⟨?_, rfl, rfl, ?_, ?_⟩
  · show decide (i.natAbs.log2 < 1920) = true
    exact decide_eq_true (by omega)
  · show (if i == 0 then 0 else i.natAbs.log2 + 1) ≤ 40
    split <;> omega
  · show decide ((PyData.shown (.int i)).length ≤ 12) = true
    rw [PyData.shown_int]
    refine decide_eq_true ?_
    have e := int_text_length_le10 (k := 8) (by decide) h
    rw [PySem.ofString_length]; omega
theorem all_lf {ds : List PyData} (h : ∀ d ∈ ds, Lf d) : PyData.showableAll ds = true ∧ PyData.hasDictAll ds = false ∧ PyData.depthAll ds = 0 ∧ PyData.weightAll ds ≤ 41 * ds.length ∧ PyData.leavesShortAll 12 ds = true := by
  induction ds with
  | nil => exact ⟨rfl, rfl, rfl, Nat.le_refl _, rfl⟩
  | cons d ds ih =>
    obtain ⟨a1, a2, a3, a4, a5⟩ := ih fun e he => h e (List.mem_cons_of_mem _ he)
    obtain ⟨b1, b2, b3, b4, b5⟩ := h d List.mem_cons_self
    refine ⟨?_, ?_, ?_, ?_, ?_⟩
    · show (PyData.showable d && PyData.showableAll ds) = true
      rw [a1, b1]; rfl
    · show (PyData.hasDict d || PyData.hasDictAll ds) = false
      rw [a2, b2]; rfl
    · show max (PyData.depth d) (PyData.depthAll ds) = 0
      rw [a3, b3]; rfl
    · show PyData.weight d + 1 + PyData.weightAll ds ≤ 41 * (ds.length + 1)
      omega
    · show (PyData.leavesShort 12 d && PyData.leavesShortAll 12 ds) = true
      rw [a5, b5]; rfl
theorem Lf.shows {d : PyData} (h : Lf d) : Shows d := by
  refine ⟨h.sh, fun z => (by rw [h.nd] at z; cases z), by rw [h.dp]; decide, ?_⟩
  have e := PyData.shown_le 12 (by decide) d h.ls
  have hw := h.wt
  have hb : (2000 : Nat) ≤ sizeLine := by rw [sizeLine_eq]; decide
  omega
theorem shows_list {ds : List PyData} (h : ∀ d ∈ ds, Lf d) (hl : ds.length ≤ 20) : Shows (.list ds) := by
  obtain ⟨a1, a2, a3, a4, a5⟩ := all_lf h
  refine ⟨a1, fun z => (by rw [show PyData.hasDict (.list ds) = PyData.hasDictAll ds from rfl, a2] at z; cases z), ?_, ?_⟩
  · show PyData.depthAll ds + 1 ≤ 64
    omega
  · have e := PyData.shown_le 12 (by decide) (.list ds) a5
    have e2 : PyData.weight (.list ds) = PyData.weightAll ds := rfl
    have hb : (20000 : Nat) ≤ sizeLine := by rw [sizeLine_eq]; decide
    omega
theorem shows_tuple {ds : List PyData} (h : ∀ d ∈ ds, Lf d) (hl : ds.length ≤ 20) : Shows (.tuple ds) := by
  obtain ⟨a1, a2, a3, a4, a5⟩ := all_lf h
  refine ⟨a1, fun z => (by rw [show PyData.hasDict (.tuple ds) = PyData.hasDictAll ds from rfl, a2] at z; cases z), ?_, ?_⟩
  · show PyData.depthAll ds + 1 ≤ 64
    omega
  · have e := PyData.shown_le 12 (by decide) (.tuple ds) a5
    have e2 : PyData.weight (.tuple ds) = PyData.weightAll ds := rfl
    have hb : (20000 : Nat) ≤ sizeLine := by rw [sizeLine_eq]; decide
    omega
end Ev

set_option Elab.async false
set_option linter.all false
set_option maxRecDepth 100000
set_option maxHeartbeats 4000000
/-! k01: the text by places; kinds. -/
namespace Ev
open PySem PySem.Spec PyProof.Rows L2

def topS (i : Nat) : Stmt := PySem.Challenge.pw_everframe_k01_leads_as_values.main.body.getD i (.Pass ⟨0, 0, 0, 0⟩)
abbrev sWithin : Stmt := topS 11
/-- a built-in class by its name -/
theorem pe_ty {X : Cx} {x : Str} {pos : Pos} (n : String) (hm : X.mg x = none) (hg : Gl X x := by rfl) (hv : bootBuiltins x = some (.type n) := by decide +kernel) (hn : x ≠ "__name__" := by decide) (hd : (x == ("__debug__" : Str)) = false := by decide) :
    PE X (.Name x pos) (tC (.ty n)) := pe_bltn (u := .type n) hg hm hv rfl hn hd
theorem boot_isi : bootBuiltins "isinstance" = some (.builtin "isinstance") := by decide +kernel
/-- a value that is_int and within may be asked of: its type is told, and whether it is an int -/
def NoInt (K : PySem.W.Frag) (H : Hp) (x : V) : Prop := ∃ (t : Value) (b1 b2 : Bool), TyX K H x t ∧ PySem.W.kitOne K t (.type "int") = some b1 ∧ PySem.W.kitOne K t (.type "bool") = some b2 ∧ (b1 && !b2) = false
/-- within(i, lo, hi) of an int; of anything else -/
def spWithin (K : PySem.W.Frag) : Sp := fun vs H Q _ => ∃ (x : V) (lo hi : Int), vs = [x, .int lo, .int hi] ∧
  ((∃ i : Int, x = .int i ∧ Q (.bl (decide (lo ≤ i) && decide (i ≤ hi))) H) ∨ (NoInt K H x ∧ Q (.bl false) H))
section
variable {P : Program} {w : World} {K : PySem.W.Frag} {mg : Str → Option Value} {base : Heap}
theorem kit_ii : PySem.W.kitOne K (.type "int") (.type "int") = some true := kit_ty (by decide +kernel)
theorem kit_ib : PySem.W.kitOne K (.type "int") (.type "bool") = some false := kit_ty (by decide +kernel)
theorem sc12 : FnScope ["value", "least", "most"] ["value", "least", "most"] (defScope sWithin) := ⟨rfl, rfl, rfl, by decide +kernel, rfl, by decide +kernel, by decide +kernel⟩
theorem ok_within {f : Addr} {fd : FuncData} (F : Fun K "within" "within" sWithin f fd) (m1 : mg "isinstance" = none) (m2 : mg "int" = none) (m3 : mg "bool" = none) :
    FnOk P w K mg base CX0 2 f fd ["value", "least", "most"] (spWithin K) := by
  refine F.ok sc12 (fun vs H Q E h => ?_) (fun cdv A outer s H vs Q E hr h => ?_)
  · obtain ⟨x, lo, hi, rfl, _⟩ := h
    rfl
  · obtain ⟨x, lo, hi, rfl, h⟩ := h
    refine ⟨_, pss_one (ps_ret (pe_and (pe_callB call_isi (by rfl) m1 boot_isi (pa_cons (pv 0) (pa_cons (pe_ty "int" m2) pa_nil)))
      (pe_and (pe_not (pe_callB call_isi (by rfl) m1 boot_isi (pa_cons (pv 0) (pa_cons (pe_ty "bool" m3) pa_nil)))) (pe_one (pe_chain op_le op_le (pv 1) (pv 0) (pv 2)))))), ?_⟩
    rcases h with ⟨i, rfl, q⟩ | ⟨⟨t, b1, b2, ht, e1, e2, eb⟩, q⟩
    · refine ⟨_, rfl, _, _, _, _, true, rfl, .ty "int", .base (.int i), kit_ii, _, rfl, ?_⟩
      refine ⟨_, rfl, _, _, _, _, false, rfl, .ty "bool", .base (.int i), kit_ib, _, rfl, ?_⟩
      refine ⟨_, rfl, _, rfl, _, rfl, _, _, rfl, rfl, _, rfl, ?_⟩
      by_cases e : lo ≤ i
      · rw [if_pos (by simpa using e)]
        refine ⟨_, rfl, _, _, rfl, rfl, ?_⟩
        simpa [e] using q
      · rw [if_neg (by simpa using e)]
        simpa [e] using q
    · refine ⟨_, rfl, _, _, _, _, b1, rfl, .ty "int", ht, e1, _, rfl, ?_⟩
      cases b1
      · exact q
      · refine ⟨_, rfl, _, _, _, _, b2, rfl, .ty "bool", ht, e2, _, rfl, ?_⟩
        cases b2
        · cases eb
        · exact ⟨_, rfl, q⟩
end
end Ev

set_option Elab.async false
set_option linter.all false
set_option maxRecDepth 100000
set_option maxHeartbeats 4000000
/-! k01: the class Lead: __init__, __mul__, __add__. -/
namespace Ev
open PySem PySem.Spec PyProof.Rows L2

abbrev sN : Stmt := inClass (topS 13) 1
abbrev sMul : Stmt := inClass (topS 13) 2
abbrev sAdd : Stmt := inClass (topS 13) 3
/-- a lead's value: none, or an integer -/
def ldV : Option Int → V
  | none => .non
  | some i => .int i
def Bd (i : Int) : Prop := -1000000 ≤ i ∧ i ≤ 1000000
instance (i : Int) : Decidable (Bd i) := by unfold Bd; infer_instance
def LdOk : Option Int → Prop
  | none => True
  | some i => Bd i
def LeadAt (C : Addr) (H : Hp) (a : Addr) (x : Option Int) : Prop := ∃ dx, H a = some (.ins C dx [("value", ldV x)])
theorem LeadAt.same {C : Addr} {H H' : Hp} {a : Addr} {x : Option Int} (h : LeadAt C H a x) (s : Same H H') : LeadAt C H' a x := by
  obtain ⟨dx, e⟩ := h
  exact ⟨dx, s _ _ e⟩
/-- x is no lead's value: an integer out of bounds, or no integer -/
def NoLead (K : PySem.W.Frag) (H : Hp) (x : V) : Prop := (∃ i : Int, x = .int i ∧ ¬ Bd i) ∨ (x ≠ .non ∧ NoInt K H x)
def mulL : Option Int → Option Int → Option (Option Int)
  | some i, some j => if Bd (i + j) then some (some (i + j)) else none
  | _, _ => some none
def addL : Option Int → Option Int → Option Int
  | none, y => y
  | some i, none => some i
  | some i, some j => if j ≤ i then some i else some j
/-- behind: a new lead of the value z -/
def NewLead (C : Addr) (H : Hp) (z : Option Int) (Q : VK) : Prop := ∀ r H', Same H H' → H r = none → LeadAt C H' r z → Q (.ref r) H'
/-- raised: an own error with one field -/
def Rais (C : Addr) (fld : Str) (v : V) (H : Hp) (E : XK) : Prop := ∀ d, H d = none → E (.ref C) (some d) (upd H d (.xd [(fld, v)]))
def spN (K : PySem.W.Frag) (C CI : Addr) : Sp := fun vs H Q E => ∃ (p dx : Addr) (x : V), vs = [.ref p, x] ∧ H p = some (.ins C dx []) ∧
  ((∃ y : Option Int, x = ldV y ∧ LdOk y ∧ Q .non (upd H p (.ins C dx [("value", x)]))) ∨ (NoLead K H x ∧ Rais CI "value" x H E))
def spMul (C CT : Addr) : Sp := fun vs H Q E => ∃ (a b : Addr) (x y : Option Int), vs = [.ref a, .ref b] ∧ LeadAt C H a x ∧ LeadAt C H b y ∧ LdOk x ∧ LdOk y ∧
  (∀ z, mulL x y = some z → NewLead C H z Q) ∧ (mulL x y = none → Rais CT "limit" (.int 1000000) H E)
def spAdd (C : Addr) : Sp := fun vs H Q E => ∃ (a b : Addr) (x y : Option Int), vs = [.ref a, .ref b] ∧ LeadAt C H a x ∧ LeadAt C H b y ∧ LdOk x ∧ LdOk y ∧ NewLead C H (addL x y) Q
/-- what the top leaves of Lead -/
structure TxL (K : PySem.W.Frag) (mg : Str → Option Value) (C : Addr) : Prop where
  cl : Cls K C
  nV : NoAttr K C "value"
  mC : mg "Lead" = some (.ref C)
  rd : ∃ mc u, ClX.CRead K C mc ∧ ClX.CVal K C mc "MOST" (.int 1000000) u
  ca : PySem.W.findIn K (.ref C) "__class__" = some (some (.builtin "object.__class__"))
  cg : PySem.W.specialIn K (.builtin "object.__class__") "__get__" = some (some (.builtin "getset_descriptor.__get__"))
  ct : PySem.W.takesIn K (.builtin "object.__class__") = some true
  ob : PySem.W.mroIn K C (.type "object") = some true
  kk : PySem.W.kitOne K (.ref C) (.ref C) = some true
/-- an own error with one field, by the module's name -/
structure ErrM (K : PySem.W.Frag) (mg : Str → Option Value) (x qual fld : Str) (C fI : Addr) (B newId initId : String) (bm : List Value) : Prop where
  e : ErrC K C B newId initId bm
  i : Err1 K qual fld C fI
  m : mg x = some (.ref C)
/-- a def of the module's -/
structure DefT (K : PySem.W.Frag) (mg : Str → Option Value) (x : Str) (st : Stmt) (ps : List Str) (f : Addr) (fd : FuncData) : Prop where
  F : Fun K x x st f fd
  m : mg x = some (.ref f)
  b : L2.Binds K fd ps []
theorem ifT {b : Bool} {A B : Prop} (e : b = true) (h : A) : if b = true then A else B := by
  rw [if_pos e]
  exact h
theorem ifF {b : Bool} {A B : Prop} (e : b = false) (h : B) : if b = true then A else B := by
  subst e
  exact iteF h
theorem ne_non_int {i : Int} : (!decide (V.int i = V.non)) = true := by simp
section
variable {P : Program} {w : World} {K : PySem.W.Frag} {mg : Str → Option Value} {base : Heap} {C CI CT fI fT f1 : Addr} {fd1 : FuncData} {B nI iI B' nI' iI' : String} {bm bm' : List Value}
theorem scN : FnScope ["self", "value"] ["self", "value"] (defScope sN) := ⟨rfl, rfl, rfl, by decide +kernel, rfl, by decide +kernel, by decide +kernel⟩
theorem ok_N {f : Addr} {fd : FuncData} (F : FunD K "__init__" "Lead.__init__" (defArgs sN) (defBody sN) (defScope sN) [.non] [] f fd) (T : TxL K mg C) (TI : ErrM K mg "InvalidLead" "InvalidLead.__init__" "value" CI fI B nI iI bm)
    (W : DefT K mg "within" sWithin ["value", "least", "most"] f1 fd1) (G : FnOk P w K mg base CX0 2 f1 fd1 ["value", "least", "most"] (spWithin K)) :
    FnOk P w K mg base (L2.CX P w) 3 f fd ["self", "value"] (spN K C CI) := by
  refine F.ok scN (fun vs H Q E h => ?_) (fun cdv A outer s H vs Q E hr h => ?_)
  · obtain ⟨p, dx, x, rfl, _⟩ := h
    rfl
  · obtain ⟨p, dx, x, rfl, hp, h⟩ := h
    refine ⟨_, pss_cons (ps_if (PW.pt (pw_and (pt_cmpR op_notN (pv 1) pe_non (nomark _)) (pw_and1 (pt_not (pt_val (pe_call G hr rfl W.m W.F.kp W.b .nil pass0
        (pa_cons (pv 1) (pa_cons (pe_un un_neg (ClX.pe_cval (pe_glob (by rfl) T.mC (v := .ref C) rfl))) (pa_cons (ClX.pe_cval (pe_glob (by rfl) T.mC (v := .ref C) rfl)) pa_nil))))))))) 
      (pss_one (ps_raise rfl (takes_of rfl rfl rfl rfl) (pmk_err TI.e TI.i (by decide) (by decide) hr (pa_cons (pv 1) pa_nil) (fun _ _ _ _ _ _ _ _ _ _ _ _ _ => rfl) (by rfl) TI.m))) pss_nil)
      (pss_one (ps_fld (pv 0) (pv 1) rfl)), ?_⟩
    obtain ⟨mc, u, r1, r2⟩ := T.rd
    rcases h with ⟨y, rfl, ok, q⟩ | ⟨h, q⟩
    · cases y with
      | none =>
        refine ⟨_, rfl, rfl, _, rfl, ifF (by rfl) (iteF ?_)⟩
        exact ⟨_, rfl, _, rfl, p, C, dx, _, rfl, hp, T.cl, T.nV, (by show 0 < 1000; decide), q⟩
      | some i =>
        refine ⟨_, rfl, rfl, _, rfl, ifT ne_non_int ?_⟩
        refine ⟨_, rfl, C, mc, _, u, rfl, r1, r2, _, rfl, C, mc, _, u, rfl, r1, r2, _, _, _, rfl, .inl ⟨i, rfl, _, rfl, ?_⟩⟩
        have e : (decide (-1000000 ≤ i) && decide (i ≤ 1000000)) = true := by simpa [Bd, LdOk] using ok
        rw [e]
        refine iteF ?_
        exact ⟨_, rfl, _, rfl, p, C, dx, _, rfl, hp, T.cl, T.nV, (by show 0 < 1000; decide), q⟩
    · skip
      rcases h with ⟨i, rfl, nb⟩ | ⟨hn, ni⟩
      · refine ⟨_, rfl, rfl, _, rfl, ifT ne_non_int ?_⟩
        refine ⟨_, rfl, C, mc, _, u, rfl, r1, r2, _, rfl, C, mc, _, u, rfl, r1, r2, _, _, _, rfl, .inl ⟨i, rfl, _, rfl, ?_⟩⟩
        have e : (decide (-1000000 ≤ i) && decide (i ≤ 1000000)) = false := by
          cases z : (decide (-1000000 ≤ i) && decide (i ≤ 1000000)) with
          | false => rfl
          | true => exact absurd (by simpa [Bd] using z) nb
        rw [e]
        exact iteT ⟨_, rfl, _, rfl, q⟩
      · refine ⟨_, rfl, rfl, _, rfl, ifT (by simpa using hn) ?_⟩
        refine ⟨_, rfl, C, mc, _, u, rfl, r1, r2, _, rfl, C, mc, _, u, rfl, r1, r2, _, _, _, rfl, .inr ⟨ni, _, rfl, ?_⟩⟩
        exact iteT ⟨_, rfl, _, rfl, q⟩
/-- Lead(y): a new lead -/
theorem made {E : XK} {H : Hp} {Q : VK} {y : Option Int} (ok : LdOk y) (k : NewLead C H y Q) : ∀ x dx, H x = none → H dx = none → dx ≠ x →
    spN K C CI [.ref x, ldV y] (upd (upd H dx (.own x)) x (.ins C dx [])) (fun v H2 => v = .non ∧ Q (.ref x) H2) E := fun x dx hx hdx hn => by
  refine ⟨x, dx, _, rfl, upd_same, .inl ⟨y, rfl, ok, rfl, k x _ (fun b o e => ?_) hx ⟨dx, upd_same⟩⟩⟩
  rw [upd_ne (ne_of_none e hx), upd_ne (ne_of_none e hx), upd_ne (ne_of_none e hdx)]
  exact e
theorem mades {E : XK} {H : Hp} {R : VK} {y : Option Int} {x dx : Addr} (ok : LdOk y) (hx : H x = none) (hdx : H dx = none) (hn : dx ≠ x) (k : ∀ H', Same H H' → LeadAt C H' x y → R .non H') :
    spN K C CI [.ref x, ldV y] (upd (upd H dx (.own x)) x (.ins C dx [])) R E := by
  refine ⟨x, dx, _, rfl, upd_same, .inl ⟨y, rfl, ok, k _ (fun b o e => ?_) ⟨dx, upd_same⟩⟩⟩
  rw [upd_ne (ne_of_none e hx), upd_ne (ne_of_none e hx), upd_ne (ne_of_none e hdx)]
  exact e
/-- Lead(x) of what is no lead -/
theorem madeX {E : XK} {H : Hp} {Q : VK} {z : V} (n : ∀ H', Same H H' → NoLead K H' z) (k : ∀ H', Same H H' → Rais CI "value" z H' E) : ∀ x dx, H x = none → H dx = none → dx ≠ x →
    spN K C CI [.ref x, z] (upd (upd H dx (.own x)) x (.ins C dx [])) (fun v H2 => v = .non ∧ Q (.ref x) H2) E := fun x dx hx hdx hn => by
  have sm : Same H (upd (upd H dx (.own x)) x (.ins C dx [])) := fun b o e => by
    rw [upd_ne (ne_of_none e hx), upd_ne (ne_of_none e hdx)]
    exact e
  exact ⟨x, dx, _, rfl, upd_same, .inr ⟨n _ sm, k _ sm⟩⟩
/-- how a lead is made -/
structure MkL (K : PySem.W.Frag) (C fN : Addr) (fdN : FuncData) : Prop where
  M : Mk K C fN
  b0 : L2.Binds K fdN ["self", "value"] [.none]
  b1 : L2.Binds K fdN ["self", "value"] []
  bk : KBn K fdN ["self", "value"] 1 ["value"] (fun us ws => us ++ ws) (fun vs zs => vs ++ zs)
theorem TxL.ty (T : TxL K mg C) {H : Hp} {a dx : Addr} {fs : List (Str × V)} (e : H a = some (.ins C dx fs)) : TyX K H (.ref a) (.ref C) := .base (.ins e T.cl T.ca T.cg T.ct T.ob)
theorem scMul : FnScope ["self", "other", "total"] ["self", "other"] (defScope sMul) := ⟨rfl, rfl, rfl, by decide +kernel, rfl, by decide +kernel, by decide +kernel⟩
theorem ok_mul {f fN : Addr} {fd fdN : FuncData} (F : Fun K "__mul__" "Lead.__mul__" sMul f fd) (T : TxL K mg C) (TT : ErrM K mg "TooMany" "TooMany.__init__" "limit" CT fT B' nI' iI' bm')
    (W : DefT K mg "within" sWithin ["value", "least", "most"] f1 fd1) (G : FnOk P w K mg base CX0 2 f1 fd1 ["value", "least", "most"] (spWithin K))
    (ML : MkL K C fN fdN) (GN : FnOk P w K mg base (L2.CX P w) 3 fN fdN ["self", "value"] (spN K C CI)) (mi : mg "isinstance" = none) :
    FnOk P w K mg base (L2.CX P w) 5 f fd ["self", "other"] (spMul C CT) := by
  refine F.okX scMul (fun vs H Q E h => ?_) (fun cdv A outer s H vs Q E hr h => ?_)
  · obtain ⟨a, b, x, y, rfl, _⟩ := h
    rfl
  · obtain ⟨a, b, x, y, rfl, ⟨dx, ha⟩, ⟨dy, hb⟩, okx, oky, k1, k2⟩ := h
    have hr2 : Room 2 _ := hr.mono (by decide)
    refine ⟨_, pss_cons (ps_if (pt_not (pt_val (pe_callB call_isi (by rfl) mi boot_isi (pa_cons (pv 1) (pa_cons (pe_glob (by rfl) T.mC (v := .ref C) rfl) pa_nil))))) (pss_one ps_never) pss_nil)
      (pss_cons (ps_if (PW.pt (pw_or (pt_cmpR op_isN (pe_fld (pv 0) rfl) pe_non (nomark _)) (pw_or1 (pt_cmpR op_isN (pe_fld (pv 1) rfl) pe_non (nomark _)))))
        (pss_one (ps_ret (pe_make0 ML.M GN hr (by rfl) T.mC ML.b0 (.cons (a := V.non) rfl .nil) passL))) pss_nil)
      (pss_cons (ps_set (i := 2) scMul.nd rfl (Or.inl rfl) (pe_op op_add (pe_fld (pv 0) rfl) (pe_fld (pv 1) rfl)))
      (pss_cons (ps_if (pt_not (pt_val (pe_call G hr2 rfl W.m W.F.kp W.b .nil pass0
          (pa_cons (pv 2) (pa_cons (pe_un un_neg (ClX.pe_cval (pe_glob (by rfl) T.mC (v := .ref C) rfl))) (pa_cons (ClX.pe_cval (pe_glob (by rfl) T.mC (v := .ref C) rfl)) pa_nil))))))
        (pss_one (ps_raise rfl (takes_of rfl rfl rfl rfl) (pmk_err TT.e TT.i (by decide) (by decide) hr (pa_cons (ClX.pe_cval (pe_glob (by rfl) T.mC (v := .ref C) rfl)) pa_nil) (fun _ _ _ _ _ _ _ _ _ _ _ _ _ => rfl) (by rfl) TT.m))) pss_nil)
      (pss_one (ps_ret (pe_make ML.M GN hr (by rfl) T.mC ML.b1 .nil passL (pa_cons (pv 2) pa_nil))))))), ?_⟩
    obtain ⟨mc, u, r1, r2⟩ := T.rd
    refine ⟨_, rfl, _, _, _, _, true, rfl, .own C, T.ty hb, T.kk, _, rfl, iteF ?_⟩
    cases x with
    | none =>
      refine ⟨_, rfl, a, C, dx, _, _, rfl, ha, T.cl, T.nV, (by rfl), rfl, _, rfl, ifT (by rfl) ?_⟩
      exact iteT (made (y := none) trivial (k1 _ rfl))
    | some i =>
      refine ⟨_, rfl, a, C, dx, _, _, rfl, ha, T.cl, T.nV, (by rfl), rfl, _, rfl, ifF (by simp [ldV]) ?_⟩
      cases y with
      | none =>
        refine ⟨_, rfl, b, C, dy, _, _, rfl, hb, T.cl, T.nV, (by rfl), rfl, _, rfl, ?_⟩
        exact ifT (by rfl) (made (y := none) trivial (k1 _ rfl))
      | some j =>
        refine ⟨_, rfl, b, C, dy, _, _, rfl, hb, T.cl, T.nV, (by rfl), rfl, _, rfl, ?_⟩
        refine ifF (by simp [ldV]) ?_
        refine ⟨_, rfl, a, C, dx, _, _, rfl, ha, T.cl, T.nV, (by rfl), _, rfl, b, C, dy, _, _, rfl, hb, T.cl, T.nV, (by rfl), _, _, rfl, rfl, ?_⟩
        refine ⟨_, rfl, C, mc, _, u, rfl, r1, r2, _, rfl, C, mc, _, u, rfl, r1, r2, _, _, _, rfl, .inl ⟨_, rfl, _, rfl, ?_⟩⟩
        by_cases e : Bd (i + j)
        · have e1 : (decide (-1000000 ≤ i + j) && decide (i + j ≤ 1000000)) = true := by simpa [Bd] using e
          refine ifF (by rw [e1]; rfl) ?_
          exact ⟨_, rfl, made (y := some (i + j)) e (k1 _ (by simp [mulL, e]))⟩
        · have e1 : (decide (-1000000 ≤ i + j) && decide (i + j ≤ 1000000)) = false := by
            cases z : (decide (-1000000 ≤ i + j) && decide (i + j ≤ 1000000)) with
            | false => rfl
            | true => exact absurd (by simpa [Bd] using z) e
          refine ifT (by rw [e1]; rfl) ?_
          exact ⟨C, mc, _, u, rfl, r1, r2, _, rfl, k2 (by simp [mulL, e])⟩
end
end Ev

set_option Elab.async false
set_option linter.all false
set_option maxRecDepth 100000
set_option maxHeartbeats 4000000
/-! k01: Lead: __add__, __eq__, __bool__, __str__, __repr__. -/
namespace Ev
open PySem PySem.Spec PyProof.Rows L2

abbrev sEq : Stmt := inClass (topS 13) 4
abbrev sBo : Stmt := inClass (topS 13) 5
abbrev sSt : Stmt := inClass (topS 13) 6
abbrev sRe : Stmt := inClass (topS 13) 7
def ldStr : Option Int → Str
  | none => "None"
  | some i => toString i
def ldStr2 : Option Int → Str
  | none => "none"
  | some i => toString i
/-- a == y -/
def spEq (K : PySem.W.Frag) (C : Addr) : Sp := fun vs H Q E => ∃ (a : Addr) (x : Option Int) (y : V), vs = [.ref a, y] ∧ LeadAt C H a x ∧
  ((∃ b z, y = .ref b ∧ LeadAt C H b z ∧ Q (.bl (decide (x = z))) H) ∨ (∃ t, TyX K H y t ∧ PySem.W.kitOne K t (.ref C) = some false ∧ Q (.bl false) H))
def spBo (C : Addr) : Sp := fun vs H Q E => ∃ (a : Addr) (x : Option Int), vs = [.ref a] ∧ LeadAt C H a x ∧ Q (.bl x.isSome) H
def spSt (C : Addr) : Sp := fun vs H Q E => ∃ (a : Addr) (x : Option Int), vs = [.ref a] ∧ LeadAt C H a x ∧ LdOk x ∧ Q (.str (ldStr2 x)) H
def spRe (C : Addr) : Sp := fun vs H Q E => ∃ (a : Addr) (x : Option Int), vs = [.ref a] ∧ LeadAt C H a x ∧ LdOk x ∧ Q (.str (("Lead(" : Str) ++ ldStr x ++ (")" : Str))) H
theorem bd_log {i : Int} (h : Bd i) : i.natAbs.log2 < 1920 := by
  obtain ⟨h1, h2⟩ := h
  have e : i.natAbs ≤ 1000000 := by omega
  by_cases z : i.natAbs = 0
  · rw [z]; decide
  · rw [Nat.log2_lt z]
    exact Nat.lt_of_le_of_lt e (by decide)
theorem ldStr_len {x : Option Int} (h : LdOk x) : (ldStr x).length ≤ 1921 := by
  cases x with
  | none => decide +kernel
  | some i => exact int_text_len_1921 (bd_log h)
section
variable {P : Program} {w : World} {K : PySem.W.Frag} {mg : Str → Option Value} {base : Heap} {C CI : Addr}
theorem scAdd : FnScope ["self", "other"] ["self", "other"] (defScope sAdd) := ⟨rfl, rfl, rfl, by decide +kernel, rfl, by decide +kernel, by decide +kernel⟩
theorem ok_add {f fN : Addr} {fd fdN : FuncData} (F : Fun K "__add__" "Lead.__add__" sAdd f fd) (T : TxL K mg C) (ML : MkL K C fN fdN) (GN : FnOk P w K mg base (L2.CX P w) 3 fN fdN ["self", "value"] (spN K C CI)) (mi : mg "isinstance" = none) :
    FnOk P w K mg base CX0 5 f fd ["self", "other"] (spAdd C) := by
  refine F.ok scAdd (fun vs H Q E h => ?_) (fun cdv A outer s H vs Q E hr h => ?_)
  · obtain ⟨a, b, x, y, rfl, _⟩ := h
    rfl
  · obtain ⟨a, b, x, y, rfl, ⟨dx, ha⟩, ⟨dy, hb⟩, okx, oky, k1⟩ := h
    refine ⟨_, pss_cons (ps_if (pt_not (pt_val (pe_callB call_isi (by rfl) mi boot_isi (pa_cons (pv 1) (pa_cons (pe_glob (by rfl) T.mC (v := .ref C) rfl) pa_nil))))) (pss_one ps_never) pss_nil)
      (pss_cons (ps_if (pt_cmpR op_isN (pe_fld (pv 0) rfl) pe_non (nomark _)) (pss_one (ps_ret (pe_make ML.M GN hr (by rfl) T.mC ML.b1 .nil passL (pa_cons (pe_fld (pv 1) rfl) pa_nil)))) pss_nil)
      (pss_cons (ps_if (PW.pt (pw_or (pt_cmpR op_isN (pe_fld (pv 1) rfl) pe_non (nomark _)) (pw_or1 (pt_cmpR op_le (pe_fld (pv 1) rfl) (pe_fld (pv 0) rfl) (nomark _)))))
        (pss_one (ps_ret (pe_make ML.M GN hr (by rfl) T.mC ML.b1 .nil passL (pa_cons (pe_fld (pv 0) rfl) pa_nil)))) pss_nil)
      (pss_one (ps_ret (pe_make ML.M GN hr (by rfl) T.mC ML.b1 .nil passL (pa_cons (pe_fld (pv 1) rfl) pa_nil)))))), ?_⟩
    refine ⟨_, rfl, _, _, _, _, true, rfl, .own C, T.ty hb, T.kk, _, rfl, iteF ?_⟩
    refine ⟨_, rfl, a, C, dx, _, _, rfl, ha, T.cl, T.nV, (by rfl), rfl, _, rfl, ?_⟩
    cases x with
    | none =>
      refine ifT (by rfl) ?_
      exact ⟨_, rfl, b, C, dy, _, _, rfl, hb, T.cl, T.nV, (by rfl), made (y := y) oky k1⟩
    | some i =>
      refine ifF (by simp [ldV]) ?_
      refine ⟨_, rfl, b, C, dy, _, _, rfl, hb, T.cl, T.nV, (by rfl), rfl, _, rfl, ?_⟩
      cases y with
      | none =>
        refine ifT (by rfl) (iteT ?_)
        exact ⟨_, rfl, a, C, dx, _, _, rfl, ha, T.cl, T.nV, (by rfl), made (y := some i) okx k1⟩
      | some j =>
        refine ifF (by simp [ldV]) ?_
        refine ⟨_, rfl, b, C, dy, _, _, rfl, hb, T.cl, T.nV, (by rfl), _, rfl, a, C, dx, _, _, rfl, ha, T.cl, T.nV, (by rfl), _, _, rfl, rfl, _, rfl, ?_⟩
        by_cases e : j ≤ i
        · refine ifT (by simpa using e) ?_
          exact ⟨_, rfl, a, C, dx, _, _, rfl, ha, T.cl, T.nV, (by rfl), made (y := some i) okx (by simpa [addL, e] using k1)⟩
        · refine ifF (by simpa using e) ?_
          exact ⟨_, rfl, b, C, dy, _, _, rfl, hb, T.cl, T.nV, (by rfl), made (y := some j) oky (by simpa [addL, e] using k1)⟩
theorem scEq : FnScope ["self", "other"] ["self", "other"] (defScope sEq) := ⟨rfl, rfl, rfl, by decide +kernel, rfl, by decide +kernel, by decide +kernel⟩
theorem ldV_inj {x z : Option Int} : (ldV x = ldV z) ↔ x = z := by
  cases x <;> cases z <;> simp [ldV]
theorem ldV_scal {x z : Option Int} : scal (ldV x) (ldV z) = true := by
  cases x <;> cases z <;> rfl
theorem ok_eq {f : Addr} {fd : FuncData} (F : Fun K "__eq__" "Lead.__eq__" sEq f fd) (T : TxL K mg C) (mi : mg "isinstance" = none) :
    FnOk P w K mg base CX0 1 f fd ["self", "other"] (spEq K C) := by
  refine F.ok scEq (fun vs H Q E h => ?_) (fun cdv A outer s H vs Q E hr h => ?_)
  · obtain ⟨a, x, y, rfl, _⟩ := h
    rfl
  · obtain ⟨a, x, y, rfl, ⟨dx, ha⟩, h⟩ := h
    refine ⟨_, pss_one (ps_ret (pe_and (pe_callB call_isi (by rfl) mi boot_isi (pa_cons (pv 1) (pa_cons (pe_glob (by rfl) T.mC (v := .ref C) rfl) pa_nil))) (pe_one (pe_cmpR op_eq (pe_fld (pv 0) rfl) (pe_fld (pv 1) rfl) (nomark _))))), ?_⟩
    rcases h with ⟨b, z, rfl, ⟨dy, hb⟩, q⟩ | ⟨t, ht, e, q⟩
    · refine ⟨_, rfl, _, _, _, _, true, rfl, .own C, T.ty hb, T.kk, _, rfl, ifT rfl ?_⟩
      refine ⟨_, rfl, a, C, dx, _, _, rfl, ha, T.cl, T.nV, (by rfl), _, rfl, b, C, dy, _, _, rfl, hb, T.cl, T.nV, (by rfl), ldV_scal, ?_⟩
      have e : decide (ldV x = ldV z) = decide (x = z) := by simp [ldV_inj]
      rw [e]
      exact q
    · exact ⟨_, rfl, _, _, _, _, false, rfl, .own C, ht, e, _, rfl, ifF rfl q⟩
theorem scBo : FnScope ["self"] ["self"] (defScope sBo) := ⟨rfl, rfl, rfl, by decide +kernel, rfl, by decide +kernel, by decide +kernel⟩
theorem ok_bo {f : Addr} {fd : FuncData} (F : Fun K "__bool__" "Lead.__bool__" sBo f fd) (T : TxL K mg C) (mb : mg "bool" = none) :
    FnOk P w K mg base CX0 1 f fd ["self"] (spBo C) := by
  refine F.ok scBo (fun vs H Q E h => ?_) (fun cdv A outer s H vs Q E hr h => ?_)
  · obtain ⟨a, x, rfl, _⟩ := h
    rfl
  · obtain ⟨a, x, rfl, ⟨dx, ha⟩, q⟩ := h
    refine ⟨_, pss_one (ps_ret (pe_callTy call_boolB (by rfl) mb (by decide +kernel) (pa_cons (pe_cmpR op_notN (pe_fld (pv 0) rfl) pe_non (nomark _)) pa_nil))), ?_⟩
    refine ⟨_, rfl, a, C, dx, _, _, rfl, ha, T.cl, T.nV, (by rfl), rfl, _, rfl, ?_⟩
    cases x with
    | none => exact q
    | some i => simpa [ldV] using q
theorem scSt : FnScope ["self"] ["self"] (defScope sSt) := ⟨rfl, rfl, rfl, by decide +kernel, rfl, by decide +kernel, by decide +kernel⟩
theorem ok_st {f : Addr} {fd : FuncData} (F : Fun K "__str__" "Lead.__str__" sSt f fd) (T : TxL K mg C) (ms : mg "str" = none) :
    FnOk P w K mg base CX0 1 f fd ["self"] (spSt C) := by
  refine F.ok scSt (fun vs H Q E h => ?_) (fun cdv A outer s H vs Q E hr h => ?_)
  · obtain ⟨a, x, rfl, _⟩ := h
    rfl
  · obtain ⟨a, x, rfl, ⟨dx, ha⟩, ok, q⟩ := h
    refine ⟨_, pss_cons (ps_if (pt_cmpR op_isN (pe_fld (pv 0) rfl) pe_non (nomark _)) (pss_one (ps_ret pe_str)) pss_nil) (pss_one (ps_ret (pe_callTy call_str_int (by rfl) ms (by decide +kernel) (pa_cons (pe_fld (pv 0) rfl) pa_nil)))), ?_⟩
    refine ⟨_, rfl, a, C, dx, _, _, rfl, ha, T.cl, T.nV, (by rfl), rfl, _, rfl, ?_⟩
    cases x with
    | none => exact ifT (by rfl) q
    | some i =>
      refine ifF (by simp [ldV]) ?_
      exact ⟨_, rfl, a, C, dx, _, _, rfl, ha, T.cl, T.nV, (by rfl), i, rfl, bd_log ok, q⟩
theorem scRe : FnScope ["self"] ["self"] (defScope sRe) := ⟨rfl, rfl, rfl, by decide +kernel, rfl, by decide +kernel, by decide +kernel⟩
theorem ok_re {f : Addr} {fd : FuncData} (F : Fun K "__repr__" "Lead.__repr__" sRe f fd) (T : TxL K mg C) :
    FnOk P w K mg base CX0 1 f fd ["self"] (spRe C) := by
  refine F.ok scRe (fun vs H Q E h => ?_) (fun cdv A outer s H vs Q E hr h => ?_)
  · obtain ⟨a, x, rfl, _⟩ := h
    rfl
  · obtain ⟨a, x, rfl, ⟨dx, ha⟩, ok, q⟩ := h
    refine ⟨_, pss_one (ps_ret (pe_joined (.cons pe_str (.cons (pe_fmtL (pe_fld (pv 0) rfl)) (.cons pe_str .nil))))), ?_⟩
    have hz := ldStr_len ok
    have big : 2000 ≤ sizeLine := by rw [sizeLine_eq]; decide
    have e0 : (Str.empty ++ ("Lead(" : Str)) = ("Lead(" : Str) := by decide +kernel
    have n0 : ("Lead(" : Str).length = 5 := by decide +kernel
    have n1 : (")" : Str).length = 1 := by decide +kernel
    refine ⟨_, rfl, by rw [e0, n0]; omega, ?_⟩
    rw [e0]
    refine ⟨_, rfl, a, C, dx, _, _, rfl, ha, T.cl, T.nV, (by rfl), ?_⟩
    have l1 : ((("Lead(" : Str) ++ ldStr x)).length ≤ sizeLine := by rw [strLen_append, n0]; omega
    have l2 : ((("Lead(" : Str) ++ ldStr x) ++ (")" : Str)).length ≤ sizeLine := by rw [strLen_append, strLen_append, n0, n1]; omega
    cases x with
    | none => exact .inl ⟨rfl, _, rfl, l1, _, rfl, l2, q⟩
    | some i => exact .inr ⟨i, rfl, bd_log ok, _, rfl, l1, _, rfl, l2, q⟩
end
end Ev

set_option Elab.async false
set_option linter.all false
set_option maxRecDepth 100000
set_option maxHeartbeats 4000000
/-! k01: along, best. -/
namespace Ev
open PySem PySem.Spec PyProof.Rows L2

abbrev sAlong : Stmt := topS 14
abbrev sBest : Stmt := topS 15
def LeadsAt (C : Addr) (H : Hp) (vs : List V) (xs : List (Option Int)) : Prop := vs.length = xs.length ∧ ∀ (i : Nat) (v : V), vs[i]? = some v → ∃ a x, xs[i]? = some x ∧ v = .ref a ∧ LeadAt C H a x ∧ LdOk x
def alongL : Option Int → List (Option Int) → Option (Option Int)
  | t, [] => some t
  | t, x :: r => match mulL t x with
    | none => none
    | some u => alongL u r
def bestL : Option Int → List (Option Int) → Option Int
  | t, [] => t
  | t, x :: r => bestL (addL t x) r
def spAlong (C CT : Addr) : Sp := fun vs H Q E => ∃ xs, LeadsAt C H vs xs ∧ vs.length ≤ 100 ∧ (∀ z, alongL (some 0) xs = some z → NewLead C H z Q) ∧ (alongL (some 0) xs = none → ∀ H', Same H H' → Rais CT "limit" (.int 1000000) H' E)
def spBest (C : Addr) : Sp := fun vs H Q E => ∃ xs, LeadsAt C H vs xs ∧ vs.length ≤ 100 ∧ NewLead C H (bestL none xs) Q
theorem mulL_ok {x y z : Option Int} (h : mulL x y = some z) : LdOk z := by
  unfold mulL at h
  split at h
  · split at h
    · cases h; assumption
    · cases h
  · cases h; trivial
theorem addL_ok {x y : Option Int} (hx : LdOk x) (hy : LdOk y) : LdOk (addL x y) := by
  unfold addL
  split
  · exact hy
  · exact hx
  · split
    · exact hx
    · exact hy
theorem LeadsAt.nil {C : Addr} {H : Hp} : LeadsAt C H [] [] := ⟨rfl, fun i v h => by simp at h⟩
theorem LeadsAt.cons {C : Addr} {H : Hp} {a : Addr} {x : Option Int} {vs : List V} {xs : List (Option Int)} (h : LeadAt C H a x) (ok : LdOk x) (r : LeadsAt C H vs xs) : LeadsAt C H (.ref a :: vs) (x :: xs) := by
  refine ⟨by simp [r.1], fun i v hi => ?_⟩
  cases i with
  | zero =>
    have e : V.ref a = v := by simpa using hi
    exact ⟨a, x, rfl, e.symm, h, ok⟩
  | succ j => exact r.2 j v (by simpa using hi)
/-- what a def with * alone gets -/
def inner (sp : Sp) : Sp := fun vs H1 Q E => ∃ (p : Addr) (rest : List V) (H : Hp), vs = [.ref p] ∧ H p = none ∧ H1 = upd H p (.tup rest) ∧ sp rest H Q E
section
variable {P : Program} {w : World} {K : PySem.W.Frag} {mg : Str → Option Value} {base : Heap} {C CI CT : Addr}
theorem sc15 : FnScope ["leads", "total", "lead"] ["leads"] (defScope sAlong) := ⟨rfl, rfl, rfl, by decide +kernel, rfl, by decide +kernel, by decide +kernel⟩
theorem ok_along {f fN fM : Addr} {fd fdN fdM : FuncData} (F : Fun K "along" "along" sAlong f fd) (T : TxL K mg C) (ML : MkL K C fN fdN) (GN : FnOk P w K mg base (L2.CX P w) 3 fN fdN ["self", "value"] (spN K C CI))
    (GM : FnOk P w K mg base (L2.CX P w) 5 fM fdM ["self", "other"] (spMul C CT)) (bM : L2.Binds K fdM ["self", "other"] []) (sM : Spec K C (PySem.dunder Operator.Mult.info.2) fM) (hs : PySem.W.selfFirst K C = true) :
    FnR P w K mg base (L2.CX P w) 6 f (spAlong C CT) := by
  obtain ⟨oc, od, kV, doc, pm, an, cdv, ct, osl, rfl, lk, hcd⟩ := F.ex
  refine (StX.fn_star (ps := []) (pv := "leads") (sp := inner (spAlong C CT)) lk hcd sc15 StX.cxUp (fun us rest hl => match us, rest, hl with | [], [], _ => rfl | [], _ :: _, _ => rfl) fun A outer s H1 vs Q E hr h => ?_).imp fun vs H Q E h => ?_
  · obtain ⟨p, rest, H, rfl, hp, rfl, xs, hL, hn, k1, k2⟩ := h
    have hr4 : Room 4 _ := hr.mono (by decide)
    have hr5 : Room 5 _ := hr
    refine ⟨_, pss_cons (ps_set (i := 1) sc15.nd rfl (Or.inl rfl) (pe_make ML.M GN hr4 (by rfl) T.mC ML.b1 .nil passL (pa_cons pe_int pa_nil)))
      (pss_cons (ps_for (passes_of rfl) rfl (pi_tup (pv 0)) (pg_name (i := 2) sc15.nd rfl (Or.inl rfl))
        (pss_one (ps_set (i := 1) sc15.nd rfl (Or.inl rfl) (pe_op (op_bin GM hr5 bM (passes_call (takes_of rfl rfl rfl rfl) (fun _ _ _ _ h => h)) sM hs) (pv 1) (pv 2)))))
      (pss_one (ps_ret (pv 1)))), ?_⟩
    intro x0 dx0 e1 e2 e3
    refine mades (y := some 0) (show Bd 0 from ⟨by decide, by decide⟩) e1 e2 e3 fun H2 s2 h2 => ⟨rfl, ?_⟩
    have hT : H2 p = some (.tup rest) := s2 _ _ upd_same
    have s02 : Same H H2 := fun b o e => s2 b o (by rw [upd_ne (ne_of_none e hp)]; exact e)
    refine ⟨_, rfl, p, rfl, ⟨rest, SqT.of hT⟩, for_tup (K := K) (a := p) (xs := rest) (fun i σ H3 => ∃ (r : Addr) (u : Option Int) (v : Option V), σ = [some (.ref p), some (.ref r), v] ∧ Same H2 H3 ∧ LeadAt C H3 r u ∧ LdOk u ∧ H r = none ∧ alongL u (xs.drop i) = alongL (some 0) xs)
      ⟨x0, some 0, none, rfl, fun _ _ h => h, h2, show Bd 0 from ⟨by decide, by decide⟩, ?_, rfl⟩ (fun i σ H3 _ ⟨_, _, _, _, s3, _⟩ => SqT.of (s3 _ _ hT)) ?_ ?_⟩
    · exact (Same.free (fun b o e => by rw [upd_ne (ne_of_none e hp)]; exact e) e1)
    · rintro i y σ H3 hi ⟨r, u, v, rfl, s3, h3, oku, nr, e⟩
      obtain ⟨b, x, hx, rfl, hb, okx⟩ := hL.2 i y hi
      have hb3 : LeadAt C H3 b x := hb.same (s02.trans s3)
      have ed : xs.drop i = x :: xs.drop (i + 1) := by
        obtain ⟨hlt, ex⟩ := List.getElem?_eq_some_iff.mp hx
        rw [← ex]
        exact List.drop_eq_getElem_cons hlt
      obtain ⟨dx, h3'⟩ := id h3
      obtain ⟨dy, hb3'⟩ := id hb3
      refine ⟨_, rfl, _, rfl, r, b, dx, dy, _, _, rfl, rfl, h3', hb3', r, b, u, x, rfl, h3, hb3, oku, okx, fun z hz => ?_, fun hz => ?_⟩
      · intro r' H4 s4 nr' h4
        refine ⟨r', z, _, rfl, s3.trans s4, h4, mulL_ok hz, (s02.trans s3).free nr', ?_⟩
        rw [← e, ed]
        simp [alongL, hz]
      · have e' : alongL (some 0) xs = none := by
          rw [← e, ed]
          simp [alongL, hz]
        exact k2 e' H3 (s02.trans s3)
    · rintro σ H3 ⟨r, u, v, rfl, s3, h3, oku, nr, e⟩
      rw [hL.1, List.drop_length] at e
      exact ⟨_, rfl, k1 u e.symm r H3 (s02.trans s3) nr h3⟩
  · obtain ⟨xs, hL, hn, k1, k2⟩ := h
    exact ⟨[], vs, rfl, rfl, Nat.le_trans hn (by decide), fun p hp => ⟨p, vs, H, rfl, hp, rfl, xs, hL, hn, k1, k2⟩⟩
theorem sc16 : FnScope ["leads", "greatest", "lead"] ["leads"] (defScope sBest) := ⟨rfl, rfl, rfl, by decide +kernel, rfl, by decide +kernel, by decide +kernel⟩
theorem ok_best {f fN fM : Addr} {fd fdN fdM : FuncData} (F : Fun K "best" "best" sBest f fd) (T : TxL K mg C) (ML : MkL K C fN fdN) (GN : FnOk P w K mg base (L2.CX P w) 3 fN fdN ["self", "value"] (spN K C CI))
    (GM : FnOk P w K mg base CX0 5 fM fdM ["self", "other"] (spAdd C)) (bM : L2.Binds K fdM ["self", "other"] []) (sM : Spec K C (PySem.dunder Operator.Add.info.2) fM) (hs : PySem.W.selfFirst K C = true) :
    FnR P w K mg base CX0 6 f (spBest C) := by
  obtain ⟨oc, od, kV, doc, pm, an, cdv, ct, osl, rfl, lk, hcd⟩ := F.ex
  refine (StX.fn_star (ps := []) (pv := "leads") (sp := inner (spBest C)) lk hcd sc16 StX.cxUp_none (fun us rest hl => match us, rest, hl with | [], [], _ => rfl | [], _ :: _, _ => rfl) fun A outer s H1 vs Q E hr h => ?_).imp fun vs H Q E h => ?_
  · obtain ⟨p, rest, H, rfl, hp, rfl, xs, hL, hn, k1⟩ := h
    have hr4 : Room 4 _ := hr.mono (by decide)
    have hr5 : Room 5 _ := hr
    refine ⟨_, PSs.nox (pss_cons (ps_set (i := 1) sc16.nd rfl (Or.inl rfl) (pe_make0 ML.M GN hr4 (by rfl) T.mC ML.b0 (.cons (a := V.non) rfl .nil) passL))
      (pss_cons (ps_for PassesOwn.never rfl (pi_tup (pv 0)) (pg_name (i := 2) sc16.nd rfl (Or.inl rfl))
        (pss_one (ps_set (i := 1) sc16.nd rfl (Or.inl rfl) (pe_op (op_bin GM hr5 bM pass0 sM hs) (pv 1) (pv 2)))))
      (pss_one (ps_ret (pv 1))))), ?_⟩
    intro x0 dx0 e1 e2 e3
    refine mades (y := none) trivial e1 e2 e3 fun H2 s2 h2 => ⟨rfl, ?_⟩
    have hT : H2 p = some (.tup rest) := s2 _ _ upd_same
    have s02 : Same H H2 := fun b o e => s2 b o (by rw [upd_ne (ne_of_none e hp)]; exact e)
    refine ⟨_, rfl, p, rfl, ⟨rest, SqT.of hT⟩, for_tup (K := K) (a := p) (xs := rest) (fun i σ H3 => ∃ (r : Addr) (u : Option Int) (v : Option V), σ = [some (.ref p), some (.ref r), v] ∧ Same H2 H3 ∧ LeadAt C H3 r u ∧ LdOk u ∧ H r = none ∧ bestL u (xs.drop i) = bestL none xs)
      ⟨x0, none, none, rfl, fun _ _ h => h, h2, trivial, ?_, rfl⟩ (fun i σ H3 _ ⟨_, _, _, _, s3, _⟩ => SqT.of (s3 _ _ hT)) ?_ ?_⟩
    · exact (Same.free (fun b o e => by rw [upd_ne (ne_of_none e hp)]; exact e) e1)
    · rintro i y σ H3 hi ⟨r, u, v, rfl, s3, h3, oku, nr, e⟩
      obtain ⟨b, x, hx, rfl, hb, okx⟩ := hL.2 i y hi
      have hb3 : LeadAt C H3 b x := hb.same (s02.trans s3)
      have ed : xs.drop i = x :: xs.drop (i + 1) := by
        obtain ⟨hlt, ex⟩ := List.getElem?_eq_some_iff.mp hx
        rw [← ex]
        exact List.drop_eq_getElem_cons hlt
      obtain ⟨dx, h3'⟩ := id h3
      obtain ⟨dy, hb3'⟩ := id hb3
      refine ⟨_, rfl, _, rfl, r, b, dx, dy, _, _, rfl, rfl, h3', hb3', r, b, u, x, rfl, h3, hb3, oku, okx, ?_⟩
      intro r' H4 s4 nr' h4
      refine ⟨r', _, _, rfl, s3.trans s4, h4, addL_ok oku okx, (s02.trans s3).free nr', ?_⟩
      rw [← e, ed]
      rfl
    · rintro σ H3 ⟨r, u, v, rfl, s3, h3, oku, nr, e⟩
      rw [hL.1, List.drop_length] at e
      have e' : u = bestL none xs := e
      subst e'
      exact ⟨_, rfl, k1 r H3 (s02.trans s3) nr h3⟩
  · obtain ⟨xs, hL, hn, k1⟩ := h
    exact ⟨[], vs, rfl, rfl, Nat.le_trans hn (by decide), fun p hp => ⟨p, vs, H, rfl, hp, rfl, xs, hL, hn, k1⟩⟩
end
end Ev

set_option Elab.async false
set_option linter.all false
set_option maxRecDepth 100000
set_option maxHeartbeats 4000000
/-! k01: the law's pen, draw. -/
namespace Ev
open PySem PySem.Spec PyProof.Rows L2

abbrev sPen : Stmt := topS 17
abbrev sDraw : Stmt := topS 18
abbrev sVal : Stmt := topS 19
theorem boot_len' : bootBuiltins "len" = some (.builtin "len") := by decide +kernel
theorem boot_abs' : bootBuiltins "abs" = some (.builtin "abs") := by decide +kernel
theorem boot_int' : bootBuiltins "int" = some (.type "int") := by decide +kernel
theorem boot_list' : bootBuiltins "list" = some (.type "list") := by decide +kernel
/-- the pen at p: its cells at l, the next one's index, what is left -/
structure PenAt (H : Hp) (p l : Addr) (cs : List Int) (i r : Int) : Prop where
  pen : H p = some (.lst [.ref l, .int i, .int r])
  cells : H l = some (.lst (cs.map V.int))
  ne : p ≠ l
  len : cs.length ≤ 1000
  lo : 0 ≤ i
/-- all but the pen is as it was -/
def But (p : Addr) (H H' : Hp) : Prop := ∀ b o, H b = some o → b ≠ p → H' b = some o
theorem But.trans {p : Addr} {H H1 H2 : Hp} (a : But p H H1) (b : But p H1 H2) : But p H H2 := fun c o e n => b c o (a c o e n) n
def spPen (K : PySem.W.Frag) : Sp := fun vs H Q E => ∃ (a : Addr) (ns : List Int), vs = [.ref a] ∧ SqL K H a (ns.map V.int) ∧ ns.length ≤ 63 ∧ ∀ p l H', Same H H' → H p = none → PenAt H' p l ns 0 0 → H l = none → Q (.ref p) H'
def spDraw : Sp := fun vs H Q E => ∃ (p l : Addr) (cs : List Int) (i r m : Int), vs = [.ref p, .int m] ∧ PenAt H p l cs i r ∧ i ≤ 1000 ∧ 0 < m ∧ m < 1073741824 ∧
  ∀ (v i' r' : Int) H', 0 ≤ v → v < m → i' ≤ i + 1 → PenAt H' p l cs i' r' → But p H H' → Q (.int v) H'
theorem ints_lay (cs : List Int) : PyData.canLayAll0 (cs.map PyData.int) = true := by
  induction cs with
  | nil => rfl
  | cons c cs ih =>
    show (PyData.canLay0 (.int c) && PyData.canLayAll0 (cs.map PyData.int)) = true
    rw [ih]; rfl
theorem ints_dp {K : PySem.W.Frag} {H : Hp} (cs : List Int) : DpAll K H (cs.map V.int) (cs.map PyData.int) := by
  induction cs with
  | nil => exact .nil
  | cons c cs ih => exact .cons (.int c) ih
theorem ints_depth (cs : List Int) : PyData.depthAll (cs.map PyData.int) = 0 := by
  induction cs with
  | nil => rfl
  | cons c cs ih =>
    show max (PyData.depth (.int c)) (PyData.depthAll (cs.map PyData.int)) = 0
    rw [ih]; rfl
theorem ints_shaped (cs : List Int) : SeqAt.shaped (.list (cs.map PyData.int)) = true := by
  unfold SeqAt.shaped
  rw [show PyData.canLay0 (.list (cs.map PyData.int)) = true from ints_lay cs]
  have e : PyData.depth (.list (cs.map PyData.int)) ≤ 64 := by
    show _ + _ ≤ 64
    first | (rw [ints_depth]; decide) | (simp [PyData.depth, ints_depth])
  simpa using e
theorem atI_mod {cs : List Int} (h : 0 < cs.length) (i : Int) : ∃ c, atI (cs.map V.int) (i % ((cs.map V.int).length : Int)) = some (.int c) := by
  rw [List.length_map]
  have h1 : (0 : Int) ≤ i % (cs.length : Int) := Int.emod_nonneg _ (by omega)
  have h2 : i % (cs.length : Int) < cs.length := Int.emod_lt_of_pos _ (by omega)
  obtain ⟨j, e⟩ := Int.eq_ofNat_of_zero_le h1
  rw [e] at h2 ⊢
  have hl : j < cs.length := by omega
  refine ⟨cs[j], atI_nat ?_⟩
  rw [List.getElem?_map]
  simp [hl]
section
variable {P : Program} {w : World} {K : PySem.W.Frag} {mg : Str → Option Value} {base : Heap}
theorem sc18 : FnScope ["_law_script"] ["_law_script"] (defScope sPen) := ⟨rfl, rfl, rfl, by decide +kernel, rfl, by decide +kernel, by decide +kernel⟩
theorem ok_pen {f : Addr} {fd : FuncData} (F : Fun K "_law_pen" "_law_pen" sPen f fd) (ml : mg "list" = none) :
    FnOk P w K mg base CX0 1 f fd ["_law_script"] (spPen K) := by
  refine F.ok sc18 (fun vs H Q E h => ?_) (fun cdv A outer s H vs Q E hr h => ?_)
  · obtain ⟨a, ns, rfl, _⟩ := h
    rfl
  · obtain ⟨a, ns, rfl, hS, hn, k⟩ := h
    refine ⟨_, pss_one (ps_ret (pe_lst (pa_cons (pe_callTy call_list_of (by rfl) ml boot_list' (pa_cons (pe_slice sl_list (pv 0) po_none (po_some pe_int)) pa_nil)) (pa_cons pe_int (pa_cons pe_int pa_nil))))), ?_⟩
    have ec : cutV (ns.map V.int) none (some 63) = ns.map V.int := by
      unfold cutV
      rw [HT.sIx_none, show (63 : Int) = ((63 : Nat) : Int) from rfl, HT.sIx_nat, List.length_map, Nat.min_eq_right hn]
      simp [← List.length_map]
      exact List.take_of_length_le (by simp)
    refine ⟨_, rfl, _, rfl, a, _, rfl, hS, fun q hq => ?_⟩
    rw [ec]
    refine ⟨q, _, rfl, .inl (SqL.of upd_same), fun l hl => ⟨by show 3 ≤ sizeLine; decide, fun p hp => ?_⟩⟩
    have npl : p ≠ l := fun z => by
      rw [z, upd_same] at hp; cases hp
    have hl0 : H l = none := by
      by_cases e : l = q
      · rw [e, upd_same] at hl; cases hl
      · rw [upd_ne e] at hl; exact hl
    have hp0 : H p = none := by
      by_cases e : p = q
      · rw [e, upd_ne (fun z => npl (e.trans z)), upd_same] at hp; cases hp
      · rw [upd_ne npl, upd_ne e] at hp; exact hp
    refine k p l _ (fun b o e => ?_) hp0 ⟨upd_same, by rw [upd_ne npl.symm, upd_same], npl, by omega, by decide⟩ hl0
    rw [upd_ne (ne_of_none e hp0), upd_ne (ne_of_none e hl0), upd_ne (ne_of_none e hq)]
    exact e
theorem sc19 : FnScope ["_law_pen_here", "_law_many", "_law_digit", "_law_at", "_law_cell", "_law_large", "_law_mixed"] ["_law_pen_here", "_law_many"] (defScope sDraw) := ⟨rfl, rfl, rfl, by decide +kernel, rfl, by decide +kernel, by decide +kernel⟩
theorem ok_draw {f : Addr} {fd : FuncData} (F : Fun K "_law_draw" "_law_draw" sDraw f fd) (mi : mg "int" = none) (ma : mg "abs" = none) (mn : mg "len" = none) :
    FnOk P w K mg base CX0 1 f fd ["_law_pen_here", "_law_many"] spDraw := by
  refine F.ok sc19 (fun vs H Q E h => ?_) (fun cdv A outer s H vs Q E hr h => ?_)
  · obtain ⟨p, l, cs, i, r, m, rfl, _⟩ := h
    rfl
  · obtain ⟨p, l, cs, i, r, m, rfl, ⟨hp, hl, npl, hn, lo⟩, hi, m0, m1, k⟩ := h
    have hu := Nat.lt_of_le_of_lt (Nat.le_refl _) hr.units
    let X := (cxOf CX0 P w K mg base ["_law_pen_here", "_law_many", "_law_digit", "_law_at", "_law_cell", "_law_large", "_law_mixed"] "_law_draw" (defScope sDraw) f cdv A outer s H E).nox
    -- the mixed cell
    have rest2 : ∃ tt, PSs X ((defBody sDraw).drop 6) tt ∧ ∀ (c : Int) (H2 : Hp), (∀ c2 : Int, Q (.int (c2 % m)) H2) →
        tt { nx := fun _ H' => Q .non H', rt := Q } [some (.ref p), some (.int m), none, some (.int i), some (.int c), none, none] H2 := by
      refine ⟨_, pss_cons (ps_set (i := 6) sc19.nd rfl (Or.inl rfl) (pe_op op_mod (pe_op op_pow (pe_callTy call_int1 (by rfl) mi boot_int' (pa_cons (pe_op op_add (pe_op op_add (pe_op op_mod (pe_callTy call_int1 (by rfl) mi boot_int' (pa_cons (pv 4) pa_nil)) pe_int) (pe_op op_mul pe_int (pv 3))) pe_int) pa_nil)) pe_int) pe_int))
        (pss_cons (ps_set (i := 6) sc19.nd rfl (Or.inl rfl) (pe_op op_mod (pe_op op_pow (pe_callTy call_int1 (by rfl) mi boot_int' (pa_cons (pe_op op_add (pe_op op_add (pe_op op_mul (pv 6) (pe_op op_add (pe_op op_mul pe_int (pv 3)) pe_int)) (pe_op op_mul (pe_op op_mul pe_int (pv 3)) (pv 3))) pe_int) pa_nil)) pe_int) pe_int))
        (pss_one (ps_ret (pe_op op_mod (pe_callTy call_int1 (by rfl) mi boot_int' (pa_cons (pe_op op_fdiv (pv 6) pe_int) pa_nil)) (pv 1))))), ?_⟩
      intro c H2 fin
      have x1 : (0 : Int) ≤ c % 2147483549 := Int.emod_nonneg _ (by decide)
      have x2 : c % 2147483549 < 2147483549 := Int.emod_lt_of_pos _ (by decide)
      refine ⟨_, rfl, .inl ⟨_, rfl, _, _, rfl, rfl, by show (0 : Int) < 2147483549; decide, _, rfl, _, _, rfl, rfl, .inl ⟨by decide, by decide⟩, _, _, rfl, rfl, _, _, rfl, rfl, .inl ⟨_, rfl, _, _, rfl, rfl, ⟨by decide, by decide, by omega⟩, _, _, rfl, rfl, by show (0 : Int) < 2147483579; decide, ?_⟩⟩⟩
      have y1 : (0 : Int) ≤ (c % 2147483549 + 51045 * i + 30) ^ (5 : Int).toNat % 2147483579 := Int.emod_nonneg _ (by decide)
      have y2 : (c % 2147483549 + 51045 * i + 30) ^ (5 : Int).toNat % 2147483579 < 2147483579 := Int.emod_lt_of_pos _ (by decide)
      have zz : ∀ y : Int, 0 ≤ y → y < 2147483579 → 0 ≤ y * (2 * i + 35) ∧ y * (2 * i + 35) ≤ 2147483579 * 2035 := fun y h1 h2 => ⟨Int.mul_nonneg h1 (by omega), Int.mul_le_mul (by omega) (by omega) (by omega) (by decide)⟩
      obtain ⟨z1, z2⟩ := zz _ y1 y2
      have z3 : (0 : Int) ≤ i * i := Int.mul_nonneg lo lo
      have z4 : i * i ≤ 1000 * 1000 := Int.mul_le_mul hi hi lo (by decide)
      have z5 : 70007 * i * i = 70007 * (i * i) := Int.mul_assoc _ _ _
      refine ⟨_, rfl, _, rfl, _, _, rfl, rfl, .inl ⟨by decide, by decide⟩, _, _, rfl, rfl, _, _, rfl, rfl, .inl ⟨by omega, by omega⟩, _, rfl, _, _, rfl, rfl, .inl ⟨by decide, by decide⟩, _, rfl, _, _, rfl, rfl, .inl ⟨by omega, by omega⟩, _, _, rfl, rfl, _, _, rfl, rfl, .inl ⟨_, rfl, ?_⟩⟩
      refine ⟨_, _, rfl, rfl, ⟨by decide, by decide, ?_⟩, _, _, rfl, rfl, by show (0 : Int) < 2147483629; decide, ?_⟩
      · rw [z5]; omega
      refine ⟨_, rfl, _, _, rfl, rfl, ⟨by decide, by decide⟩, .inl ⟨_, rfl, _, rfl, _, _, rfl, rfl, m0, ?_⟩⟩
      exact fin _
    obtain ⟨t2, hT2, tail2⟩ := rest2
    -- what follows the choice of the cell
    have rest : ∃ tt, PSs X ((defBody sDraw).drop 5) tt ∧ ∀ (c : Int) (H2 : Hp), H2 p = some (.lst [.ref l, .int (i + 1), .int r]) → H2 l = some (.lst (cs.map V.int)) → But p H H2 →
        tt { nx := fun _ H' => Q .non H', rt := Q } [some (.ref p), some (.int m), none, some (.int i), some (.int c), none, none] H2 := by
      refine ⟨_, pss_cons (ps_if (PW.pt (pw_and (pt_cmpR op_lt (pv 3) (pe_callB call_len_seq (by rfl) mn boot_len' (pa_cons (pe_ix ix_list (pv 0) pe_int (fun _ _ => rfl)) pa_nil)) (nomark _)) (pw_and1 (pt_cmpR op_ge (pe_callB call_abs (by rfl) ma boot_abs' (pa_cons (pv 4) pa_nil)) (pe_op op_pow pe_int pe_int) (nomark _)))))
        (pss_cons (ps_set (i := 5) sc19.nd rfl (Or.inl rfl) (pe_op op_add (pe_op op_mul pe_int (pe_callB call_abs (by rfl) ma boot_abs' (pa_cons (pv 4) pa_nil))) (pe_callTy call_int1 (by rfl) mi boot_int' (pa_cons (pe_cmpR op_lt (pv 4) pe_int (nomark _)) pa_nil))))
        (pss_cons (ps_asg (pe_op op_fdiv (pv 5) (pv 1)) (pg_sub (pv 0) pe_int set_list))
        (pss_one (ps_ret (pe_op op_mod (pe_callTy call_int1 (by rfl) mi boot_int' (pa_cons (pv 5) pa_nil)) (pv 1)))))) pss_nil)
        hT2, ?_⟩
      intro c H2 g1 g2 bt
      have fin : ∀ c2 : Int, Q (.int (c2 % m)) H2 := fun c2 => k _ (i + 1) r H2 (Int.emod_nonneg _ (by omega)) (Int.emod_lt_of_pos _ m0) (Int.le_refl _) ⟨g1, g2, npl, hn, by omega⟩ bt
      refine ⟨_, rfl, _, rfl, p, _, 0, _, rfl, rfl, SqL.of g1, rfl, l, _, rfl, .inl (SqL.of g2), _, _, rfl, rfl, _, rfl, ?_⟩
      refine ite2 (fun _ => ?_) fun _ => iteF (tail2 c H2 fin)
      refine ⟨_, rfl, _, rfl, 10, 18, rfl, rfl, ⟨by decide, by decide, by decide⟩, _, _, rfl, rfl, _, rfl, ?_⟩
      refine ite2 (fun _ => ?_) fun _ => tail2 c H2 fin
      refine ⟨_, rfl, _, rfl, _, _, rfl, rfl, .inl ⟨by decide, by decide⟩, _, rfl, _, _, rfl, rfl, .inr ⟨_, rfl, _, _, rfl, rfl, ?_⟩⟩
      refine ⟨_, rfl, _, rfl, _, _, rfl, rfl, ⟨m0, m1⟩, _, rfl, p, _, 2, 2, rfl, rfl, g1, rfl, _, rfl, .inl ⟨_, rfl, _, rfl, _, _, rfl, rfl, m0, ?_⟩⟩
      refine k _ (i + 1) _ _ (Int.emod_nonneg _ (by omega)) (Int.emod_lt_of_pos _ m0) (Int.le_refl _) ⟨upd_same, by rw [upd_ne npl.symm]; exact g2, npl, hn, by omega⟩ fun b z e n => ?_
      rw [upd_ne n]
      exact bt b z e n
    obtain ⟨tt, hT, tail⟩ := rest
    refine ⟨_, pss_cons (ps_if (pt_cmpR op_gt (pe_ix ix_list (pv 0) pe_int (fun _ _ => rfl)) pe_int (nomark _))
        (pss_cons (ps_set (i := 2) sc19.nd rfl (Or.inl rfl) (pe_op op_mod (pe_callTy call_int1 (by rfl) mi boot_int' (pa_cons (pe_ix ix_list (pv 0) pe_int (fun _ _ => rfl)) pa_nil)) (pv 1)))
        (pss_cons (ps_asg (pe_op op_fdiv (pe_ix ix_list (pv 0) pe_int (fun _ _ => rfl)) (pv 1)) (pg_sub (pv 0) pe_int set_list))
        (pss_one (ps_ret (pv 2))))) pss_nil)
      (pss_cons (ps_set (i := 3) sc19.nd rfl (Or.inl rfl) (pe_ix ix_list (pv 0) pe_int (fun _ _ => rfl)))
      (pss_cons (ps_asg (pe_op op_add (pv 3) pe_int) (pg_sub (pv 0) pe_int set_list))
      (pss_cons (ps_set (i := 4) sc19.nd rfl (Or.inl rfl) (pe_op op_add (pe_op op_mul pe_int (pv 3)) pe_int))
      (pss_cons (ps_if (pt_cmpR (op_neD hu) (pe_ix ix_list (pv 0) pe_int (fun _ _ => rfl)) (pe_lst pa_nil) (nomark _))
        (pss_one (ps_set (i := 4) sc19.nd rfl (Or.inl rfl) (pe_ix ix_list (pe_ix ix_list (pv 0) pe_int (fun _ _ => rfl)) (pe_op op_mod (pe_callTy call_int1 (by rfl) mi boot_int' (pa_cons (pv 3) pa_nil)) (pe_callB call_len_seq (by rfl) mn boot_len' (pa_cons (pe_ix ix_list (pv 0) pe_int (fun _ _ => rfl)) pa_nil))) (fun _ _ => rfl)))) pss_nil)
      hT)))), ?_⟩
    refine ⟨_, rfl, p, _, 2, _, rfl, rfl, SqL.of hp, rfl, _, _, rfl, rfl, _, rfl, ?_⟩
    have bt : ∀ o : HO, But p H (upd H p o) := fun o b z e n => by rw [upd_ne n]; exact e
    by_cases a : 0 < r
    · refine ifT (by simpa using a) ?_
      refine ⟨_, rfl, p, _, 2, _, rfl, rfl, SqL.of hp, rfl, .inl ⟨r, rfl, _, rfl, _, _, rfl, rfl, m0, ?_⟩⟩
      refine ⟨_, rfl, p, _, 2, _, rfl, rfl, SqL.of hp, rfl, _, rfl, _, _, rfl, rfl, ⟨m0, m1⟩, ?_⟩
      refine ⟨_, rfl, p, _, 2, 2, rfl, rfl, hp, rfl, _, rfl, ?_⟩
      exact k _ i (r / m) _ (Int.emod_nonneg _ (by omega)) (Int.emod_lt_of_pos _ m0) (by omega) ⟨upd_same, by rw [upd_ne npl.symm]; exact hl, npl, hn, lo⟩ (bt _)
    · refine ifF (by simpa using a) ?_
      refine ⟨_, rfl, p, _, 1, _, rfl, rfl, SqL.of hp, rfl, ?_⟩
      refine ⟨_, rfl, _, _, rfl, rfl, _, rfl, p, _, 1, 1, rfl, rfl, hp, rfl, ?_⟩
      refine ⟨_, rfl, _, _, rfl, rfl, .inl ⟨by decide, by decide⟩, _, _, rfl, rfl, ?_⟩
      refine ⟨_, rfl, p, _, 0, _, rfl, rfl, SqL.of upd_same, rfl, by show 0 ≤ sizeLine; decide, fun q hq => ?_⟩
      have npq : p ≠ q := fun z => by rw [← z, upd_same] at hq; cases hq
      have nlq : l ≠ q := fun z => by rw [← z, upd_ne npl.symm, hl] at hq; cases hq
      have nq : H q = none := by rw [upd_ne npq.symm] at hq; exact hq
      have g1 : (upd (upd H p (.lst [.ref l, .int (i + 1), .int r])) q (.lst [])) p = some (.lst [.ref l, .int (i + 1), .int r]) := by rw [upd_ne npq, upd_same]
      have g2 : (upd (upd H p (.lst [.ref l, .int (i + 1), .int r])) q (.lst [])) l = some (.lst (cs.map V.int)) := by rw [upd_ne nlq, upd_ne npl.symm]; exact hl
      have b2 : But p H (upd (upd H p (.lst [.ref l, .int (i + 1), .int r])) q (.lst [])) := fun b z e n => by rw [upd_ne (ne_of_none e nq), upd_ne n]; exact e
      refine ⟨_, _, .lst (SqL.of g2) (ints_dp cs), .lst (SqL.of upd_same) .nil, ?_, by decide, _, rfl, ?_⟩
      · exact ints_shaped cs
      have tail' := tail
      refine ite2 (fun ne => ?_) fun _ => tail' _ _ g1 g2 b2
      have n0 : 0 < cs.length := by
        cases cs with
        | nil => cases ne
        | cons c0 cs => exact Nat.succ_pos _
      obtain ⟨c, ec⟩ := atI_mod n0 i
      exact ⟨_, rfl, p, _, 0, _, rfl, rfl, SqL.of g1, rfl, _, rfl, .inl ⟨_, rfl, _, rfl, p, _, 0, _, rfl, rfl, SqL.of g1, rfl, l, _, rfl, .inl (SqL.of g2), _, _, rfl, rfl, by rw [List.length_map]; omega, l, _, _, .int c, rfl, rfl, SqL.of g2, ec, tail' c _ g1 g2 b2⟩⟩
end
end Ev

set_option Elab.async false
set_option linter.all false
set_option maxRecDepth 100000
set_option maxHeartbeats 4000000
/-! k01: the law's value, sum, height, chain. -/
namespace Ev
open PySem PySem.Spec PyProof.Rows L2

abbrev sSum : Stmt := topS 21
abbrev sHei : Stmt := topS 22
abbrev sChain : Stmt := topS 25
theorem PenAt.same {H H' : Hp} {p l : Addr} {cs : List Int} {i r : Int} (h : PenAt H p l cs i r) (s : Same H H') : PenAt H' p l cs i r := ⟨s _ _ h.pen, s _ _ h.cells, h.ne, h.len, h.lo⟩
theorem Same.but {p : Addr} {H H' : Hp} (s : Same H H') : But p H H' := fun b o e _ => s b o e
theorem same_upd {H : Hp} {q : Addr} {o : HO} (h : H q = none) : Same H (upd H q o) := fun b z e => by rw [upd_ne (ne_of_none e h)]; exact e
def spVal : Sp := fun vs H Q E => ∃ (p l : Addr) (cs : List Int) (i r : Int), vs = [.ref p] ∧ PenAt H p l cs i r ∧ i ≤ 990 ∧
  ∀ (x : Option Int) (i' r' : Int) H', LdOk x → i' ≤ i + 3 → PenAt H' p l cs i' r' → But p H H' → Q (ldV x) H'
theorem atI_in {ys : List (Option Int)} {v : Int} (h0 : 0 ≤ v) (h1 : v < ys.length) : ∃ y, y ∈ ys ∧ atI (ys.map ldV) v = some (ldV y) := by
  obtain ⟨j, e⟩ := Int.eq_ofNat_of_zero_le h0
  rw [e] at h1 ⊢
  have hl : j < ys.length := by omega
  refine ⟨ys[j], List.getElem_mem hl, atI_nat ?_⟩
  rw [List.getElem?_map]
  simp [hl]
/-- the sum that is due -/
def spSum : Sp := fun vs H Q E => ∃ (x y : Option Int), vs = [ldV x, ldV y] ∧ LdOk x ∧ LdOk y ∧ ∀ p H', Same H H' → H p = none →
  (match mulL x y with | some z => H' p = some (.lst [ldV z]) | none => H' p = some (.tup [.str "many", .int 1000000])) → Q (.ref p) H'
def heightL : Option Int → Int
  | none => -10000000
  | some i => i
def spHei : Sp := fun vs H Q E => ∃ (x : Option Int), vs = [ldV x] ∧ Q (.int (heightL x)) H
section
variable {P : Program} {w : World} {K : PySem.W.Frag} {mg : Str → Option Value} {base : Heap}
theorem sc20 : FnScope ["_law_pen_here", "_law_few"] ["_law_pen_here"] (defScope sVal) := ⟨rfl, rfl, rfl, by decide +kernel, rfl, by decide +kernel, by decide +kernel⟩
theorem ok_val {f f1 : Addr} {fd fd1 : FuncData} (F : Fun K "_law_value" "_law_value" sVal f fd) (D : DefT K mg "_law_draw" sDraw ["_law_pen_here", "_law_many"] f1 fd1) (G : FnOk P w K mg base CX0 1 f1 fd1 ["_law_pen_here", "_law_many"] spDraw) :
    FnOk P w K mg base CX0 2 f fd ["_law_pen_here"] spVal := by
  refine F.ok sc20 (fun vs H Q E h => ?_) (fun cdv A outer s H vs Q E hr h => ?_)
  · obtain ⟨p, l, cs, i, r, rfl, _⟩ := h
    rfl
  · obtain ⟨p, l, cs, i, r, rfl, hP, hi, k⟩ := h
    refine ⟨_, pss_cons (ps_set (i := 1) sc20.nd rfl (Or.inl rfl) (pe_lst (pa_cons pe_non (pa_cons pe_int (pa_cons (pe_un un_neg pe_int) (pa_cons pe_int (pa_cons (pe_op op_pow pe_int pe_int) (pa_cons (pe_un un_neg (pe_op op_pow pe_int pe_int)) (pa_cons pe_int
        (pa_cons (pe_op op_sub (pe_call G hr rfl D.m D.F.kp D.b .nil pass0 (pa_cons (pv 0) (pa_cons pe_int pa_nil))) pe_int)
        (pa_cons (pe_op op_sub (pe_call G hr rfl D.m D.F.kp D.b .nil pass0 (pa_cons (pv 0) (pa_cons (pe_op op_add (pe_op op_mul pe_int (pe_op op_pow pe_int pe_int)) pe_int) pa_nil))) (pe_op op_pow pe_int pe_int)) pa_nil)))))))))))
      (pss_one (ps_ret (pe_ix ix_list (pv 1) (pe_call G hr rfl D.m D.F.kp D.b .nil pass0 (pa_cons (pv 0) (pa_cons pe_int pa_nil))) (fun _ _ => rfl)))), ?_⟩
    have e6 : (10 : Int) ^ (6 : Int).toNat = 1000000 := by decide
    refine ⟨_, rfl, 10, 6, rfl, rfl, ⟨by decide, by decide, by decide⟩, 10, 6, rfl, rfl, ⟨by decide, by decide, by decide⟩, _, rfl, _, rfl, p, l, cs, i, r, 9, rfl, hP, by omega, by decide, by decide, fun v1 i1 r1 H1 a1 b1 c1 P1 B1 => ⟨_, _, rfl, rfl, ?_⟩⟩
    refine ⟨_, rfl, 10, 6, rfl, rfl, ⟨by decide, by decide, by decide⟩, 2, _, rfl, rfl, .inl ⟨by decide, by decide⟩, _, _, rfl, rfl, p, l, cs, i1, r1, _, rfl, P1, by omega, by decide, by decide, fun v2 i2 r2 H2 a2 b2 c2 P2 B2 => ?_⟩
    refine ⟨10, 6, rfl, rfl, ⟨by decide, by decide, by decide⟩, _, _, rfl, rfl, by show 9 ≤ sizeLine; decide, fun q hq => ?_⟩
    have b2' : v2 < 2000001 := b2
    refine ⟨_, rfl, _, rfl, p, l, cs, i2, r2, 9, rfl, P2.same (same_upd hq), by omega, by decide, by decide, fun v3 i3 r3 H3 a3 b3 c3 P3 B3 => ?_⟩
    have npq : p ≠ q := ne_of_none P2.pen hq
    have hq3 := B3 q _ upd_same npq.symm
    obtain ⟨y, my, ey⟩ := atI_in (ys := [none, some 0, some (-1), some 1, some 1000000, some (-1000000), some 999999, some (v1 - 4), some (v2 - 1000000)]) a3 b3
    have oky : LdOk y := by
      simp only [List.mem_cons, List.not_mem_nil, or_false] at my
      rcases my with rfl | rfl | rfl | rfl | rfl | rfl | rfl | rfl | rfl
      · trivial
      all_goals (show Bd _; unfold Bd; omega)
    refine ⟨q, _, v3, _, rfl, rfl, SqL.of hq3, ey, k y i3 r3 H3 oky (by omega) P3 ?_⟩
    exact (B1.trans B2).trans ((Same.but (same_upd hq)).trans B3)
theorem sc22 : FnScope ["_law_x", "_law_y"] ["_law_x", "_law_y"] (defScope sSum) := ⟨rfl, rfl, rfl, by decide +kernel, rfl, by decide +kernel, by decide +kernel⟩
theorem ok_sum {f : Addr} {fd : FuncData} (F : Fun K "_law_sum" "_law_sum" sSum f fd) (ma : mg "abs" = none) : FnOk P w K mg base CX0 1 f fd ["_law_x", "_law_y"] spSum := by
  refine F.ok sc22 (fun vs H Q E h => ?_) (fun cdv A outer s H vs Q E hr h => ?_)
  · obtain ⟨x, y, rfl, _⟩ := h
    rfl
  · obtain ⟨x, y, rfl, okx, oky, k⟩ := h
    refine ⟨_, pss_cons (ps_if (PW.pt (pw_or (pt_cmpR op_isN (pv 0) pe_non (nomark _)) (pw_or1 (pt_cmpR op_isN (pv 1) pe_non (nomark _))))) (pss_one (ps_ret (pe_lst (pa_cons pe_non pa_nil)))) pss_nil)
      (pss_one (ps_ret (pe_ifExp (pt_cmpR op_le (pe_callB call_abs (by rfl) ma boot_abs' (pa_cons (pe_op op_add (pv 0) (pv 1)) pa_nil)) (pe_op op_pow pe_int pe_int) (nomark _)) (pe_lst (pa_cons (pe_op op_add (pv 0) (pv 1)) pa_nil)) (pe_tup (pa_cons pe_str (pa_cons (pe_op op_pow pe_int pe_int) pa_nil)))))), ?_⟩
    cases x with
    | none =>
      refine ⟨_, rfl, rfl, _, rfl, ifT (by rfl) (iteT ?_)⟩
      exact ⟨by show 1 ≤ sizeLine; decide, fun q hq => k q _ (same_upd hq) hq (by show upd H q _ q = _; rw [upd_same]; rfl)⟩
    | some i =>
      refine ⟨_, rfl, rfl, _, rfl, ifF (by simp [ldV]) ?_⟩
      cases y with
      | none =>
        refine ⟨_, rfl, rfl, _, rfl, ifT (by rfl) ?_⟩
        exact ⟨by show 1 ≤ sizeLine; decide, fun q hq => k q _ (same_upd hq) hq (by show upd H q _ q = _; rw [upd_same]; rfl)⟩
      | some j =>
        refine ⟨_, rfl, rfl, _, rfl, ifF (by simp [ldV]) ?_⟩
        refine ⟨_, rfl, _, rfl, _, _, rfl, rfl, _, rfl, 10, 6, rfl, rfl, ⟨by decide, by decide, by decide⟩, _, _, rfl, rfl, _, rfl, ?_⟩
        have e6 : (10 : Int) ^ (6 : Int).toNat = 1000000 := by decide
        by_cases e : Bd (i + j)
        · refine ifT ?_ ?_
          · obtain ⟨e1, e2⟩ := e
            rw [e6]
            refine decide_eq_true ?_
            split <;> omega
          · refine ⟨_, rfl, _, rfl, _, _, rfl, rfl, by show 1 ≤ sizeLine; decide, fun q hq => k q _ (same_upd hq) hq ?_⟩
            simp [mulL, e, upd_same, ldV]
        · refine ifF ?_ ?_
          · rw [e6]
            refine decide_eq_false fun z => e ?_
            unfold Bd
            split at z <;> omega
          · refine ⟨10, 6, rfl, rfl, ⟨by decide, by decide, by decide⟩, by show 2 ≤ sizeLine; decide, fun q hq => k q _ (same_upd hq) hq ?_⟩
            simp [mulL, e, upd_same]
theorem sc23 : FnScope ["_law_x"] ["_law_x"] (defScope sHei) := ⟨rfl, rfl, rfl, by decide +kernel, rfl, by decide +kernel, by decide +kernel⟩
theorem ok_hei {f : Addr} {fd : FuncData} (F : Fun K "_law_height" "_law_height" sHei f fd) : FnOk P w K mg base CX0 1 f fd ["_law_x"] spHei := by
  refine F.ok sc23 (fun vs H Q E h => ?_) (fun cdv A outer s H vs Q E hr h => ?_)
  · obtain ⟨x, rfl, _⟩ := h
    rfl
  · obtain ⟨x, rfl, k⟩ := h
    refine ⟨_, pss_one (ps_ret (pe_ifExp (pt_cmpR op_isN (pv 0) pe_non (nomark _)) (pe_un un_neg (pe_op op_pow pe_int pe_int)) (pv 0))), ?_⟩
    refine ⟨_, rfl, rfl, _, rfl, ?_⟩
    cases x with
    | none => exact ifT (by rfl) ⟨10, 7, rfl, rfl, ⟨by decide, by decide, by decide⟩, _, rfl, k⟩
    | some i => exact ifF (by simp [ldV]) ⟨_, rfl, k⟩
end
end Ev

set_option Elab.async false
set_option linter.all false
set_option maxRecDepth 100000
set_option maxHeartbeats 4000000
/-! k01: the law's chain. -/
namespace Ev
open PySem PySem.Spec PyProof.Rows L2
def OutAt (H : Hp) (p : Addr) : Option (Option Int) → Prop
  | some z => H p = some (.lst [ldV z])
  | none => H p = some (.tup [.str "many", .int 1000000])
def spChain (K : PySem.W.Frag) : Sp := fun vs H Q E => ∃ (a : Addr) (xs : List (Option Int)), vs = [.ref a] ∧ SqL K H a (xs.map ldV) ∧ (∀ x ∈ xs, LdOk x) ∧ ∀ p H', Same H H' → H p = none → OutAt H' p (alongL (some 0) xs) → Q (.ref p) H'
section
variable {P : Program} {w : World} {K : PySem.W.Frag} {mg : Str → Option Value} {base : Heap}
theorem sc26 : FnScope ["_law_row", "_law_total", "_law_x"] ["_law_row"] (defScope sChain) := ⟨rfl, rfl, rfl, by decide +kernel, rfl, by decide +kernel, by decide +kernel⟩
theorem at_map {xs : List (Option Int)} {i : Nat} {y : V} (h : (xs.map ldV)[i]? = some y) : ∃ x, xs[i]? = some x ∧ y = ldV x ∧ x ∈ xs ∧ xs.drop i = x :: xs.drop (i + 1) := by
  rw [List.getElem?_map] at h
  cases e : xs[i]? with
  | none => rw [e] at h; cases h
  | some x =>
    rw [e] at h
    obtain ⟨hlt, ex⟩ := List.getElem?_eq_some_iff.mp e
    refine ⟨x, rfl, (Option.some.inj h).symm, List.mem_of_getElem? e, ?_⟩
    rw [← ex]
    exact List.drop_eq_getElem_cons hlt
theorem abs_bd {i : Int} : (decide ((10 : Int) ^ (6 : Int).toNat < if i < 0 then -i else i)) = !decide (Bd i) := by
  have e6 : (10 : Int) ^ (6 : Int).toNat = 1000000 := by decide
  rw [e6]
  by_cases e : Bd i
  · obtain ⟨e1, e2⟩ := id e
    rw [decide_eq_true e]
    refine decide_eq_false fun z => ?_
    split at z <;> omega
  · rw [decide_eq_false e]
    refine decide_eq_true ?_
    unfold Bd at e
    split <;> omega
theorem ok_chain {f : Addr} {fd : FuncData} (F : Fun K "_law_chain" "_law_chain" sChain f fd) (ma : mg "abs" = none) : FnOk P w K mg base CX0 1 f fd ["_law_row"] (spChain K) := by
  refine F.ok sc26 (fun vs H Q E h => ?_) (fun cdv A outer s H vs Q E hr h => ?_)
  · obtain ⟨a, xs, rfl, _⟩ := h
    rfl
  · obtain ⟨a, xs, rfl, hS, ok, k⟩ := h
    refine ⟨_, pss_cons (ps_set (i := 1) sc26.nd rfl (Or.inl rfl) pe_int)
      (pss_cons (ps_for PassesOwn.never rfl (pi_list (pv 0)) (pg_name (i := 2) sc26.nd rfl (Or.inl rfl))
        (pss_cons (ps_set (i := 1) sc26.nd rfl (Or.inl rfl) (pe_ifExp (PW.pt (pw_or (pt_cmpR op_isN (pv 1) pe_non (nomark _)) (pw_or1 (pt_cmpR op_isN (pv 2) pe_non (nomark _))))) pe_non (pe_op op_add (pv 1) (pv 2))))
        (pss_one (ps_if (PW.pt (pw_and (pt_cmpR op_notN (pv 1) pe_non (nomark _)) (pw_and1 (pt_cmpR op_gt (pe_callB call_abs (by rfl) ma boot_abs' (pa_cons (pv 1) pa_nil)) (pe_op op_pow pe_int pe_int) (nomark _)))))
          (pss_one (ps_ret (pe_tup (pa_cons pe_str (pa_cons (pe_op op_pow pe_int pe_int) pa_nil))))) pss_nil))))
      (pss_one (ps_ret (pe_lst (pa_cons (pv 1) pa_nil))))), ?_⟩
    have hS' : SqL K H a (xs.map ldV) := hS
    refine ⟨_, rfl, a, rfl, ⟨_, hS⟩, for_list (K := K) (a := a) (xs := xs.map ldV) (fun i σ H3 => ∃ (u : Option Int) (v : Option V), σ = [some (.ref a), some (ldV u), v] ∧ H3 = H ∧ LdOk u ∧ alongL u (xs.drop i) = alongL (some 0) xs)
      ⟨some 0, none, rfl, rfl, show Bd 0 from ⟨by decide, by decide⟩, rfl⟩ (fun i σ H3 _ ⟨_, _, _, e, _⟩ => by rw [e]; exact hS) ?_ ?_⟩
    · rintro i y σ H3 hi ⟨u, v, rfl, rfl, oku, e⟩
      obtain ⟨x, hx, rfl, mx, ed⟩ := at_map hi
      have okx := ok x mx
      cases u with
      | none =>
        refine ⟨_, rfl, rfl, _, rfl, ifT (by rfl) (iteT ?_)⟩
        refine ⟨_, rfl, rfl, _, rfl, ifF (by rfl) (iteF ?_)⟩
        refine ⟨none, _, rfl, rfl, trivial, ?_⟩
        rw [← e, ed]
        rfl
      | some t =>
        refine ⟨_, rfl, rfl, _, rfl, ifF (by simp [ldV]) ?_⟩
        cases x with
        | none =>
          refine ⟨_, rfl, rfl, _, rfl, ifT (by rfl) ?_⟩
          refine ⟨_, rfl, rfl, _, rfl, ifF (by rfl) (iteF ?_)⟩
          refine ⟨none, _, rfl, rfl, trivial, ?_⟩
          rw [← e, ed]
          rfl
        | some j =>
          refine ⟨_, rfl, rfl, _, rfl, ifF (by simp [ldV]) ?_⟩
          refine ⟨_, rfl, _, rfl, _, _, rfl, rfl, ?_⟩
          refine ⟨_, rfl, rfl, _, rfl, ifT (by simp) ?_⟩
          refine ⟨_, rfl, _, rfl, 10, 6, rfl, rfl, ⟨by decide, by decide, by decide⟩, _, _, rfl, rfl, _, rfl, ?_⟩
          rw [abs_bd]
          by_cases b : Bd (t + j)
          · refine ifF (by simpa using b) ?_
            refine ⟨some (t + j), _, rfl, rfl, b, ?_⟩
            rw [← e, ed]
            simp [alongL, mulL, b]
          · refine ifT (by simpa using b) ?_
            refine ⟨10, 6, rfl, rfl, ⟨by decide, by decide, by decide⟩, by show 2 ≤ sizeLine; decide, fun q hq => k q _ (same_upd hq) hq ?_⟩
            have en : alongL (some 0) xs = none := by
              rw [← e, ed]
              simp [alongL, mulL, b]
            rw [en]
            show upd H3 q _ q = _
            rw [upd_same]
            rfl
    · rintro σ H3 ⟨u, v, rfl, rfl, oku, e⟩
      rw [List.length_map, List.drop_length] at e
      refine ⟨_, rfl, by show 1 ≤ sizeLine; decide, fun q hq => k q _ (same_upd hq) hq ?_⟩
      rw [← e]
      exact upd_same
end
end Ev

set_option Elab.async false
set_option linter.all false
set_option maxRecDepth 100000
set_option maxHeartbeats 4000000
/-! k01: the law's told. -/
namespace Ev
open PySem PySem.Spec PyProof.Rows L2

abbrev sTold : Stmt := topS 20
/-- what the top leaves of the error classes, as told asks -/
structure TxE (K : PySem.W.Frag) (mg : Str → Option Value) (CF CT CJ CS CB CI CP CX CW : Addr) : Prop where
  mF : mg "FrameError" = some (.ref CF)
  mT : mg "TooMany" = some (.ref CT)
  mJ : mg "NoJob" = some (.ref CJ)
  mS : mg "Standstill" = some (.ref CS)
  mB : mg "Busy" = some (.ref CB)
  mI : mg "InvalidLead" = some (.ref CI)
  mP : mg "InvalidPlan" = some (.ref CP)
  mX : mg "InvalidText" = some (.ref CX)
  mW : mg "InvalidWeb" = some (.ref CW)
  mis : mg "isinstance" = none
  mO : mg "OverflowError" = none
  mV : mg "ValueError" = none
  eT : ErrK K CT
  eI : ErrK K CI
  nT : PySem.W.findIn K (.ref CT) "limit" = some none
  nI : PySem.W.findIn K (.ref CI) "value" = some none
  xT : PySem.W.exmAny K (.ref CT) [.ref CF, .ref CT, .ref CJ, .ref CS, .ref CB] = some true
  xI : PySem.W.exmAny K (.ref CI) [.ref CF, .ref CT, .ref CJ, .ref CS, .ref CB] = some true
  tTT : PySem.W.kitOne K (.ref CT) (.ref CT) = some true
  tTO : PySem.W.kitOne K (.ref CT) (.type "OverflowError") = some true
  tTF : PySem.W.kitOne K (.ref CT) (.ref CF) = some false
  tIT : PySem.W.kitOne K (.ref CI) (.ref CT) = some false
  tII : PySem.W.kitOne K (.ref CI) (.ref CI) = some true
  tIn : PySem.W.kitAny K (.ref CI) [.ref CP, .ref CX, .ref CW] = some false
  tIV : PySem.W.kitOne K (.ref CI) (.type "ValueError") = some true
/-- what told makes of a call -/
def TTk (CT CI : Addr) : (XK → Hp → VK → Prop) → Hp → VK → Prop := fun tl H Q =>
  tl (fun cls d H' => ∃ dd v, d = some dd ∧ ((cls = .ref CT ∧ H' dd = some (.xd [("limit", v)]) ∧ ∀ p H2, Same H' H2 → H' p = none → H2 p = some (.tup [.str "many", v]) → Q (.ref p) H2) ∨
      (cls = .ref CI ∧ H' dd = some (.xd [("value", v)]) ∧ ∀ p H2, Same H' H2 → H' p = none → H2 p = some (.tup [.str "lead", v]) → Q (.ref p) H2)))
    H (fun v H' => [v].length ≤ sizeLine ∧ ∀ p, H' p = none → Q (.ref p) (upd H' p (.lst [v])))
theorem sc21 : FnScope ["_law_ask", "_law_caught", "error"] ["_law_ask"] (defScope sTold) := ⟨rfl, rfl, rfl, by decide +kernel, rfl, by decide +kernel, by decide +kernel⟩
theorem boot_isv {x : Str} {n : String} (h : bootBuiltins x = some (.type n)) : bootBuiltins x = some (.type n) := h
section
variable {X : Cx}
theorem told_keeps {g CF CT CJ CS CB CI CP CX CW : Addr} {cdg : Value} {q : Str} (T : TxE X.K X.mg CF CT CJ CS CB CI CP CX CW) :
    LamX.GivesTo X ["_law_ask", "_law_caught", "error"] "_law_told" (defScope sTold) g cdg (defBody sTold) "_law_ask" q (TTk CT CI) := by
  intro f c' s H Q tl act hc h
  let Z : Cx := (cxOf C8.CX0 X.prog X.w X.K X.mg X.base ["_law_ask", "_law_caught", "error"] "_law_told" (defScope sTold) g cdg X.A X.stack s H C8.E0).nox
  have zm : ∀ (x : Str) (u : Option Value), X.mg x = u → Z.mg x = u := fun _ _ e => e
  refine ⟨_, pss_cons (ps_set (X := Z) (i := 1) sc21.nd rfl (Or.inl rfl) pe_non)
    (pss_cons (ps_try_keep (X := Z) (i := 2) (j := 1) (cs := [.ref CF, .ref CT, .ref CJ, .ref CS, .ref CB])
        (tb := fun W D σ H => ∃ Ech : XK, (∀ cls d σ' H', Ech cls d H' → W cls d σ' H') ∧ tRet (tLst (tCons (fun σZ HZ Q => σZ[0]? = some (some (.ref f)) ∧ HZ c' = some (LamX.CodeO c' q) ∧ tl Ech HZ Q) tNil)) D σ H)
        rfl rfl rfl sc21.nd rfl rfl rfl rfl (by show 5 ≤ sizeLine; decide)
        (.cons ⟨rfl, by decide, .inl T.mF⟩ (.cons ⟨rfl, by decide, .inl T.mT⟩ (.cons ⟨rfl, by decide, .inl T.mJ⟩ (.cons ⟨rfl, by decide, .inl T.mS⟩ (.cons ⟨rfl, by decide, .inl T.mB⟩ .nil)))))
        (by decide) (by decide) (fun W pn xe tk _ => ?body))
    (pss_cons (ps_if (X := Z) (PW.pt (pw_and (pt_val (pe_callB call_isk (by rfl) T.mis boot_isi (pa_cons (pv 1) (pa_cons (pe_glob (by rfl) T.mT (v := .ref CT) rfl) pa_nil))))
          (pw_and (pt_val (pe_callB call_isk (by rfl) T.mis boot_isi (pa_cons (pv 1) (pa_cons (pe_ty "OverflowError" T.mO) pa_nil))))
          (pw_and1 (pt_not (pt_val (pe_callB call_isk (by rfl) T.mis boot_isi (pa_cons (pv 1) (pa_cons (pe_glob (by rfl) T.mF (v := .ref CF) rfl) pa_nil)))))))))
        (pss_one (ps_ret (pe_tup (pa_cons pe_str (pa_cons (pe_kf (pv 1)) pa_nil))))) pss_nil)
    (pss_cons (ps_if (X := Z) (PW.pt (pw_or (pt_not (pt_val (pe_callB call_isk (by rfl) T.mis boot_isi (pa_cons (pv 1) (pa_cons (pe_glob (by rfl) T.mI (v := .ref CI) rfl) pa_nil)))))
          (pw_or1 (pt_val (pe_callB call_iskT (by rfl) T.mis boot_isi (pa_cons (pv 1) (pa_cons (pe_tup (pa_cons (pe_glob (by rfl) T.mP (v := .ref CP) rfl) (pa_cons (pe_glob (by rfl) T.mX (v := .ref CX) rfl) (pa_cons (pe_glob (by rfl) T.mW (v := .ref CW) rfl) pa_nil)))) pa_nil)))))))
        (pss_one (ps_ret pe_str)) pss_nil)
    (pss_one (ps_ret (X := Z) (pe_ifExp (pt_val (pe_callB call_isk (by rfl) T.mis boot_isi (pa_cons (pv 1) (pa_cons (pe_ty "ValueError" T.mV) pa_nil)))) (pe_tup (pa_cons pe_str (pa_cons (pe_kf (pv 1)) pa_nil))) pe_str)))))), ?read⟩
  case body =>
    refine ⟨fun pins s' σ H' D I h' => ?_⟩
    obtain ⟨Ech, hW, h3⟩ := h'
    exact (pss_one (ps_ret (pe_lst (pa_cons (act W pn xe Ech _ _ tk hW) pa_nil)))).run pins s' σ H' D I h3
  case read =>
    refine ⟨_, ?_, rfl, hc, h⟩
    rintro cls d σ' H' ⟨dd, v, rfl, hh⟩
    rcases hh with ⟨rfl, hd, k⟩ | ⟨rfl, hd, k⟩
    · refine ⟨T.xT, fun hl a ha => ?_⟩
      obtain ⟨x0, x1, x2, rfl⟩ : ∃ x0 x1 x2, σ' = [x0, x1, x2] := by
        match σ', hl with
        | [x0, x1, x2], _ => exact ⟨x0, x1, x2, rfl⟩
      have K1 : Kept (upd H' a (exk a (.ref CT) (some dd))) a CT [("limit", v)] := ⟨dd, upd_same, by rw [upd_ne (ne_of_none hd ha)]; exact hd⟩
      refine ⟨_, rfl, a, CT, _, _, _, true, rfl, K1, T.eT, .own CT, T.tTT, _, rfl, iteT ?_⟩
      refine ⟨_, rfl, a, CT, _, _, _, true, rfl, K1, T.eT, .ty _, T.tTO, _, rfl, iteT ?_⟩
      refine ⟨_, rfl, a, CT, _, _, _, false, rfl, K1, T.eT, .own CF, T.tTF, _, rfl, iteT ?_⟩
      refine ⟨_, rfl, a, CT, _, v, rfl, K1, T.eT, T.nT, by simp [List.lookup], by show 2 ≤ sizeLine; decide, fun p hp => ?_⟩
      have hp' : H' p = none := by
        by_cases e : p = a
        · rw [e]; exact ha
        · rw [upd_ne e] at hp; exact hp
      exact k p _ ((same_upd ha).trans (same_upd hp)) hp' upd_same
    · refine ⟨T.xI, fun hl a ha => ?_⟩
      obtain ⟨x0, x1, x2, rfl⟩ : ∃ x0 x1 x2, σ' = [x0, x1, x2] := by
        match σ', hl with
        | [x0, x1, x2], _ => exact ⟨x0, x1, x2, rfl⟩
      have K1 : Kept (upd H' a (exk a (.ref CI) (some dd))) a CI [("value", v)] := ⟨dd, upd_same, by rw [upd_ne (ne_of_none hd ha)]; exact hd⟩
      refine ⟨_, rfl, a, CI, _, _, _, false, rfl, K1, T.eI, .own CT, T.tIT, _, rfl, iteF (iteF ?_)⟩
      refine ⟨_, rfl, a, CI, _, _, _, true, rfl, K1, T.eI, .own CI, T.tII, _, rfl, iteF ?_⟩
      refine ⟨_, rfl, by show 3 ≤ sizeLine; decide, fun t ht => ?_⟩
      have K2 : Kept (upd (upd H' a (exk a (.ref CI) (some dd))) t (.tup [.ref CP, .ref CX, .ref CW])) a CI [("value", v)] := by
        obtain ⟨d0, e1, e2⟩ := K1
        exact ⟨d0, by rw [upd_ne (ne_of_none e1 ht)]; exact e1, by rw [upd_ne (ne_of_none e2 ht)]; exact e2⟩
      refine ⟨a, CI, _, t, _, [.ref CP, .ref CX, .ref CW], false, rfl, K2, T.eI, upd_same, .cons (.own CP) (.cons (.own CX) (.cons (.own CW) .nil)), T.tIn, _, rfl, iteF ?_⟩
      refine ⟨_, rfl, a, CI, _, _, _, true, rfl, K2, T.eI, .ty _, T.tIV, _, rfl, iteT ?_⟩
      refine ⟨_, rfl, a, CI, _, v, rfl, K2, T.eI, T.nI, by simp [List.lookup], by show 2 ≤ sizeLine; decide, fun p hp => ?_⟩
      have hp2 : upd H' a (exk a (.ref CI) (some dd)) p = none := by
        by_cases e : p = t
        · rw [e]; exact ht
        · rw [upd_ne e] at hp; exact hp
      have hp' : H' p = none := by
        by_cases e : p = a
        · rw [e]; exact ha
        · rw [upd_ne e] at hp2; exact hp2
      exact k p _ (((same_upd ha).trans (same_upd ht)).trans (same_upd hp)) hp' upd_same
end
end Ev

set_option Elab.async false
set_option linter.all false
set_option maxRecDepth 100000
set_option maxHeartbeats 4000000
/-! k01: the law's pair_right. -/
namespace Ev
open PySem PySem.Spec PyProof.Rows L2

abbrev sPair : Stmt := topS 23
def ldD : Option Int → PyData
  | none => .none
  | some i => .int i
theorem LdOk.lf {x : Option Int} (h : LdOk x) : Lf (ldD x) := by
  cases x with
  | none => exact .none
  | some i =>
    obtain ⟨h1, h2⟩ := (show Bd i from h)
    exact .int (by omega)
theorem dx_ld {K : PySem.W.Frag} {H : Hp} (x : Option Int) : Dx K H (ldV x) (ldD x) := by
  cases x with
  | none => exact .non
  | some i => exact .int i
/-- what told and due are as data -/
def outD : Option (Option Int) → PyData
  | some z => .list [ldD z]
  | none => .tuple [.str "many", .int 1000000]
theorem lf_many : Lf (.str "many") := ⟨rfl, rfl, rfl, by decide +kernel, by decide +kernel⟩
theorem OutAt.dx {K : PySem.W.Frag} {H : Hp} {p : Addr} {o : Option (Option Int)} (h : OutAt H p o) : Dx K H (.ref p) (outD o) := by
  cases o with
  | none => exact .tup (SqT.of h) (.cons (.str _) (.cons (.int _) .nil))
  | some z => exact .lst (SqL.of h) (.cons (dx_ld z) .nil)
theorem outD_shows {o : Option (Option Int)} (h : ∀ z, o = some z → LdOk z) : Shows (outD o) := by
  cases o with
  | none => exact shows_tuple (fun d hd => by
      simp only [List.mem_cons, List.not_mem_nil, or_false] at hd
      rcases hd with rfl | rfl
      · exact lf_many
      · exact .int (by decide)) (by decide)
  | some z => exact shows_list (fun d hd => by
      simp only [List.mem_cons, List.not_mem_nil, or_false] at hd
      rw [hd]
      exact (h z rfl).lf) (by show 1 ≤ 20; decide)
/-- the tables of lambdas: each def's, apart from the others' -/
structure TbT (T : List (Addr × Str)) (mg : Str → Option Value) (base : Heap) (c P : Addr) (q : Str) : Prop where
  m : (P, q) ∈ T
  u : ∀ p ∈ T, p.1 = P → p.2 = q
  b : LamX.TabB base mg c P
section
variable {X : Cx} {g CF CT CJ CS CB CI CP CX CW c P : Addr} {fdg : FuncData} {T : List (Addr × Str)} {k : Nat} {params : Arguments} {body : Expr} {scope : Scope} {t : XK → TE} {p lpos pos : Pos}
/-- told, called with a lambda -/
theorem pe_told (E : TxE X.K X.mg CF CT CJ CS CB CI CP CX CW) (D : DefT X.K X.mg "_law_told" sTold ["_law_ask"] g fdg) (hg : Gl X "_law_told") (B : TbT T X.mg X.base c P (X.env.qual ++ "<lambda>")) (hcode : X.env.code = .ref c) (hr : Room (k + 2) X.A) (L : LamX.LamS X.env.scope scope)
    (hdef : defaultsOf params X.env = ([], [])) (hbind : ∀ (q : Str) (cl : List (Str × Addr)) (pm cv ctv : Value), bindArgs (PySem.W.kla_fn "<lambda>" q params body scope cl pm cv ctv) ⟨[], []⟩ = pure [])
    (hbody : ∀ (A : Around) (outer : List Env) (s : Shared) (H : Hp) (E : XK) (f c' : Addr), Room k (A.deeper (LamX.lamEnv X scope s.heap.objs.size f c')) → PE (LamX.lamCx X A outer s H E scope f c') body (t E)) :
    PE X (.Call (.Name "_law_told" p) [.Lambda params body scope lpos] [] pos) (LamX.tLam T (TTk CT CI) t) := by
  have D' := D
  obtain ⟨oc, od, kV, doc, pm, an, cdv, ct, osl, rfl, lk, hcd⟩ := D'.F.ex
  exact LamX.pe_lamcall (Ng := ["_law_ask", "_law_caught", "error"]) (a := "_law_ask") hg D.m D.F.kp lk hcd D.b sc21 rfl (Or.inl rfl) (told_keeps E) B.b hcode B.m B.u hr L hdef hbind hbody
end
theorem boot_repr' : bootBuiltins "repr" = some (.builtin "repr") := by decide +kernel
theorem LeadAt.extN {C : Addr} {H H' : Hp} {a : Addr} {x : Option Int} (h : LeadAt C H a x) (e : LamX.ExtN H H') : LeadAt C H' a x := by
  obtain ⟨dx, h⟩ := h
  exact ⟨dx, e _ _ h fun ps z => nomatch z⟩
theorem OutAt.extN {H H' : Hp} {p : Addr} {o : Option (Option Int)} (h : OutAt H p o) (e : LamX.ExtN H H') : OutAt H' p o := by
  cases o with
  | none => exact e _ _ h fun ps z => nomatch z
  | some z => exact e _ _ h fun ps z => nomatch z
theorem OutAt.same {H H' : Hp} {p : Addr} {o : Option (Option Int)} (h : OutAt H p o) (e : Same H H') : OutAt H' p o := by
  cases o with
  | none => exact e _ _ h
  | some z => exact e _ _ h
theorem ttk_mul {K : PySem.W.Frag} {mg : Str → Option Value} {C CT CI ra rb dx dy : Addr} {x y : Option Int} {σ : L2.St} {H : Hp} {Q : VK} {i j : Nat} (L : TxL K mg C) (okx : LdOk x) (oky : LdOk y) (hA : H ra = some (.ins C dx [("value", ldV x)])) (hB : H rb = some (.ins C dy [("value", ldV y)]))
    (hi : σ[i]? = some (some (.ref ra))) (hj : σ[j]? = some (some (.ref rb))) (k : ∀ po H7, Same H H7 → OutAt H7 po (mulL x y) → Q (.ref po) H7) :
    TTk CT CI (fun E H' Q' => tFld K (tOp (rBin C (spMul C CT) E) (tVar i) (tVar j)) "value" σ H' Q') H Q := by
  refine ⟨_, hi, _, hj, ra, rb, dx, dy, _, _, rfl, rfl, hA, hB, ra, rb, x, y, rfl, ⟨dx, hA⟩, ⟨dy, hB⟩, okx, oky, fun z hz r H6 s6 n6 h6 => ?_, fun hz d hd => ?_⟩
  · obtain ⟨dz, h6'⟩ := h6
    refine ⟨r, C, dz, _, _, rfl, h6', L.cl, L.nV, by rfl, by show 1 ≤ sizeLine; decide, fun po hpo => k po _ (s6.trans (same_upd hpo)) ?_⟩
    rw [hz]
    exact upd_same
  · refine ⟨d, _, rfl, .inl ⟨rfl, upd_same, fun po H2 s2 n2 h2 => k po H2 ((same_upd hd).trans s2) ?_⟩⟩
    rw [hz]
    exact h2
theorem pick_add {x y : Option Int} (okx : LdOk x) (oky : LdOk y) : atI [ldV x, ldV y] (if decide (heightL x < heightL y) = true then 1 else 0) = some (ldV (addL x y)) := by
  have go : ∀ b : Bool, atI [ldV x, ldV y] (if b = true then 1 else 0) = some (if b = true then ldV y else ldV x) := fun b => by cases b <;> rfl
  rw [go]
  refine congrArg some ?_
  cases x with
  | none =>
    cases y with
    | none => rfl
    | some j =>
      obtain ⟨h1, h2⟩ := (show Bd j from oky)
      rw [if_pos (decide_eq_true (by show (-10000000 : Int) < j; omega))]
      rfl
  | some i =>
    obtain ⟨g1, g2⟩ := (show Bd i from okx)
    cases y with
    | none =>
      rw [if_neg (by simp only [decide_eq_true_eq]; show ¬ i < (-10000000 : Int); omega)]
      rfl
    | some j =>
      by_cases e : j ≤ i
      · rw [if_neg (by simp only [decide_eq_true_eq]; show ¬ i < j; omega)]
        simp [addL, e]
      · rw [if_pos (decide_eq_true (by show i < j; omega))]
        simp [addL, e]
theorem same_eq {x y : Option Int} (okx : LdOk x) (oky : LdOk y) : decide (V.int (heightL x) = V.int (heightL y)) = decide (x = y) := by
  have e : (V.int (heightL x) = V.int (heightL y)) ↔ x = y := by
    constructor
    · intro h
      have h' : heightL x = heightL y := by injection h
      cases x with
      | none =>
        cases y with
        | none => rfl
        | some j =>
          obtain ⟨h1, h2⟩ := (show Bd j from oky)
          have h'' : (-10000000 : Int) = j := h'
          omega
      | some i =>
        obtain ⟨g1, g2⟩ := (show Bd i from okx)
        cases y with
        | none =>
          have h'' : i = (-10000000 : Int) := h'
          omega
        | some j => exact congrArg some h'
    · intro h
      rw [h]
  simp [e]
def spPair (T : List (Addr × Str)) : Sp := fun vs H Q E => ∃ (x y : Option Int), vs = [ldV x, ldV y] ∧ LdOk x ∧ LdOk y ∧ LamX.Tabs T H ∧ ∀ H', LamX.ExtN H H' → LamX.Tabs T H' → Q (.bl true) H'
section
variable {P : Program} {w : World} {K : PySem.W.Frag} {mg : Str → Option Value} {base : Heap} {C CF CT CJ CS CB CI CP CX CW c Pt : Addr} {T : List (Addr × Str)}
theorem sc24 : FnScope ["_law_x", "_law_y", "_law_due", "_law_greater", "_law_same", "_law_a", "_law_b"] ["_law_x", "_law_y"] (defScope sPair) := ⟨rfl, rfl, rfl, by decide +kernel, rfl, by decide +kernel, by decide +kernel⟩
theorem ok_pair {f fN fM fA fE fS fH fT : Addr} {fd fdN fdM fdA fdE fdS fdH fdT : FuncData} (F : FunC K "_law_pair_right" "_law_pair_right" sPair f fd c) (L : TxL K mg C) (E : TxE K mg CF CT CJ CS CB CI CP CX CW)
    (ML : MkL K C fN fdN) (GN : FnOk P w K mg base (L2.CX P w) 3 fN fdN ["self", "value"] (spN K C CI))
    (GM : FnOk P w K mg base (L2.CX P w) 5 fM fdM ["self", "other"] (spMul C CT)) (bM : L2.Binds K fdM ["self", "other"] []) (sM : Spec K C (PySem.dunder Operator.Mult.info.2) fM) (hs : PySem.W.selfFirst K C = true)
    (GA : FnOk P w K mg base CX0 5 fA fdA ["self", "other"] (spAdd C)) (bA : L2.Binds K fdA ["self", "other"] []) (sA : Spec K C (PySem.dunder Operator.Add.info.2) fA)
    (GE : FnOk P w K mg base CX0 1 fE fdE ["self", "other"] (spEq K C)) (bE : L2.Binds K fdE ["self", "other"] []) (sE : Spec K C (cmpInfo .Eq).2.1 fE) (nf : PySem.W.notFirst K C (.ref C) = true)
    (sE' : Spec K C "__eq__" fE) (hne : PySem.W.findIn K (.ref C) "__ne__" = some (some (.builtin "object.__ne__")))
    (DS : DefT K mg "_law_sum" sSum ["_law_x", "_law_y"] fS fdS) (GS : FnOk P w K mg base CX0 1 fS fdS ["_law_x", "_law_y"] spSum)
    (DH : DefT K mg "_law_height" sHei ["_law_x"] fH fdH) (GH : FnOk P w K mg base CX0 1 fH fdH ["_law_x"] spHei)
    (DT : DefT K mg "_law_told" sTold ["_law_ask"] fT fdT) (B : TbT T mg base c Pt "_law_pair_right.<locals>.<lambda>") (mr : mg "repr" = none) (mi : mg "int" = none) :
    FnG P w K mg base CX0 8 f fd ["_law_x", "_law_y"] (spPair T) := by
  refine okGC F sc24 (fun vs H Q E h => ?_) (fun A outer s H vs Q E' hgd hr h => ?_)
  · obtain ⟨x, y, rfl, _⟩ := h
    rfl
  · obtain ⟨x, y, rfl, okx, oky, hT, k⟩ := h
    have hr4 : Room 4 _ := hr.mono (by decide)
    have hr5 : Room 5 _ := hr.mono (by decide)
    have hr1 : Room 1 _ := hr.mono (by decide)
    have hr2 : Room 2 _ := hr.mono (by decide)
    have hu : (A.deeper (envOfC "_law_pair_right" (defScope sPair) s.heap.objs.size f (.ref c))).units + 70 < cLine := by have := hr1.un; omega
    let X : Cx := (cxOf CX0 P w K mg base ["_law_x", "_law_y", "_law_due", "_law_greater", "_law_same", "_law_a", "_law_b"] "_law_pair_right" (defScope sPair) f (.ref c) A outer s H E').nox
    have hR : CallR X (.builtin "repr") (fun xs H Q => ∃ v d, xs = [v] ∧ Dx X.K H v d ∧ Shows d ∧ Q (.str d.shown) H) := call_reprD hgd hu
    refine ⟨_, pss_cons (ps_asg (pe_tup (pa_cons (pe_make ML.M GN hr4 (by rfl) L.mC ML.b1 .nil passL (pa_cons (pv 0) pa_nil)) (pa_cons (pe_makeK0 ML.M GN hr4 (by rfl) L.mC ML.bk passL (pk_cons (pv 1) pk_nil)) pa_nil)))
        (pg_tup rfl (pgs_cons (pg_name (i := 5) sc24.nd rfl (Or.inr rfl)) (pgs_cons (pg_name (i := 6) sc24.nd rfl (Or.inr rfl)) pgs_nil))))
      (pss_cons (ps_set (i := 2) sc24.nd rfl (Or.inl rfl) (pe_call GS hr1 rfl DS.m DS.F.kp DS.b .nil pass0 (pa_cons (pv 0) (pa_cons (pv 1) pa_nil))))
      (pss_cons (ps_if (pt_cmpR op_ne (pe_callB hR (by rfl) mr boot_repr' (pa_cons (pe_told (t := fun E => tFld K (tOp (rBin C (spMul C CT) E) (tVar 5) (tVar 6)) "value") E DT rfl B rfl hr (LamX.lamS_by (sc := defScope sPair) (by decide +kernel)) rfl (fun _ _ _ _ _ => rfl)
          (fun A outer s H E f c' hr' => pe_fld (pe_op (op_bin GM hr' bM (passes_call (takes_of rfl rfl rfl rfl) (fun _ _ _ _ h => h)) sM hs) (pv 5) (pv 6)) rfl)) pa_nil))
          (pe_callB hR (by rfl) mr boot_repr' (pa_cons (pv 2) pa_nil)) (nomark _)) (pss_one ps_never) pss_nil)
      (pss_cons (ps_set (i := 3) sc24.nd rfl (Or.inl rfl) (pe_ix ix_list (pe_lst (pa_cons (pv 0) (pa_cons (pv 1) pa_nil))) (pe_callTy call_int1 (by rfl) mi boot_int' (pa_cons (pe_cmpR op_lt (pe_call GH hr1 rfl DH.m DH.F.kp DH.b .nil pass0 (pa_cons (pv 0) pa_nil)) (pe_call GH hr1 rfl DH.m DH.F.kp DH.b .nil pass0 (pa_cons (pv 1) pa_nil)) (nomark _)) pa_nil)) (fun _ _ => rfl)))
      (pss_cons (ps_if (pt_cmpR op_ne (pe_callB hR (by rfl) mr boot_repr' (pa_cons (pe_fld (pe_op (op_bin GA hr5 bA pass0 sA hs) (pv 5) (pv 6)) rfl) pa_nil)) (pe_callB hR (by rfl) mr boot_repr' (pa_cons (pv 3) pa_nil)) (nomark _)) (pss_one ps_never) pss_nil)
      (pss_cons (ps_set (i := 4) sc24.nd rfl (Or.inl rfl) (pe_cmpR op_eq (pe_call GH hr1 rfl DH.m DH.F.kp DH.b .nil pass0 (pa_cons (pv 0) pa_nil)) (pe_call GH hr1 rfl DH.m DH.F.kp DH.b .nil pass0 (pa_cons (pv 1) pa_nil)) (nomark _)))
      (pss_cons (ps_if (pt_cmpR op_ne (pe_callB hR (by rfl) mr boot_repr' (pa_cons (pe_lst (pa_cons (pe_cmpR (op_cmp (op := .Eq) rfl GE hr1 bE pass0 sE) (pv 5) (pv 6) (nomark _)) (pa_cons (pe_cmpR (op_neOwn GE hr2 bE pass0 sE' hne L.ob) (pv 5) (pv 6) (nomark _)) pa_nil))) pa_nil))
          (pe_callB hR (by rfl) mr boot_repr' (pa_cons (pe_lst (pa_cons (pv 4) (pa_cons (pe_not (pv 4)) pa_nil))) pa_nil)) (nomark _)) (pss_one ps_never) pss_nil)
      (pss_one (ps_ret (pe_cmpR op_eq (pe_callB hR (by rfl) mr boot_repr' (pa_cons (pe_lst (pa_cons (pe_fld (pv 5) rfl) (pa_cons (pe_fld (pv 6) rfl) pa_nil))) pa_nil)) (pe_callB hR (by rfl) mr boot_repr' (pa_cons (pe_lst (pa_cons (pv 0) (pa_cons (pv 1) pa_nil))) pa_nil)) (nomark _)))))))))), ?_⟩
    refine ⟨_, rfl, fun ra dxa e1 e2 e3 => mades (y := x) okx e1 e2 e3 fun H1 s1 h1 => ⟨rfl, ?_⟩⟩
    refine ⟨_, rfl, rfl, rfl, fun rb dxb f1 f2 f3 => mades (y := y) oky f1 f2 f3 fun H2 s2 h2 => ⟨rfl, ?_⟩⟩
    refine ⟨by show 2 ≤ sizeLine; decide, fun pt hpt => ⟨pt, _, rfl, SqT.of upd_same, rfl, ?_⟩⟩
    have s3 := (s1.trans s2).trans (same_upd (o := .tup [V.ref ra, V.ref rb]) hpt)
    have A3 := (h1.same s2).same (same_upd (o := .tup [V.ref ra, V.ref rb]) hpt)
    have B3 := h2.same (same_upd (o := .tup [V.ref ra, V.ref rb]) hpt)
    refine ⟨_, _, rfl, _, _, rfl, rfl, _, rfl, _, rfl, x, y, rfl, okx, oky, fun pd H4 s4 n4 hd => ?_⟩
    have hd4 : OutAt H4 pd (mulL x y) := by
      revert hd
      cases mulL x y <;> exact fun h => h
    refine ⟨hT.ext (s3.trans s4), fun H5 e5 T5 => ?_⟩
    have hd5 : OutAt H5 pd (mulL x y) := hd4.extN e5
    obtain ⟨dx, hA⟩ := (A3.same s4).extN e5
    obtain ⟨dy, hB⟩ := (B3.same s4).extN e5
    refine ttk_mul L okx oky hA hB rfl rfl fun po H7 s7 o7 => ?_
    have okm : ∀ z, mulL x y = some z → LdOk z := fun z hz => mulL_ok hz
    refine ⟨_, _, rfl, o7.dx, outD_shows okm, _, rfl, _, _, rfl, (hd5.same s7).dx, outD_shows okm, rfl, _, rfl, ifF (by simp) ?_⟩
    have hA7 := s7 _ _ hA
    have hB7 := s7 _ _ hB
    -- greater
    refine ⟨_, rfl, _, rfl, by show 2 ≤ sizeLine; decide, fun q hq => ⟨_, rfl, x, rfl, _, rfl, y, rfl, _, _, rfl, rfl, .inr ⟨_, rfl, q, _, _, _, rfl, rfl, SqL.of upd_same, pick_add okx oky, ?_⟩⟩⟩
    have s8 : Same H7 _ := same_upd (o := .lst [ldV x, ldV y]) hq
    generalize upd H7 q (.lst [ldV x, ldV y]) = H8 at s8 ⊢
    have hA8 := s8 _ _ hA7
    have hB8 := s8 _ _ hB7
    refine ⟨_, rfl, _, rfl, ra, rb, dx, dy, _, _, rfl, rfl, hA8, hB8, ra, rb, x, y, rfl, ⟨dx, hA8⟩, ⟨dy, hB8⟩, okx, oky, fun r H9 s9 n9 h9 => ?_⟩
    obtain ⟨dz, h9'⟩ := h9
    have hA9 := s9 _ _ hA8
    have hB9 := s9 _ _ hB8
    refine ⟨r, C, dz, _, _, rfl, h9', L.cl, L.nV, by rfl, _, _, rfl, dx_ld _, (addL_ok okx oky).lf.shows, _, rfl, _, _, rfl, dx_ld _, (addL_ok okx oky).lf.shows, rfl, _, rfl, ifF (by simp) ?_⟩
    -- same
    refine ⟨_, rfl, x, rfl, _, rfl, y, rfl, rfl, ?_⟩
    rw [same_eq okx oky]
    refine ⟨_, rfl, _, rfl, ra, dx, _, _, rfl, hA9, L.ty hB9, nf, ra, x, .ref rb, rfl, ⟨dx, hA9⟩, .inl ⟨rb, y, rfl, ⟨dy, hB9⟩, ?_⟩⟩
    refine ⟨_, rfl, _, rfl, ra, rb, dx, dy, _, _, rfl, rfl, hA9, hB9, ra, x, .ref rb, rfl, ⟨dx, hA9⟩, .inl ⟨rb, y, rfl, ⟨dy, hB9⟩, _, rfl, ?_⟩⟩
    have sb : ∀ b1 b2 : Bool, Shows (.list [.bool b1, .bool b2]) := fun b1 b2 => shows_list (fun d hd => by
      simp only [List.mem_cons, List.not_mem_nil, or_false] at hd
      rcases hd with rfl | rfl <;> exact .bool _) (by show 2 ≤ 20; decide)
    refine ⟨by show 2 ≤ sizeLine; decide, fun q1 hq1 => ⟨_, _, rfl, .lst (SqL.of upd_same) (.cons (.bl _) (.cons (.bl _) .nil)), sb _ _, ?_⟩⟩
    refine ⟨_, rfl, _, rfl, _, rfl, by show 2 ≤ sizeLine; decide, fun q2 hq2 => ⟨_, _, rfl, .lst (SqL.of upd_same) (.cons (.bl _) (.cons (.bl _) .nil)), sb _ _, rfl, _, rfl, ifF (by simp) ?_⟩⟩
    have s10 := (same_upd (o := .lst [V.bl (decide (x = y)), V.bl (!decide (x = y))]) hq1).trans (same_upd (o := .lst [V.bl (decide (x = y)), V.bl (!decide (x = y))]) hq2)
    generalize upd (upd H9 q1 _) q2 _ = H10 at s10 ⊢
    have sl : Shows (.list [ldD x, ldD y]) := shows_list (fun d hd => by
      simp only [List.mem_cons, List.not_mem_nil, or_false] at hd
      rcases hd with rfl | rfl
      · exact okx.lf
      · exact oky.lf) (by show 2 ≤ 20; decide)
    refine ⟨_, rfl, ra, C, dx, _, _, rfl, s10 _ _ hA9, L.cl, L.nV, by rfl, _, rfl, rb, C, dy, _, _, rfl, s10 _ _ hB9, L.cl, L.nV, by rfl, by show 2 ≤ sizeLine; decide, fun q3 hq3 => ⟨_, _, rfl, .lst (SqL.of upd_same) (.cons (dx_ld _) (.cons (dx_ld _) .nil)), sl, ?_⟩⟩
    refine ⟨_, rfl, _, rfl, by show 2 ≤ sizeLine; decide, fun q4 hq4 => ⟨_, _, rfl, .lst (SqL.of upd_same) (.cons (dx_ld _) (.cons (dx_ld _) .nil)), sl, rfl, ?_⟩⟩
    have s11 := (same_upd (o := .lst [ldV x, ldV y]) hq3).trans (same_upd (o := .lst [ldV x, ldV y]) hq4)
    have sAll : Same H5 _ := s7.trans (s8.trans (s9.trans (s10.trans s11)))
    have e1 : decide (V.str (PyData.shown (.list [ldD x, ldD y])) = V.str (PyData.shown (.list [ldD x, ldD y]))) = true := by simp
    rw [e1]
    exact k _ (((LamX.ExtN.of (s3.trans s4)).trans e5).trans (LamX.ExtN.of sAll)) (T5.ext sAll)
end
end Ev

set_option Elab.async false
set_option linter.all false
set_option maxRecDepth 100000
set_option maxHeartbeats 4000000
/-! k01: the law's alone_right. -/
namespace Ev
open PySem PySem.Spec PyProof.Rows L2

abbrev sAlone : Stmt := topS 24
theorem boot_str' : bootBuiltins "str" = some (.type "str") := by decide +kernel
theorem boot_bool' : bootBuiltins "bool" = some (.type "bool") := by decide +kernel
/-- a built-in class that is no lead's -/
structure NoC (K : PySem.W.Frag) (C : Addr) (n : String) : Prop where
  k : PySem.W.kitOne K (.type n) (.ref C) = some false
  f : PySem.W.notFirst K C (.type n) = true
structure TxN (K : PySem.W.Frag) (C : Addr) : Prop where
  non : NoC K C "NoneType"
  int : NoC K C "int"
  str : NoC K C "str"
  lst : NoC K C "list"
  tup : NoC K C "tuple"
def spAlone : Sp := fun vs H Q E => ∃ (x : Option Int), vs = [ldV x] ∧ LdOk x ∧ ∀ H', Same H H' → Q (.bl true) H'
theorem along_one {x : Option Int} (h : LdOk x) : alongL (some 0) [x] = some x := by
  cases x with
  | none => rfl
  | some i =>
    have e : Bd (0 + i) := by rw [Int.zero_add]; exact h
    have e2 : mulL (some 0) (some i) = some (some i) := by
      show (if Bd (0 + i) then some (some (0 + i)) else none) = _
      rw [if_pos e, Int.zero_add]
    simp [alongL, e2]
theorem strl {x : Option Int} {Q : VK} {H : Hp} (ok : LdOk x) (q : Q (.str (ldStr x)) H) : ([ldV x] = [V.non] ∧ Q (.str "None") H) ∨ ∃ i : Int, [ldV x] = [V.int i] ∧ i.natAbs.log2 < 1920 ∧ Q (.str (toString i)) H := by
  cases x with
  | none => exact .inl ⟨rfl, q⟩
  | some i => exact .inr ⟨i, rfl, bd_log ok, q⟩
theorem call_strX {X : Cx} : CallR X (.type "str") (fun xs H Q => ∃ x : Option Int, xs = [ldV x] ∧ LdOk x ∧ Q (.str (ldStr x)) H) := by
  intro pins s σ H xs us Q I r h
  obtain ⟨x, rfl, ok, q⟩ := h
  exact call_strL pins s σ H _ us Q I r (strl ok q)
theorem isn_some (x : Option Int) : (!decide (ldV x = V.non)) = x.isSome := by cases x <;> simp [ldV]
theorem pick_str (x : Option Int) : atI [V.str "none", V.str (ldStr x)] (if x.isSome = true then 1 else 0) = some (.str (ldStr2 x)) := by
  cases x <;> rfl
theorem things {K : PySem.W.Frag} {C : Addr} {H : Hp} {x : Option Int} {q1 q2 : Addr} (N : TxN K C) (h1 : H q1 = some (.lst [ldV x])) (h2 : H q2 = some (.tup [ldV x])) :
    ∀ y ∈ [ldV x, V.str (ldStr x), V.non, V.int 0, V.ref q1, V.ref q2], ∃ t, TyX K H y t ∧ PySem.W.notFirst K C t = true ∧ PySem.W.kitOne K t (.ref C) = some false := by
  intro y hy
  simp only [List.mem_cons, List.not_mem_nil, or_false] at hy
  rcases hy with rfl | rfl | rfl | rfl | rfl | rfl
  · cases x with
    | none => exact ⟨_, .base .non, N.non.f, N.non.k⟩
    | some i => exact ⟨_, .base (.int i), N.int.f, N.int.k⟩
  · exact ⟨_, .base (.str _), N.str.f, N.str.k⟩
  · exact ⟨_, .base .non, N.non.f, N.non.k⟩
  · exact ⟨_, .base (.int 0), N.int.f, N.int.k⟩
  · exact ⟨_, .base (.lst h1), N.lst.f, N.lst.k⟩
  · exact ⟨_, .base (.tup h2), N.tup.f, N.tup.k⟩
section
variable {P : Program} {w : World} {K : PySem.W.Frag} {mg : Str → Option Value} {base : Heap} {C CI CT : Addr}
theorem sc25 : FnScope ["_law_x", "_law_a", "_law_thing"] ["_law_x"] (defScope sAlone) := ⟨rfl, rfl, rfl, by decide +kernel, rfl, by decide +kernel, by decide +kernel⟩
theorem ok_alone {f fN fE fR fS fB fAl fBe : Addr} {fd fdN fdE fdR fdS fdB : FuncData} (F : Fun K "_law_alone_right" "_law_alone_right" sAlone f fd) (L : TxL K mg C) (N : TxN K C)
    (ML : MkL K C fN fdN) (GN : FnOk P w K mg base (L2.CX P w) 3 fN fdN ["self", "value"] (spN K C CI))
    (GE : FnOk P w K mg base CX0 1 fE fdE ["self", "other"] (spEq K C)) (bE : L2.Binds K fdE ["self", "other"] []) (sE : Spec K C (cmpInfo .Eq).2.1 fE)
    (GR : FnOk P w K mg base CX0 1 fR fdR ["self"] (spRe C)) (bR : L2.Binds K fdR ["self"] []) (sR : Spec K C "__repr__" fR)
    (GS : FnOk P w K mg base CX0 1 fS fdS ["self"] (spSt C)) (bS : L2.Binds K fdS ["self"] []) (sS : Spec K C "__str__" fS)
    (GB : FnOk P w K mg base CX0 1 fB fdB ["self"] (spBo C)) (bB : L2.Binds K fdB ["self"] []) (sB : Spec K C "__bool__" fB)
    (GAl : FnR P w K mg base (L2.CX P w) 6 fAl (spAlong C CT)) (kAl : PySem.W.keepIn K (.ref fAl) = true) (mAl : mg "along" = some (.ref fAl))
    (GBe : FnR P w K mg base CX0 6 fBe (spBest C)) (kBe : PySem.W.keepIn K (.ref fBe) = true) (mBe : mg "best" = some (.ref fBe))
    (mr : mg "repr" = none) (mi : mg "int" = none) (ms : mg "str" = none) (mb : mg "bool" = none) :
    FnG P w K mg base CX0 7 f fd ["_law_x"] spAlone := by
  refine okG F sc25 (fun vs H Q E h => ?_) (fun cdv A outer s H vs Q E' hcd hgd hr h => ?_)
  · obtain ⟨x, rfl, _⟩ := h
    rfl
  · obtain ⟨x, rfl, okx, k⟩ := h
    have hr6 : Room 6 _ := hr
    have hr4 : Room 4 _ := hr.mono (by decide)
    have hr1 : Room 1 _ := hr.mono (by decide)
    have hr2 : Room 2 _ := hr.mono (by decide)
    have hr3 : Room 3 _ := hr.mono (by decide)
    have hu : (A.deeper (envOfC "_law_alone_right" (defScope sAlone) s.heap.objs.size f cdv)).units + 70 < cLine := by have := hr1.un; omega
    have hu64 : (A.deeper (envOfC "_law_alone_right" (defScope sAlone) s.heap.objs.size f cdv)).units + 64 < cLine := by have := hr1.un; omega
    let X : Cx := (cxOf CX0 P w K mg base ["_law_x", "_law_a", "_law_thing"] "_law_alone_right" (defScope sAlone) f cdv A outer s H E').nox
    have hR : CallR X (.builtin "repr") (fun xs H Q => ∃ v d, xs = [v] ∧ Dx X.K H v d ∧ Shows d ∧ Q (.str d.shown) H) := call_reprD hgd hu
    refine ⟨_, pss_cons (ps_set (i := 1) sc25.nd rfl (Or.inr rfl) (pe_make ML.M GN hr4 (by rfl) L.mC ML.b1 .nil passL (pa_cons (pv 0) pa_nil)))
      (pss_cons (ps_if (PW.pt (pw_or (pt_cmpR op_ne (pe_callB (call_reprOwn GR hr2 bR pass0 sR) (by rfl) mr boot_repr' (pa_cons (pv 1) pa_nil)) (pe_op op_add_str (pe_op op_add_str pe_str (pe_callTy call_strX (by rfl) ms boot_str' (pa_cons (pv 0) pa_nil))) pe_str) (nomark _))
          (pw_or1 (pt_cmpR op_ne (pe_callTy (call_strOwn GS hr3 bS pass0 sS) (by rfl) ms boot_str' (pa_cons (pv 1) pa_nil)) (pe_ix ix_list (pe_lst (pa_cons pe_str (pa_cons (pe_callTy call_strX (by rfl) ms boot_str' (pa_cons (pv 0) pa_nil)) pa_nil))) (pe_callTy call_int1 (by rfl) mi boot_int' (pa_cons (pe_cmpR op_notN (pv 0) pe_non (nomark _)) pa_nil)) (fun _ _ => rfl)) (nomark _)))))
        (pss_one ps_never) pss_nil)
      (pss_cons (ps_if (PW.pt (pw_or (pt_cmpR op_ne (pe_callB hR (by rfl) mr boot_repr' (pa_cons (pe_callTy (call_boolOwn GB hr3 bB pass0 sB) (by rfl) mb boot_bool' (pa_cons (pv 1) pa_nil)) pa_nil)) (pe_callB hR (by rfl) mr boot_repr' (pa_cons (pe_cmpR op_notN (pv 0) pe_non (nomark _)) pa_nil)) (nomark _))
          (pw_or1 (pt_cmpR (op_neD hu64) (pe_lc (own := [("_law_thing", 2)]) (g := gName 2) (tt := tTest (tOp (rCmp K C (spEq K C) E0) (tVar 1) (tVar 2))) rfl sc25.nd (pi_list (pe_lst (pa_cons (pv 0) (pa_cons (pe_callTy call_strX (by rfl) ms boot_str' (pa_cons (pv 0) pa_nil)) (pa_cons pe_non (pa_cons pe_int (pa_cons (pe_lst (pa_cons (pv 0) pa_nil)) (pa_cons (pe_tup (pa_cons (pv 0) pa_nil)) pa_nil))))))))
              (blkOk_by (N := ["_law_x", "_law_a", "_law_thing"]) (sc := defScope sAlone) (by decide +kernel)) (fun _ _ _ _ _ => pg_name (i := 2) sc25.nd rfl (Or.inl rfl)) (fun _ _ _ _ _ => pts_one (pt_cmpR (op_cmp (op := .Eq) rfl GE hr1 bE pass0 sE) (pv 1) (pv 2) (nomark _))) (fun _ _ _ _ _ => pe_int)) (pe_lst pa_nil) (nomark _)))))
        (pss_one ps_never) pss_nil)
      (pss_one (ps_ret (pe_and (pe_cmpR op_eq (pe_callB hR (by rfl) mr boot_repr' (pa_cons (pe_fld (pe_callF GBe hr6 kBe (by rfl) mBe pass0 (pa_cons (pv 1) pa_nil)) rfl) pa_nil)) (pe_callB hR (by rfl) mr boot_repr' (pa_cons (pv 0) pa_nil)) (nomark _))
        (pe_one (pe_cmpR op_eq (pe_callB hR (by rfl) mr boot_repr' (pa_cons (pe_fld (pe_callF GAl hr6 kAl (by rfl) mAl passL (pa_cons (pv 1) pa_nil)) rfl) pa_nil)) (pe_callB hR (by rfl) mr boot_repr' (pa_cons (pv 0) pa_nil)) (nomark _)))))))), ?_⟩
    refine ⟨_, rfl, fun ra dxa e1 e2 e3 => mades (y := x) okx e1 e2 e3 fun H1 s1 h1 => ⟨rfl, ?_⟩⟩
    obtain ⟨dx, hA⟩ := h1
    have hz := ldStr_len okx
    have big : 2000 ≤ sizeLine := by rw [sizeLine_eq]; decide
    have n0 : ("Lead(" : Str).length = 5 := by decide +kernel
    have n1 : (")" : Str).length = 1 := by decide +kernel
    refine ⟨_, rfl, ra, dx, _, rfl, hA, ra, x, rfl, ⟨dx, hA⟩, okx, _, rfl, _, rfl, x, rfl, okx, _, _, rfl, rfl, by rw [n0]; omega, _, _, rfl, rfl, by rw [strLen_append, n0, n1]; omega, rfl, _, rfl, ifF (by simp) ?_⟩
    refine ⟨_, rfl, ra, dx, _, rfl, hA, ra, x, rfl, ⟨dx, hA⟩, okx, _, rfl, _, rfl, x, rfl, okx, by show 2 ≤ sizeLine; decide, fun q hq => ?_⟩
    have sq : Same H1 (upd H1 q (.lst [V.str "none", V.str (ldStr x)])) := same_upd hq
    refine ⟨_, rfl, rfl, .inr ⟨_, rfl, ?_⟩⟩
    rw [isn_some]
    refine ⟨q, _, _, _, rfl, rfl, SqL.of upd_same, pick_str x, rfl, _, rfl, ifF (by simp) ?_⟩
    generalize upd H1 q (.lst [V.str "none", V.str (ldStr x)]) = H2 at sq ⊢
    have hA2 := sq _ _ hA
    -- bool
    refine ⟨_, rfl, ra, dx, _, rfl, hA2, ra, x, rfl, ⟨dx, hA2⟩, _, rfl, _, _, rfl, .bl _, (Lf.bool _).shows, _, rfl, rfl, ?_⟩
    rw [isn_some]
    refine ⟨_, _, rfl, .bl _, (Lf.bool _).shows, rfl, _, rfl, ifF (by simp) ?_⟩
    -- the things
    refine ⟨_, rfl, _, rfl, x, rfl, okx, _, rfl, by show 1 ≤ sizeLine; decide, fun q1 hq1 => ⟨_, rfl, by show 1 ≤ sizeLine; decide, fun q2 hq2 => ⟨by show 6 ≤ sizeLine; decide, fun q3 hq3 => ⟨q3, rfl, ⟨_, SqL.of upd_same⟩, fun D hD => ?_⟩⟩⟩⟩
    have t1 : Same H2 (upd H2 q1 (.lst [ldV x])) := same_upd hq1
    have g1 : (upd H2 q1 (.lst [ldV x])) q1 = some (.lst [ldV x]) := upd_same
    generalize upd H2 q1 (.lst [ldV x]) = H3 at t1 g1 hq2 hq3 hD ⊢
    have t2 : Same H3 (upd H3 q2 (.tup [ldV x])) := same_upd hq2
    have g2 : (upd H3 q2 (.tup [ldV x])) q2 = some (.tup [ldV x]) := upd_same
    generalize upd H3 q2 (.tup [ldV x]) = H4 at t2 g2 hq3 hD ⊢
    have t3 : Same H4 (upd H4 q3 (.lst [ldV x, V.str (ldStr x), V.non, V.int 0, V.ref q1, V.ref q2])) := same_upd hq3
    have g3 : (upd H4 q3 (.lst [ldV x, V.str (ldStr x), V.non, V.int 0, V.ref q1, V.ref q2])) q3 = some (.lst [ldV x, V.str (ldStr x), V.non, V.int 0, V.ref q1, V.ref q2]) := upd_same
    generalize upd H4 q3 (.lst [ldV x, V.str (ldStr x), V.non, V.int 0, V.ref q1, V.ref q2]) = H5 at t3 g3 hD ⊢
    have hA5 := t3 _ _ (t2 _ _ (t1 _ _ hA2))
    refine lc_list (K := K) (a := q3) (xs := [ldV x, V.str (ldStr x), V.non, V.int 0, V.ref q1, V.ref q2]) (fun i H' => Same H5 H' ∧ H' D = some (.lst [])) ⟨same_upd hD, upd_same⟩ (fun i H' _ ⟨s', _⟩ => SqL.of (s' _ _ g3)) ?_ ?_
    · rintro i y H' hi ⟨s', hD'⟩
      obtain ⟨t, ht, nf, kf⟩ := things (x := x) (q1 := q1) (q2 := q2) (H := H') N (s' _ _ (t3 _ _ (t2 _ _ g1))) (s' _ _ (t3 _ _ g2)) y (List.mem_of_getElem? hi)
      exact ⟨rfl, _, rfl, _, rfl, ra, dx, _, t, rfl, s' _ _ hA5, ht, nf, ra, x, y, rfl, ⟨dx, s' _ _ hA5⟩, .inr ⟨t, ht, kf, _, rfl, iteF ⟨s', hD'⟩⟩⟩
    · rintro H6 ⟨t6, hD6⟩
      refine ⟨by show 0 ≤ sizeLine; decide, fun q5 hq5 => ⟨_, _, .lst (SqL.of (same_upd hq5 _ _ hD6)) .nil, .lst (SqL.of upd_same) .nil, by rfl, by rfl, _, rfl, ifF (by rfl) ?_⟩⟩
      have t7 : Same H6 (upd H6 q5 (.lst [])) := same_upd hq5
      generalize upd H6 q5 (.lst []) = H7 at t7 ⊢
      have hA7 := t7 _ _ (t6 _ _ hA5)
      have s7 : Same H H7 := s1.trans (sq.trans (t1.trans (t2.trans (t3.trans (t6.trans t7)))))
      refine ⟨_, rfl, [x], .cons ⟨dx, hA7⟩ okx .nil, by show 1 ≤ 100; decide, fun r H8 s8 n8 h8 => ?_⟩
      obtain ⟨dz, h8⟩ := h8
      have hA8 := s8 _ _ hA7
      refine ⟨r, C, dz, _, _, rfl, h8, L.cl, L.nV, by rfl, _, _, rfl, dx_ld x, okx.lf.shows, _, rfl, _, _, rfl, dx_ld x, okx.lf.shows, rfl, _, rfl, ifT (by simp [bestL, addL]) ?_⟩
      refine ⟨_, rfl, [x], .cons ⟨dx, hA8⟩ okx .nil, by show 1 ≤ 100; decide, fun z hz r H9 s9 n9 h9 => ?_, fun hz => ?_⟩
      · rw [along_one okx] at hz
        cases hz
        obtain ⟨du, h9⟩ := h9
        refine ⟨r, C, du, _, _, rfl, h9, L.cl, L.nV, by rfl, _, _, rfl, dx_ld x, okx.lf.shows, _, rfl, _, _, rfl, dx_ld x, okx.lf.shows, rfl, ?_⟩
        have e1 : decide (V.str (PyData.shown (ldD x)) = V.str (PyData.shown (ldD x))) = true := by simp
        rw [e1]
        exact k _ (s7.trans (s8.trans s9))
      · rw [along_one okx] at hz
        cases hz
end
end Ev

set_option Elab.async false
set_option linter.all false
set_option maxRecDepth 100000
set_option maxHeartbeats 4000000
/-! k01: the leads of a row; joined. -/
namespace Ev
open PySem PySem.Spec PyProof.Rows L2

abbrev sJoin : Stmt := topS 26
def fourL (xs : List (Option Int)) : List (Option Int) := (xs ++ [none, none, none, none]).take 4
theorem LeadsAt.mono {C : Addr} {H H' : Hp} {vs : List V} {xs : List (Option Int)} (h : LeadsAt C H vs xs) (s : Same H H') : LeadsAt C H' vs xs := ⟨h.1, fun i v e => by
  obtain ⟨a, x, h1, h2, h3, h4⟩ := h.2 i v e
  exact ⟨a, x, h1, h2, h3.same s, h4⟩⟩
theorem LeadsAt.but {C D : Addr} {H H' : Hp} {vs : List V} {xs : List (Option Int)} {l : List V} (h : LeadsAt C H vs xs) (hD : H D = some (.lst l)) (s : But D H H') : LeadsAt C H' vs xs := ⟨h.1, fun i v e => by
  obtain ⟨a, x, h1, h2, ⟨dx, h3⟩, h4⟩ := h.2 i v e
  exact ⟨a, x, h1, h2, ⟨dx, s _ _ h3 (fun z => by rw [z, hD] at h3; cases h3)⟩, h4⟩⟩
theorem LeadsAt.append {C : Addr} {H : Hp} {vs ws : List V} {xs ys : List (Option Int)} (h : LeadsAt C H vs xs) (g : LeadsAt C H ws ys) : LeadsAt C H (vs ++ ws) (xs ++ ys) := by
  refine ⟨by rw [List.length_append, List.length_append, h.1, g.1], fun i v e => ?_⟩
  by_cases hi : i < vs.length
  · rw [List.getElem?_append_left hi] at e
    obtain ⟨a, x, h1, h2⟩ := h.2 i v e
    exact ⟨a, x, by rw [List.getElem?_append_left (by rw [← h.1]; exact hi)]; exact h1, h2⟩
  · rw [List.getElem?_append_right (by omega)] at e
    obtain ⟨a, x, h1, h2⟩ := g.2 _ v e
    exact ⟨a, x, by rw [List.getElem?_append_right (by rw [← h.1]; omega), ← h.1]; exact h1, h2⟩
theorem LeadsAt.take {C : Addr} {H : Hp} {vs : List V} {xs : List (Option Int)} (n : Nat) (h : LeadsAt C H vs xs) : LeadsAt C H (vs.take n) (xs.take n) := by
  refine ⟨by rw [List.length_take, List.length_take, h.1], fun i v e => ?_⟩
  have hi : i < n := by
    have := (List.getElem?_eq_some_iff.mp e).1
    rw [List.length_take] at this
    omega
  rw [List.getElem?_take_of_lt hi] at e
  obtain ⟨a, x, h1, h2⟩ := h.2 i v e
  exact ⟨a, x, by rw [List.getElem?_take_of_lt hi]; exact h1, h2⟩
theorem cut4 (vs : List V) : cutV vs none (some 4) = vs.take 4 := by
  unfold cutV
  rw [HT.sIx_none, show (4 : Int) = ((4 : Nat) : Int) from rfl, HT.sIx_nat]
  simp [List.take_eq_take_iff]
section
variable {K : PySem.W.Frag} {C CI : Addr} {σ : L2.St} {H : Hp} {Q : VK} {row : Addr} {xs : List (Option Int)} {i : Nat}
theorem wipe_in {x : V} (hi : i < σ.length) : ((wipe σ [i]).set i (some x))[i]? = some (some x) := by
  show (((σ.set i none)).set i (some x))[i]? = _
  rw [List.getElem?_set_self (by rw [List.length_set]; exact hi)]
theorem wipe_eq {x : V} : wipe ((wipe σ [i]).set i (some x)) [i] = wipe σ [i] := by
  show ((σ.set i none).set i (some x)).set i none = σ.set i none
  rw [List.set_set, List.set_set]
/-- [Lead(x) for x in row] + [Lead(), Lead(), Lead(), Lead()], its first four -/
theorem leads_read (h0 : σ[0]? = some (some (.ref row))) (hi : i < σ.length) (hS : SqL K H row (xs.map ldV)) (hl : xs.length ≤ 4) (ok : ∀ x ∈ xs, LdOk x)
    (k : ∀ p H' vs, Same H H' → H' p = some (.lst vs) → LeadsAt C H' vs (fourL xs) → Q (.ref p) H') :
    tSl (rSlL K) (tOp rCat (tLc (iList K (tVar 0)) (gName i) tYes (tMake C (spN K C CI) [] E0 (tCons (tVar i) tNil)) [i])
      (tLst (tCons (tMake C (spN K C CI) [.non] E0 tNil) (tCons (tMake C (spN K C CI) [.non] E0 tNil) (tCons (tMake C (spN K C CI) [.non] E0 tNil) (tCons (tMake C (spN K C CI) [.non] E0 tNil) tNil)))))) tNoPart (tPart (tC (.int 4))) σ H Q := by
  refine ⟨_, h0, row, rfl, ⟨_, hS⟩, fun D hD => lc_list (K := K) (a := row) (xs := xs.map ldV) (fun j H' => ∃ vs, H' D = some (.lst vs) ∧ LeadsAt C H' vs (xs.take j) ∧ Same H H') ?_ ?_ ?_ ?_⟩
  · exact ⟨[], upd_same, .nil, same_upd hD⟩
  · rintro j H' _ ⟨vs, h1, h2, h3⟩
    exact h3.seq hS
  · rintro j y H' hj ⟨vs, h1, h2, h3⟩
    obtain ⟨x, hx, rfl, mx, ed⟩ := at_map hj
    have hjl : j < xs.length := (List.getElem?_eq_some_iff.mp hx).1
    refine ⟨wipe_eq, _, wipe_in hi, fun ra dxa e1 e2 e3 => mades (y := x) (ok x mx) e1 e2 e3 fun H1 s1 hA => ⟨rfl, vs, s1 _ _ h1, ?_, vs ++ [.ref ra], upd_same, ?_, ?_⟩⟩
    · have : vs.length = (xs.take j).length := h2.1
      rw [List.length_take] at this
      have hb : (100 : Nat) ≤ sizeLine := by rw [sizeLine_eq]; decide
      omega
    · have e : xs.take (j + 1) = xs.take j ++ [x] := by
        rw [List.take_add_one, hx]; rfl
      rw [e]
      exact LeadsAt.but ((h2.mono s1).append (.cons hA (ok x mx) .nil)) (s1 _ _ h1) fun b z q n => by rw [upd_ne n]; exact q
    · intro b z q
      rw [upd_ne (ne_of_none q hD)]
      exact s1 _ _ (h3 _ _ q)
  · rintro H1 ⟨vs, h1, h2, h3⟩
    rw [List.length_map, List.take_length] at h2
    refine fun r1 d1 a1 b1 c1 => mades (y := none) trivial a1 b1 c1 fun H2 s2 l1 => ⟨rfl, ?_⟩
    refine fun r2 d2 a2 b2 c2 => mades (y := none) trivial a2 b2 c2 fun H3 s3 l2 => ⟨rfl, ?_⟩
    refine fun r3 d3 a3 b3 c3 => mades (y := none) trivial a3 b3 c3 fun H4 s4 l3 => ⟨rfl, ?_⟩
    refine fun r4 d4 a4 b4 c4 => mades (y := none) trivial a4 b4 c4 fun H5 s5 l4 => ⟨rfl, ?_⟩
    refine ⟨by show 4 ≤ sizeLine; decide, fun q hq => ?_⟩
    have t := ((s2.trans s3).trans s4).trans s5
    have tq : Same H5 (upd H5 q (.lst [V.ref r1, V.ref r2, V.ref r3, V.ref r4])) := same_upd hq
    refine ⟨D, q, vs, _, rfl, rfl, tq _ _ (t _ _ h1), upd_same, ?_, fun q2 hq2 => ?_⟩
    · have := h2.1
      have hb : (100 : Nat) ≤ sizeLine := by rw [sizeLine_eq]; decide
      simp only [List.length_cons, List.length_nil]
      omega
    refine ⟨4, rfl, q2, _, rfl, SqL.of upd_same, fun q3 hq3 => ?_⟩
    rw [cut4]
    have tt := (tq.trans (same_upd (o := .lst (vs ++ [V.ref r1, V.ref r2, V.ref r3, V.ref r4])) hq2)).trans (same_upd (o := .lst ((vs ++ [V.ref r1, V.ref r2, V.ref r3, V.ref r4]).take 4)) hq3)
    refine k q3 _ _ ((h3.trans t).trans tt) upd_same ?_
    have all : LeadsAt C H5 (vs ++ [V.ref r1, V.ref r2, V.ref r3, V.ref r4]) (xs ++ [none, none, none, none]) :=
      (h2.mono t).append (.cons (((l1.same s3).same s4).same s5) trivial (.cons ((l2.same s4).same s5) trivial (.cons (l3.same s5) trivial (.cons l4 trivial .nil))))
    exact (all.take 4).mono tt
end
/-- four leads by name -/
theorem LeadsAt.four {C : Addr} {H : Hp} {vs : List V} {y1 y2 y3 y4 : Option Int} (h : LeadsAt C H vs [y1, y2, y3, y4]) :
    ∃ a b c d, vs = [.ref a, .ref b, .ref c, .ref d] ∧ (LeadAt C H a y1 ∧ LdOk y1) ∧ (LeadAt C H b y2 ∧ LdOk y2) ∧ (LeadAt C H c y3 ∧ LdOk y3) ∧ (LeadAt C H d y4 ∧ LdOk y4) := by
  obtain ⟨hl, h⟩ := h
  match vs, hl with
  | [v1, v2, v3, v4], _ =>
    obtain ⟨a, x1, e1, rfl, h1⟩ := h 0 v1 rfl
    obtain ⟨b, x2, e2, rfl, h2⟩ := h 1 v2 rfl
    obtain ⟨c, x3, e3, rfl, h3⟩ := h 2 v3 rfl
    obtain ⟨d, x4, e4, rfl, h4⟩ := h 3 v4 rfl
    cases e1; cases e2; cases e3; cases e4
    exact ⟨a, b, c, d, rfl, h1, h2, h3, h4⟩
end Ev

set_option Elab.async false
set_option linter.all false
set_option maxRecDepth 100000
set_option maxHeartbeats 4000000
/-! k01: the law's joined. -/
namespace Ev
open PySem PySem.Spec PyProof.Rows L2

theorem ttk_along {K : PySem.W.Frag} {mg : Str → Option Value} {C CT CI : Addr} {σ : L2.St} {H : Hp} {Q : VK} {te : XK → TE} {vs : List V} {xs : List (Option Int)} (L : TxL K mg C) (hL : LeadsAt C H vs xs) (hn : vs.length ≤ 100)
    (hte : ∀ E Q, spAlong C CT vs H Q E → te E σ H Q) (k : ∀ po H7, Same H H7 → OutAt H7 po (alongL (some 0) xs) → Q (.ref po) H7) :
    TTk CT CI (fun E H' Q' => tFld K (te E) "value" σ H' Q') H Q := by
  refine hte _ _ ⟨xs, hL, hn, fun z hz r H6 s6 n6 h6 => ?_, fun hz H' s' d hd => ?_⟩
  · obtain ⟨dz, h6'⟩ := h6
    refine ⟨r, C, dz, _, _, rfl, h6', L.cl, L.nV, by rfl, by show 1 ≤ sizeLine; decide, fun po hpo => k po _ (s6.trans (same_upd hpo)) ?_⟩
    rw [hz]
    exact upd_same
  · refine ⟨d, _, rfl, .inl ⟨rfl, upd_same, fun po H2 s2 n2 h2 => k po H2 (s'.trans ((same_upd hd).trans s2)) ?_⟩⟩
    rw [hz]
    exact h2
theorem rows4 {α : Type} {xs : List α} (h : xs.length ≤ 4) : xs = [] ∨ (∃ a, xs = [a]) ∨ (∃ a b, xs = [a, b]) ∨ (∃ a b c, xs = [a, b, c]) ∨ ∃ a b c d, xs = [a, b, c, d] := by
  cases xs with
  | nil => exact .inl rfl
  | cons a xs =>
    cases xs with
    | nil => exact .inr (.inl ⟨a, rfl⟩)
    | cons b xs =>
      cases xs with
      | nil => exact .inr (.inr (.inl ⟨a, b, rfl⟩))
      | cons c xs =>
        cases xs with
        | nil => exact .inr (.inr (.inr (.inl ⟨a, b, c, rfl⟩)))
        | cons d xs =>
          cases xs with
          | nil => exact .inr (.inr (.inr (.inr ⟨a, b, c, d, rfl⟩)))
          | cons e xs => exact absurd h (by simp only [List.length_cons]; omega)
def spJoin (K : PySem.W.Frag) (T : List (Addr × Str)) : Sp := fun vs H Q E => ∃ (row : Addr) (xs : List (Option Int)), vs = [.ref row] ∧ SqL K H row (xs.map ldV) ∧ xs.length ≤ 4 ∧ (∀ x ∈ xs, LdOk x) ∧ LamX.Tabs T H ∧
  ∀ p H', LamX.ExtN H H' → LamX.Tabs T H' → OutAt H' p (alongL (some 0) xs) → Q (.ref p) H'
theorem sqL_extN {K : PySem.W.Frag} {H H' : Hp} {a : Addr} {xs : List V} (h : SqL K H a xs) (e : LamX.ExtN H H') : SqL K H' a xs := by
  rcases h with h | h
  · rcases h with h | ⟨o, h⟩
    · exact .inl (.inl (e _ _ h fun ps z => nomatch z))
    · exact .inl (.inr ⟨o, e _ _ h fun ps z => nomatch z⟩)
  · exact .inr h
section
variable {P : Program} {w : World} {K : PySem.W.Frag} {mg : Str → Option Value} {base : Heap} {C CF CT CJ CS CB CI CP CX CW c Pt : Addr} {T : List (Addr × Str)}
theorem sc27 : FnScope ["_law_row", "_law_a", "_law_b", "_law_c", "_law_d", "_law_x"] ["_law_row"] (defScope sJoin) := ⟨rfl, rfl, rfl, by decide +kernel, rfl, by decide +kernel, by decide +kernel⟩
theorem ok_join {f fN fAl fT : Addr} {fd fdN fdT : FuncData} (F : FunC K "_law_joined" "_law_joined" sJoin f fd c) (L : TxL K mg C) (E : TxE K mg CF CT CJ CS CB CI CP CX CW)
    (ML : MkL K C fN fdN) (GN : FnOk P w K mg base (L2.CX P w) 3 fN fdN ["self", "value"] (spN K C CI))
    (GAl : FnR P w K mg base (L2.CX P w) 6 fAl (spAlong C CT)) (kAl : PySem.W.keepIn K (.ref fAl) = true) (mAl : mg "along" = some (.ref fAl))
    (DT : DefT K mg "_law_told" sTold ["_law_ask"] fT fdT) (B : TbT T mg base c Pt "_law_joined.<locals>.<lambda>") (mn : mg "len" = none) :
    FnOk P w K mg base CX0 9 f fd ["_law_row"] (spJoin K T) := by
  refine okC F sc27 (fun vs H Q E h => ?_) (fun A outer s H vs Q E' hr h => ?_)
  · obtain ⟨row, xs, rfl, _⟩ := h
    rfl
  · obtain ⟨row, xs, rfl, hS, hl, ok, hT, k⟩ := h
    have hr4 : Room 4 _ := hr.mono (by decide)
    refine ⟨_, pss_cons (ps_asg (pe_slice sl_list (pe_op op_cat (pe_lc (own := [("_law_x", 5)]) (g := gName 5) (tt := tYes) rfl sc27.nd (pi_list (pv 0)) (blkOk_by (N := ["_law_row", "_law_a", "_law_b", "_law_c", "_law_d", "_law_x"]) (sc := defScope sJoin) (by decide +kernel))
            (fun _ _ _ _ _ => pg_name (i := 5) sc27.nd rfl (Or.inl rfl)) (fun _ _ _ _ _ => pts_nil) (fun _ _ _ _ _ => pe_make ML.M GN hr4 (by rfl) L.mC ML.b1 .nil passL (pa_cons (pv 5) pa_nil)))
          (pe_lst (pa_cons (pe_make0 ML.M GN hr4 (by rfl) L.mC ML.b0 (.cons (a := V.non) rfl .nil) passL) (pa_cons (pe_make0 ML.M GN hr4 (by rfl) L.mC ML.b0 (.cons (a := V.non) rfl .nil) passL)
            (pa_cons (pe_make0 ML.M GN hr4 (by rfl) L.mC ML.b0 (.cons (a := V.non) rfl .nil) passL) (pa_cons (pe_make0 ML.M GN hr4 (by rfl) L.mC ML.b0 (.cons (a := V.non) rfl .nil) passL) pa_nil)))))) po_none (po_some pe_int))
        (pg_lst rfl (pgs_cons (pg_name (i := 1) sc27.nd rfl (Or.inr rfl)) (pgs_cons (pg_name (i := 2) sc27.nd rfl (Or.inr rfl)) (pgs_cons (pg_name (i := 3) sc27.nd rfl (Or.inr rfl)) (pgs_cons (pg_name (i := 4) sc27.nd rfl (Or.inr rfl)) pgs_nil))))))
      (pss_cons (ps_if (pt_cmpR op_eq (pe_callB call_len_seq (by rfl) mn boot_len' (pa_cons (pv 0) pa_nil)) pe_int (nomark _))
        (pss_one (ps_ret (pe_told (t := fun E => tFld K (fun σ H Q => spAlong C CT [] H Q E) "value") E DT rfl B rfl hr (LamX.lamS_by (sc := defScope sJoin) (by decide +kernel)) rfl (fun _ _ _ _ _ => rfl)
          (fun A outer s H E f c' hr' => pe_fld (pe_callF0 GAl hr' kAl (by rfl) mAl (passes_call (takes_of rfl rfl rfl rfl) (fun _ _ _ _ h => h))) rfl)))) pss_nil)
      (pss_cons (ps_if (pt_cmpR op_eq (pe_callB call_len_seq (by rfl) mn boot_len' (pa_cons (pv 0) pa_nil)) pe_int (nomark _))
        (pss_one (ps_ret (pe_told (t := fun E => tFld K (fun σ H Q => tCons (tVar 1) tNil σ H fun vs H1 => spAlong C CT vs H1 Q E) "value") E DT rfl B rfl hr (LamX.lamS_by (sc := defScope sJoin) (by decide +kernel)) rfl (fun _ _ _ _ _ => rfl)
          (fun A outer s H E f c' hr' => pe_fld (pe_callF GAl hr' kAl (by rfl) mAl (passes_call (takes_of rfl rfl rfl rfl) (fun _ _ _ _ h => h)) (pa_cons (pv 1) pa_nil)) rfl)))) pss_nil)
      (pss_cons (ps_if (pt_cmpR op_eq (pe_callB call_len_seq (by rfl) mn boot_len' (pa_cons (pv 0) pa_nil)) pe_int (nomark _))
        (pss_one (ps_ret (pe_told (t := fun E => tFld K (fun σ H Q => tCons (tVar 1) (tCons (tVar 2) tNil) σ H fun vs H1 => spAlong C CT vs H1 Q E) "value") E DT rfl B rfl hr (LamX.lamS_by (sc := defScope sJoin) (by decide +kernel)) rfl (fun _ _ _ _ _ => rfl)
          (fun A outer s H E f c' hr' => pe_fld (pe_callF GAl hr' kAl (by rfl) mAl (passes_call (takes_of rfl rfl rfl rfl) (fun _ _ _ _ h => h)) (pa_cons (pv 1) (pa_cons (pv 2) pa_nil))) rfl)))) pss_nil)
      (pss_cons (ps_if (pt_cmpR op_eq (pe_callB call_len_seq (by rfl) mn boot_len' (pa_cons (pv 0) pa_nil)) pe_int (nomark _))
        (pss_one (ps_ret (pe_told (t := fun E => tFld K (fun σ H Q => tCons (tVar 1) (tCons (tVar 2) (tCons (tVar 3) tNil)) σ H fun vs H1 => spAlong C CT vs H1 Q E) "value") E DT rfl B rfl hr (LamX.lamS_by (sc := defScope sJoin) (by decide +kernel)) rfl (fun _ _ _ _ _ => rfl)
          (fun A outer s H E f c' hr' => pe_fld (pe_callF GAl hr' kAl (by rfl) mAl (passes_call (takes_of rfl rfl rfl rfl) (fun _ _ _ _ h => h)) (pa_cons (pv 1) (pa_cons (pv 2) (pa_cons (pv 3) pa_nil)))) rfl)))) pss_nil)
      (pss_one (ps_ret (pe_told (t := fun E => tFld K (fun σ H Q => tCons (tVar 1) (tCons (tVar 2) (tCons (tVar 3) (tCons (tVar 4) tNil))) σ H fun vs H1 => spAlong C CT vs H1 Q E) "value") E DT rfl B rfl hr (LamX.lamS_by (sc := defScope sJoin) (by decide +kernel)) rfl (fun _ _ _ _ _ => rfl)
          (fun A outer s H E f c' hr' => pe_fld (pe_callF GAl hr' kAl (by rfl) mAl (passes_call (takes_of rfl rfl rfl rfl) (fun _ _ _ _ h => h)) (pa_cons (pv 1) (pa_cons (pv 2) (pa_cons (pv 3) (pa_cons (pv 4) pa_nil))))) rfl)))))))), ?_⟩
    refine leads_read rfl (by show 5 < 6; decide) hS hl ok fun p H1 vs s1 hp hv => ?_
    have T1 := hT.ext s1
    have S1 := s1.seq hS
    rcases rows4 hl with rfl | ⟨x1, rfl⟩ | ⟨x1, x2, rfl⟩ | ⟨x1, x2, x3, rfl⟩ | ⟨x1, x2, x3, x4, rfl⟩
    · obtain ⟨a, b, c1, d, rfl, ⟨la, oa⟩, ⟨lb, ob⟩, ⟨lc, oc⟩, ⟨ld, od⟩⟩ := hv.four
      refine ⟨p, _, rfl, SqL.of hp, rfl, _, _, rfl, _, _, rfl, _, _, rfl, _, _, rfl, rfl, ?_⟩
      refine ⟨_, rfl, row, _, rfl, .inl S1, rfl, _, rfl, ifT (by simp) ?_⟩
      refine ⟨T1, fun H2 e2 T2 => ?_⟩
      refine ttk_along (te := fun E σ H Q => spAlong C CT [] H Q E) (vs := []) (xs := []) L .nil (by show 0 ≤ 100; decide) (fun E Q q => q) ?_
      intro po H7 s7 o7
      exact k po H7 (((LamX.ExtN.of s1).trans e2).trans (LamX.ExtN.of s7)) (T2.ext s7) o7
    · obtain ⟨a, b, c1, d, rfl, ⟨la, oa⟩, ⟨lb, ob⟩, ⟨lc, oc⟩, ⟨ld, od⟩⟩ := hv.four
      refine ⟨p, _, rfl, SqL.of hp, rfl, _, _, rfl, _, _, rfl, _, _, rfl, _, _, rfl, rfl, ?_⟩
      refine ⟨_, rfl, row, _, rfl, .inl S1, rfl, _, rfl, ifF (by simp) ?_⟩
      refine ⟨_, rfl, row, _, rfl, .inl S1, rfl, _, rfl, ifT (by simp) ?_⟩
      refine ⟨T1, fun H2 e2 T2 => ?_⟩
      refine ttk_along (te := fun E σ H Q => (tCons (tVar 1) tNil) σ H fun vs H1 => spAlong C CT vs H1 Q E) (vs := [V.ref a]) (xs := [x1]) L (.cons (la.extN e2) oa .nil) (by show 1 ≤ 100; decide) (fun E Q q => ⟨_, rfl, q⟩) ?_
      intro po H7 s7 o7
      exact k po H7 (((LamX.ExtN.of s1).trans e2).trans (LamX.ExtN.of s7)) (T2.ext s7) o7
    · obtain ⟨a, b, c1, d, rfl, ⟨la, oa⟩, ⟨lb, ob⟩, ⟨lc, oc⟩, ⟨ld, od⟩⟩ := hv.four
      refine ⟨p, _, rfl, SqL.of hp, rfl, _, _, rfl, _, _, rfl, _, _, rfl, _, _, rfl, rfl, ?_⟩
      refine ⟨_, rfl, row, _, rfl, .inl S1, rfl, _, rfl, ifF (by simp) ?_⟩
      refine ⟨_, rfl, row, _, rfl, .inl S1, rfl, _, rfl, ifF (by simp) ?_⟩
      refine ⟨_, rfl, row, _, rfl, .inl S1, rfl, _, rfl, ifT (by simp) ?_⟩
      refine ⟨T1, fun H2 e2 T2 => ?_⟩
      refine ttk_along (te := fun E σ H Q => (tCons (tVar 1) (tCons (tVar 2) tNil)) σ H fun vs H1 => spAlong C CT vs H1 Q E) (vs := [V.ref a, V.ref b]) (xs := [x1, x2]) L (.cons (la.extN e2) oa (.cons (lb.extN e2) ob .nil)) (by show 2 ≤ 100; decide) (fun E Q q => ⟨_, rfl, _, rfl, q⟩) ?_
      intro po H7 s7 o7
      exact k po H7 (((LamX.ExtN.of s1).trans e2).trans (LamX.ExtN.of s7)) (T2.ext s7) o7
    · obtain ⟨a, b, c1, d, rfl, ⟨la, oa⟩, ⟨lb, ob⟩, ⟨lc, oc⟩, ⟨ld, od⟩⟩ := hv.four
      refine ⟨p, _, rfl, SqL.of hp, rfl, _, _, rfl, _, _, rfl, _, _, rfl, _, _, rfl, rfl, ?_⟩
      refine ⟨_, rfl, row, _, rfl, .inl S1, rfl, _, rfl, ifF (by simp) ?_⟩
      refine ⟨_, rfl, row, _, rfl, .inl S1, rfl, _, rfl, ifF (by simp) ?_⟩
      refine ⟨_, rfl, row, _, rfl, .inl S1, rfl, _, rfl, ifF (by simp) ?_⟩
      refine ⟨_, rfl, row, _, rfl, .inl S1, rfl, _, rfl, ifT (by simp) ?_⟩
      refine ⟨T1, fun H2 e2 T2 => ?_⟩
      refine ttk_along (te := fun E σ H Q => (tCons (tVar 1) (tCons (tVar 2) (tCons (tVar 3) tNil))) σ H fun vs H1 => spAlong C CT vs H1 Q E) (vs := [V.ref a, V.ref b, V.ref c1]) (xs := [x1, x2, x3]) L (.cons (la.extN e2) oa (.cons (lb.extN e2) ob (.cons (lc.extN e2) oc .nil))) (by show 3 ≤ 100; decide) (fun E Q q => ⟨_, rfl, _, rfl, _, rfl, q⟩) ?_
      intro po H7 s7 o7
      exact k po H7 (((LamX.ExtN.of s1).trans e2).trans (LamX.ExtN.of s7)) (T2.ext s7) o7
    · obtain ⟨a, b, c1, d, rfl, ⟨la, oa⟩, ⟨lb, ob⟩, ⟨lc, oc⟩, ⟨ld, od⟩⟩ := hv.four
      refine ⟨p, _, rfl, SqL.of hp, rfl, _, _, rfl, _, _, rfl, _, _, rfl, _, _, rfl, rfl, ?_⟩
      refine ⟨_, rfl, row, _, rfl, .inl S1, rfl, _, rfl, ifF (by simp) ?_⟩
      refine ⟨_, rfl, row, _, rfl, .inl S1, rfl, _, rfl, ifF (by simp) ?_⟩
      refine ⟨_, rfl, row, _, rfl, .inl S1, rfl, _, rfl, ifF (by simp) ?_⟩
      refine ⟨_, rfl, row, _, rfl, .inl S1, rfl, _, rfl, ifF (by simp) ?_⟩
      refine ⟨T1, fun H2 e2 T2 => ?_⟩
      refine ttk_along (te := fun E σ H Q => (tCons (tVar 1) (tCons (tVar 2) (tCons (tVar 3) (tCons (tVar 4) tNil)))) σ H fun vs H1 => spAlong C CT vs H1 Q E) (vs := [V.ref a, V.ref b, V.ref c1, V.ref d]) (xs := [x1, x2, x3, x4]) L (.cons (la.extN e2) oa (.cons (lb.extN e2) ob (.cons (lc.extN e2) oc (.cons (ld.extN e2) od .nil)))) (by show 4 ≤ 100; decide) (fun E Q q => ⟨_, rfl, _, rfl, _, rfl, _, rfl, q⟩) ?_
      intro po H7 s7 o7
      exact k po H7 (((LamX.ExtN.of s1).trans e2).trans (LamX.ExtN.of s7)) (T2.ext s7) o7
end
end Ev

set_option Elab.async false
set_option linter.all false
set_option maxRecDepth 100000
set_option maxHeartbeats 4000000
/-! k01: the best of a row; row_right. -/
namespace Ev
open PySem PySem.Spec PyProof.Rows L2

theorem hei_inj {x y : Option Int} (hx : LdOk x) (hy : LdOk y) (h : heightL x = heightL y) : x = y := by
  have e := same_eq hx hy
  rw [h] at e
  simpa using e.symm
theorem add_in (u x : Option Int) : addL u x = u ∨ addL u x = x := by
  unfold addL
  split
  · exact .inr rfl
  · exact .inl rfl
  · split
    · exact .inl rfl
    · exact .inr rfl
theorem add_hei {u x : Option Int} (hu : LdOk u) (hx : LdOk x) : heightL u ≤ heightL (addL u x) ∧ heightL x ≤ heightL (addL u x) := by
  cases u with
  | none =>
    refine ⟨?_, Int.le_refl _⟩
    cases x with
    | none => exact Int.le_refl _
    | some j =>
      obtain ⟨h1, h2⟩ := (show Bd j from hx)
      show (-10000000 : Int) ≤ j
      omega
  | some i =>
    obtain ⟨g1, g2⟩ := (show Bd i from hu)
    cases x with
    | none =>
      refine ⟨Int.le_refl _, ?_⟩
      show (-10000000 : Int) ≤ i
      omega
    | some j =>
      by_cases e : j ≤ i
      · have ea : addL (some i) (some j) = some i := by simp [addL, e]
        rw [ea]
        exact ⟨Int.le_refl _, e⟩
      · have ea : addL (some i) (some j) = some j := by simp [addL, e]
        rw [ea]
        exact ⟨(by show i ≤ j; omega), Int.le_refl _⟩
theorem best_spec : ∀ (xs : List (Option Int)) (u : Option Int), LdOk u → (∀ x ∈ xs, LdOk x) → (bestL u xs = u ∨ bestL u xs ∈ xs) ∧ heightL u ≤ heightL (bestL u xs) ∧ (∀ y ∈ xs, heightL y ≤ heightL (bestL u xs)) ∧ LdOk (bestL u xs)
  | [], u, hu, _ => ⟨.inl rfl, Int.le_refl _, fun y hy => (by cases hy), hu⟩
  | x :: xs, u, hu, ok => by
    have hx := ok x List.mem_cons_self
    obtain ⟨h1, h2, h3, h4⟩ := best_spec xs (addL u x) (addL_ok hu hx) fun y hy => ok y (List.mem_cons_of_mem _ hy)
    obtain ⟨a1, a2⟩ := add_hei hu hx
    have e : bestL u (x :: xs) = bestL (addL u x) xs := rfl
    rw [e]
    refine ⟨?_, Int.le_trans a1 h2, fun y hy => ?_, h4⟩
    · rcases h1 with h | h
      · rcases add_in u x with q | q
        · exact .inl (h.trans q)
        · exact .inr (by rw [h, q]; exact List.mem_cons_self)
      · exact .inr (List.mem_cons_of_mem _ h)
    · rcases List.mem_cons.mp hy with z | z
      · rw [z]; exact Int.le_trans a2 h2
      · exact h3 y z
/-- whether x is one of the highest -/
def topB (xs : List (Option Int)) (x : Option Int) : Bool := xs.all fun y => decide (heightL y ≤ heightL x)
theorem best_head {xs : List (Option Int)} (ok : ∀ x ∈ xs, LdOk x) : (xs.filter (topB xs) ++ [none]).head? = some (bestL none xs) := by
  obtain ⟨h1, h2, h3, h4⟩ := best_spec xs none trivial ok
  have low : ∀ y ∈ xs, heightL none ≤ heightL y := fun y hy => by
    cases y with
    | none => exact Int.le_refl _
    | some j =>
      obtain ⟨h1, h2⟩ := (show Bd j from ok _ hy)
      show (-10000000 : Int) ≤ j
      omega
  have tb : ∀ y ∈ xs, topB xs y = true → heightL (bestL none xs) ≤ heightL y := fun y hy ht => by
    rcases h1 with h | h
    · rw [h]; exact low y hy
    · simp only [topB, List.all_eq_true, decide_eq_true_eq] at ht
      exact ht _ h
  cases e : xs.filter (topB xs) with
  | nil =>
    show some none = _
    rcases h1 with h | h
    · rw [h]
    · have hm : bestL none xs ∈ xs.filter (topB xs) := List.mem_filter.mpr ⟨h, by simp only [topB, List.all_eq_true, decide_eq_true_eq]; exact h3⟩
      rw [e] at hm
      cases hm
  | cons z zs =>
    have hm : z ∈ xs.filter (topB xs) := by rw [e]; exact List.mem_cons_self
    obtain ⟨m1, m2⟩ := List.mem_filter.mp hm
    show some z = _
    refine congrArg some (hei_inj (ok z m1) h4 ?_)
    exact Int.le_antisymm (h3 z m1) (tb z m1 m2)
theorem along_ok : ∀ (xs : List (Option Int)) (t z : Option Int), LdOk t → alongL t xs = some z → LdOk z
  | [], t, z, ht, h => by
    have e : t = z := Option.some.inj h
    rw [← e]; exact ht
  | x :: xs, t, z, ht, h => by
    unfold alongL at h
    cases e : mulL t x with
    | none => rw [e] at h; cases h
    | some u =>
      rw [e] at h
      exact along_ok xs u z (mulL_ok e) h
theorem four_is {xs : List (Option Int)} (h : xs.length ≤ 4) : ∃ y1 y2 y3 y4, fourL xs = [y1, y2, y3, y4] := by
  rcases rows4 h with rfl | ⟨x1, rfl⟩ | ⟨x1, x2, rfl⟩ | ⟨x1, x2, x3, rfl⟩ | ⟨x1, x2, x3, x4, rfl⟩ <;> exact ⟨_, _, _, _, rfl⟩
theorem pick_best {C : Addr} {H : Hp} {xs : List (Option Int)} {y1 y2 y3 y4 : Option Int} {r0 r1 r2 r3 r4 : Addr} (h : xs.length ≤ 4) (e : fourL xs = [y1, y2, y3, y4])
    (l0 : LeadAt C H r0 (bestL none [])) (l1 : LeadAt C H r1 (bestL none [y1])) (l2 : LeadAt C H r2 (bestL none [y1, y2])) (l3 : LeadAt C H r3 (bestL none [y1, y2, y3])) (l4 : LeadAt C H r4 (bestL none [y1, y2, y3, y4])) :
    ∃ r, atI [V.ref r0, V.ref r1, V.ref r2, V.ref r3, V.ref r4] ((xs.map ldV).length : Int) = some (.ref r) ∧ LeadAt C H r (bestL none xs) := by
  rcases rows4 h with rfl | ⟨x1, rfl⟩ | ⟨x1, x2, rfl⟩ | ⟨x1, x2, x3, rfl⟩ | ⟨x1, x2, x3, x4, rfl⟩
  · exact ⟨r0, rfl, l0⟩
  · simp only [fourL, List.cons_append, List.nil_append, List.take_succ_cons, List.take_zero, List.cons.injEq] at e
    obtain ⟨rfl, _⟩ := e
    exact ⟨r1, rfl, l1⟩
  · simp only [fourL, List.cons_append, List.nil_append, List.take_succ_cons, List.take_zero, List.cons.injEq] at e
    obtain ⟨rfl, rfl, _⟩ := e
    exact ⟨r2, rfl, l2⟩
  · simp only [fourL, List.cons_append, List.nil_append, List.take_succ_cons, List.take_zero, List.cons.injEq] at e
    obtain ⟨rfl, rfl, rfl, _⟩ := e
    exact ⟨r3, rfl, l3⟩
  · simp only [fourL, List.cons_append, List.nil_append, List.take_succ_cons, List.take_zero, List.cons.injEq] at e
    obtain ⟨rfl, rfl, rfl, rfl, _⟩ := e
    exact ⟨r4, rfl, l4⟩
end Ev

set_option Elab.async false
set_option linter.all false
set_option maxRecDepth 100000
set_option maxHeartbeats 4000000
/-! k01: the law's row_right. -/
namespace Ev
open PySem PySem.Spec PyProof.Rows L2

abbrev sRow : Stmt := topS 27
theorem boot_max' : bootBuiltins "max" = some (.builtin "max") := by decide +kernel
def spRow (K : PySem.W.Frag) (T : List (Addr × Str)) : Sp := fun vs H Q E => ∃ (row : Addr) (xs : List (Option Int)), vs = [.ref row] ∧ SqL K H row (xs.map ldV) ∧ xs.length ≤ 4 ∧ (∀ x ∈ xs, LdOk x) ∧ LamX.Tabs T H ∧
  ∀ H', LamX.ExtN H H' → LamX.Tabs T H' → Q (.bl true) H'
abbrev NR : List Str := ["_law_row", "_law_a", "_law_b", "_law_c", "_law_d", "_law_told_here", "_law_heights", "_law_top_ones", "_law_x"]
theorem top_max {xs : List (Option Int)} {x : Option Int} {m : Int} (mx : x ∈ xs) (mm : m ∈ xs.map heightL) (hm : ∀ y, y ∈ xs.map heightL → y ≤ m) : decide (V.int (heightL x) = V.int m) = topB xs x := by
  have e : (V.int (heightL x) = V.int m) ↔ topB xs x = true := by
    simp only [topB, List.all_eq_true, decide_eq_true_eq]
    constructor
    · intro h y hy
      have h' : heightL x = m := by injection h
      rw [h']
      exact hm _ (List.mem_map.mpr ⟨y, hy, rfl⟩)
    · intro h
      obtain ⟨z, hz, ez⟩ := List.mem_map.mp mm
      have h1 := h z hz
      have h2 := hm _ (List.mem_map.mpr ⟨x, mx, rfl⟩)
      have : heightL x = m := by omega
      rw [this]
  cases et : topB xs x with
  | true => exact decide_eq_true (e.mpr et)
  | false => exact decide_eq_false fun z => by rw [e.mp z] at et; cases et
theorem head_at {xs : List (Option Int)} (ok : ∀ x ∈ xs, LdOk x) : atI ((xs.filter (topB xs)).map ldV ++ [V.non]) 0 = some (ldV (bestL none xs)) := by
  have e := best_head ok
  have e2 : (xs.filter (topB xs)).map ldV ++ [V.non] = (xs.filter (topB xs) ++ [none]).map ldV := by rw [List.map_append]; rfl
  rw [e2]
  refine atI_nat (j := 0) ?_
  rw [List.getElem?_map]
  cases q : xs.filter (topB xs) ++ [none] with
  | nil => rw [q] at e; cases e
  | cons z zs =>
    rw [q] at e
    have e3 : z = bestL none xs := Option.some.inj e
    rw [e3]; rfl
section
variable {P : Program} {w : World} {K : PySem.W.Frag} {mg : Str → Option Value} {base : Heap} {C CI : Addr} {T : List (Addr × Str)}
theorem sc28 : FnScope NR ["_law_row"] (defScope sRow) := ⟨rfl, rfl, rfl, by decide +kernel, rfl, by decide +kernel, by decide +kernel⟩
theorem ok_row {f fN fBe fH fJ fC : Addr} {fd fdN fdH fdJ fdC : FuncData} (F : Fun K "_law_row_right" "_law_row_right" sRow f fd) (L : TxL K mg C)
    (ML : MkL K C fN fdN) (GN : FnOk P w K mg base (L2.CX P w) 3 fN fdN ["self", "value"] (spN K C CI))
    (GBe : FnR P w K mg base CX0 6 fBe (spBest C)) (kBe : PySem.W.keepIn K (.ref fBe) = true) (mBe : mg "best" = some (.ref fBe))
    (DH : DefT K mg "_law_height" sHei ["_law_x"] fH fdH) (GH : FnOk P w K mg base CX0 1 fH fdH ["_law_x"] spHei)
    (DJ : DefT K mg "_law_joined" sJoin ["_law_row"] fJ fdJ) (GJ : FnOk P w K mg base CX0 9 fJ fdJ ["_law_row"] (spJoin K T))
    (DC : DefT K mg "_law_chain" sChain ["_law_row"] fC fdC) (GC : FnOk P w K mg base CX0 1 fC fdC ["_law_row"] (spChain K))
    (mn : mg "len" = none) (mr : mg "repr" = none) (mm : mg "max" = none) :
    FnG P w K mg base CX0 10 f fd ["_law_row"] (spRow K T) := by
  refine okG F sc28 (fun vs H Q E h => ?_) (fun cdv A outer s H vs Q E' hcd hgd hr h => ?_)
  · obtain ⟨row, xs, rfl, _⟩ := h
    rfl
  · obtain ⟨row, xs, rfl, hS, hl, ok, hT, k⟩ := h
    have hr1 : Room 1 _ := hr.mono (by decide)
    have hr4 : Room 4 _ := hr.mono (by decide)
    have hr6 : Room 6 _ := hr.mono (by decide)
    have hr9 : Room 9 _ := hr
    have hu : (A.deeper (envOfC "_law_row_right" (defScope sRow) s.heap.objs.size f cdv)).units + 70 < cLine := by have := hr1.un; omega
    let X : Cx := (cxOf CX0 P w K mg base NR "_law_row_right" (defScope sRow) f cdv A outer s H E').nox
    have hR : CallR X (.builtin "repr") (fun xs H Q => ∃ v d, xs = [v] ∧ Dx X.K H v d ∧ Shows d ∧ Q (.str d.shown) H) := call_reprD hgd hu
    refine ⟨_, pss_cons (ps_asg (pe_slice sl_list (pe_op op_cat (pe_lc (own := [("_law_x", 8)]) (g := gName 8) (tt := tYes) rfl sc28.nd (pi_list (pv 0)) (blkOk_by (N := NR) (sc := defScope sRow) (by decide +kernel))
            (fun _ _ _ _ _ => pg_name (i := 8) sc28.nd rfl (Or.inl rfl)) (fun _ _ _ _ _ => pts_nil) (fun _ _ _ _ _ => pe_make ML.M GN hr4 (by rfl) L.mC ML.b1 .nil passL (pa_cons (pv 8) pa_nil)))
          (pe_lst (pa_cons (pe_make0 ML.M GN hr4 (by rfl) L.mC ML.b0 (.cons (a := V.non) rfl .nil) passL) (pa_cons (pe_make0 ML.M GN hr4 (by rfl) L.mC ML.b0 (.cons (a := V.non) rfl .nil) passL)
            (pa_cons (pe_make0 ML.M GN hr4 (by rfl) L.mC ML.b0 (.cons (a := V.non) rfl .nil) passL) (pa_cons (pe_make0 ML.M GN hr4 (by rfl) L.mC ML.b0 (.cons (a := V.non) rfl .nil) passL) pa_nil)))))) po_none (po_some pe_int))
        (pg_lst rfl (pgs_cons (pg_name (i := 1) sc28.nd rfl (Or.inl rfl)) (pgs_cons (pg_name (i := 2) sc28.nd rfl (Or.inl rfl)) (pgs_cons (pg_name (i := 3) sc28.nd rfl (Or.inl rfl)) (pgs_cons (pg_name (i := 4) sc28.nd rfl (Or.inl rfl)) pgs_nil))))))
      (pss_cons (ps_set (i := 5) sc28.nd rfl (Or.inl rfl) (pe_ix ix_list (pe_lst (pa_cons (pe_callF0 GBe hr6 kBe (by rfl) mBe pass0) (pa_cons (pe_callF GBe hr6 kBe (by rfl) mBe pass0 (pa_cons (pv 1) pa_nil)) (pa_cons (pe_callF GBe hr6 kBe (by rfl) mBe pass0 (pa_cons (pv 1) (pa_cons (pv 2) pa_nil)))
          (pa_cons (pe_callF GBe hr6 kBe (by rfl) mBe pass0 (pa_cons (pv 1) (pa_cons (pv 2) (pa_cons (pv 3) pa_nil)))) (pa_cons (pe_callF GBe hr6 kBe (by rfl) mBe pass0 (pa_cons (pv 1) (pa_cons (pv 2) (pa_cons (pv 3) (pa_cons (pv 4) pa_nil))))) pa_nil))))))
          (pe_callB call_len_seq (by rfl) mn boot_len' (pa_cons (pv 0) pa_nil)) (fun _ _ => rfl)))
      (pss_cons (ps_set (i := 6) sc28.nd rfl (Or.inr rfl) (pe_lc (own := [("_law_x", 8)]) (g := gName 8) (tt := tYes) rfl sc28.nd (pi_list (pv 0)) (blkOk_by (N := NR) (sc := defScope sRow) (by decide +kernel))
            (fun _ _ _ _ _ => pg_name (i := 8) sc28.nd rfl (Or.inl rfl)) (fun _ _ _ _ _ => pts_nil) (fun _ _ _ _ _ => pe_call GH hr1 rfl DH.m DH.F.kp DH.b .nil pass0 (pa_cons (pv 8) pa_nil))))
      (pss_cons (ps_setLc (i := 7) (own := [("_law_x", 8)]) (g := gName 8) (tt := tTest (tOp rEq (tCall spHei [] E0 (tCons (tVar 8) tNil)) (tCB (rMax K) (tCons (tVar 6) tNil)))) rfl sc28.nd rfl rfl (sw_true rfl rfl rfl (by decide +kernel)) (pi_list (pv 0)) (blkOk_by (N := NR) (sc := defScope sRow) (by decide +kernel))
            (fun _ _ _ _ _ => pg_name (i := 8) sc28.nd rfl (Or.inl rfl)) (fun _ _ _ _ _ => pts_one (pt_cmpR op_eq (pe_call GH hr1 rfl DH.m DH.F.kp DH.b .nil pass0 (pa_cons (pv 8) pa_nil)) (pe_callB (cr_max rfl) (by rfl) mm boot_max' (pa_cons (pv 6) pa_nil)) (nomark _))) (fun _ _ _ _ _ => pv 8))
      (pss_cons (ps_if (pt_cmpR op_ne (pe_callB hR (by rfl) mr boot_repr' (pa_cons (pe_fld (pv 5) rfl) pa_nil)) (pe_callB hR (by rfl) mr boot_repr' (pa_cons (pe_ix ix_list (pe_op op_cat (pv 7) (pe_lst (pa_cons pe_non pa_nil))) pe_int (fun _ _ => rfl)) pa_nil)) (nomark _)) (pss_one ps_never) pss_nil)
      (pss_one (ps_ret (pe_cmpR op_eq (pe_callB hR (by rfl) mr boot_repr' (pa_cons (pe_call GJ hr9 rfl DJ.m DJ.F.kp DJ.b .nil pass0 (pa_cons (pv 0) pa_nil)) pa_nil)) (pe_callB hR (by rfl) mr boot_repr' (pa_cons (pe_call GC hr1 rfl DC.m DC.F.kp DC.b .nil pass0 (pa_cons (pv 0) pa_nil)) pa_nil)) (nomark _)))))))), ?_⟩
    refine leads_read (i := 8) rfl (by show 8 < 9; decide) hS hl ok fun p H1 vs s1 hp hv => ?_
    obtain ⟨y1, y2, y3, y4, ey⟩ := four_is hl
    rw [ey] at hv
    obtain ⟨a, b, c1, d, rfl, ⟨la, oa⟩, ⟨lb, ob⟩, ⟨lc, oc⟩, ⟨ld, od⟩⟩ := hv.four
    refine ⟨p, _, rfl, SqL.of hp, rfl, _, _, rfl, _, _, rfl, _, _, rfl, _, _, rfl, rfl, ?_⟩
    refine ⟨[], .nil, by show 0 ≤ 100; decide, fun r0 H2 s2 n2 l0 => ?_⟩
    refine ⟨_, rfl, [y1], .cons (la.same s2) oa .nil, by show 1 ≤ 100; decide, fun r1 H3 s3 n3 l1 => ?_⟩
    have t3 := s2.trans s3
    refine ⟨_, rfl, _, rfl, [y1, y2], .cons (la.same t3) oa (.cons (lb.same t3) ob .nil), by show 2 ≤ 100; decide, fun r2 H4 s4 n4 l2 => ?_⟩
    have t4 := t3.trans s4
    refine ⟨_, rfl, _, rfl, _, rfl, [y1, y2, y3], .cons (la.same t4) oa (.cons (lb.same t4) ob (.cons (lc.same t4) oc .nil)), by show 3 ≤ 100; decide, fun r3 H5 s5 n5 l3 => ?_⟩
    have t5 := t4.trans s5
    refine ⟨_, rfl, _, rfl, _, rfl, _, rfl, [y1, y2, y3, y4], .cons (la.same t5) oa (.cons (lb.same t5) ob (.cons (lc.same t5) oc (.cons (ld.same t5) od .nil))), by show 4 ≤ 100; decide, fun r4 H6 s6 n6 l4 => ?_⟩
    have t6 := t5.trans s6
    obtain ⟨r, er, lr⟩ := pick_best hl ey (l0.same (((s3.trans s4).trans s5).trans s6)) (l1.same ((s4.trans s5).trans s6)) (l2.same (s5.trans s6)) (l3.same s6) l4
    refine ⟨by show 5 ≤ sizeLine; decide, fun q hq => ?_⟩
    have sq : Same H6 (upd H6 q (.lst [V.ref r0, V.ref r1, V.ref r2, V.ref r3, V.ref r4])) := same_upd hq
    have S7 := ((s1.trans t6).trans sq).seq hS
    refine ⟨_, rfl, row, _, rfl, .inl S7, q, _, _, _, rfl, rfl, SqL.of upd_same, er, ?_⟩
    have lr7 := lr.same sq
    have s07 := (s1.trans t6).trans sq
    generalize upd H6 q (.lst [V.ref r0, V.ref r1, V.ref r2, V.ref r3, V.ref r4]) = H7 at sq S7 lr7 s07 ⊢
    have hb : (100 : Nat) ≤ sizeLine := by rw [sizeLine_eq]; decide
    -- heights
    refine ⟨_, rfl, row, rfl, ⟨_, S7⟩, fun D hD => lc_list (K := K) (a := row) (xs := xs.map ldV) (fun j H' => H' D = some (.lst ((xs.take j).map fun x => V.int (heightL x))) ∧ Same H7 H') ⟨upd_same, same_upd hD⟩ (fun j H' _ ⟨_, s'⟩ => s'.seq S7) ?_ ?_⟩
    · rintro j y H' hj ⟨h1, s'⟩
      obtain ⟨x, hx, rfl, mx, ed⟩ := at_map hj
      refine ⟨wipe_eq, _, wipe_in (by show 8 < 9; decide), x, rfl, _, h1, ?_, ?_, ?_⟩
      · rw [List.length_map, List.length_take]
        omega
      · rw [upd_same, List.take_add_one, hx]
        simp
      · intro b z e
        rw [upd_ne (ne_of_none e hD)]
        exact s' _ _ e
    rintro H8 ⟨h8, s8⟩
    rw [List.length_map, List.take_length] at h8
    have S8 := s8.seq S7
    -- the highest
    refine ⟨_, rfl, row, rfl, ⟨_, S8⟩, fun D2 hD2 => lc_list (K := K) (a := row) (xs := xs.map ldV) (fun j H' => H' D2 = some (.lst (((xs.take j).filter (topB xs)).map ldV)) ∧ Same H8 H') ⟨upd_same, same_upd hD2⟩ (fun j H' _ ⟨_, s'⟩ => s'.seq S8) ?_ ?_⟩
    · rintro j y H' hj ⟨h1, s'⟩
      obtain ⟨x, hx, rfl, mx, ed⟩ := at_map hj
      have em : xs.map (fun x => V.int (heightL x)) = (xs.map heightL).map V.int := by rw [List.map_map]; rfl
      refine ⟨wipe_eq, _, wipe_in (by show 8 < 9; decide), x, rfl, _, rfl, D, xs.map heightL, rfl, SqL.of (by rw [← em]; exact s' _ _ h8), by rw [List.length_map]; exact List.length_pos_of_mem mx, fun m mm hm => ⟨rfl, _, rfl, ?_⟩⟩
      have e2 : decide (V.int (heightL x) = V.int m) = topB xs x := top_max mx mm hm
      rw [e2]
      have e3 : xs.take (j + 1) = xs.take j ++ [x] := by
        rw [List.take_add_one, hx]; rfl
      cases et : topB xs x with
      | true =>
        refine ifT rfl ⟨_, wipe_in (by show 8 < 9; decide), _, h1, ?_, ?_, ?_⟩
        · rw [List.length_map]
          have q1 := List.length_filter_le (topB xs) (xs.take j)
          rw [List.length_take] at q1
          omega
        · rw [upd_same, e3, List.filter_append]
          simp [et]
        · intro b z e
          rw [upd_ne (ne_of_none e hD2)]
          exact s' _ _ e
      | false =>
        refine ifF rfl ⟨?_, s'⟩
        rw [h1, e3, List.filter_append]
        simp [et]
    rintro H9 ⟨h9, s9⟩
    rw [List.length_map, List.take_length] at h9
    obtain ⟨dr, lr9⟩ := (lr7.same s8).same s9
    obtain ⟨_, _, _, okb⟩ := best_spec xs none trivial ok
    refine ⟨_, rfl, r, C, dr, _, _, rfl, lr9, L.cl, L.nV, by rfl, _, _, rfl, dx_ld _, okb.lf.shows, ?_⟩
    refine ⟨_, rfl, by show 1 ≤ sizeLine; decide, fun q5 hq5 => ⟨D2, q5, _, _, rfl, rfl, same_upd hq5 _ _ h9, upd_same, ?_, fun q6 hq6 => ?_⟩⟩
    · rw [List.length_map]
      have q1 := List.length_filter_le (topB xs) xs
      simp only [List.length_cons, List.length_nil]
      omega
    refine ⟨q6, _, 0, _, rfl, rfl, SqL.of upd_same, head_at ok, _, _, rfl, dx_ld _, okb.lf.shows, rfl, _, rfl, ifF (by simp) ?_⟩
    have sz := (same_upd (o := .lst [V.non]) hq5).trans (same_upd (o := .lst (((xs.filter (topB xs)).map ldV) ++ [V.non])) hq6)
    have sA := ((s07.trans s8).trans s9).trans sz
    refine ⟨_, rfl, row, xs, rfl, sA.seq hS, hl, ok, hT.ext sA, fun pj Hj ej Tj oj => ⟨_, _, rfl, oj.dx, outD_shows (fun z hz => along_ok xs (some 0) z (show Bd 0 from ⟨by decide, by decide⟩) hz), ?_⟩⟩
    refine ⟨_, rfl, row, xs, rfl, sqL_extN (sA.seq hS) ej, ok, fun pc Hc sc nc oc => ⟨_, _, rfl, oc.dx, outD_shows (fun z hz => along_ok xs (some 0) z (show Bd 0 from ⟨by decide, by decide⟩) hz), rfl, ?_⟩⟩
    have e1 : decide (V.str (PyData.shown (outD (alongL (some 0) xs))) = V.str (PyData.shown (outD (alongL (some 0) xs)))) = true := by simp
    rw [e1]
    exact k _ (((LamX.ExtN.of sA).trans ej).trans (LamX.ExtN.of sc)) (Tj.ext sc)
end
end Ev

set_option Elab.async false
set_option linter.all false
set_option maxRecDepth 100000
set_option maxHeartbeats 4000000
/-! k01: what the law's own body asks. -/
namespace Ev
open PySem PySem.Spec PyProof.Rows L2

theorem But.tabs {p : Addr} {H H' : Hp} {T : List (Addr × Str)} {l : List V} (b : But p H H') (h : H p = some (.lst l)) (t : LamX.Tabs T H) : LamX.Tabs T H' := fun x hx => by
  obtain ⟨ps, h1, h2, h3⟩ := t x hx
  refine ⟨ps, b _ _ h1 (fun z => by rw [z, h] at h1; cases h1), h2, fun pos cv hc => ?_⟩
  obtain ⟨c, e1, e2⟩ := h3 pos cv hc
  refine ⟨c, e1, b _ _ e2 fun z => ?_⟩
  rw [z, h] at e2
  unfold LamX.CodeO at e2
  cases e2
theorem PenAt.extN {H H' : Hp} {p l : Addr} {cs : List Int} {i r : Int} (h : PenAt H p l cs i r) (e : LamX.ExtN H H') : PenAt H' p l cs i r := ⟨e _ _ h.pen (fun ps z => nomatch z), e _ _ h.cells (fun ps z => nomatch z), h.ne, h.len, h.lo⟩
/-- the odd things -/
def oddV (a1 a2 a3 a4 : Addr) : List V := [.bl true, .bl false, .str "0", .str "none", .ref a1, .ref a2, .ref a3, .int ((10 : Int) ^ (6 : Int).toNat + 1), .int (-(10 : Int) ^ (6 : Int).toNat - 1), .int ((10 : Int) ^ (39 : Int).toNat), .ref a4, .str ""]
structure OddX (H : Hp) (ol a1 a2 a3 a4 : Addr) : Prop where
  o : H ol = some (.lst (oddV a1 a2 a3 a4))
  h1 : H a1 = some (.lst [.int 0])
  h2 : H a2 = some (.tup [])
  h3 : H a3 = some (.dK [])
  h4 : H a4 = some (.lst [.non])
theorem OddX.extN {H H' : Hp} {ol a1 a2 a3 a4 : Addr} (h : OddX H ol a1 a2 a3 a4) (e : LamX.ExtN H H') : OddX H' ol a1 a2 a3 a4 :=
  ⟨e _ _ h.o (fun ps z => nomatch z), e _ _ h.h1 (fun ps z => nomatch z), e _ _ h.h2 (fun ps z => nomatch z), e _ _ h.h3 (fun ps z => nomatch z), e _ _ h.h4 fun ps z => nomatch z⟩
structure NeP (p ol a1 a2 a3 a4 : Addr) : Prop where
  o : ol ≠ p
  n1 : a1 ≠ p
  n2 : a2 ≠ p
  n3 : a3 ≠ p
  n4 : a4 ≠ p
theorem OddX.but {H H' : Hp} {p ol a1 a2 a3 a4 : Addr} (h : OddX H ol a1 a2 a3 a4) (n : NeP p ol a1 a2 a3 a4) (e : But p H H') : OddX H' ol a1 a2 a3 a4 :=
  ⟨e _ _ h.o n.o, e _ _ h.h1 n.n1, e _ _ h.h2 n.n2, e _ _ h.h3 n.n3, e _ _ h.h4 n.n4⟩
theorem noInt_of {K : PySem.W.Frag} {H : Hp} {x : V} {n : String} {b1 b2 : Bool} (t : TyX K H x (.type n)) (h1 : kitB n "int" = some b1) (h2 : kitB n "bool" = some b2) (h : (b1 && !b2) = false) : NoInt K H x := ⟨_, b1, b2, t, kit_ty h1, kit_ty h2, h⟩
theorem odd_item {K : PySem.W.Frag} {H : Hp} {ol a1 a2 a3 a4 : Addr} {y : V} (h : OddX H ol a1 a2 a3 a4) (m : y ∈ oddV a1 a2 a3 a4) : ∃ d, Dx K H y d ∧ Shows (.tuple [.str "lead", d]) ∧ NoLead K H y := by
  simp only [oddV, List.mem_cons, List.not_mem_nil, or_false] at m
  rcases m with rfl | rfl | rfl | rfl | rfl | rfl | rfl | rfl | rfl | rfl | rfl | rfl
  · exact ⟨_, .bl _, ⟨by decide +kernel, by decide +kernel, by decide +kernel, by decide +kernel⟩, .inr ⟨(fun z => nomatch z), noInt_of (b1 := true) (b2 := true) (.base (.bl _)) (by decide +kernel) (by decide +kernel) rfl⟩⟩
  · exact ⟨_, .bl _, ⟨by decide +kernel, by decide +kernel, by decide +kernel, by decide +kernel⟩, .inr ⟨(fun z => nomatch z), noInt_of (b1 := true) (b2 := true) (.base (.bl _)) (by decide +kernel) (by decide +kernel) rfl⟩⟩
  · exact ⟨_, .str _, ⟨by decide +kernel, by decide +kernel, by decide +kernel, by decide +kernel⟩, .inr ⟨(fun z => nomatch z), noInt_of (b1 := false) (b2 := false) (.base (.str _)) (by decide +kernel) (by decide +kernel) rfl⟩⟩
  · exact ⟨_, .str _, ⟨by decide +kernel, by decide +kernel, by decide +kernel, by decide +kernel⟩, .inr ⟨(fun z => nomatch z), noInt_of (b1 := false) (b2 := false) (.base (.str _)) (by decide +kernel) (by decide +kernel) rfl⟩⟩
  · exact ⟨.list [.int 0], .lst (SqL.of h.h1) (.cons (.int 0) .nil), ⟨by decide +kernel, by decide +kernel, by decide +kernel, by decide +kernel⟩, .inr ⟨(fun z => nomatch z), noInt_of (b1 := false) (b2 := false) (.base (.lst h.h1)) (by decide +kernel) (by decide +kernel) rfl⟩⟩
  · exact ⟨.tuple [], .tup (SqT.of h.h2) .nil, ⟨by decide +kernel, by decide +kernel, by decide +kernel, by decide +kernel⟩, .inr ⟨(fun z => nomatch z), noInt_of (b1 := false) (b2 := false) (.base (.tup h.h2)) (by decide +kernel) (by decide +kernel) rfl⟩⟩
  · exact ⟨.dict [], .dict h.h3, ⟨by decide +kernel, by decide +kernel, by decide +kernel, by decide +kernel⟩, .inr ⟨(fun z => nomatch z), noInt_of (b1 := false) (b2 := false) (.base (.dK h.h3)) (by decide +kernel) (by decide +kernel) rfl⟩⟩
  · exact ⟨_, .int _, ⟨by decide +kernel, by decide +kernel, by decide +kernel, by decide +kernel⟩, .inl ⟨_, rfl, by decide +kernel⟩⟩
  · exact ⟨_, .int _, ⟨by decide +kernel, by decide +kernel, by decide +kernel, by decide +kernel⟩, .inl ⟨_, rfl, by decide +kernel⟩⟩
  · exact ⟨_, .int _, ⟨by decide +kernel, by decide +kernel, by decide +kernel, by decide +kernel⟩, .inl ⟨_, rfl, by decide +kernel⟩⟩
  · exact ⟨.list [.none], .lst (SqL.of h.h4) (.cons .non .nil), ⟨by decide +kernel, by decide +kernel, by decide +kernel, by decide +kernel⟩, .inr ⟨(fun z => nomatch z), noInt_of (b1 := false) (b2 := false) (.base (.lst h.h4)) (by decide +kernel) (by decide +kernel) rfl⟩⟩
  · exact ⟨_, .str _, ⟨by decide +kernel, by decide +kernel, by decide +kernel, by decide +kernel⟩, .inr ⟨(fun z => nomatch z), noInt_of (b1 := false) (b2 := false) (.base (.str _)) (by decide +kernel) (by decide +kernel) rfl⟩⟩
theorem at_mem {vs : List V} {v : Int} (h0 : 0 ≤ v) (h1 : v < vs.length) : ∃ y, y ∈ vs ∧ atI vs v = some y := by
  obtain ⟨j, e⟩ := Int.eq_ofNat_of_zero_le h0
  rw [e] at h1 ⊢
  have hl : j < vs.length := by omega
  refine ⟨vs[j], List.getElem_mem hl, atI_nat ?_⟩
  simp [hl]
theorem ttk_lead {K : PySem.W.Frag} {C CT CI : Addr} {y : V} {σ : L2.St} {H : Hp} {Q : VK} {i : Nat} (hi : σ[i]? = some (some y)) (hno : ∀ H', Same H H' → NoLead K H' y) (k : ∀ po H7, Same H H7 → H7 po = some (.tup [.str "lead", y]) → Q (.ref po) H7) :
    TTk CT CI (fun E H' Q' => tMake C (spN K C CI) [] E (tCons (tVar i) tNil) σ H' Q') H Q := by
  refine ⟨_, hi, fun x dx hx hdx hn => ?_⟩
  have sm : Same H (upd (upd H dx (.own x)) x (.ins C dx [])) := fun b o e => by
    rw [upd_ne (ne_of_none e hx), upd_ne (ne_of_none e hdx)]
    exact e
  refine ⟨x, dx, _, rfl, upd_same, .inr ⟨hno _ sm, fun d hd => ⟨d, y, rfl, .inr ⟨rfl, upd_same, fun p H2 s2 n2 h2 => ?_⟩⟩⟩⟩
  exact k p H2 ((sm.trans (same_upd hd)).trans s2) h2
end Ev

set_option Elab.async false
set_option linter.all false
set_option maxRecDepth 100000
set_option maxHeartbeats 4000000
/-! k01: law. -/
namespace Ev
open PySem PySem.Spec PyProof.Rows L2

abbrev sLaw : Stmt := topS 28
abbrev NL : List Str := ["_law_script", "_law_pen_here", "_law_odd", "_law_turn", "_law_x", "_law_y", "_law_row", "_law_thing", "_law_step"]
def spLaw (K : PySem.W.Frag) (T : List (Addr × Str)) : Sp := fun vs H Q E => ∃ (a : Addr) (ns : List Int), vs = [.ref a] ∧ SqL K H a (ns.map V.int) ∧ ns.length ≤ 63 ∧ LamX.Tabs T H ∧ ∀ H', Q (.bl true) H'
/-- a def that shows things -/
structure DefG (K : PySem.W.Frag) (mg : Str → Option Value) (x : Str) (ps : List Str) (f : Addr) (fd : FuncData) : Prop where
  m : mg x = some (.ref f)
  k : PySem.W.keepIn K (.ref f) = true
  b : L2.Binds K fd ps []
theorem sqT_same {K : PySem.W.Frag} {H H' : Hp} {a : Addr} {xs : List V} (h : SqT K H a xs) (e : Same H H') : SqT K H' a xs := by
  rcases h with h | h
  · rcases h with h | ⟨o, h⟩
    · exact .inl (.inl (e _ _ h))
    · exact .inl (.inr ⟨o, e _ _ h⟩)
  · exact .inr h
def row1 : List (Option Int) := [some ((10 : Int) ^ (6 : Int).toNat), some 1, some (-1)]
def row2 : List (Option Int) := [none, some ((10 : Int) ^ (6 : Int).toNat), some ((10 : Int) ^ (6 : Int).toNat)]
def row3 : List (Option Int) := [some ((10 : Int) ^ (6 : Int).toNat), none, some 5]
def row4 : List (Option Int) := [some (-(10 : Int) ^ (6 : Int).toNat), some (-1), none]
def row5 : List (Option Int) := [some 2, some 7, some 1, some 9]
structure Rows6 (H : Hp) (q1 q2 q3 q4 q5 q6 : Addr) : Prop where
  g1 : H q1 = some (.lst (row1.map ldV))
  g2 : H q2 = some (.lst (row2.map ldV))
  g3 : H q3 = some (.lst (row3.map ldV))
  g4 : H q4 = some (.lst (row4.map ldV))
  g5 : H q5 = some (.lst (row5.map ldV))
  g6 : H q6 = some (.lst [V.ref q1, V.ref q2, V.ref q3, V.ref q4, V.ref q5])
theorem Rows6.extN {H H' : Hp} {q1 q2 q3 q4 q5 q6 : Addr} (h : Rows6 H q1 q2 q3 q4 q5 q6) (e : LamX.ExtN H H') : Rows6 H' q1 q2 q3 q4 q5 q6 :=
  ⟨e _ _ h.g1 (fun ps z => nomatch z), e _ _ h.g2 (fun ps z => nomatch z), e _ _ h.g3 (fun ps z => nomatch z), e _ _ h.g4 (fun ps z => nomatch z), e _ _ h.g5 (fun ps z => nomatch z), e _ _ h.g6 (fun ps z => nomatch z)⟩
theorem rows_ok : (∀ x ∈ row1, LdOk x) ∧ (∀ x ∈ row2, LdOk x) ∧ (∀ x ∈ row3, LdOk x) ∧ (∀ x ∈ row4, LdOk x) ∧ (∀ x ∈ row5, LdOk x) := by
  have e6 : (10 : Int) ^ (6 : Int).toNat = 1000000 := by decide
  refine ⟨?_, ?_, ?_, ?_, ?_⟩
  all_goals (intro x hx; simp only [row1, row2, row3, row4, row5, List.mem_cons, List.not_mem_nil, or_false] at hx)
  all_goals (rcases hx with rfl | rfl | rfl | rfl <;> first | trivial | (show Bd _; unfold Bd; omega) | (show Bd _; rw [e6]; exact ⟨by decide, by decide⟩))
mutual
theorem Dx.same {K : PySem.W.Frag} {H H' : Hp} {v : V} {d : PyData} (h : Dx K H v d) (s : Same H H') : Dx K H' v d := by
  cases h with
  | non => exact .non
  | bl b => exact .bl b
  | int i => exact .int i
  | str x => exact .str x
  | dict e => exact .dict (s _ _ e)
  | lst hq ha => exact .lst (s.seq hq) (DxAll.same ha s)
  | tup hq ha => exact .tup (sqT_same hq s) (DxAll.same ha s)
theorem DxAll.same {K : PySem.W.Frag} {H H' : Hp} {vs : List V} {ds : List PyData} (h : DxAll K H vs ds) (s : Same H H') : DxAll K H' vs ds := by
  cases h with
  | nil => exact .nil
  | cons a b => exact .cons (a.same s) (DxAll.same b s)
end
section
variable {P : Program} {w : World} {K : PySem.W.Frag} {mg : Str → Option Value} {base : Heap} {C CF CT CJ CS CB CI CP CX CW c Pt : Addr} {T : List (Addr × Str)}
theorem sc29 : FnScope NL ["_law_script"] (defScope sLaw) := ⟨rfl, rfl, rfl, by decide +kernel, rfl, by decide +kernel, by decide +kernel⟩
theorem ok_law {f fN fE fAl fBe fPn fD fV fP fA fR fT : Addr} {fd fdN fdE fdPn fdD fdV fdP fdA fdR fdT : FuncData} (F : FunC K "law" "law" sLaw f fd c) (L : TxL K mg C) (E : TxE K mg CF CT CJ CS CB CI CP CX CW)
    (ML : MkL K C fN fdN) (GN : FnOk P w K mg base (L2.CX P w) 3 fN fdN ["self", "value"] (spN K C CI))
    (GE : FnOk P w K mg base CX0 1 fE fdE ["self", "other"] (spEq K C)) (bE : L2.Binds K fdE ["self", "other"] []) (sE : Spec K C (cmpInfo .Eq).2.1 fE) (nf : PySem.W.notFirst K C (.ref C) = true)
    (GAl : FnR P w K mg base (L2.CX P w) 6 fAl (spAlong C CT)) (kAl : PySem.W.keepIn K (.ref fAl) = true) (mAl : mg "along" = some (.ref fAl))
    (GBe : FnR P w K mg base CX0 6 fBe (spBest C)) (kBe : PySem.W.keepIn K (.ref fBe) = true) (mBe : mg "best" = some (.ref fBe))
    (DPn : DefG K mg "_law_pen" ["_law_script"] fPn fdPn) (GPn : FnOk P w K mg base CX0 1 fPn fdPn ["_law_script"] (spPen K))
    (DD : DefG K mg "_law_draw" ["_law_pen_here", "_law_many"] fD fdD) (GD : FnOk P w K mg base CX0 1 fD fdD ["_law_pen_here", "_law_many"] spDraw)
    (DV : DefG K mg "_law_value" ["_law_pen_here"] fV fdV) (GV : FnOk P w K mg base CX0 2 fV fdV ["_law_pen_here"] spVal)
    (DP : DefG K mg "_law_pair_right" ["_law_x", "_law_y"] fP fdP) (GP : FnG P w K mg base CX0 8 fP fdP ["_law_x", "_law_y"] (spPair T))
    (DA : DefG K mg "_law_alone_right" ["_law_x"] fA fdA) (GA : FnG P w K mg base CX0 7 fA fdA ["_law_x"] spAlone)
    (DR : DefG K mg "_law_row_right" ["_law_row"] fR fdR) (GR : FnG P w K mg base CX0 10 fR fdR ["_law_row"] (spRow K T))
    (DT : DefT K mg "_law_told" sTold ["_law_ask"] fT fdT) (B : TbT T mg base c Pt "law.<locals>.<lambda>") (mr : mg "repr" = none) (mg_r : mg "range" = none) :
    FnG P w K mg base CX0 11 f fd ["_law_script"] (spLaw K T) := by
  refine okGC F sc29 (fun vs H Q E h => ?_) (fun A outer s H vs Q E' hgd hr h => ?_)
  · obtain ⟨a, ns, rfl, _⟩ := h
    rfl
  · obtain ⟨a, ns, rfl, hS, hn, hT, k⟩ := h
    have hr1 : Room 1 _ := hr.mono (by decide)
    have hr2 : Room 2 _ := hr.mono (by decide)
    have hr4 : Room 4 _ := hr.mono (by decide)
    have hr6 : Room 6 _ := hr.mono (by decide)
    have hr7 : Room 7 _ := hr.mono (by decide)
    have hr8 : Room 8 _ := hr.mono (by decide)
    have hr10 : Room 10 _ := hr
    have hu : (A.deeper (envOfC "law" (defScope sLaw) s.heap.objs.size f (.ref c))).units + 70 < cLine := by have := hr1.un; omega
    let X : Cx := (cxOf CX0 P w K mg base NL "law" (defScope sLaw) f (.ref c) A outer s H E').nox
    have hR : CallR X (.builtin "repr") (fun xs H Q => ∃ v d, xs = [v] ∧ Dx X.K H v d ∧ Shows d ∧ Q (.str d.shown) H) := call_reprD hgd hu
    refine ⟨_, pss_cons (ps_set (i := 1) sc29.nd rfl (Or.inr rfl) (pe_call GPn hr1 rfl DPn.m DPn.k DPn.b .nil pass0 (pa_cons (pv 0) pa_nil)))
      (pss_cons (ps_set (i := 2) sc29.nd rfl (Or.inl rfl) (pe_lst (pa_cons pe_bl (pa_cons pe_bl (pa_cons pe_str (pa_cons pe_str (pa_cons (pe_lst (pa_cons pe_int pa_nil)) (pa_cons (pe_tup pa_nil) (pa_cons pe_dnewK
          (pa_cons (pe_op op_add (pe_op op_pow pe_int pe_int) pe_int) (pa_cons (pe_op op_sub (pe_un un_neg (pe_op op_pow pe_int pe_int)) pe_int) (pa_cons (pe_op op_pow pe_int pe_int) (pa_cons (pe_lst (pa_cons pe_non pa_nil)) (pa_cons pe_str pa_nil))))))))))))))
      (pss_cons (ps_for PassesOwn.never rfl (pi_range1 rfl mg_r (pa_cons pe_int pa_nil)) (pg_name (i := 3) sc29.nd rfl (Or.inl rfl))
        (pss_cons (ps_par (i := 4) (j := 5) rfl sc29.nd rfl rfl (by decide) rfl rfl (pa_cons (pe_call GV hr2 rfl DV.m DV.k DV.b .nil pass0 (pa_cons (pv 1) pa_nil)) (pa_cons (pe_call GV hr2 rfl DV.m DV.k DV.b .nil pass0 (pa_cons (pv 1) pa_nil)) pa_nil)) rfl)
        (pss_cons (ps_if (PW.pt (pw_or (pt_not (pt_val (pe_callG GP hr8 hgd rfl DP.m DP.k DP.b (pa_cons (pv 4) (pa_cons (pv 5) pa_nil))))) (pw_or (pt_not (pt_val (pe_callG GP hr8 hgd rfl DP.m DP.k DP.b (pa_cons (pv 5) (pa_cons (pv 4) pa_nil)))))
            (pw_or1 (pt_not (pt_val (pe_callG GP hr8 hgd rfl DP.m DP.k DP.b (pa_cons (pv 4) (pa_cons (pv 4) pa_nil))))))))) (pss_one ps_never) pss_nil)
        (pss_cons (ps_if (pt_not (pt_val (pe_callG GA hr7 hgd rfl DA.m DA.k DA.b (pa_cons (pv 4) pa_nil)))) (pss_one ps_never) pss_nil)
        (pss_cons (ps_set (i := 7) sc29.nd rfl (Or.inr rfl) (pe_ix ix_list (pv 2) (pe_call GD hr1 rfl DD.m DD.k DD.b .nil pass0 (pa_cons (pv 1) (pa_cons pe_int pa_nil))) (fun _ _ => rfl)))
        (pss_cons (ps_if (pt_cmpR op_ne (pe_callB hR (by rfl) mr boot_repr' (pa_cons (pe_told (t := fun E => tMake C (spN K C CI) [] E (tCons (tVar 7) tNil)) E DT rfl B rfl hr6 (LamX.lamS_by (sc := defScope sLaw) (by decide +kernel)) rfl (fun _ _ _ _ _ => rfl)
            (fun A outer s H E f c' hr' => pe_make ML.M GN hr' (by rfl) L.mC ML.b1 .nil (passes_call (takes_of rfl rfl rfl rfl) (fun _ _ _ _ h => h)) (pa_cons (pv 7) pa_nil))) pa_nil))
            (pe_callB hR (by rfl) mr boot_repr' (pa_cons (pe_tup (pa_cons pe_str (pa_cons (pv 7) pa_nil))) pa_nil)) (nomark _)) (pss_one ps_never) pss_nil)
        (pss_one (ps_if (pt_not (pt_val (pe_callG GR hr10 hgd rfl DR.m DR.k DR.b (pa_cons (pe_lc (own := [("_law_step", 8)]) (g := gName 8) (tt := tYes) rfl sc29.nd (pi_range1 rfl mg_r (pa_cons (pe_call GD hr1 rfl DD.m DD.k DD.b .nil pass0 (pa_cons (pv 1) (pa_cons pe_int pa_nil))) pa_nil)) (blkOk_by (N := NL) (sc := defScope sLaw) (by decide +kernel))
            (fun _ _ _ _ _ => pg_name (i := 8) sc29.nd rfl (Or.inl rfl)) (fun _ _ _ _ _ => pts_nil) (fun _ _ _ _ _ => pe_call GV hr2 rfl DV.m DV.k DV.b .nil pass0 (pa_cons (pv 1) pa_nil))) pa_nil)))) (pss_one ps_never) pss_nil))))))))
      (pss_cons (ps_for PassesOwn.never rfl (pi_list (pe_lst (pa_cons (pe_lst (pa_cons (pe_op op_pow pe_int pe_int) (pa_cons pe_int (pa_cons (pe_un un_neg pe_int) pa_nil)))) (pa_cons (pe_lst (pa_cons pe_non (pa_cons (pe_op op_pow pe_int pe_int) (pa_cons (pe_op op_pow pe_int pe_int) pa_nil))))
          (pa_cons (pe_lst (pa_cons (pe_op op_pow pe_int pe_int) (pa_cons pe_non (pa_cons pe_int pa_nil)))) (pa_cons (pe_lst (pa_cons (pe_un un_neg (pe_op op_pow pe_int pe_int)) (pa_cons (pe_un un_neg pe_int) (pa_cons pe_non pa_nil))))
          (pa_cons (pe_lst (pa_cons pe_int (pa_cons pe_int (pa_cons pe_int (pa_cons pe_int pa_nil))))) pa_nil))))))) (pg_name (i := 6) sc29.nd rfl (Or.inl rfl))
        (pss_one (ps_if (pt_not (pt_val (pe_callG GR hr10 hgd rfl DR.m DR.k DR.b (pa_cons (pv 6) pa_nil)))) (pss_one ps_never) pss_nil)))
      (pss_cons (ps_if (PW.pt (pw_or (pt_cmpR op_notN (pe_fld (pe_make0 ML.M GN hr4 (by rfl) L.mC ML.b0 (.cons (a := V.non) rfl .nil) passL) rfl) pe_non (nomark _)) (pw_or (pt_cmpR op_ne (ClX.pe_cval (pe_glob (by rfl) L.mC (v := .ref C) rfl)) (pe_op op_pow pe_int pe_int) (nomark _))
          (pw_or (pt_cmpR op_ne (pe_fld (pe_callF0 GAl hr6 kAl (by rfl) mAl passL) rfl) pe_int (nomark _)) (pw_or1 (pt_cmpR op_notN (pe_fld (pe_callF0 GBe hr6 kBe (by rfl) mBe pass0) rfl) pe_non (nomark _))))))) (pss_one ps_never) pss_nil)
      (pss_one (ps_ret (pe_and (pe_cmpR (op_cmp (op := .Eq) rfl GE hr1 bE pass0 sE) (pe_callF GAl hr6 kAl (by rfl) mAl passL (pa_cons (pe_make ML.M GN hr4 (by rfl) L.mC ML.b1 .nil passL (pa_cons (pe_un un_neg pe_int) pa_nil)) (pa_cons (pe_make ML.M GN hr4 (by rfl) L.mC ML.b1 .nil passL (pa_cons (pe_un un_neg pe_int) pa_nil)) (pa_cons (pe_make ML.M GN hr4 (by rfl) L.mC ML.b1 .nil passL (pa_cons pe_int pa_nil)) pa_nil))))
          (pe_make ML.M GN hr4 (by rfl) L.mC ML.b1 .nil passL (pa_cons (pe_un un_neg pe_int) pa_nil)) (nomark _))
        (pe_one (pe_cmpR (op_cmp (op := .Eq) rfl GE hr1 bE pass0 sE) (pe_callF GBe hr6 kBe (by rfl) mBe pass0 (pa_cons (pe_make0 ML.M GN hr4 (by rfl) L.mC ML.b0 (.cons (a := V.non) rfl .nil) passL) (pa_cons (pe_make ML.M GN hr4 (by rfl) L.mC ML.b1 .nil passL (pa_cons (pe_un un_neg pe_int) pa_nil)) (pa_cons (pe_make ML.M GN hr4 (by rfl) L.mC ML.b1 .nil passL (pa_cons (pe_un un_neg pe_int) pa_nil)) pa_nil))))
          (pe_make ML.M GN hr4 (by rfl) L.mC ML.b1 .nil passL (pa_cons (pe_un un_neg pe_int) pa_nil)) (nomark _)))))))))), ?_⟩
    refine ⟨_, rfl, a, ns, rfl, hS, hn, fun pen l H1 s1 np hP nl => ?_⟩
    refine ⟨by show 1 ≤ sizeLine; decide, fun a1 h1 => ⟨by show 0 ≤ sizeLine; decide, fun a2 h2 a3 h3 => ⟨10, 6, rfl, rfl, ⟨by decide, by decide, by decide⟩, _, _, rfl, rfl, 10, 6, rfl, rfl, ⟨by decide, by decide, by decide⟩, _, rfl, _, _, rfl, rfl, 10, 39, rfl, rfl, ⟨by decide, by decide, by decide⟩, by show 1 ≤ sizeLine; decide, fun a4 h4 => ⟨by show 12 ≤ sizeLine; decide, fun ol hol => ?_⟩⟩⟩⟩
    -- the odd things stand
    have j1 : Same H1 (upd H1 a1 (.lst [.int 0])) := same_upd h1
    have g1 : (upd H1 a1 (.lst [.int 0])) a1 = some (.lst [.int 0]) := upd_same
    have ne1 : a1 ≠ pen := fun z => ne_of_none hP.pen h1 z.symm
    have hP1 := hP.same j1
    generalize upd H1 a1 (.lst [.int 0]) = M1 at j1 g1 hP1 h2 h3 h4 hol ⊢
    have j2 : Same M1 (upd M1 a2 (.tup [])) := same_upd h2
    have g2 : (upd M1 a2 (.tup [])) a2 = some (.tup []) := upd_same
    have ne2 : a2 ≠ pen := fun z => ne_of_none hP1.pen h2 z.symm
    have hP2 := hP1.same j2
    generalize upd M1 a2 (.tup []) = M2 at j2 g2 hP2 h3 h4 hol ⊢
    have j3 : Same M2 (upd M2 a3 (.dK [])) := same_upd h3
    have g3 : (upd M2 a3 (.dK [])) a3 = some (.dK []) := upd_same
    have ne3 : a3 ≠ pen := fun z => ne_of_none hP2.pen h3 z.symm
    have hP3 := hP2.same j3
    generalize upd M2 a3 (.dK []) = M3 at j3 g3 hP3 h4 hol ⊢
    have j4 : Same M3 (upd M3 a4 (.lst [.non])) := same_upd h4
    have g4 : (upd M3 a4 (.lst [.non])) a4 = some (.lst [.non]) := upd_same
    have ne4 : a4 ≠ pen := fun z => ne_of_none hP3.pen h4 z.symm
    have hP4 := hP3.same j4
    generalize upd M3 a4 (.lst [.non]) = M4 at j4 g4 hP4 hol ⊢
    have j5 : Same M4 (upd M4 ol (.lst (oddV a1 a2 a3 a4))) := same_upd hol
    have g5 : (upd M4 ol (.lst (oddV a1 a2 a3 a4))) ol = some (.lst (oddV a1 a2 a3 a4)) := upd_same
    have ne5 : ol ≠ pen := fun z => ne_of_none hP4.pen hol z.symm
    have hP5 := hP4.same j5
    have NP : NeP pen ol a1 a2 a3 a4 := ⟨ne5, ne1, ne2, ne3, ne4⟩
    have OX : OddX (upd M4 ol (.lst (oddV a1 a2 a3 a4))) ol a1 a2 a3 a4 := ⟨g5, j5 _ _ (j4 _ _ (j3 _ _ (j2 _ _ g1))), j5 _ _ (j4 _ _ (j3 _ _ g2)), j5 _ _ (j4 _ _ g3), j5 _ _ g4⟩
    have T5 : LamX.Tabs T (upd M4 ol (.lst (oddV a1 a2 a3 a4))) := hT.ext (s1.trans (j1.trans (j2.trans (j3.trans (j4.trans j5)))))
    show tSeq _ _ _ _ (upd M4 ol (.lst (oddV a1 a2 a3 a4)))
    generalize upd M4 ol (.lst (oddV a1 a2 a3 a4)) = M5 at hP5 OX T5 ⊢
    -- six turns
    refine ⟨6, rfl, by decide, by decide, for_range (n := 6) (fun i σ H' => ∃ v3 v4 v5 v7 at' r, σ = [some (.ref a), some (.ref pen), some (.ref ol), v3, v4, v5, none, v7, none] ∧ PenAt H' pen l ns at' r ∧ at' ≤ 25 * i ∧ OddX H' ol a1 a2 a3 a4 ∧ LamX.Tabs T H')
      ⟨none, none, none, none, 0, 0, rfl, hP5, by decide, OX, T5⟩ ?_ ?_⟩
    · rintro i σ H' hi ⟨v3, v4, v5, v7, at', r, rfl, P0, le0, O0, T0⟩
      refine ⟨_, rfl, pen, l, ns, at', r, rfl, P0, by omega, fun x i1 r1 H1 okx b1 P1 B1 => ⟨_, rfl, pen, l, ns, i1, r1, rfl, P1, by omega, fun y i2 r2 H2 oky b2 P2 B2 => ⟨_, _, rfl, ?_⟩⟩⟩
      have B02 := B1.trans B2
      have O2 := O0.but NP B02
      have T2 := B02.tabs P0.pen T0
      refine ⟨_, rfl, _, rfl, x, y, rfl, okx, oky, T2, fun H3 e3 T3 => ⟨_, rfl, iteF ?_⟩⟩
      refine ⟨_, rfl, _, rfl, y, x, rfl, oky, okx, T3, fun H4 e4 T4 => ⟨_, rfl, iteF ?_⟩⟩
      refine ⟨_, rfl, _, rfl, x, x, rfl, okx, okx, T4, fun H5 e5 T5 => ⟨_, rfl, iteF ?_⟩⟩
      have e25 := (e3.trans e4).trans e5
      refine ⟨_, rfl, x, rfl, okx, fun H6 s6 => ⟨_, rfl, iteF ?_⟩⟩
      have e26 := e25.trans (LamX.ExtN.of s6)
      have T6 := T5.ext s6
      have P6 := P2.extN e26
      have O6 := O2.extN e26
      -- an odd thing
      refine ⟨_, rfl, _, rfl, pen, l, ns, i2, r2, 12, rfl, P6, by omega, by decide, by decide, fun v i7 r7 H7 v0 v1 b7 P7 B7 => ?_⟩
      have O7 := O6.but NP B7
      have T7 := B7.tabs P6.pen T6
      obtain ⟨z, mz, ez⟩ := at_mem (vs := oddV a1 a2 a3 a4) v0 v1
      refine ⟨ol, _, v, z, rfl, rfl, SqL.of O7.o, ez, ?_⟩
      refine ⟨T7, fun H8 e8 T8 => ttk_lead rfl (fun H' s' => ?_) fun po H9 s9 o9 => ?_⟩
      · obtain ⟨_, _, _, no⟩ := odd_item (K := K) ((O7.extN e8).extN (LamX.ExtN.of s')) mz
        exact no
      have e79 := e8.trans (LamX.ExtN.of s9)
      have O9 := O7.extN e79
      have T9 := T8.ext s9
      have P9 := P7.extN e79
      obtain ⟨d, dz, sd, _⟩ := odd_item (K := K) O9 mz
      refine ⟨_, _, rfl, .tup (SqT.of o9) (.cons (.str _) (.cons dz .nil)), sd, _, rfl, by show 2 ≤ sizeLine; decide, fun q hq => ?_⟩
      have sq : Same H9 (upd H9 q (.tup [V.str "lead", z])) := same_upd hq
      have Oq := O9.extN (LamX.ExtN.of sq)
      obtain ⟨d', dz', sd', _⟩ := odd_item (K := K) Oq mz
      have dd : Dx K (upd H9 q (.tup [V.str "lead", z])) z d := dz.same sq
      refine ⟨_, _, rfl, .tup (SqT.of upd_same) (.cons (.str _) (.cons dd .nil)), sd, rfl, _, rfl, ifF (by simp) ?_⟩
      have Tq := T9.ext sq
      have Pq := P9.same sq
      generalize upd H9 q (.tup [V.str "lead", z]) = H10 at sq Oq Tq Pq ⊢
      -- a row
      refine ⟨_, rfl, pen, l, ns, i7, r7, 5, rfl, Pq, by omega, by decide, by decide, fun n i11 r11 H11 n0 n5 b11 P11 B11 => ⟨n, rfl, by omega, by omega, fun D hD => ?_⟩⟩
      have O11 := Oq.but NP B11
      have T11 := B11.tabs Pq.pen Tq
      refine lc_range (lo := 0) (n := n.toNat) (fun j H' => ∃ (xs : List (Option Int)) (at2 rr : Int), H' D = some (.lst (xs.map ldV)) ∧ xs.length = j ∧ (∀ x ∈ xs, LdOk x) ∧ PenAt H' pen l ns at2 rr ∧ at2 ≤ i11 + 3 * j ∧ But pen H11 H') ?_ ?_ ?_
      · exact ⟨[], i11, r11, upd_same, rfl, fun x hx => (by cases hx), P11.same (same_upd hD), by omega, Same.but (same_upd hD)⟩
      · rintro j H' hj ⟨xs, at2, rr, h1, h2, h3, h4, h5, h6⟩
        refine ⟨wipe_eq, _, rfl, pen, l, ns, at2, rr, rfl, h4, by omega, fun x i12 r12 H12 okx' b12 P12 B12 => ?_⟩
        have nD : D ≠ pen := fun z => ne_of_none P11.pen hD z.symm
        refine ⟨_, B12 _ _ h1 nD, ?_, xs ++ [x], i12, r12, ?_, ?_, ?_, ?_, ?_, ?_⟩
        · rw [List.length_map]
          have hb : (100 : Nat) ≤ sizeLine := by rw [sizeLine_eq]; decide
          omega
        · rw [upd_same, List.map_append]; rfl
        · rw [List.length_append, h2]; rfl
        · intro u hu'
          rcases List.mem_append.mp hu' with q | q
          · exact h3 u q
          · rw [List.mem_singleton.mp q]; exact okx'
        · exact ⟨by rw [upd_ne nD.symm]; exact P12.pen, by rw [upd_ne (ne_of_none P11.cells hD)]; exact P12.cells, P12.ne, P12.len, P12.lo⟩
        · omega
        · intro b o e nb
          rw [upd_ne (ne_of_none e hD)]
          exact B12 _ _ (h6 _ _ e nb) nb
      rintro H12 ⟨xs, at2, rr, h1, h2, h3, h4, h5, h6⟩
      refine ⟨D, xs, rfl, SqL.of h1, by omega, h3, h6.tabs P11.pen T11, fun H13 e13 T13 => ⟨_, rfl, iteF ?_⟩⟩
      refine ⟨_, _, _, _, at2, rr, rfl, h4.extN e13, by omega, (O11.but NP h6).extN e13, T13⟩
    rintro σ H' ⟨v3, v4, v5, v7, at', r, rfl, P0, le0, O0, T0⟩
    refine ⟨10, 6, rfl, rfl, ⟨by decide, by decide, by decide⟩, _, rfl, by show 3 ≤ sizeLine; decide, fun q1 k1 => ⟨10, 6, rfl, rfl, ⟨by decide, by decide, by decide⟩, 10, 6, rfl, rfl, ⟨by decide, by decide, by decide⟩, by show 3 ≤ sizeLine; decide, fun q2 k2 => ⟨10, 6, rfl, rfl, ⟨by decide, by decide, by decide⟩, by show 3 ≤ sizeLine; decide, fun q3 k3 =>
      ⟨10, 6, rfl, rfl, ⟨by decide, by decide, by decide⟩, _, rfl, _, rfl, by show 3 ≤ sizeLine; decide, fun q4 k4 => ⟨by show 4 ≤ sizeLine; decide, fun q5 k5 => ⟨by show 5 ≤ sizeLine; decide, fun q6 k6 => ⟨q6, rfl, ⟨_, SqL.of upd_same⟩, ?_⟩⟩⟩⟩⟩⟩⟩
    have j1 := same_upd (o := .lst (row1.map ldV)) k1
    have g1 : (upd H' q1 (.lst (row1.map ldV))) q1 = some (.lst (row1.map ldV)) := upd_same
    have j2 := same_upd (o := .lst (row2.map ldV)) k2
    have g2 : (upd (upd H' q1 (.lst (row1.map ldV))) q2 (.lst (row2.map ldV))) q2 = some (.lst (row2.map ldV)) := upd_same
    have j3 := same_upd (o := .lst (row3.map ldV)) k3
    have j4 := same_upd (o := .lst (row4.map ldV)) k4
    have j5 := same_upd (o := .lst (row5.map ldV)) k5
    have j6 := same_upd (o := .lst [V.ref q1, V.ref q2, V.ref q3, V.ref q4, V.ref q5]) k6
    have J := ((((j1.trans j2).trans j3).trans j4).trans j5).trans j6
    have G1 := j6 _ _ (j5 _ _ (j4 _ _ (j3 _ _ (j2 _ _ g1))))
    have G2 := j6 _ _ (j5 _ _ (j4 _ _ (j3 _ _ g2)))
    have G3 := j6 _ _ (j5 _ _ (j4 _ _ (upd_same (a := q3) (o := .lst (row3.map ldV)))))
    have G4 := j6 _ _ (j5 _ _ (upd_same (a := q4) (o := .lst (row4.map ldV))))
    have G5 := j6 _ _ (upd_same (a := q5) (o := .lst (row5.map ldV)))
    have G6 : (upd (upd (upd (upd (upd (upd H' q1 (.lst (row1.map ldV))) q2 (.lst (row2.map ldV))) q3 (.lst (row3.map ldV))) q4 (.lst (row4.map ldV))) q5 (.lst (row5.map ldV))) q6 (.lst [V.ref q1, V.ref q2, V.ref q3, V.ref q4, V.ref q5])) q6 = some (.lst [V.ref q1, V.ref q2, V.ref q3, V.ref q4, V.ref q5]) := upd_same
    have TJ := T0.ext J
    refine for_list (K := K) (a := q6) (xs := [V.ref q1, V.ref q2, V.ref q3, V.ref q4, V.ref q5]) (fun i σ H'' => (∃ v6, σ = [some (.ref a), some (.ref pen), some (.ref ol), v3, v4, v5, v6, v7, none]) ∧ Rows6 H'' q1 q2 q3 q4 q5 q6 ∧ LamX.Tabs T H'')
      ⟨⟨none, rfl⟩, ⟨G1, G2, G3, G4, G5, G6⟩, TJ⟩ (fun i σ H'' _ ⟨_, e, _⟩ => SqL.of e.g6) ?_ ?_
    · rintro i y σ H'' hi ⟨⟨v6, rfl⟩, e, T1⟩
      obtain ⟨q, xs, rfl, gq, lq, okq⟩ : ∃ (q : Addr) (xs : List (Option Int)), y = V.ref q ∧ H'' q = some (.lst (xs.map ldV)) ∧ xs.length ≤ 4 ∧ ∀ x ∈ xs, LdOk x := by
        have my := List.mem_of_getElem? hi
        simp only [List.mem_cons, List.not_mem_nil, or_false] at my
        rcases my with rfl | rfl | rfl | rfl | rfl
        · exact ⟨_, _, rfl, e.g1, by decide, rows_ok.1⟩
        · exact ⟨_, _, rfl, e.g2, by decide, rows_ok.2.1⟩
        · exact ⟨_, _, rfl, e.g3, by decide, rows_ok.2.2.1⟩
        · exact ⟨_, _, rfl, e.g4, by decide, rows_ok.2.2.2.1⟩
        · exact ⟨_, _, rfl, e.g5, by decide, rows_ok.2.2.2.2⟩
      exact ⟨_, rfl, q, xs, rfl, SqL.of gq, lq, okq, T1, fun H3 e3 T3 => ⟨_, rfl, iteF ⟨⟨_, rfl⟩, e.extN e3, T3⟩⟩⟩
    rintro σ H'' ⟨⟨v6, rfl⟩, e, T1⟩
    obtain ⟨mc, u, r1, r2⟩ := L.rd
    have e6 : (10 : Int) ^ (6 : Int).toNat = 1000000 := by decide
    refine fun xa da a1 b1 c1 => mades (y := none) trivial a1 b1 c1 fun H3 s3 l3 => ⟨rfl, ?_⟩
    obtain ⟨d3, l3⟩ := l3
    refine ⟨xa, C, d3, _, _, rfl, l3, L.cl, L.nV, by rfl, rfl, _, rfl, ifF (by rfl) ?_⟩
    refine ⟨C, mc, _, u, rfl, r1, r2, 10, 6, rfl, rfl, ⟨by decide, by decide, by decide⟩, rfl, _, rfl, ifF (by show (!decide (V.int 1000000 = V.int ((10 : Int) ^ (6 : Int).toNat))) = false; rw [e6]; simp) ?_⟩
    refine ⟨[], .nil, by show 0 ≤ 100; decide, fun z hz r4 H4 s4 n4 l4 => ?_, fun hz => nomatch hz⟩
    have ez : some 0 = z := Option.some.inj hz
    subst ez
    obtain ⟨d4, l4⟩ := l4
    refine ⟨r4, C, d4, _, _, rfl, l4, L.cl, L.nV, by rfl, rfl, _, rfl, ifF (by simp [ldV]) ?_⟩
    refine ⟨[], .nil, by show 0 ≤ 100; decide, fun r5 H5 s5 n5 l5 => ?_⟩
    obtain ⟨d5, l5⟩ := l5
    refine ⟨r5, C, d5, _, _, rfl, l5, L.cl, L.nV, by rfl, rfl, _, rfl, ifF (by rfl) ?_⟩
    -- along
    have ok1 : LdOk (some (-1)) := show Bd (-1) from ⟨by decide, by decide⟩
    have ok2 : LdOk (some (-2)) := show Bd (-2) from ⟨by decide, by decide⟩
    have ok0 : LdOk (some 0) := show Bd 0 from ⟨by decide, by decide⟩
    have ok3 : LdOk (some (-3)) := show Bd (-3) from ⟨by decide, by decide⟩
    have ok4 : LdOk (some (-4)) := show Bd (-4) from ⟨by decide, by decide⟩
    have ok5 : LdOk (some (-5)) := show Bd (-5) from ⟨by decide, by decide⟩
    have al : alongL (some 0) [some (-1), some (-2), some 0] = some (some (-3)) := by decide +kernel
    have be : bestL none [none, some (-5), some (-4)] = some (-4) := by decide +kernel
    refine ⟨_, rfl, fun x1 dx1 a1 b1 c1 => mades (y := some (-1)) ok1 a1 b1 c1 fun H6 s6 l6 => ⟨rfl, ?_⟩⟩
    refine ⟨_, rfl, fun x2 dx2 a2 b2 c2 => mades (y := some (-2)) ok2 a2 b2 c2 fun H7 s7 l7 => ⟨rfl, ?_⟩⟩
    refine fun x3 dx3 a3 b3 c3 => mades (y := some 0) ok0 a3 b3 c3 fun H8 s8 l8 => ⟨rfl, ?_⟩
    refine ⟨[some (-1), some (-2), some 0], .cons ((l6.same s7).same s8) ok1 (.cons (l7.same s8) ok2 (.cons l8 ok0 .nil)), by show 3 ≤ 100; decide, fun z hz r9 H9 s9 n9 l9 => ?_, fun hz => (by rw [al] at hz; cases hz)⟩
    rw [al] at hz
    cases hz
    refine ⟨_, rfl, fun x4 dx4 a4 b4 c4 => mades (y := some (-3)) ok3 a4 b4 c4 fun H10 s10 l10 => ⟨rfl, ?_⟩⟩
    obtain ⟨d9, l9⟩ := l9.same s10
    obtain ⟨d10, l10⟩ := l10
    refine ⟨r9, d9, _, _, rfl, l9, L.ty l10, nf, r9, some (-3), .ref x4, rfl, ⟨d9, l9⟩, .inl ⟨x4, some (-3), rfl, ⟨d10, l10⟩, _, rfl, ifT (by simp) ?_⟩⟩
    -- best
    refine fun y1 dy1 a1 b1 c1 => mades (y := none) trivial a1 b1 c1 fun H11 s11 l11 => ⟨rfl, ?_⟩
    refine ⟨_, rfl, fun y2 dy2 a2 b2 c2 => mades (y := some (-5)) ok5 a2 b2 c2 fun H12 s12 l12 => ⟨rfl, ?_⟩⟩
    refine ⟨_, rfl, fun y3 dy3 a3 b3 c3 => mades (y := some (-4)) ok4 a3 b3 c3 fun H13 s13 l13 => ⟨rfl, ?_⟩⟩
    refine ⟨[none, some (-5), some (-4)], .cons ((l11.same s12).same s13) trivial (.cons (l12.same s13) ok5 (.cons l13 ok4 .nil)), by show 3 ≤ 100; decide, fun r14 H14 s14 n14 l14 => ?_⟩
    rw [be] at l14
    refine ⟨_, rfl, fun y4 dy4 a4 b4 c4 => mades (y := some (-4)) ok4 a4 b4 c4 fun H15 s15 l15 => ⟨rfl, ?_⟩⟩
    obtain ⟨d14, l14⟩ := l14.same s15
    obtain ⟨d15, l15⟩ := l15
    refine ⟨r14, d14, _, _, rfl, l14, L.ty l15, nf, r14, some (-4), .ref y4, rfl, ⟨d14, l14⟩, .inl ⟨y4, some (-4), rfl, ⟨d15, l15⟩, ?_⟩⟩
    have fin : decide ((some (-4) : Option Int) = some (-4)) = true := by simp
    rw [fin]
    exact k _
end
end Ev

set_option Elab.async false
set_option linter.all false
set_option maxRecDepth 100000
set_option maxHeartbeats 4000000
/-! k01: what the top has written; the end. -/
namespace Ev
open PySem PySem.Spec PyProof.Rows L2
theorem mem3 {a b c : Addr × Addr} {p : Addr × Addr} {Q : Addr × Addr → Prop} (hp : p ∈ [a, b, c]) (h1 : Q a) (h2 : Q b) (h3 : Q c) : Q p := by
  simp only [List.mem_cons, List.not_mem_nil, or_false] at hp
  rcases hp with rfl | rfl | rfl
  · exact h1
  · exact h2
  · exact h3
theorem tab3 {H : Hp} {P1 P2 P3 : Addr} {q1 q2 q3 : Str} {p : Addr × Str} (hp : p ∈ [(P1, q1), (P2, q2), (P3, q3)]) (h1 : H P1 = some (.tbl #[])) (h2 : H P2 = some (.tbl #[])) (h3 : H P3 = some (.tbl #[])) : LamX.TabS H p.1 p.2 := by
  simp only [List.mem_cons, List.not_mem_nil, or_false] at hp
  rcases hp with rfl | rfl | rfl
  · exact .nil h1
  · exact .nil h2
  · exact .nil h3
theorem uniq3 {P1 P2 P3 Pk : Addr} {q1 q2 q3 qk : Str} {p : Addr × Str} (hp : p ∈ [(P1, q1), (P2, q2), (P3, q3)]) (e : p.1 = Pk) (d1 : P1 ≠ P2) (d2 : P1 ≠ P3) (d3 : P2 ≠ P3) (h : (Pk, qk) = (P1, q1) ∨ (Pk, qk) = (P2, q2) ∨ (Pk, qk) = (P3, q3)) : p.2 = qk := by
  simp only [List.mem_cons, List.not_mem_nil, or_false] at hp
  rcases h with h | h | h <;> cases h <;> rcases hp with rfl | rfl | rfl
  · rfl
  · exact absurd e (Ne.symm d1)
  · exact absurd e (Ne.symm d2)
  · exact absurd e d1
  · rfl
  · exact absurd e (Ne.symm d3)
  · exact absurd e d2
  · exact absurd e d3
  · rfl
set_option maxHeartbeats 0 in
theorem all_mk {l : PySem.W.OpenLaw} {w : World} {K : PySem.W.Frag} {h : Heap} {mg : Str → Option Value} {fa : Addr}
  {C CF CT CJ CS CB CI CP CX CW fN fI fT dT f_w f_al f_be f_pn f_dr f_va f_to f_su f_he f_pa c_pa P_pa f_ao f_ch f_jo c_jo P_jo f_ro f_la c_la P_la f_mu f_ad f_eq f_bo f_st f_re : Addr}
  {od_w an_w od_al an_al od_be an_be od_pn an_pn od_dr an_dr od_va an_va od_to an_to od_su an_su od_he an_he od_pa an_pa oe_pa od_ao an_ao od_ch an_ch od_jo an_jo oe_jo od_ro an_ro od_la an_la oe_la od_mu an_mu od_ad an_ad od_eq an_eq od_bo an_bo od_st an_st od_re an_re od_n an_n od_d od_eI an_eI od_eT an_eT : Option Addr}
  {sl_w sl_al sl_be sl_pn sl_dr sl_va sl_to sl_su sl_he sl_pa os_pa sl_ao sl_ch sl_jo os_jo sl_ro sl_la os_la sl_mu sl_ad sl_eq sl_bo sl_st sl_re sl_n sl_d sl_eI sl_eT : Array (Option Value)}
  {oc_w kV_w dc_w pm_w ct_w cd_w oc_al kV_al dc_al pm_al ct_al cd_al oc_be kV_be dc_be pm_be ct_be cd_be oc_pn kV_pn dc_pn pm_pn ct_pn cd_pn oc_dr kV_dr dc_dr pm_dr ct_dr cd_dr oc_va kV_va dc_va pm_va ct_va cd_va oc_to kV_to dc_to pm_to ct_to cd_to oc_su kV_su dc_su pm_su ct_su cd_su oc_he kV_he dc_he pm_he ct_he cd_he oc_pa kV_pa dc_pa pm_pa ct_pa oo_pa oc_ao kV_ao dc_ao pm_ao ct_ao cd_ao oc_ch kV_ch dc_ch pm_ch ct_ch cd_ch oc_jo kV_jo dc_jo pm_jo ct_jo oo_jo oc_ro kV_ro dc_ro pm_ro ct_ro cd_ro oc_la kV_la dc_la pm_la ct_la oo_la oc_mu kV_mu dc_mu pm_mu ct_mu cd_mu oc_ad kV_ad dc_ad pm_ad ct_ad cd_ad oc_eq kV_eq dc_eq pm_eq ct_eq cd_eq oc_bo kV_bo dc_bo pm_bo ct_bo cd_bo oc_st kV_st dc_st pm_st ct_st cd_st oc_re kV_re dc_re pm_re ct_re cd_re oc_n kV_n dc_n pm_n ct_n cd_n oc_d oc_eI dc_eI pm_eI cd_eI ct_eI oc_eT dc_eT pm_eT cd_eT ct_eT : Value} {vs_pa : Array Value} {vs_jo : Array Value} {vs_la : Array Value} {n_d : Nat} {tM : Tok} {p1_eI p2_eI q1_eI q2_eI q3_eI q4_eI : Pos} {p1_eT p2_eT q1_eT q2_eT q3_eT q4_eT : Pos}
  (X : K.In h) (G : h.Ns mainGlobals mg) (hfa : mg "law" = some (.ref fa))
    (aC : PySem.W.nsIn K mainGlobals "Lead" = some (some (.ref C)))
    (aCF : PySem.W.nsIn K mainGlobals "FrameError" = some (some (.ref CF)))
    (aCT : PySem.W.nsIn K mainGlobals "TooMany" = some (some (.ref CT)))
    (aCJ : PySem.W.nsIn K mainGlobals "NoJob" = some (some (.ref CJ)))
    (aCS : PySem.W.nsIn K mainGlobals "Standstill" = some (some (.ref CS)))
    (aCB : PySem.W.nsIn K mainGlobals "Busy" = some (some (.ref CB)))
    (aCI : PySem.W.nsIn K mainGlobals "InvalidLead" = some (some (.ref CI)))
    (aCP : PySem.W.nsIn K mainGlobals "InvalidPlan" = some (some (.ref CP)))
    (aCX : PySem.W.nsIn K mainGlobals "InvalidText" = some (some (.ref CX)))
    (aCW : PySem.W.nsIn K mainGlobals "InvalidWeb" = some (some (.ref CW)))
    (z_isinstance : PySem.W.nsIn K mainGlobals "isinstance" = some none)
    (z_int : PySem.W.nsIn K mainGlobals "int" = some none)
    (z_bool : PySem.W.nsIn K mainGlobals "bool" = some none)
    (z_str : PySem.W.nsIn K mainGlobals "str" = some none)
    (z_repr : PySem.W.nsIn K mainGlobals "repr" = some none)
    (z_list : PySem.W.nsIn K mainGlobals "list" = some none)
    (z_abs : PySem.W.nsIn K mainGlobals "abs" = some none)
    (z_len : PySem.W.nsIn K mainGlobals "len" = some none)
    (z_max : PySem.W.nsIn K mainGlobals "max" = some none)
    (z_range : PySem.W.nsIn K mainGlobals "range" = some none)
    (z_OverflowError : PySem.W.nsIn K mainGlobals "OverflowError" = some none)
    (z_ValueError : PySem.W.nsIn K mainGlobals "ValueError" = some none)
    (a_w : PySem.W.nsIn K mainGlobals "within" = some (some (.ref f_w)))
    (l_w : K.lookup f_w = some ⟨oc_w, od_w, .func (PySem.W.fnOf "within" "within" (defArgs sWithin) (defBody sWithin) (defScope sWithin) .none kV_w dc_w pm_w an_w cd_w ct_w), sl_w⟩)
    (c_w_ : PySem.W.codeIn K cd_w "within" = true)
    (k_w : PySem.W.keepIn K (.ref f_w) = true)
    (a_al : PySem.W.nsIn K mainGlobals "along" = some (some (.ref f_al)))
    (l_al : K.lookup f_al = some ⟨oc_al, od_al, .func (PySem.W.fnOf "along" "along" (defArgs sAlong) (defBody sAlong) (defScope sAlong) .none kV_al dc_al pm_al an_al cd_al ct_al), sl_al⟩)
    (c_al_ : PySem.W.codeIn K cd_al "along" = true)
    (k_al : PySem.W.keepIn K (.ref f_al) = true)
    (a_be : PySem.W.nsIn K mainGlobals "best" = some (some (.ref f_be)))
    (l_be : K.lookup f_be = some ⟨oc_be, od_be, .func (PySem.W.fnOf "best" "best" (defArgs sBest) (defBody sBest) (defScope sBest) .none kV_be dc_be pm_be an_be cd_be ct_be), sl_be⟩)
    (c_be_ : PySem.W.codeIn K cd_be "best" = true)
    (k_be : PySem.W.keepIn K (.ref f_be) = true)
    (a_pn : PySem.W.nsIn K mainGlobals "_law_pen" = some (some (.ref f_pn)))
    (l_pn : K.lookup f_pn = some ⟨oc_pn, od_pn, .func (PySem.W.fnOf "_law_pen" "_law_pen" (defArgs sPen) (defBody sPen) (defScope sPen) .none kV_pn dc_pn pm_pn an_pn cd_pn ct_pn), sl_pn⟩)
    (c_pn_ : PySem.W.codeIn K cd_pn "_law_pen" = true)
    (k_pn : PySem.W.keepIn K (.ref f_pn) = true)
    (a_dr : PySem.W.nsIn K mainGlobals "_law_draw" = some (some (.ref f_dr)))
    (l_dr : K.lookup f_dr = some ⟨oc_dr, od_dr, .func (PySem.W.fnOf "_law_draw" "_law_draw" (defArgs sDraw) (defBody sDraw) (defScope sDraw) .none kV_dr dc_dr pm_dr an_dr cd_dr ct_dr), sl_dr⟩)
    (c_dr_ : PySem.W.codeIn K cd_dr "_law_draw" = true)
    (k_dr : PySem.W.keepIn K (.ref f_dr) = true)
    (a_va : PySem.W.nsIn K mainGlobals "_law_value" = some (some (.ref f_va)))
    (l_va : K.lookup f_va = some ⟨oc_va, od_va, .func (PySem.W.fnOf "_law_value" "_law_value" (defArgs sVal) (defBody sVal) (defScope sVal) .none kV_va dc_va pm_va an_va cd_va ct_va), sl_va⟩)
    (c_va_ : PySem.W.codeIn K cd_va "_law_value" = true)
    (k_va : PySem.W.keepIn K (.ref f_va) = true)
    (a_to : PySem.W.nsIn K mainGlobals "_law_told" = some (some (.ref f_to)))
    (l_to : K.lookup f_to = some ⟨oc_to, od_to, .func (PySem.W.fnOf "_law_told" "_law_told" (defArgs sTold) (defBody sTold) (defScope sTold) .none kV_to dc_to pm_to an_to cd_to ct_to), sl_to⟩)
    (c_to_ : PySem.W.codeIn K cd_to "_law_told" = true)
    (k_to : PySem.W.keepIn K (.ref f_to) = true)
    (a_su : PySem.W.nsIn K mainGlobals "_law_sum" = some (some (.ref f_su)))
    (l_su : K.lookup f_su = some ⟨oc_su, od_su, .func (PySem.W.fnOf "_law_sum" "_law_sum" (defArgs sSum) (defBody sSum) (defScope sSum) .none kV_su dc_su pm_su an_su cd_su ct_su), sl_su⟩)
    (c_su_ : PySem.W.codeIn K cd_su "_law_sum" = true)
    (k_su : PySem.W.keepIn K (.ref f_su) = true)
    (a_he : PySem.W.nsIn K mainGlobals "_law_height" = some (some (.ref f_he)))
    (l_he : K.lookup f_he = some ⟨oc_he, od_he, .func (PySem.W.fnOf "_law_height" "_law_height" (defArgs sHei) (defBody sHei) (defScope sHei) .none kV_he dc_he pm_he an_he cd_he ct_he), sl_he⟩)
    (c_he_ : PySem.W.codeIn K cd_he "_law_height" = true)
    (k_he : PySem.W.keepIn K (.ref f_he) = true)
    (a_pa : PySem.W.nsIn K mainGlobals "_law_pair_right" = some (some (.ref f_pa)))
    (l_pa : K.lookup f_pa = some ⟨oc_pa, od_pa, .func (PySem.W.fnOf "_law_pair_right" "_law_pair_right" (defArgs sPair) (defBody sPair) (defScope sPair) .none kV_pa dc_pa pm_pa an_pa (.ref c_pa) ct_pa), sl_pa⟩)
    (c_pa_ : PySem.W.codeIn K (.ref c_pa) "_law_pair_right" = true)
    (k_pa : PySem.W.keepIn K (.ref f_pa) = true)
    (lc_pa : K.lookup c_pa = some ⟨oo_pa, oe_pa, .fields vs_pa, os_pa⟩)
    (vp_pa : vs_pa[11]? = some (.ref P_pa))
    (hc_pa : PySem.W.codeHdIn K c_pa P_pa = true)
    (np_pa : K.lookup P_pa = none)
    (tb_pa : h.get? P_pa = some { cls := .none, data := .fields #[] })
    (a_ao : PySem.W.nsIn K mainGlobals "_law_alone_right" = some (some (.ref f_ao)))
    (l_ao : K.lookup f_ao = some ⟨oc_ao, od_ao, .func (PySem.W.fnOf "_law_alone_right" "_law_alone_right" (defArgs sAlone) (defBody sAlone) (defScope sAlone) .none kV_ao dc_ao pm_ao an_ao cd_ao ct_ao), sl_ao⟩)
    (c_ao_ : PySem.W.codeIn K cd_ao "_law_alone_right" = true)
    (k_ao : PySem.W.keepIn K (.ref f_ao) = true)
    (a_ch : PySem.W.nsIn K mainGlobals "_law_chain" = some (some (.ref f_ch)))
    (l_ch : K.lookup f_ch = some ⟨oc_ch, od_ch, .func (PySem.W.fnOf "_law_chain" "_law_chain" (defArgs sChain) (defBody sChain) (defScope sChain) .none kV_ch dc_ch pm_ch an_ch cd_ch ct_ch), sl_ch⟩)
    (c_ch_ : PySem.W.codeIn K cd_ch "_law_chain" = true)
    (k_ch : PySem.W.keepIn K (.ref f_ch) = true)
    (a_jo : PySem.W.nsIn K mainGlobals "_law_joined" = some (some (.ref f_jo)))
    (l_jo : K.lookup f_jo = some ⟨oc_jo, od_jo, .func (PySem.W.fnOf "_law_joined" "_law_joined" (defArgs sJoin) (defBody sJoin) (defScope sJoin) .none kV_jo dc_jo pm_jo an_jo (.ref c_jo) ct_jo), sl_jo⟩)
    (c_jo_ : PySem.W.codeIn K (.ref c_jo) "_law_joined" = true)
    (k_jo : PySem.W.keepIn K (.ref f_jo) = true)
    (lc_jo : K.lookup c_jo = some ⟨oo_jo, oe_jo, .fields vs_jo, os_jo⟩)
    (vp_jo : vs_jo[11]? = some (.ref P_jo))
    (hc_jo : PySem.W.codeHdIn K c_jo P_jo = true)
    (np_jo : K.lookup P_jo = none)
    (tb_jo : h.get? P_jo = some { cls := .none, data := .fields #[] })
    (a_ro : PySem.W.nsIn K mainGlobals "_law_row_right" = some (some (.ref f_ro)))
    (l_ro : K.lookup f_ro = some ⟨oc_ro, od_ro, .func (PySem.W.fnOf "_law_row_right" "_law_row_right" (defArgs sRow) (defBody sRow) (defScope sRow) .none kV_ro dc_ro pm_ro an_ro cd_ro ct_ro), sl_ro⟩)
    (c_ro_ : PySem.W.codeIn K cd_ro "_law_row_right" = true)
    (k_ro : PySem.W.keepIn K (.ref f_ro) = true)
    (a_la : PySem.W.nsIn K mainGlobals "law" = some (some (.ref f_la)))
    (l_la : K.lookup f_la = some ⟨oc_la, od_la, .func (PySem.W.fnOf "law" "law" (defArgs sLaw) (defBody sLaw) (defScope sLaw) .none kV_la dc_la pm_la an_la (.ref c_la) ct_la), sl_la⟩)
    (c_la_ : PySem.W.codeIn K (.ref c_la) "law" = true)
    (k_la : PySem.W.keepIn K (.ref f_la) = true)
    (lc_la : K.lookup c_la = some ⟨oo_la, oe_la, .fields vs_la, os_la⟩)
    (vp_la : vs_la[11]? = some (.ref P_la))
    (hc_la : PySem.W.codeHdIn K c_la P_la = true)
    (np_la : K.lookup P_la = none)
    (tb_la : h.get? P_la = some { cls := .none, data := .fields #[] })
    (d1 : P_pa ≠ P_jo)
    (d2 : P_pa ≠ P_la)
    (d3 : P_jo ≠ P_la)
    (a_mu : PySem.W.findIn K (.ref C) "__mul__" = some (some (.ref f_mu)))
    (i_mu : PySem.W.isFn K (.ref f_mu) = true)
    (l_mu : K.lookup f_mu = some ⟨oc_mu, od_mu, .func (PySem.W.fnOf "__mul__" "Lead.__mul__" (defArgs sMul) (defBody sMul) (defScope sMul) .none kV_mu dc_mu pm_mu an_mu cd_mu ct_mu), sl_mu⟩)
    (c_mu_ : PySem.W.codeIn K cd_mu "Lead.__mul__" = true)
    (k_mu : PySem.W.keepIn K (.ref f_mu) = true)
    (a_ad : PySem.W.findIn K (.ref C) "__add__" = some (some (.ref f_ad)))
    (i_ad : PySem.W.isFn K (.ref f_ad) = true)
    (l_ad : K.lookup f_ad = some ⟨oc_ad, od_ad, .func (PySem.W.fnOf "__add__" "Lead.__add__" (defArgs sAdd) (defBody sAdd) (defScope sAdd) .none kV_ad dc_ad pm_ad an_ad cd_ad ct_ad), sl_ad⟩)
    (c_ad_ : PySem.W.codeIn K cd_ad "Lead.__add__" = true)
    (k_ad : PySem.W.keepIn K (.ref f_ad) = true)
    (a_eq : PySem.W.findIn K (.ref C) "__eq__" = some (some (.ref f_eq)))
    (i_eq : PySem.W.isFn K (.ref f_eq) = true)
    (l_eq : K.lookup f_eq = some ⟨oc_eq, od_eq, .func (PySem.W.fnOf "__eq__" "Lead.__eq__" (defArgs sEq) (defBody sEq) (defScope sEq) .none kV_eq dc_eq pm_eq an_eq cd_eq ct_eq), sl_eq⟩)
    (c_eq_ : PySem.W.codeIn K cd_eq "Lead.__eq__" = true)
    (k_eq : PySem.W.keepIn K (.ref f_eq) = true)
    (a_bo : PySem.W.findIn K (.ref C) "__bool__" = some (some (.ref f_bo)))
    (i_bo : PySem.W.isFn K (.ref f_bo) = true)
    (l_bo : K.lookup f_bo = some ⟨oc_bo, od_bo, .func (PySem.W.fnOf "__bool__" "Lead.__bool__" (defArgs sBo) (defBody sBo) (defScope sBo) .none kV_bo dc_bo pm_bo an_bo cd_bo ct_bo), sl_bo⟩)
    (c_bo_ : PySem.W.codeIn K cd_bo "Lead.__bool__" = true)
    (k_bo : PySem.W.keepIn K (.ref f_bo) = true)
    (a_st : PySem.W.findIn K (.ref C) "__str__" = some (some (.ref f_st)))
    (i_st : PySem.W.isFn K (.ref f_st) = true)
    (l_st : K.lookup f_st = some ⟨oc_st, od_st, .func (PySem.W.fnOf "__str__" "Lead.__str__" (defArgs sSt) (defBody sSt) (defScope sSt) .none kV_st dc_st pm_st an_st cd_st ct_st), sl_st⟩)
    (c_st_ : PySem.W.codeIn K cd_st "Lead.__str__" = true)
    (k_st : PySem.W.keepIn K (.ref f_st) = true)
    (a_re : PySem.W.findIn K (.ref C) "__repr__" = some (some (.ref f_re)))
    (i_re : PySem.W.isFn K (.ref f_re) = true)
    (l_re : K.lookup f_re = some ⟨oc_re, od_re, .func (PySem.W.fnOf "__repr__" "Lead.__repr__" (defArgs sRe) (defBody sRe) (defScope sRe) .none kV_re dc_re pm_re an_re cd_re ct_re), sl_re⟩)
    (c_re_ : PySem.W.codeIn K cd_re "Lead.__repr__" = true)
    (k_re : PySem.W.keepIn K (.ref f_re) = true)
    (a_n : PySem.W.findIn K (.ref C) "__init__" = some (some (.ref fN)))
    (i_n : PySem.W.isFn K (.ref fN) = true)
    (l_n : K.lookup fN = some ⟨oc_n, od_n, .func (PySem.W.fnOf "__init__" "Lead.__init__" (defArgs sN) (defBody sN) (defScope sN) (.ref dT) kV_n dc_n pm_n an_n cd_n ct_n), sl_n⟩)
    (c_n_ : PySem.W.codeIn K cd_n "Lead.__init__" = true)
    (k_n : PySem.W.keepIn K (.ref fN) = true)
    (l_d : K.lookup dT = some ⟨oc_d, od_d, .seq #[.none] n_d, sl_d⟩)
    (pg : PySem.W.plainGet K C Str.empty = true)
    (hd : PySem.W.hasDictIn K C = true)
    (po : PySem.W.plainOver K C = true)
    (sa : PySem.W.findIn K (.ref C) "__setattr__" = some (some (.builtin "object.__setattr__")))
    (mk : PySem.W.makesIn K C = true)
    (kC : PySem.W.keepIn K (.ref C) = true)
    (nV : PySem.W.findIn K (.ref C) "value" = some none)
    (rI : PySem.W.readsIn K C (.type "type") = true)
    (rG : PySem.W.specialIn K (.ref C) "__getattribute__" = some (some (.builtin "type.__getattribute__")))
    (rM : PySem.W.findCls K (.ref C) (.type "type") "MOST" = some (.val (.int 1000000 tM)))
    (ca : PySem.W.findIn K (.ref C) "__class__" = some (some (.builtin "object.__class__")))
    (cg : PySem.W.specialIn K (.builtin "object.__class__") "__get__" = some (some (.builtin "getset_descriptor.__get__")))
    (ct : PySem.W.takesIn K (.builtin "object.__class__") = some true)
    (ob : PySem.W.mroIn K C (.type "object") = some true)
    (kk : PySem.W.kitOne K (.ref C) (.ref C) = some true)
    (sf : PySem.W.selfFirst K C = true)
    (nf : PySem.W.notFirst K C (.ref C) = true)
    (ne : PySem.W.findIn K (.ref C) "__ne__" = some (some (.builtin "object.__ne__")))
    (nk_NoneType : PySem.W.kitOne K (.type "NoneType") (.ref C) = some false)
    (nf_NoneType : PySem.W.notFirst K C (.type "NoneType") = true)
    (nk_int : PySem.W.kitOne K (.type "int") (.ref C) = some false)
    (nf_int : PySem.W.notFirst K C (.type "int") = true)
    (nk_str : PySem.W.kitOne K (.type "str") (.ref C) = some false)
    (nf_str : PySem.W.notFirst K C (.type "str") = true)
    (nk_list : PySem.W.kitOne K (.type "list") (.ref C) = some false)
    (nf_list : PySem.W.notFirst K C (.type "list") = true)
    (nk_tuple : PySem.W.kitOne K (.type "tuple") (.ref C) = some false)
    (nf_tuple : PySem.W.notFirst K C (.type "tuple") = true)
    (ei_I : PySem.W.excInitIn K CI [.type "ValueError", .type "Exception", .type "BaseException", .type "object"] "ValueError.__new__" = true)
    (eo_I : PySem.W.excOver K CI [.type "ValueError", .type "Exception", .type "BaseException", .type "object"] = true)
    (es_I : PySem.W.findIn K (.ref CI) "__setattr__" = some (some (.builtin "object.__setattr__")))
    (ex_I : PySem.W.subIn K (.ref CI) (.type "BaseException") = some true)
    (et_I : PySem.W.typeIn K (.ref CI) = some (.type "type"))
    (ek_I : PySem.W.keepIn K (.ref CI) = true)
    (eh_I : PySem.W.hasDictIn K CI = true)
    (en_I : PySem.W.findIn K (.ref CI) "__init__" = some (some (.ref fI)))
    (ef_I : PySem.W.typeIn K (.ref fI) = some (.type "function"))
    (ev_I : PySem.W.findIn K (.ref CI) "value" = some none)
    (el_I : K.lookup fI = some ⟨oc_eI, od_eI, .func (PySem.W.fnOf "__init__" "InvalidLead.__init__" (errA "value" p1_eI p2_eI) (errB "value" q1_eI q2_eI q3_eI q4_eI) (errS "value") .none .none dc_eI pm_eI an_eI cd_eI ct_eI), sl_eI⟩)
    (ec_I : PySem.W.codeIn K cd_eI "InvalidLead.__init__" = true)
    (eg_I : PySem.W.findIn K (.ref CI) "__getattribute__" = some (some (.builtin "BaseException.__getattribute__")))
    (eq_Ig : PySem.W.findIn K (.ref CI) "__getattr__" = some none)
    (ea_I : PySem.W.findIn K (.ref CI) "__class__" = some (some (.builtin "object.__class__")))
    (eb_I : PySem.W.mroIn K CI (.type "object") = some true)
    (er_I : (PySem.W.clsIn K CI).isSome = true)
    (ei_T : PySem.W.excInitIn K CT [.type "OverflowError", .type "ArithmeticError", .type "Exception", .type "BaseException", .type "object"] "OverflowError.__new__" = true)
    (eo_T : PySem.W.excOver K CT [.type "OverflowError", .type "ArithmeticError", .type "Exception", .type "BaseException", .type "object"] = true)
    (es_T : PySem.W.findIn K (.ref CT) "__setattr__" = some (some (.builtin "object.__setattr__")))
    (ex_T : PySem.W.subIn K (.ref CT) (.type "BaseException") = some true)
    (et_T : PySem.W.typeIn K (.ref CT) = some (.type "type"))
    (ek_T : PySem.W.keepIn K (.ref CT) = true)
    (eh_T : PySem.W.hasDictIn K CT = true)
    (en_T : PySem.W.findIn K (.ref CT) "__init__" = some (some (.ref fT)))
    (ef_T : PySem.W.typeIn K (.ref fT) = some (.type "function"))
    (ev_T : PySem.W.findIn K (.ref CT) "limit" = some none)
    (el_T : K.lookup fT = some ⟨oc_eT, od_eT, .func (PySem.W.fnOf "__init__" "TooMany.__init__" (errA "limit" p1_eT p2_eT) (errB "limit" q1_eT q2_eT q3_eT q4_eT) (errS "limit") .none .none dc_eT pm_eT an_eT cd_eT ct_eT), sl_eT⟩)
    (ec_T : PySem.W.codeIn K cd_eT "TooMany.__init__" = true)
    (eg_T : PySem.W.findIn K (.ref CT) "__getattribute__" = some (some (.builtin "BaseException.__getattribute__")))
    (eq_Tg : PySem.W.findIn K (.ref CT) "__getattr__" = some none)
    (ea_T : PySem.W.findIn K (.ref CT) "__class__" = some (some (.builtin "object.__class__")))
    (eb_T : PySem.W.mroIn K CT (.type "object") = some true)
    (er_T : (PySem.W.clsIn K CT).isSome = true)
    (xT : PySem.W.exmAny K (.ref CT) [.ref CF, .ref CT, .ref CJ, .ref CS, .ref CB] = some true)
    (xI : PySem.W.exmAny K (.ref CI) [.ref CF, .ref CT, .ref CJ, .ref CS, .ref CB] = some true)
    (tTT : PySem.W.kitOne K (.ref CT) (.ref CT) = some true)
    (tTO : PySem.W.kitOne K (.ref CT) (.type "OverflowError") = some true)
    (tTF : PySem.W.kitOne K (.ref CT) (.ref CF) = some false)
    (tIT : PySem.W.kitOne K (.ref CI) (.ref CT) = some false)
    (tII : PySem.W.kitOne K (.ref CI) (.ref CI) = some true)
    (tIn : PySem.W.kitAny K (.ref CI) [.ref CP, .ref CX, .ref CW] = some false)
    (tIV : PySem.W.kitOne K (.ref CI) (.type "ValueError") = some true)
    : LawG l w K 11 63 "_law_script" mg fa h := by
  have e := hfa.symm.trans (PySem.W.mg_of X G a_la)
  cases e
  have L : TxL K mg C := ⟨⟨pg, hd, po, sa⟩, nV, PySem.W.mg_of X G aC, ⟨_, _, ⟨rI, rG⟩, ⟨rM, ⟨_, rfl⟩⟩⟩, ca, cg, ct, ob, kk⟩
  have m_isinstance := PySem.W.mg_none_of X G z_isinstance
  have m_int := PySem.W.mg_none_of X G z_int
  have m_bool := PySem.W.mg_none_of X G z_bool
  have m_str := PySem.W.mg_none_of X G z_str
  have m_repr := PySem.W.mg_none_of X G z_repr
  have m_list := PySem.W.mg_none_of X G z_list
  have m_abs := PySem.W.mg_none_of X G z_abs
  have m_len := PySem.W.mg_none_of X G z_len
  have m_max := PySem.W.mg_none_of X G z_max
  have m_range := PySem.W.mg_none_of X G z_range
  have m_OverflowError := PySem.W.mg_none_of X G z_OverflowError
  have m_ValueError := PySem.W.mg_none_of X G z_ValueError
  have F_w := fun_mk (st := sWithin) l_w c_w_ k_w
  have b_w := F_w.binds (ps := ["value", "least", "most"]) fun _ _ _ _ _ _ us hl => match us, hl with | [_, _, _], _ => rfl
  have D_w : DefT K mg "within" sWithin ["value", "least", "most"] f_w _ := ⟨F_w, PySem.W.mg_of X G a_w, b_w⟩
  have F_al := fun_mk (st := sAlong) l_al c_al_ k_al
  have F_be := fun_mk (st := sBest) l_be c_be_ k_be
  have F_pn := fun_mk (st := sPen) l_pn c_pn_ k_pn
  have b_pn := F_pn.binds (ps := ["_law_script"]) fun _ _ _ _ _ _ us hl => match us, hl with | [_], _ => rfl
  have D_pn : DefT K mg "_law_pen" sPen ["_law_script"] f_pn _ := ⟨F_pn, PySem.W.mg_of X G a_pn, b_pn⟩
  have F_dr := fun_mk (st := sDraw) l_dr c_dr_ k_dr
  have b_dr := F_dr.binds (ps := ["_law_pen_here", "_law_many"]) fun _ _ _ _ _ _ us hl => match us, hl with | [_, _], _ => rfl
  have D_dr : DefT K mg "_law_draw" sDraw ["_law_pen_here", "_law_many"] f_dr _ := ⟨F_dr, PySem.W.mg_of X G a_dr, b_dr⟩
  have F_va := fun_mk (st := sVal) l_va c_va_ k_va
  have b_va := F_va.binds (ps := ["_law_pen_here"]) fun _ _ _ _ _ _ us hl => match us, hl with | [_], _ => rfl
  have D_va : DefT K mg "_law_value" sVal ["_law_pen_here"] f_va _ := ⟨F_va, PySem.W.mg_of X G a_va, b_va⟩
  have F_to := fun_mk (st := sTold) l_to c_to_ k_to
  have b_to := F_to.binds (ps := ["_law_ask"]) fun _ _ _ _ _ _ us hl => match us, hl with | [_], _ => rfl
  have D_to : DefT K mg "_law_told" sTold ["_law_ask"] f_to _ := ⟨F_to, PySem.W.mg_of X G a_to, b_to⟩
  have F_su := fun_mk (st := sSum) l_su c_su_ k_su
  have b_su := F_su.binds (ps := ["_law_x", "_law_y"]) fun _ _ _ _ _ _ us hl => match us, hl with | [_, _], _ => rfl
  have D_su : DefT K mg "_law_sum" sSum ["_law_x", "_law_y"] f_su _ := ⟨F_su, PySem.W.mg_of X G a_su, b_su⟩
  have F_he := fun_mk (st := sHei) l_he c_he_ k_he
  have b_he := F_he.binds (ps := ["_law_x"]) fun _ _ _ _ _ _ us hl => match us, hl with | [_], _ => rfl
  have D_he : DefT K mg "_law_height" sHei ["_law_x"] f_he _ := ⟨F_he, PySem.W.mg_of X G a_he, b_he⟩
  have F_pa := fun_mk (st := sPair) l_pa c_pa_ k_pa
  have b_pa := F_pa.binds (ps := ["_law_x", "_law_y"]) fun _ _ _ _ _ _ us hl => match us, hl with | [_, _], _ => rfl
  have D_pa : DefT K mg "_law_pair_right" sPair ["_law_x", "_law_y"] f_pa _ := ⟨F_pa, PySem.W.mg_of X G a_pa, b_pa⟩
  have F_ao := fun_mk (st := sAlone) l_ao c_ao_ k_ao
  have b_ao := F_ao.binds (ps := ["_law_x"]) fun _ _ _ _ _ _ us hl => match us, hl with | [_], _ => rfl
  have D_ao : DefT K mg "_law_alone_right" sAlone ["_law_x"] f_ao _ := ⟨F_ao, PySem.W.mg_of X G a_ao, b_ao⟩
  have F_ch := fun_mk (st := sChain) l_ch c_ch_ k_ch
  have b_ch := F_ch.binds (ps := ["_law_row"]) fun _ _ _ _ _ _ us hl => match us, hl with | [_], _ => rfl
  have D_ch : DefT K mg "_law_chain" sChain ["_law_row"] f_ch _ := ⟨F_ch, PySem.W.mg_of X G a_ch, b_ch⟩
  have F_jo := fun_mk (st := sJoin) l_jo c_jo_ k_jo
  have b_jo := F_jo.binds (ps := ["_law_row"]) fun _ _ _ _ _ _ us hl => match us, hl with | [_], _ => rfl
  have D_jo : DefT K mg "_law_joined" sJoin ["_law_row"] f_jo _ := ⟨F_jo, PySem.W.mg_of X G a_jo, b_jo⟩
  have F_ro := fun_mk (st := sRow) l_ro c_ro_ k_ro
  have b_ro := F_ro.binds (ps := ["_law_row"]) fun _ _ _ _ _ _ us hl => match us, hl with | [_], _ => rfl
  have D_ro : DefT K mg "_law_row_right" sRow ["_law_row"] f_ro _ := ⟨F_ro, PySem.W.mg_of X G a_ro, b_ro⟩
  have F_la := fun_mk (st := sLaw) l_la c_la_ k_la
  have F_mu := fun_mk (st := sMul) l_mu c_mu_ k_mu
  have b_mu := F_mu.binds (ps := ["self", "other"]) fun _ _ _ _ _ _ us hl => match us, hl with | [_, _], _ => rfl
  have F_ad := fun_mk (st := sAdd) l_ad c_ad_ k_ad
  have b_ad := F_ad.binds (ps := ["self", "other"]) fun _ _ _ _ _ _ us hl => match us, hl with | [_, _], _ => rfl
  have F_eq := fun_mk (st := sEq) l_eq c_eq_ k_eq
  have b_eq := F_eq.binds (ps := ["self", "other"]) fun _ _ _ _ _ _ us hl => match us, hl with | [_, _], _ => rfl
  have F_bo := fun_mk (st := sBo) l_bo c_bo_ k_bo
  have b_bo := F_bo.binds (ps := ["self"]) fun _ _ _ _ _ _ us hl => match us, hl with | [_], _ => rfl
  have F_st := fun_mk (st := sSt) l_st c_st_ k_st
  have b_st := F_st.binds (ps := ["self"]) fun _ _ _ _ _ _ us hl => match us, hl with | [_], _ => rfl
  have F_re := fun_mk (st := sRe) l_re c_re_ k_re
  have b_re := F_re.binds (ps := ["self"]) fun _ _ _ _ _ _ us hl => match us, hl with | [_], _ => rfl
  have FD : FunD K "__init__" "Lead.__init__" (defArgs sN) (defBody sN) (defScope sN) [.non] [] fN _ := ⟨⟨_, _, _, _, _, _, _, _, _, _, rfl, l_n, c_n_, .inr ⟨(fun z => nomatch z), dT, _, [.none], n_d, rfl, l_d, rfl, .cons (a := V.non) rfl .nil⟩, .inl rfl⟩, k_n⟩
  obtain ⟨ds0, v0, bd0⟩ := FD.binds1 (ps := ["self", "value"]) 1 0 (fun z => nomatch z) rfl fun T kV doc pm an cdv ct us its h1 h2 => match us, its, h1, h2 with | [_], [_], _, _ => ⟨_, rfl, rfl⟩
  obtain ⟨d0, rfl, rv0⟩ := vals1 v0
  cases rv0
  obtain ⟨ds1, v1, bd1⟩ := FD.binds1 (ps := ["self", "value"]) 2 1 (fun z => nomatch z) rfl fun T kV doc pm an cdv ct us its h1 h2 => match us, its, h1, h2 with | [_, _], [_], _, _ => ⟨_, rfl, rfl⟩
  cases v1
  obtain ⟨itsK, bk⟩ := FD.kbindsD (ps := ["self", "value"]) 1 ["value"] (fun us ds ws => us ++ ws) (fun z => nomatch z) (fun r1 r2 r3 => r1.append r3) fun T kV doc pm an cdv ct us its ws h1 h2 h3 => match us, its, ws, h1, h2, h3 with | [_], [_], [_], _, _, _ => ⟨_, rfl, rfl⟩
  have ML : MkL K C fN _ := ⟨⟨mk, a_n, i_n, kC⟩, bd0, bd1, bk⟩
  have TI : ErrM K mg "InvalidLead" "InvalidLead.__init__" "value" CI fI "ValueError" "ValueError.__new__" "ValueError.__init__" _ := ⟨⟨PySem.F.excBase_ValueError, PySem.F.store_ValueError, ei_I, eo_I, es_I, ex_I, et_I, ek_I, eh_I⟩, ⟨en_I, ef_I, ev_I, ⟨_, _, _, _, _, _, _, _, _, _, _, _, _, _, el_I, ec_I⟩⟩, PySem.W.mg_of X G aCI⟩
  have TT : ErrM K mg "TooMany" "TooMany.__init__" "limit" CT fT "OverflowError" "OverflowError.__new__" "OverflowError.__init__" _ := ⟨⟨PySem.F.excBase_OverflowError, PySem.F.store_OverflowError, ei_T, eo_T, es_T, ex_T, et_T, ek_T, eh_T⟩, ⟨en_T, ef_T, ev_T, ⟨_, _, _, _, _, _, _, _, _, _, _, _, _, _, el_T, ec_T⟩⟩, PySem.W.mg_of X G aCT⟩
  have EI : ErrK K CI := ⟨er_I, eg_I, eq_Ig, ex_I, ea_I, cg, ct, eb_I, eh_I⟩
  have ET : ErrK K CT := ⟨er_T, eg_T, eq_Tg, ex_T, ea_T, cg, ct, eb_T, eh_T⟩
  have E : TxE K mg CF CT CJ CS CB CI CP CX CW := ⟨PySem.W.mg_of X G aCF, PySem.W.mg_of X G aCT, PySem.W.mg_of X G aCJ, PySem.W.mg_of X G aCS, PySem.W.mg_of X G aCB, PySem.W.mg_of X G aCI, PySem.W.mg_of X G aCP, PySem.W.mg_of X G aCX, PySem.W.mg_of X G aCW, m_isinstance, m_OverflowError, m_ValueError, ET, EI, ev_T, ev_I, xT, xI, tTT, tTO, tTF, tIT, tII, tIn, tIV⟩
  have N : TxN K C := ⟨⟨nk_NoneType, nf_NoneType⟩, ⟨nk_int, nf_int⟩, ⟨nk_str, nf_str⟩, ⟨nk_list, nf_list⟩, ⟨nk_tuple, nf_tuple⟩⟩
  refine ⟨PySem.W.fnOf "law" "law" (defArgs sLaw) (defBody sLaw) (defScope sLaw) .none kV_la dc_la pm_la an_la (.ref c_la) ct_la, [(c_pa, P_pa), (c_jo, P_jo), (c_la, P_la)], spLaw K [(P_pa, "_law_pair_right.<locals>.<lambda>"), (P_jo, "_law_joined.<locals>.<lambda>"), (P_la, "law.<locals>.<lambda>")], ?_, ?_, ?_, ?_, ?_, ?_⟩
  · exact fun p hp => mem3 (Q := fun p => h.get? p.2 = some { cls := .none, data := .fields #[] }) hp tb_pa tb_jo tb_la
  · exact fun p hp => mem3 (Q := fun p => K.lookup p.2 = none) hp np_pa np_jo np_la
  · exact fun p hp => mem3 (Q := fun p => PySem.W.CodeHd h p.1 p.2) hp (PySem.W.codeHd_of_K X hc_pa) (PySem.W.codeHd_of_K X hc_jo) (PySem.W.codeHd_of_K X hc_la)
  · exact fun s v => .of_eq rfl
  · intro H a ns hl hb hT hS
    exact ⟨a, ns, rfl, hS, hl, fun p hp => tab3 hp (hT (c_pa, P_pa) (by simp)) (hT (c_jo, P_jo) (by simp)) (hT (c_la, P_la) (by simp)), fun _ => rfl⟩
  · intro base hb hg hT
    have G_w : FnOk l.prog w K mg base CX0 2 f_w _ ["value", "least", "most"] (spWithin K) := ok_within F_w m_isinstance m_int m_bool
    have G_n : FnOk l.prog w K mg base (L2.CX l.prog w) 3 fN _ ["self", "value"] (spN K C CI) := ok_N FD L TI D_w G_w
    have G_mu : FnOk l.prog w K mg base (L2.CX l.prog w) 5 f_mu _ ["self", "other"] (spMul C CT) := ok_mul F_mu L TT D_w G_w ML G_n m_isinstance
    have G_ad : FnOk l.prog w K mg base CX0 5 f_ad _ ["self", "other"] (spAdd C) := ok_add F_ad L ML G_n m_isinstance
    have G_eq : FnOk l.prog w K mg base CX0 1 f_eq _ ["self", "other"] (spEq K C) := ok_eq F_eq L m_isinstance
    have G_bo : FnOk l.prog w K mg base CX0 1 f_bo _ ["self"] (spBo C) := ok_bo F_bo L m_bool
    have G_st : FnOk l.prog w K mg base CX0 1 f_st _ ["self"] (spSt C) := ok_st F_st L m_str
    have G_re : FnOk l.prog w K mg base CX0 1 f_re _ ["self"] (spRe C) := ok_re F_re L
    have sM : Spec K C (PySem.dunder Operator.Mult.info.2) f_mu := ⟨a_mu, i_mu⟩
    have sA : Spec K C (PySem.dunder Operator.Add.info.2) f_ad := ⟨a_ad, i_ad⟩
    have sE : Spec K C (cmpInfo .Eq).2.1 f_eq := ⟨a_eq, i_eq⟩
    have G_al : FnR l.prog w K mg base (L2.CX l.prog w) 6 f_al (spAlong C CT) := ok_along F_al L ML G_n G_mu b_mu sM sf
    have G_be : FnR l.prog w K mg base CX0 6 f_be (spBest C) := ok_best F_be L ML G_n G_ad b_ad sA sf
    have G_pn : FnOk l.prog w K mg base CX0 1 f_pn _ ["_law_script"] (spPen K) := ok_pen F_pn m_list
    have G_dr : FnOk l.prog w K mg base CX0 1 f_dr _ ["_law_pen_here", "_law_many"] spDraw := ok_draw F_dr m_int m_abs m_len
    have G_va : FnOk l.prog w K mg base CX0 2 f_va _ ["_law_pen_here"] spVal := ok_val F_va D_dr G_dr
    have G_su : FnOk l.prog w K mg base CX0 1 f_su _ ["_law_x", "_law_y"] spSum := ok_sum F_su m_abs
    have G_he : FnOk l.prog w K mg base CX0 1 f_he _ ["_law_x"] spHei := ok_hei F_he
    have G_ch : FnOk l.prog w K mg base CX0 1 f_ch _ ["_law_row"] (spChain K) := ok_chain F_ch m_abs
    have Bp : TbT [(P_pa, ("_law_pair_right.<locals>.<lambda>" : Str)), (P_jo, "_law_joined.<locals>.<lambda>"), (P_la, "law.<locals>.<lambda>")] mg base c_pa P_pa "_law_pair_right.<locals>.<lambda>" := ⟨by simp, fun p hp e => uniq3 hp e d1 d2 d3 (.inl rfl) , hT (c_pa, P_pa) (by simp)⟩
    have Bj : TbT [(P_pa, ("_law_pair_right.<locals>.<lambda>" : Str)), (P_jo, "_law_joined.<locals>.<lambda>"), (P_la, "law.<locals>.<lambda>")] mg base c_jo P_jo "_law_joined.<locals>.<lambda>" := ⟨by simp, fun p hp e => uniq3 hp e d1 d2 d3 (.inr (.inl rfl)), hT (c_jo, P_jo) (by simp)⟩
    have Bl : TbT [(P_pa, ("_law_pair_right.<locals>.<lambda>" : Str)), (P_jo, "_law_joined.<locals>.<lambda>"), (P_la, "law.<locals>.<lambda>")] mg base c_la P_la "law.<locals>.<lambda>" := ⟨by simp, fun p hp e => uniq3 hp e d1 d2 d3 (.inr (.inr rfl)), hT (c_la, P_la) (by simp)⟩
    have G_pa := ok_pair (P := l.prog) (w := w) (base := base) (Fun.code F_pa rfl) L E ML G_n G_mu b_mu sM sf G_ad b_ad sA G_eq b_eq sE nf ⟨a_eq, i_eq⟩ ne D_su G_su D_he G_he D_to Bp m_repr m_int
    have G_ao := ok_alone (P := l.prog) (w := w) (base := base) F_ao L N ML G_n G_eq b_eq sE G_re b_re ⟨a_re, i_re⟩ G_st b_st ⟨a_st, i_st⟩ G_bo b_bo ⟨a_bo, i_bo⟩ G_al k_al (PySem.W.mg_of X G a_al) G_be k_be (PySem.W.mg_of X G a_be) m_repr m_int m_str m_bool
    have G_jo := ok_join (P := l.prog) (w := w) (base := base) (Fun.code F_jo rfl) L E ML G_n G_al k_al (PySem.W.mg_of X G a_al) D_to Bj m_len
    have G_ro := ok_row (P := l.prog) (w := w) (base := base) F_ro L ML G_n G_be k_be (PySem.W.mg_of X G a_be) D_he G_he D_jo G_jo D_ch G_ch m_len m_repr m_max
    exact ok_law (P := l.prog) (w := w) (base := base) (Fun.code F_la rfl) L E ML G_n G_eq b_eq sE nf G_al k_al (PySem.W.mg_of X G a_al) G_be k_be (PySem.W.mg_of X G a_be) ⟨D_pn.m, k_pn, b_pn⟩ G_pn ⟨D_dr.m, k_dr, b_dr⟩ G_dr ⟨D_va.m, k_va, b_va⟩ G_va ⟨D_pa.m, k_pa, b_pa⟩ G_pa ⟨D_ao.m, k_ao, b_ao⟩ G_ao ⟨D_ro.m, k_ro, b_ro⟩ G_ro D_to Bl m_repr m_range
end Ev

set_option Elab.async false
set_option maxRecDepth 100000
open PySem PySem.W PyProof.Rows
set_option maxHeartbeats 0 in
theorem PySem.Challenge.cw_everframe_k01_leads_as_values_holds : PySem.Challenge.rw_everframe_k01_leads_as_values.Holds := by
  w_on; o_law; k_head; (case hw => w_witness2)
  k_fill
  refine Ev.walk_ofG (l := PySem.Challenge.rw_everframe_k01_leads_as_values) (n := 63) (k := 11) (x := "_law_script") rfl (by decide) rfl ⟨rfl, by decide, by decide⟩ ?F
  case F =>
    intro w mg fa h Y G hmg
    have KX := PySem.W.km_in_of Y
    refine ⟨_, KX, ?_⟩
    refine' Ev.all_mk KX G hmg ?aC ?aCF ?aCT ?aCJ ?aCS ?aCB ?aCI ?aCP ?aCX ?aCW ?z_isinstance ?z_int ?z_bool ?z_str ?z_repr ?z_list ?z_abs ?z_len ?z_max ?z_range ?z_OverflowError ?z_ValueError ?a_w ?l_w ?c_w_ ?k_w ?a_al ?l_al ?c_al_ ?k_al ?a_be ?l_be ?c_be_ ?k_be ?a_pn ?l_pn ?c_pn_ ?k_pn ?a_dr ?l_dr ?c_dr_ ?k_dr ?a_va ?l_va ?c_va_ ?k_va ?a_to ?l_to ?c_to_ ?k_to ?a_su ?l_su ?c_su_ ?k_su ?a_he ?l_he ?c_he_ ?k_he ?a_pa ?l_pa ?c_pa_ ?k_pa ?lc_pa ?vp_pa ?hc_pa ?np_pa ?tb_pa ?a_ao ?l_ao ?c_ao_ ?k_ao ?a_ch ?l_ch ?c_ch_ ?k_ch ?a_jo ?l_jo ?c_jo_ ?k_jo ?lc_jo ?vp_jo ?hc_jo ?np_jo ?tb_jo ?a_ro ?l_ro ?c_ro_ ?k_ro ?a_la ?l_la ?c_la_ ?k_la ?lc_la ?vp_la ?hc_la ?np_la ?tb_la ?d1 ?d2 ?d3 ?a_mu ?i_mu ?l_mu ?c_mu_ ?k_mu ?a_ad ?i_ad ?l_ad ?c_ad_ ?k_ad ?a_eq ?i_eq ?l_eq ?c_eq_ ?k_eq ?a_bo ?i_bo ?l_bo ?c_bo_ ?k_bo ?a_st ?i_st ?l_st ?c_st_ ?k_st ?a_re ?i_re ?l_re ?c_re_ ?k_re ?a_n ?i_n ?l_n ?c_n_ ?k_n ?l_d ?pg ?hd ?po ?sa ?mk ?kC ?nV ?rI ?rG ?rM ?ca ?cg ?ct ?ob ?kk ?sf ?nf ?ne ?nk_NoneType ?nf_NoneType ?nk_int ?nf_int ?nk_str ?nf_str ?nk_list ?nf_list ?nk_tuple ?nf_tuple ?ei_I ?eo_I ?es_I ?ex_I ?et_I ?ek_I ?eh_I ?en_I ?ef_I ?ev_I ?el_I ?ec_I ?eg_I ?eq_Ig ?ea_I ?eb_I ?er_I ?ei_T ?eo_T ?es_T ?ex_T ?et_T ?ek_T ?eh_T ?en_T ?ef_T ?ev_T ?el_T ?ec_T ?eg_T ?eq_Tg ?ea_T ?eb_T ?er_T ?xT ?xI ?tTT ?tTO ?tTF ?tIT ?tII ?tIn ?tIV
    (case aC => k_is)
    (case aCF => k_is)
    (case aCT => k_is)
    (case aCJ => k_is)
    (case aCS => k_is)
    (case aCB => k_is)
    (case aCI => k_is)
    (case aCP => k_is)
    (case aCX => k_is)
    (case aCW => k_is)
    (case z_isinstance => k_is)
    (case z_int => k_is)
    (case z_bool => k_is)
    (case z_str => k_is)
    (case z_repr => k_is)
    (case z_list => k_is)
    (case z_abs => k_is)
    (case z_len => k_is)
    (case z_max => k_is)
    (case z_range => k_is)
    (case z_OverflowError => k_is)
    (case z_ValueError => k_is)
    (case a_w => k_is)
    (case l_w => k_is)
    (case c_w_ => k_is)
    (case k_w => k_is)
    (case a_al => k_is)
    (case l_al => k_is)
    (case c_al_ => k_is)
    (case k_al => k_is)
    (case a_be => k_is)
    (case l_be => k_is)
    (case c_be_ => k_is)
    (case k_be => k_is)
    (case a_pn => k_is)
    (case l_pn => k_is)
    (case c_pn_ => k_is)
    (case k_pn => k_is)
    (case a_dr => k_is)
    (case l_dr => k_is)
    (case c_dr_ => k_is)
    (case k_dr => k_is)
    (case a_va => k_is)
    (case l_va => k_is)
    (case c_va_ => k_is)
    (case k_va => k_is)
    (case a_to => k_is)
    (case l_to => k_is)
    (case c_to_ => k_is)
    (case k_to => k_is)
    (case a_su => k_is)
    (case l_su => k_is)
    (case c_su_ => k_is)
    (case k_su => k_is)
    (case a_he => k_is)
    (case l_he => k_is)
    (case c_he_ => k_is)
    (case k_he => k_is)
    (case a_pa => k_is)
    (case l_pa => k_is)
    (case c_pa_ => k_is)
    (case k_pa => k_is)
    (case lc_pa => k_is)
    (case vp_pa => rfl)
    (case hc_pa => kernel_rfl)
    (case np_pa => kernel_rfl)
    (case tb_pa => exact PySem.W.km_tabs_of Y _ (by k_mem))
    (case a_ao => k_is)
    (case l_ao => k_is)
    (case c_ao_ => k_is)
    (case k_ao => k_is)
    (case a_ch => k_is)
    (case l_ch => k_is)
    (case c_ch_ => k_is)
    (case k_ch => k_is)
    (case a_jo => k_is)
    (case l_jo => k_is)
    (case c_jo_ => k_is)
    (case k_jo => k_is)
    (case lc_jo => k_is)
    (case vp_jo => rfl)
    (case hc_jo => kernel_rfl)
    (case np_jo => kernel_rfl)
    (case tb_jo => exact PySem.W.km_tabs_of Y _ (by k_mem))
    (case a_ro => k_is)
    (case l_ro => k_is)
    (case c_ro_ => k_is)
    (case k_ro => k_is)
    (case a_la => k_is)
    (case l_la => k_is)
    (case c_la_ => k_is)
    (case k_la => k_is)
    (case lc_la => k_is)
    (case vp_la => rfl)
    (case hc_la => kernel_rfl)
    (case np_la => kernel_rfl)
    (case tb_la => exact PySem.W.km_tabs_of Y _ (by k_mem))
    (case d1 => decide)
    (case d2 => decide)
    (case d3 => decide)
    (case a_mu => k_is)
    (case i_mu => k_is)
    (case l_mu => k_is)
    (case c_mu_ => k_is)
    (case k_mu => k_is)
    (case a_ad => k_is)
    (case i_ad => k_is)
    (case l_ad => k_is)
    (case c_ad_ => k_is)
    (case k_ad => k_is)
    (case a_eq => k_is)
    (case i_eq => k_is)
    (case l_eq => k_is)
    (case c_eq_ => k_is)
    (case k_eq => k_is)
    (case a_bo => k_is)
    (case i_bo => k_is)
    (case l_bo => k_is)
    (case c_bo_ => k_is)
    (case k_bo => k_is)
    (case a_st => k_is)
    (case i_st => k_is)
    (case l_st => k_is)
    (case c_st_ => k_is)
    (case k_st => k_is)
    (case a_re => k_is)
    (case i_re => k_is)
    (case l_re => k_is)
    (case c_re_ => k_is)
    (case k_re => k_is)
    (case a_n => k_is)
    (case i_n => k_is)
    (case l_n => k_is)
    (case c_n_ => k_is)
    (case k_n => k_is)
    (case l_d => k_is)
    (case pg => k_is)
    (case hd => k_is)
    (case po => k_is)
    (case sa => k_is)
    (case mk => k_is)
    (case kC => k_is)
    (case nV => k_is)
    (case rI => first | k_is | kernel_rfl)
    (case rG => k_is)
    (case rM => first | k_is | kernel_rfl)
    (case ca => k_is)
    (case cg => k_is)
    (case ct => k_is)
    (case ob => k_is)
    (case kk => first | k_is | kernel_rfl)
    (case sf => first | k_is | kernel_rfl)
    (case nf => first | k_is | kernel_rfl)
    (case ne => k_is)
    (case nk_NoneType => first | k_is | kernel_rfl)
    (case nf_NoneType => first | k_is | kernel_rfl)
    (case nk_int => first | k_is | kernel_rfl)
    (case nf_int => first | k_is | kernel_rfl)
    (case nk_str => first | k_is | kernel_rfl)
    (case nf_str => first | k_is | kernel_rfl)
    (case nk_list => first | k_is | kernel_rfl)
    (case nf_list => first | k_is | kernel_rfl)
    (case nk_tuple => first | k_is | kernel_rfl)
    (case nf_tuple => first | k_is | kernel_rfl)
    (case ei_I => first | k_is | kernel_rfl)
    (case eo_I => first | k_is | kernel_rfl)
    (case es_I => k_is)
    (case ex_I => first | k_is | kernel_rfl)
    (case et_I => k_is)
    (case ek_I => k_is)
    (case eh_I => k_is)
    (case en_I => k_is)
    (case ef_I => k_is)
    (case ev_I => k_is)
    (case el_I => k_is)
    (case ec_I => k_is)
    (case eg_I => k_is)
    (case eq_Ig => k_is)
    (case ea_I => k_is)
    (case eb_I => k_is)
    (case er_I => first | k_is | kernel_rfl)
    (case ei_T => first | k_is | kernel_rfl)
    (case eo_T => first | k_is | kernel_rfl)
    (case es_T => k_is)
    (case ex_T => first | k_is | kernel_rfl)
    (case et_T => k_is)
    (case ek_T => k_is)
    (case eh_T => k_is)
    (case en_T => k_is)
    (case ef_T => k_is)
    (case ev_T => k_is)
    (case el_T => k_is)
    (case ec_T => k_is)
    (case eg_T => k_is)
    (case eq_Tg => k_is)
    (case ea_T => k_is)
    (case eb_T => k_is)
    (case er_T => first | k_is | kernel_rfl)
    (case xT => first | k_is | kernel_rfl)
    (case xI => first | k_is | kernel_rfl)
    (case tTT => first | k_is | kernel_rfl)
    (case tTO => first | k_is | kernel_rfl)
    (case tTF => first | k_is | kernel_rfl)
    (case tIT => first | k_is | kernel_rfl)
    (case tII => first | k_is | kernel_rfl)
    (case tIn => first | k_is | kernel_rfl)
    (case tIV => first | k_is | kernel_rfl)
#print axioms PySem.Challenge.cw_everframe_k01_leads_as_values_holds

