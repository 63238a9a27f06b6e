import PyProof.Rows.All
import Wide.All
import OpenK.AllK
import Wide.FinOn
import HandS.ForMost
import HandS.IsInst
import HandS.Wide
import HandS.Flow
import PySem.Challenge.RW_renamedown_k00_integers_and_owners
set_option Elab.async false
set_option linter.all false
set_option maxRecDepth 100000
set_option maxHeartbeats 4000000
/-! WX: readings run forwards: each rule takes the syntax at hand and asks for what follows it. -/
namespace WX
open PySem PySem.Spec PyProof.Rows L2
section
variable {X : Cx} {σ : L2.St} {H : Hp} {Q : VK} {D : Ends} {pos : Pos}
/-! ### the readings as they are -/
structure wE (X : Cx) (e : Expr) (σ : L2.St) (H : Hp) (Q : VK) : Prop where
  run : ∀ (pins : List (Addr × Obj)) (s : Shared), Inv X pins σ H s → wpAny (model X.prog X.w) X.A (eval e X.env) (EP X pins σ Q) X.xe s
structure wT (X : Cx) (e : Expr) (σ : L2.St) (H : Hp) (Q : Bool → Hp → Prop) : Prop where
  run : ∀ (pins : List (Addr × Obj)) (s : Shared), Inv X pins σ H s → wpAny (model X.prog X.w) X.A (isTrue e X.env (eval e X.env)) (TP X pins σ Q) X.xe s
structure wW (X : Cx) (e : Expr) (σ : L2.St) (H : Hp) (Q : Bool → Hp → Prop) : Prop where
  run : ∀ (whole : Sem Value) (pins : List (Addr × Obj)) (s : Shared), Inv X pins σ H s → wpAny (model X.prog X.w) X.A (isTrue e X.env whole) (TP X pins σ Q) X.xe s
structure wA (X : Cx) (es : List Expr) (σ : L2.St) (H : Hp) (Q : List V → Hp → Prop) : Prop where
  run : ∀ (pos : Pos) (pins : List (Addr × Obj)) (s : Shared), Inv X pins σ H s → wpAny (model X.prog X.w) X.A (spliced (backTo pos (starEach es X.env))) (AP X pins σ Q) X.xe s
structure wS (X : Cx) (st : Stmt) (D : Ends) (σ : L2.St) (H : Hp) : Prop where
  run : ∀ (pins : List (Addr × Obj)) (s : Shared), Inv X pins σ H s → wpAny (model X.prog X.w) X.A (exec st X.env) (SP X pins D) X.xe s
structure wB (X : Cx) (st : List Stmt) (D : Ends) (σ : L2.St) (H : Hp) : Prop where
  run : ∀ (pins : List (Addr × Obj)) (s : Shared), Inv X pins σ H s → wpAny (model X.prog X.w) X.A (execs st X.env) (SP X pins D) X.xe s
structure wO (X : Cx) (f : Value → Value → Sem Value) (x y : V) (H : Hp) (Q : VK) : Prop where
  run : ∀ (pins : List (Addr × Obj)) (s : Shared) (σ : L2.St) (v u : Value), Inv X pins σ H s → RelV x v → RelV y u → wpAny (model X.prog X.w) X.A (f v u) (EP X pins σ Q) X.xe s
structure wU (X : Cx) (f : Value → Sem Value) (x : V) (H : Hp) (Q : VK) : Prop where
  run : ∀ (pins : List (Addr × Obj)) (s : Shared) (σ : L2.St) (v : Value), Inv X pins σ H s → RelV x v → wpAny (model X.prog X.w) X.A (f v) (EP X pins σ Q) X.xe s
structure wC (X : Cx) (f : Value) (xs : List V) (H : Hp) (Q : VK) : Prop where
  run : ∀ (pins : List (Addr × Obj)) (s : Shared) (σ : L2.St) (us : List Value), Inv X pins σ H s → Vals xs us → wpAny (model X.prog X.w) X.A (call f us) (EP X pins σ Q) X.xe s
structure wX (X : Cx) (x y : V) (H : Hp) (Q : VK) : Prop where
  run : ∀ (value slice : Expr) (pins : List (Addr × Obj)) (s : Shared) (σ : L2.St) (v u : Value), Inv X pins σ H s → RelV x v → RelV y u →
    subscripted slice false v u = operate [v, u] (getItem v u) → wpAny (model X.prog X.w) X.A (subscriptTail value slice v u) (EP X pins σ Q) X.xe s
structure wM (X : Cx) (id : String) (x : V) (xs : List V) (H : Hp) (Q : VK) : Prop where
  run : ∀ (pins : List (Addr × Obj)) (s : Shared) (σ : L2.St) (v : Value) (us : List Value), Inv X pins σ H s → RelV x v → Vals xs us → wpAny (model X.prog X.w) X.A (call (.builtin id) (v :: us)) (EP X pins σ Q) X.xe s
structure wPS (X : Cx) (o i v : V) (H : Hp) (Q : Hp → Prop) : Prop where
  run : ∀ (pins : List (Addr × Obj)) (s : Shared) (σ : L2.St) (ov iv u : Value), Inv X pins σ H s → RelV o ov → RelV i iv → RelV v u → wpAny (model X.prog X.w) X.A (setItem ov iv u) (fun _ s' => ∃ H', Inv X pins σ H' s' ∧ Q H') X.xe s

variable {e a b c : Expr} {es rest : List Expr} {st : Stmt} {sts : List Stmt}
theorem pe_self : PE X e (wE X e) := ⟨fun pins s _ _ _ I h => h.run pins s I⟩
theorem pt_self : PT X e (wT X e) := ⟨fun pins s _ _ _ I h => h.run pins s I⟩
theorem pw_self : PW X e (wW X e) := ⟨fun wh pins s _ _ _ I h => h.run wh pins s I⟩
theorem pa_self : PA X es (wA X es) := ⟨fun p pins s _ _ _ I h => h.run p pins s I⟩
theorem ps_self : PS X st (wS X st) := ⟨fun pins s _ _ _ I h => h.run pins s I⟩
theorem pss_self : PSs X sts (wB X sts) := ⟨fun pins s _ _ _ I h => h.run pins s I⟩
theorem op_self {f : Value → Value → Sem Value} : OpR X f (wO X f) := fun pins s σ _ _ _ v u _ I rx ry h => h.run pins s σ v u I rx ry
theorem un_self {f : Value → Sem Value} : UnR X f (wU X f) := fun pins s σ _ _ v _ I rx h => h.run pins s σ v I rx
theorem call_self {f : Value} : CallR X f (wC X f) := fun pins s σ _ _ us _ I r h => h.run pins s σ us I r
theorem ix_self : IxR X (wX X) := fun value slice pins s σ _ _ _ v u _ I rx ry h hs => h.run value slice pins s σ v u I rx ry hs
theorem mt_self {id : String} : MtR X id (wM X id) := fun pins s σ _ _ _ v us _ I rx r h => h.run pins s σ v us I rx r
theorem set_self : PSet X (wPS X) := fun pins s σ _ _ _ _ ov iv u _ I ro ri rv h => h.run pins s σ ov iv u I ro ri rv
theorem toE {t : TE} (p : PE X e t) (h : t σ H Q) : wE X e σ H Q := ⟨fun pins s I => p.run pins s σ H Q I h⟩
theorem toT {t : TT} {Q : Bool → Hp → Prop} (p : PT X e t) (h : t σ H Q) : wT X e σ H Q := ⟨fun pins s I => p.run pins s σ H Q I h⟩
theorem toW {t : TT} {Q : Bool → Hp → Prop} (p : PW X e t) (h : t σ H Q) : wW X e σ H Q := ⟨fun wh pins s I => p.run wh pins s σ H Q I h⟩
theorem toA {t : TA} {Q : List V → Hp → Prop} (p : PA X es t) (h : t σ H Q) : wA X es σ H Q := ⟨fun ps pins s I => p.run ps pins s σ H Q I h⟩
theorem toS {t : TS} (p : PS X st t) (h : t D σ H) : wS X st D σ H := ⟨fun pins s I => p.run pins s σ H D I h⟩
theorem toB {t : TS} (p : PSs X sts t) (h : t D σ H) : wB X sts D σ H := ⟨fun pins s I => p.run pins s σ H D I h⟩
theorem toO {f : Value → Value → Sem Value} {r : R2} {x y : V} (p : OpR X f r) (h : r x y H Q) : wO X f x y H Q := ⟨fun pins s σ v u I rx ry => p pins s σ H x y v u Q I rx ry h⟩
theorem toU {f : Value → Sem Value} {r : V → Hp → VK → Prop} {x : V} (p : UnR X f r) (h : r x H Q) : wU X f x H Q := ⟨fun pins s σ v I rx => p pins s σ H x v Q I rx h⟩
theorem toC {f : Value} {r : List V → Hp → VK → Prop} {xs : List V} (p : CallR X f r) (h : r xs H Q) : wC X f xs H Q := ⟨fun pins s σ us I rv => p pins s σ H xs us Q I rv h⟩
theorem toX {r : R2} {x y : V} (p : IxR X r) (h : r x y H Q) : wX X x y H Q := ⟨fun value slice pins s σ v u I rx ry hs => p value slice pins s σ H x y v u Q I rx ry h hs⟩
theorem toM {id : String} {r : V → List V → Hp → VK → Prop} {x : V} {xs : List V} (p : MtR X id r) (h : r x xs H Q) : wM X id x xs H Q := ⟨fun pins s σ v us I rx rv => p pins s σ H x xs v us Q I rx rv h⟩

/-! ### what is known of the def at work -/
structure Bd (X : Cx) (N : List Str) (sc : Scope) (k : Nat) : Prop where
  hN : X.N = N
  nd : X.N.Nodup
  sc : X.env.scope = sc
  calm : X.calm = true
  room : Room k X.A
  ps : PassesOwn (model X.prog X.w) X.A X.env X.xe
  fn : ∀ x, X.env.scope.names.lookup x = some .local → True
  gu : X.A.guards = some []
theorem Bd.slot {N : List Str} {sc : Scope} {k : Nat} (B : Bd X N sc k) (i : Nat) {x : Str} (h : N[i]? = some x) : X.N[i]? = some x := by rw [B.hN]; exact h
theorem Bd.gl {N : List Str} {sc : Scope} {k : Nat} (B : Bd X N sc k) {x : Str} (h : sc.names.lookup x = some .globalImplicit) : Gl X x := by
  have e := B.sc
  subst e
  exact h
theorem Bd.loc {N : List Str} {sc : Scope} {k : Nat} (B : Bd X N sc k) {x : Str} (h : sc.names.lookup x = some .local) : X.env.scope.names.lookup x = some .local := by rw [B.sc]; exact h
theorem Bd.cel {N : List Str} {sc : Scope} {k : Nat} (B : Bd X N sc k) {x : Str} (h : sc.names.lookup x = some .cell) : X.env.scope.names.lookup x = some .cell := by rw [B.sc]; exact h
/-! ### expressions -/
theorem e_int {i : Int} {j} (h : Q (.int i) H) : wE X (.Constant (.int i) j pos) σ H Q := toE pe_int h
theorem e_bl {i : Bool} {j} (h : Q (.bl i) H) : wE X (.Constant (.bool i) j pos) σ H Q := toE pe_bl h
theorem e_non {j} (h : Q .non H) : wE X (.Constant .none j pos) σ H Q := toE pe_non h
theorem e_str {i : Str} {j} (h : Q (.str i) H) : wE X (.Constant (.str i) j pos) σ H Q := toE pe_str h
theorem e_loc (i : Nat) {x : Str} {v : V} (hN : X.N[i]? = some x) (hv : Vis X.env.scope x) (hs : σ[i]? = some (some v)) (h : Q v H) (hd : (x == ("__debug__" : Str)) = false := by decide) (hcd : (x == ("__classdict__" : Str)) = false := by decide) :
    wE X (.Name x pos) σ H Q := toE (pe_var hN hv hd hcd) ⟨v, hs, h⟩
theorem e_glob {x : Str} {v : V} {u : Value} (hg : Gl X x) (hm : X.mg x = some u) (r : RelV v u) (h : Q v H) (hd : (x == ("__debug__" : Str)) = false := by decide) : wE X (.Name x pos) σ H Q := toE (pe_glob hg hm r hd) h
theorem e_blt {x : Str} {v : V} {u : Value} (hg : Gl X x) (hm : X.mg x = none) (hv : bootBuiltins x = some u) (r : RelV v u) (h : Q v H) (hn : x ≠ "__name__" := by decide) (hd : (x == ("__debug__" : Str)) = false := by decide) : wE X (.Name x pos) σ H Q := toE (pe_bltn hg hm hv r hn hd) h
theorem e_bin {op : Operator} (h : wE X a σ H fun x H1 => wE X b σ H1 fun y H2 => wO X (binaryOp op) x y H2 Q) : wE X (.BinOp a op b pos) σ H Q := toE (pe_op op_self pe_self pe_self) h
theorem e_un {op : UnaryOp} (h : wE X a σ H fun x H1 => wU X (unaryOp op) x H1 Q) : wE X (.UnaryOp op a pos) σ H Q := toE (pe_un un_self pe_self) h
theorem e_not (h : wE X a σ H fun x H1 => ∃ c, x = .bl c ∧ Q (.bl (!c)) H1) : wE X (.UnaryOp .Not a pos) σ H Q := toE (pe_not pe_self) h
theorem e_cmp {op : CmpOp} (hm : behindInMarks op b = false) (h : wE X a σ H fun x H1 => wE X b σ H1 fun y H2 => wO X (compareOp op) x y H2 Q) : wE X (.Compare a [op] [b] pos) σ H Q := toE (pe_cmpR op_self pe_self pe_self hm) h
theorem e_chain {op op' : CmpOp} (h : wE X a σ H fun x H1 => wE X b σ H1 fun y H2 => wO X (compareOp op) x y H2 fun z H3 => ∃ k, z = .bl k ∧
    (if k = true then wE X c σ H3 fun w' H4 => wO X (compareOp op') y w' H4 Q else Q (.bl false) H3)) (hm : lastMarks [op, op'] [b, c] = false := by with_unfolding_all rfl) : wE X (.Compare a [op, op'] [b, c] pos) σ H Q :=
  toE (pe_chain op_self op_self pe_self pe_self pe_self hm) h
theorem e_one {op} (h : wE X a σ H Q) : wE X (.BoolOp op [a] pos) σ H Q := toE (pe_one pe_self) h
theorem e_and (h : wE X a σ H fun x H1 => ∃ c, x = .bl c ∧ if c = true then wE X (.BoolOp .And (b :: rest) pos) σ H1 Q else Q (.bl false) H1) : wE X (.BoolOp .And (a :: b :: rest) pos) σ H Q := toE (pe_and pe_self pe_self) h
theorem e_or (h : wE X a σ H fun x H1 => ∃ c, x = .bl c ∧ if c = true then Q (.bl true) H1 else wE X (.BoolOp .Or (b :: rest) pos) σ H1 Q) : wE X (.BoolOp .Or (a :: b :: rest) pos) σ H Q := toE (pe_or pe_self pe_self) h
theorem e_if (h : wT X c σ H fun k H1 => if k = true then wE X a σ H1 Q else wE X b σ H1 Q) : wE X (.IfExp c a b pos) σ H Q := toE (pe_ifExp pt_self pe_self pe_self) h
theorem e_ix (hs : PlainIx b) (h : wE X a σ H fun x H1 => wE X b σ H1 fun y H2 => wX X x y H2 Q) : wE X (.Subscript a b pos) σ H Q := toE (pe_ix ix_self pe_self pe_self hs) h
theorem e_tup {x1} (h : wA X es σ H fun xs H1 => xs.length ≤ sizeLine ∧ ∀ p, H1 p = none → Q (.ref p) (upd H1 p (.tup xs))) : wE X (.Tuple es x1 pos) σ H Q := toE (pe_tup pa_self) h
theorem e_lst (h : wA X es σ H fun xs H1 => xs.length ≤ sizeLine ∧ ∀ p, H1 p = none → Q (.ref p) (upd H1 p (.lst xs))) : wE X (.List es pos) σ H Q := toE (pe_lst pa_self) h
theorem a_nil {Q : List V → Hp → Prop} (h : Q [] H) : wA X [] σ H Q := toA pa_nil h
theorem a_cons {Q : List V → Hp → Prop} (h : wE X e σ H fun x H1 => wA X es σ H1 fun xs H2 => Q (x :: xs) H2) (hs : starEach (e :: es) X.env = (false, eval e X.env) :: starEach es X.env := by rfl) : wA X (e :: es) σ H Q := toA (pa_cons pe_self pa_self hs) h
/-- a built-in function, a built-in type -/
theorem e_callB {id : String} {x : Str} {p : Pos} (hg : Gl X x) (hm : X.mg x = none) (hv : bootBuiltins x = some (.builtin id)) (h : wA X (e :: es) σ H fun vs H1 => wC X (.builtin id) vs H1 Q) (hn : x ≠ "__name__" := by decide) (hdb : (x == ("__debug__" : Str)) = false := by decide)
    (he : starEach (e :: es) X.env = (false, eval e X.env) :: starEach es X.env := by rfl) (hpl : (backTo pos (starEach es X.env)).any (·.1) = false := by rfl) : wE X (.Call (.Name x p) (e :: es) [] pos) σ H Q := toE (pe_callB call_self hg hm hv pa_self hn hdb he hpl) h
theorem e_callT {T : String} {x : Str} {p : Pos} (hg : Gl X x) (hm : X.mg x = none) (hv : bootBuiltins x = some (.type T)) (h : wA X (e :: es) σ H fun vs H1 => wC X (.type T) vs H1 Q) (hn : x ≠ "__name__" := by decide) (hdb : (x == ("__debug__" : Str)) = false := by decide)
    (he : starEach (e :: es) X.env = (false, eval e X.env) :: starEach es X.env := by rfl) (hpl : (backTo pos (starEach es X.env)).any (·.1) = false := by rfl) : wE X (.Call (.Name x p) (e :: es) [] pos) σ H Q := toE (pe_callTy call_self hg hm hv pa_self hn hdb he hpl) h

/-! ### promises of defs that are called while no repr runs -/
structure FnG (P : Program) (w : World) (K : PySem.W.Frag) (mg : Str → Option Value) (base : Heap) (CX : CXT) (k : Nat) (f : Addr) (fd : FuncData) (ps : List Str) (sp : Sp) : Prop where
  cnt : ∀ vs H Q E, sp vs H Q E → vs.length = ps.length
  go : ∀ (B : Around) (l : List Env) (s : Shared) (H : Hp) (gs : Args) (us : List Value) (vs : List V) (Q : VK) (E : XK),
    B.guards = some [] → Room k B → Env0 P w K mg base B l s H → BindsTo s fd gs (ps.zip us) → Vals vs us → sp vs H Q E → codeAny (model P w) B (.call (.ref f) gs) (CR CX l P w H s Q E) s
/-- from a def's body -/
theorem fnG_of {CX : CXT} {P : Program} {w : World} {K : PySem.W.Frag} {mg : Str → Option Value} {base : Heap} {x qual : Str} {st : Stmt} {f : Addr} {fd : FuncData} {N ps : List Str} {k : Nat} {sp : Sp}
    (F : L2.Fun K x qual st f fd) (S : FnScope N ps (defScope st)) (len : ∀ vs H Q E, sp vs H Q E → vs.length = ps.length)
    (body : ∀ (cd : Value) (B : Around) (l : List Env) (s : Shared) (H : Hp) (vs : List V) (Q : VK) (E : XK), (B.deeper (envOfC qual (defScope st) s.heap.objs.size f cd)).guards = some [] → Room k (B.deeper (envOfC qual (defScope st) s.heap.objs.size f cd)) → sp vs H Q E →
      wB (cxOf CX P w K mg base N qual (defScope st) f cd B l s H E) (defBody st) { nx := fun _ H' => Q .non H', rt := Q } (start N vs) H) : FnG P w K mg base CX (k + 1) f fd ps sp := by
  obtain ⟨oc, od, kV, doc, pm, an, cd, ct, sl, efd, look, isCode⟩ := F.ex
  constructor
  · exact len
  · intro B l s H gs us vs Q E noG room en bind rel want
    have keepB : ∀ b o, base.get? b = some o → s.heap.get? b = some o := fun b o q => (en.bs b o q).1
    have inK := en.mod.kin.keeps keepB
    subst efd
    refine codeAny_call_function (Room.depth room) (inK _ _ look) rfl S.co S.gen rfl (PySem.W.codeRec_of inK isCode) (bind _ _ _ _ ?_)
    refine wpAny_newFunctionEnv_cells S.kind ?_ ?_
    · rintro ⟨n, v⟩ mem
      exact (S.par n (List.of_mem_zip mem).1).imp id fun q => ⟨q, PySem.W.cellsFrom_some _ _ _ (Or.inl q)⟩
    · intro env eenv s1 x1
      subst eenv
      refine ⟨(en.mod.nolimit.keeps keepB).keeps x1.toInCall.keep, codeAny_func ?_⟩
      have I0 := inv_start (CX := CX) (E := E) (qual := qual) (mg := mg) (cd := cd) (f := f) S (Room.hd room) en (len vs H Q E want) rel x1
      refine wpAny_mono ((body cd B l s H vs Q E noG (Room.deeper room _) want).run [] s1 I0) ?_ fun e s2 q => q
      intro fl s2 q
      match fl, q with
      | .ret u, ⟨v, σ2, H2, J, rv, q2⟩ => exact ⟨v, H2, J.os, J.bare, J.base, J.hok, rv, q2⟩
      | .next, ⟨σ2, H2, J, q2⟩ => exact ⟨V.non, H2, J.os, J.bare, J.base, J.hok, rfl, q2⟩
      | .brk, ⟨_, _, _, q2⟩ => exact q2.elim
      | .cont, ⟨_, _, _, q2⟩ => exact q2.elim
/-- the call -/
theorem fnG_run {X : Cx} {CX : CXT} {k : Nat} {f : Addr} {fd : FuncData} {ps : List Str} {sp : Sp} {E : XK} {pins : List (Addr × Obj)} {σ : L2.St} {H : Hp} {s : Shared} {Q : VK} {us : List Value} {vs : List V} (F : FnG X.prog X.w X.K X.mg X.base CX k f fd ps sp)
    (hg : X.A.guards = some []) (hr : Room k X.A) (hb : Binds X.K fd ps []) (hx : Passes CX X E) (I : Inv X pins σ H s) (r : Vals vs us) (h : sp vs H Q E) : wpAny (model X.prog X.w) X.A (call (.ref f) us) (EP X pins σ Q) X.xe s := by
  have n1 : us.length = ps.length := r.length.symm.trans (F.cnt vs H Q E h)
  have bt := hb s us I.kIn (by rw [List.append_nil]; exact n1)
  rw [List.append_nil] at bt
  refine wpAny_call (codeAny_mono (F.go X.A X.stack s H ⟨us, []⟩ us vs Q E hg hr I.env0 bt r h) ?_)
  intro res s2 q
  match res, q with
  | .error e, q => exact hx pins σ H s e s2 I q
  | .ok (.ret u), q => exact I.after q
  | .ok .next, q => exact q.elim
  | .ok .brk, q => exact q.elim
  | .ok .cont, q => exact q.elim
/-- a def of the text, by its promise -/
structure Df (P : Program) (w : World) (K : PySem.W.Frag) (mg : Str → Option Value) (base : Heap) (x : Str) (k : Nat) (ps : List Str) (sp : Sp) : Prop where
  ex : ∃ (f : Addr) (fd : FuncData), FnG P w K mg base CX0 k f fd ps sp ∧ mg x = some (.ref f) ∧ PySem.W.keepIn K (.ref f) = true ∧ Binds K fd ps []
theorem e_call {x : Str} {p : Pos} {k : Nat} {ps : List Str} {sp : Sp} (F : Df X.prog X.w X.K X.mg X.base x k ps sp) (hG : X.A.guards = some []) (hr : Room k X.A) (hg : Gl X x) (h : wA X (e :: es) σ H fun vs H1 => sp vs H1 Q E0) (hdb : (x == ("__debug__" : Str)) = false := by decide)
    (he : starEach (e :: es) X.env = (false, eval e X.env) :: starEach es X.env := by rfl) (hpl : (backTo pos (starEach es X.env)).any (·.1) = false := by rfl) : wE X (.Call (.Name x p) (e :: es) [] pos) σ H Q := by
  obtain ⟨f, fd, G, hm, hk, hb⟩ := F.ex
  constructor
  intro pins s I
  refine wpAny_Call_Name_kw (ld_glob I hg hm (PySem.W.callWith_K (h₀ := X.base) I.ok.mod.kin hk ?_ he hpl) hdb)
  refine thn (h.run pos pins s I) ?_
  rintro us s1 ⟨vs, H1, I1, r, q⟩
  exact ⟨I1.kIn, fnG_run G hG hr hb pass0 I1 r q⟩
theorem e_call0 {x : Str} {p : Pos} {k : Nat} {ps : List Str} {sp : Sp} (F : Df X.prog X.w X.K X.mg X.base x k ps sp) (hG : X.A.guards = some []) (hr : Room k X.A) (hg : Gl X x) (h : sp [] H Q E0) (hdb : (x == ("__debug__" : Str)) = false := by decide) : wE X (.Call (.Name x p) [] [] pos) σ H Q := by
  obtain ⟨f, fd, G, hm, hk, hb⟩ := F.ex
  constructor
  intro pins s I
  exact wpAny_Call_Name_kw (ld_glob I hg hm (PySem.W.callWith_K0 I.kIn hk (fnG_run (us := []) G hG hr hb pass0 I .nil h)) hdb)
/-- a method of a built-in type -/
theorem e_bm0 {o : Expr} {name : Str} {apos cpos : Pos} {T id : String} (pa : PlainAttrs T) (slot : Slot T name id) (hty : typeOf (.builtin id) = pure (.type "method_descriptor")) (h : wE X o σ H fun x H1 => tyV X.K T x H1 ∧ wM X id x [] H1 Q)
    (hbase : attributeBase o name X.env (eval o X.env) = eval o X.env := by rfl) (hline : (apos.endLine == cpos.line) = true := by rfl) : wE X (.Call (.Attribute o name apos) [] [] cpos) σ H Q := toE (pe_bm0 pa slot hty mt_self pe_self hbase hline) h

/-! ### tests -/
theorem t_cmp {Q : Bool → Hp → Prop} {op : CmpOp} (hm : behindInMarks op b = false) (h : wE X a σ H fun x H1 => wE X b σ H1 fun y H2 => wO X (compareOp op) x y H2 fun z H3 => ∃ k, z = .bl k ∧ Q k H3) : wT X (.Compare a [op] [b] pos) σ H Q :=
  toT (pt_cmpR op_self pe_self pe_self hm) h
theorem t_chain {Q : Bool → Hp → Prop} {op op' : CmpOp} (h : wE X a σ H fun x H1 => wE X b σ H1 fun y H2 => wO X (compareOp op) x y H2 fun z H3 => ∃ k, z = .bl k ∧
    (if k = true then wE X c σ H3 fun w' H4 => wO X (compareOp op') y w' H4 fun z H5 => ∃ k, z = .bl k ∧ Q k H5 else ∃ k, V.bl false = .bl k ∧ Q k H3)) (hm : lastMarks [op, op'] [b, c] = false := by with_unfolding_all rfl) : wT X (.Compare a [op, op'] [b, c] pos) σ H Q :=
  toT (pt_chain op_self op_self pe_self pe_self pe_self hm) h
theorem t_val {Q : Bool → Hp → Prop} (he : ∀ whole, isTrue e X.env whole = (do let v ← whole; standAt e.pos; holding [v] (truthy v))) (h : wE X e σ H fun x H1 => ∃ c, x = .bl c ∧ Q c H1) : wT X e σ H Q := toT (pt_val pe_self he) h
theorem t_tru {Q : Bool → Hp → Prop} (he : ∀ whole, isTrue e X.env whole = (do let v ← whole; standAt e.pos; holding [v] (truthy v))) (h : wE X e σ H fun x H' => ∃ k, TruV X.K x H' k ∧ Q k H') : wT X e σ H Q := toT (pt_truth pe_self he) h
theorem t_not {Q : Bool → Hp → Prop} (h : wT X a σ H fun c H1 => Q (!c) H1) : wT X (.UnaryOp .Not a pos) σ H Q := toT (pt_not pt_self) h
theorem t_w {Q : Bool → Hp → Prop} (h : wW X e σ H Q) : wT X e σ H Q := toT pw_self.pt h
theorem w_and1 {Q : Bool → Hp → Prop} (h : wT X a σ H Q) : wW X (.BoolOp .And [a] pos) σ H Q := toW (pw_and1 pt_self) h
theorem w_or1 {Q : Bool → Hp → Prop} (h : wT X a σ H Q) : wW X (.BoolOp .Or [a] pos) σ H Q := toW (pw_or1 pt_self) h
theorem w_and {Q : Bool → Hp → Prop} (h : wT X a σ H fun c H1 => if c = true then wW X (.BoolOp .And (b :: rest) pos) σ H1 Q else Q false H1) : wW X (.BoolOp .And (a :: b :: rest) pos) σ H Q := toW (pw_and pt_self pw_self) h
theorem w_or {Q : Bool → Hp → Prop} (h : wT X a σ H fun c H1 => if c = true then Q true H1 else wW X (.BoolOp .Or (b :: rest) pos) σ H1 Q) : wW X (.BoolOp .Or (a :: b :: rest) pos) σ H Q := toW (pw_or pt_self pw_self) h

/-! ### statements -/
theorem b_nil (h : D.nx σ H) : wB X [] D σ H := toB pss_nil h
theorem b_one (h : wS X st D σ H) : wB X [st] D σ H := toB (pss_one ps_self) h
theorem b_cons (h : wS X st { D with nx := fun σ' H' => wB X sts D σ' H' } σ H) : wB X (st :: sts) D σ H := toB (pss_cons ps_self pss_self) h
theorem s_ret (h : wE X e σ H D.rt) : wS X (.Return (some e) pos) D σ H := toS (ps_ret pe_self) h
theorem s_expr (h : wE X e σ H fun _ H1 => D.nx σ H1) (hs : swapsWith e none pos.line X.env = pure false := by rfl) : wS X (.Expr e pos) D σ H := toS (ps_expr pe_self hs) h
theorem s_doc {x j pos'} (h : D.nx σ H) : wS X (.Expr (.Constant (.str x) j pos) pos') D σ H := toS ps_doc h
theorem s_pass (h : D.nx σ H) : wS X (.Pass pos) D σ H := toS ps_pass h
theorem s_if {sa sb : List Stmt} (h : wT X c σ H fun k H1 => if k = true then wB X sa D σ H1 else wB X sb D σ H1) : wS X (.If c sa sb pos) D σ H := toS (ps_if pt_self pss_self pss_self) h
theorem s_set (i : Nat) {x : Str} {pos' : Pos} (hN : X.N.Nodup) (hi : X.N[i]? = some x) (hx : Loc X.env.scope x) (h : wE X e σ H fun y H1 => D.nx (σ.set i (some y)) H1) (hs : swapsWith e (some (.Name x pos')) pos.line X.env = pure false := by rfl)
    (hf : X.fn x = true ∨ X.env.scope.names.lookup x = some .local := by first | exact .inl rfl | exact .inr rfl | assumption) : wS X (.Assign [.Name x pos'] e pos) D σ H := toS (ps_set hN hi hx pe_self hs hf) h
/-- a, b = x, y of plain locals -/
theorem s_par (i j : Nat) {x y : Str} {px py pt : Pos} {kt k2 pt2} (hc : X.calm = true) (hN : X.N.Nodup) (hi : X.N[i]? = some x) (hj : X.N[j]? = some y) (hij : i ≠ j) (hx : X.env.scope.names.lookup x = some .local) (hy : X.env.scope.names.lookup y = some .local)
    (hw : swappedStores [.Tuple [.Name x px, .Name y py] kt pt] (.Tuple [a, b] k2 pt2) X.env = pure (some [x, y])) (h : wE X a σ H fun u H1 => wE X b σ H1 fun v H2 => D.nx ((σ.set j (some v)).set i (some u)) H2)
    (hs : swapsWithSole [.Tuple [.Name x px, .Name y py] kt pt] (.Tuple [a, b] k2 pt2) pos.line X.env = pure false := by rfl) (h1 : starEach [a, b] X.env = (false, eval a X.env) :: starEach [b] X.env := by rfl) (h2 : starEach [b] X.env = (false, eval b X.env) :: starEach [] X.env := by rfl) :
    wS X (.Assign [.Tuple [.Name x px, .Name y py] kt pt] (.Tuple [a, b] k2 pt2) pos) D σ H := by
  refine toS (ps_par hc hN hi hj hij hx hy pa_self hw hs) ?_
  refine a_cons ⟨fun pins s I => ?_⟩ h1
  refine thn (h.run pins s I) fun v s1 ⟨x1, H1, I1, r1, q1⟩ => ⟨x1, H1, I1, r1, ?_⟩
  refine a_cons ⟨fun pins2 s2 I2 => ?_⟩ h2
  refine thn (q1.run pins2 s2 I2) fun v2 s3 ⟨x3, H3, I3, r3, q3⟩ => ⟨x3, H3, I3, r3, ?_⟩
  refine a_nil ?_
  refine ⟨x1, x3, rfl, ?_⟩
  rw [List.set_comm _ _ hij]
  exact q3
/-- o[i] = e -/
theorem s_sub {o i : Expr} {pos' : Pos} (h : wE X e σ H fun v H1 => wE X o σ H1 fun ov H2 => wE X i σ H2 fun iv H3 => wPS X ov iv v H3 fun H4 => D.nx σ H4)
    (ha : ∀ v, assign (.Subscript o i pos') X.env v = (do
      let ov ← holding [v] (eval o X.env)
      let iv ← holding [v, ov] (eval i X.env)
      standAt pos'
      holding [v, ov, iv] (setItem ov iv v)
      release [v, ov, iv] []) := by intro _; rfl)
    (hs : swapsWithSole [.Subscript o i pos'] e pos.line X.env = pure false := by rfl) (hw : swappedStores [.Subscript o i pos'] e X.env = pure none := by rfl) (h1 : (assignEach [.Subscript o i pos'] X.env).map (·.2) = [assign (.Subscript o i pos') X.env] := by rfl) :
    wS X (.Assign [.Subscript o i pos'] e pos) D σ H := toS (ps_asg pe_self (pg_sub pe_self pe_self set_self ha) hs hw h1) h
theorem ps_set_list {o i v : V} {H : Hp} {Q : Hp → Prop} (h : rSetL o i v H Q) : wPS X o i v H Q := ⟨fun pins s σ ov iv u I ro ri rv => set_list pins s σ H o i v ov iv u Q I ro ri rv h⟩
/-- for x in range(a) -/
theorem s_forR1 (i : Nat) {x : Str} {px p1 p2 : Pos} {body : List Stmt} (hp : PassesOwn (model X.prog X.w) X.A X.env X.xe) (hc : X.calm = true) (hg : Gl X "range") (hm : X.mg "range" = none) (hN : X.N.Nodup) (hi : X.N[i]? = some x) (hx : Loc X.env.scope x)
    (h : wE X a σ H fun v H1 => ∃ n : Nat, v = .int (n : Int) ∧ n < 2 ^ 62 ∧ ∃ Pv : Nat → L2.St → Hp → Prop, Pv 0 σ H1 ∧
      (∀ k σ H, k < n → Pv k σ H → wB X body { D with nx := Pv (k + 1), ct := Pv (k + 1), bk := D.nx } (σ.set i (some (.int (k : Int)))) H) ∧ ∀ σ H, Pv n σ H → D.nx σ H)
    (hs : ∀ x, foldedSetIterable (.Call (.Name "range" p1) [a] [] p2) X.env x = pure x := by intro _; rfl) (hst : starEach [a] X.env = [(false, eval a X.env)] := by rfl)
    (hf : X.fn x = true ∨ X.env.scope.names.lookup x = some .local := by first | exact .inl rfl | exact .inr rfl | assumption) :
    wS X (.For (.Name x px) (.Call (.Name "range" p1) [a] [] p2) body [] pos) D σ H := by
  refine toS (ps_for hp hc (pi_range1 hg hm pa_self hst) (pg_name hN hi hx hf) pss_self hs) ?_
  show wA X [a] σ H _
  refine a_cons ⟨fun pins s I => ?_⟩ hst
  refine thn (h.run pins s I) fun v s1 ⟨x1, H1, I1, r1, q1⟩ => ⟨x1, H1, I1, r1, ?_⟩
  obtain ⟨n, rfl, hn, Pv, h0, ht, he⟩ := q1
  refine a_nil ?_
  refine ⟨(n : Int), rfl, by omega, by omega, ?_⟩
  have e1 : (n : Int).toNat = n := by omega
  rw [e1]
  refine for_range Pv h0 (fun k σ2 H2 hk hP => ?_) he
  have e2 : (0 : Int) + (k : Int) = (k : Int) := Int.zero_add _
  rw [e2]
  exact ht k σ2 H2 hk hP

/-! ### operations by values -/
theorem o_add {i j : Int} (h : Q (.int (i + j)) H) : wO X (binaryOp .Add) (.int i) (.int j) H Q := toO op_add ⟨i, j, rfl, rfl, h⟩
theorem o_sub {i j : Int} (h : Q (.int (i - j)) H) : wO X (binaryOp .Sub) (.int i) (.int j) H Q := toO op_sub ⟨i, j, rfl, rfl, h⟩
theorem o_mul {i j : Int} (hc : CMul i j) (h : Q (.int (i * j)) H) : wO X (binaryOp .Mult) (.int i) (.int j) H Q := toO op_mul ⟨i, j, rfl, rfl, hc, h⟩
theorem o_mulW {i j : Int} (hc : CMulW i j) (h : Q (.int (i * j)) H) : wO X (binaryOp .Mult) (.int i) (.int j) H Q := toO op_mulW ⟨i, j, rfl, rfl, hc, h⟩
theorem o_mod {i j : Int} (hc : 0 < j) (h : Q (.int (i % j)) H) : wO X (binaryOp .Mod) (.int i) (.int j) H Q := toO op_mod ⟨i, j, rfl, rfl, hc, h⟩
theorem o_fdiv {i j : Int} (hc : CDiv i j) (h : Q (.int (i / j)) H) : wO X (binaryOp .FloorDiv) (.int i) (.int j) H Q := toO op_fdiv ⟨i, j, rfl, rfl, hc, h⟩
theorem o_pow {i j : Int} (hc : CPow i j) (h : Q (.int (i ^ j.toNat)) H) : wO X (binaryOp .Pow) (.int i) (.int j) H Q := toO op_pow ⟨i, j, rfl, rfl, hc, h⟩
theorem o_adds {i j : Str} (hc : i.length + j.length ≤ sizeLine) (h : Q (.str (i ++ j)) H) : wO X (binaryOp .Add) (.str i) (.str j) H Q := toO op_add_str ⟨i, j, rfl, rfl, hc, h⟩
theorem o_neg {i : Int} (h : Q (.int (-i)) H) : wU X (unaryOp .USub) (.int i) H Q := toU un_neg ⟨i, rfl, h⟩
theorem o_eq {x y : V} (hs : scal x y = true) (h : Q (.bl (decide (x = y))) H) : wO X (compareOp .Eq) x y H Q := toO op_eq ⟨hs, h⟩
theorem o_ne {x y : V} (hs : scal x y = true) (h : Q (.bl (!decide (x = y))) H) : wO X (compareOp .NotEq) x y H Q := toO op_ne ⟨hs, h⟩
theorem o_lt {i j : Int} (h : Q (.bl (decide (i < j))) H) : wO X (compareOp .Lt) (.int i) (.int j) H Q := toO op_lt ⟨i, j, rfl, rfl, h⟩
theorem o_le {i j : Int} (h : Q (.bl (decide (i ≤ j))) H) : wO X (compareOp .LtE) (.int i) (.int j) H Q := toO op_le ⟨i, j, rfl, rfl, h⟩
theorem o_gt {i j : Int} (h : Q (.bl (decide (j < i))) H) : wO X (compareOp .Gt) (.int i) (.int j) H Q := toO op_gt ⟨i, j, rfl, rfl, h⟩
theorem o_ge {i j : Int} (h : Q (.bl (decide (j ≤ i))) H) : wO X (compareOp .GtE) (.int i) (.int j) H Q := toO op_ge ⟨i, j, rfl, rfl, h⟩
theorem x_lst {p : Addr} {xs : List V} {i : Int} {v : V} (hp : SqL X.K H p xs) (ha : atI xs i = some v) (h : Q v H) : wX X (.ref p) (.int i) H Q := toX ix_list ⟨p, xs, i, v, rfl, rfl, hp, ha, h⟩
theorem x_tup {p : Addr} {xs : List V} {i : Int} {v : V} (hp : SqT X.K H p xs) (ha : atI xs i = some v) (h : Q v H) : wX X (.ref p) (.int i) H Q := toX ix_tup ⟨p, xs, i, v, rfl, rfl, hp, ha, h⟩
theorem x_str {z : Str} {i : Int} {c : Nat} (hz : z.length ≤ sizeLine) (ha : atI z.cps.toList i = some c) (h : Q (.str ⟨#[c]⟩) H) : wX X (.str z) (.int i) H Q := toX ix_str ⟨z, i, c, rfl, rfl, hz, ha, h⟩
theorem c_abs {i : Int} (h : Q (.int (if i < 0 then -i else i)) H) : wC X (.builtin "abs") [.int i] H Q := toC call_abs ⟨i, rfl, h⟩
theorem c_max {i j : Int} (hc : X.calm = true) (h : Q (.int (if j > i then j else i)) H) : wC X (.builtin "max") [.int i, .int j] H Q := toC (call_max2 hc) ⟨i, j, rfl, h⟩
theorem c_min {i j : Int} (hc : X.calm = true) (h : Q (.int (if j < i then j else i)) H) : wC X (.builtin "min") [.int i, .int j] H Q := toC (call_min2 hc) ⟨i, j, rfl, h⟩
theorem c_int {i : Int} (h : Q (.int i) H) : wC X (.type "int") [.int i] H Q := toC call_int1 (.inl ⟨i, rfl, h⟩)
theorem c_intb {i : Bool} (h : Q (.int (if i then 1 else 0)) H) : wC X (.type "int") [.bl i] H Q := toC call_int1 (.inr ⟨i, rfl, h⟩)
theorem c_str {i : Int} (hc : i.natAbs.log2 < 1920) (h : Q (.str (toString i)) H) : wC X (.type "str") [.int i] H Q := toC call_str_int ⟨i, rfl, hc, h⟩
theorem c_lenL {p : Addr} {xs : List V} (hp : SqL X.K H p xs) (h : Q (.int xs.length) H) : wC X (.builtin "len") [.ref p] H Q := toC call_len_seq ⟨p, xs, rfl, .inl hp, h⟩
theorem c_lenT {p : Addr} {xs : List V} (hp : SqT X.K H p xs) (h : Q (.int xs.length) H) : wC X (.builtin "len") [.ref p] H Q := toC call_len_seq ⟨p, xs, rfl, .inr hp, h⟩
theorem c_lenS {z : Str} (hz : z.length ≤ sizeLine) (h : Q (.int z.length) H) : wC X (.builtin "len") [.str z] H Q := toC call_len_str ⟨z, rfl, hz, h⟩
theorem c_isi {x : V} {n : String} {t : Value} {k : Bool} (ty : TyX X.K H x t) (e : PySem.W.kitOne X.K t (.type n) = some k) (h : Q (.bl k) H) : wC X (.builtin "isinstance") [x, .ty n] H Q := toC call_isi ⟨x, .ty n, t, .type n, k, rfl, .ty n, ty, e, h⟩
end
end WX
namespace WX
open PySem PySem.Spec PyProof.Rows L2
theorem wB_nox {X : Cx} {sts : List Stmt} {D : Ends} {σ : L2.St} {H : Hp} (h : wB X.nox sts D σ H) : wB X sts D σ H := toB (PSs.nox pss_self) h
theorem df_of {P : Program} {w : World} {K : PySem.W.Frag} {mg : Str → Option Value} {base : Heap} {x qual : Str} {st : Stmt} {N ps : List Str} {k : Nat} {sp : Sp} (hx : ∃ f fd, L2.Fun K x qual st f fd ∧ mg x = some (.ref f)) (S : FnScope N ps (defScope st))
    (hb : ∀ (kV doc pm : Value) (an : Option Addr) (cdv ct : Value) (us : List Value), us.length = ps.length → bindArgs (PySem.W.fnOf x qual (defArgs st) (defBody st) (defScope st) .none kV doc pm an cdv ct) ⟨us, []⟩ = pure (ps.zip us))
    (len : ∀ vs H Q E, sp vs H Q E → vs.length = ps.length)
    (body : ∀ X : Cx, X.prog = P → X.w = w → X.K = K → X.mg = mg → X.base = base → Bd X N (defScope st) k → (∀ x, X.fn x = true) → ∀ vs H Q E, sp vs H Q E → wB X (defBody st) { nx := fun _ H' => Q .non H', rt := Q } (start N vs) H) : Df P w K mg base x (k + 1) ps sp := by
  obtain ⟨f, fd, F, hm⟩ := hx
  refine ⟨f, fd, fnG_of F S len ?_, hm, F.kp, F.binds hb⟩
  intro cd B l s H vs Q E hg hr h
  refine wB_nox ?_
  exact body _ rfl rfl rfl rfl rfl ⟨rfl, S.nd, rfl, rfl, hr, PassesOwn.never, fun _ _ => trivial, hg⟩ (fun _ => rfl) vs H Q E h
/-- a fact about a place stands over a new place -/
theorem upd_keep {H : Hp} {a b : Addr} {o x : HO} (hn : H a = none) (h : H b = some x) : upd H a o b = some x := by
  rw [upd_ne (ne_of_none h hn)]
  exact h
theorem upd_keep2 {H : Hp} {a b : Addr} {o : HO} {x : Option HO} (hne : b ≠ a) (h : H b = x) : upd H a o b = x := by
  rw [upd_ne hne]
  exact h
end WX
namespace WX
open PySem PySem.Spec PyProof.Rows L2
section
variable {X : Cx} {σ : L2.St} {H : Hp} {Q : VK} {D : Ends} {pos : Pos}
theorem e_lo {x : Str} {v : V} (i : Nat) (hN : X.N[i]? = some x) (hv : X.env.scope.names.lookup x = some .local) (hs : σ[i]? = some (some v)) (h : Q v H) (hd : (x == ("__debug__" : Str)) = false := by decide) (hcd : (x == ("__classdict__" : Str)) = false := by decide) :
    wE X (.Name x pos) σ H Q := e_loc i hN (Or.inl hv) hs h hd hcd
theorem e_ce {x : Str} {v : V} (i : Nat) (hN : X.N[i]? = some x) (hv : X.env.scope.names.lookup x = some .cell) (hs : σ[i]? = some (some v)) (h : Q v H) (hd : (x == ("__debug__" : Str)) = false := by decide) (hcd : (x == ("__classdict__" : Str)) = false := by decide) :
    wE X (.Name x pos) σ H Q := e_loc i hN (Or.inr (Or.inl hv)) hs h hd hcd
theorem e_gi {x : Str} {i : Int} {t : Tok} (hg : Gl X x) (hm : X.mg x = some (Value.int i t)) (h : Q (.int i) H) (hd : (x == ("__debug__" : Str)) = false := by decide) : wE X (.Name x pos) σ H Q := e_glob hg hm (show RelV (.int i) (Value.int i t) from ⟨t, rfl⟩) h hd
theorem e_ty {x : Str} {n : String} (hg : Gl X x) (hm : X.mg x = none) (hv : bootBuiltins x = some (.type n)) (h : Q (.ty n) H) (hn : x ≠ "__name__" := by decide) (hd : (x == ("__debug__" : Str)) = false := by decide) : wE X (.Name x pos) σ H Q :=
  e_blt hg hm hv (show RelV (.ty n) (Value.type n) from rfl) h hn hd
theorem s_lo {e : Expr} (i : Nat) {x : Str} {pos' : Pos} {N : List Str} {sc : Scope} {k : Nat} (B : Bd X N sc k) (hi : X.N[i]? = some x) (hx : X.env.scope.names.lookup x = some .local) (h : wE X e σ H fun y H1 => D.nx (σ.set i (some y)) H1) (hs : swapsWith e (some (.Name x pos')) pos.line X.env = pure false := by rfl) :
    wS X (.Assign [.Name x pos'] e pos) D σ H := s_set i B.nd hi (Or.inl hx) h hs (.inr hx)
theorem s_ce {e : Expr} (i : Nat) {x : Str} {pos' : Pos} {N : List Str} {sc : Scope} {k : Nat} (B : Bd X N sc k) (hf : ∀ x, X.fn x = true) (hi : X.N[i]? = some x) (hx : X.env.scope.names.lookup x = some .cell) (h : wE X e σ H fun y H1 => D.nx (σ.set i (some y)) H1) (hs : swapsWith e (some (.Name x pos')) pos.line X.env = pure false := by rfl) :
    wS X (.Assign [.Name x pos'] e pos) D σ H := s_set i B.nd hi (Or.inr hx) h hs (.inl (hf x))
theorem e_ixp {a b : Expr} (h : wE X a σ H fun x H1 => wE X b σ H1 fun y H2 => wX X x y H2 Q) (hs : PlainIx b := by exact fun _ _ => rfl) : wE X (.Subscript a b pos) σ H Q := e_ix hs h
theorem e_cmpn {a b : Expr} {op : CmpOp} (h : wE X a σ H fun x H1 => wE X b σ H1 fun y H2 => wO X (compareOp op) x y H2 Q) (h1 : op ≠ .In := by decide) (h2 : op ≠ .NotIn := by decide) : wE X (.Compare a [op] [b] pos) σ H Q := e_cmp (nomark b h1 h2) h
theorem t_cmpn {a b : Expr} {Q : Bool → Hp → Prop} {op : CmpOp} (h : wE X a σ H fun x H1 => wE X b σ H1 fun y H2 => wO X (compareOp op) x y H2 fun z H3 => ∃ k, z = .bl k ∧ Q k H3) (h1 : op ≠ .In := by decide) (h2 : op ≠ .NotIn := by decide) : wT X (.Compare a [op] [b] pos) σ H Q := t_cmp (nomark b h1 h2) h
end
theorem bb_len : bootBuiltins "len" = some (.builtin "len") := by decide +kernel
theorem bb_isinstance : bootBuiltins "isinstance" = some (.builtin "isinstance") := by decide +kernel
theorem bb_abs : bootBuiltins "abs" = some (.builtin "abs") := by decide +kernel
theorem bb_max : bootBuiltins "max" = some (.builtin "max") := by decide +kernel
theorem bb_min : bootBuiltins "min" = some (.builtin "min") := by decide +kernel
theorem bb_repr : bootBuiltins "repr" = some (.builtin "repr") := by decide +kernel
theorem bb_all : bootBuiltins "all" = some (.builtin "all") := by decide +kernel
theorem bb_any : bootBuiltins "any" = some (.builtin "any") := by decide +kernel
theorem bb_sorted : bootBuiltins "sorted" = some (.builtin "sorted") := by decide +kernel
theorem bb_sum : bootBuiltins "sum" = some (.builtin "sum") := by decide +kernel
theorem bb_divmod : bootBuiltins "divmod" = some (.builtin "divmod") := by decide +kernel
theorem bb_range : bootBuiltins "range" = some (.type "range") := by decide +kernel
theorem bb_int : bootBuiltins "int" = some (.type "int") := by decide +kernel
theorem bb_bool : bootBuiltins "bool" = some (.type "bool") := by decide +kernel
theorem bb_str : bootBuiltins "str" = some (.type "str") := by decide +kernel
theorem bb_list : bootBuiltins "list" = some (.type "list") := by decide +kernel
theorem bb_tuple : bootBuiltins "tuple" = some (.type "tuple") := by decide +kernel
theorem bb_dict : bootBuiltins "dict" = some (.type "dict") := by decide +kernel
theorem bb_set : bootBuiltins "set" = some (.type "set") := by decide +kernel
end WX
namespace WX
open PySem PySem.Spec PyProof.Rows L2
section
variable {K : PySem.W.Frag}
theorem kit_NoneType_int : PySem.W.kitOne K (.type "NoneType") (.type "int") = some false := rfl
theorem kit_NoneType_bool : PySem.W.kitOne K (.type "NoneType") (.type "bool") = some false := rfl
theorem kit_NoneType_str : PySem.W.kitOne K (.type "NoneType") (.type "str") = some false := rfl
theorem kit_NoneType_tuple : PySem.W.kitOne K (.type "NoneType") (.type "tuple") = some false := rfl
theorem kit_NoneType_list : PySem.W.kitOne K (.type "NoneType") (.type "list") = some false := rfl
theorem kit_NoneType_dict : PySem.W.kitOne K (.type "NoneType") (.type "dict") = some false := rfl
theorem kit_bool_int : PySem.W.kitOne K (.type "bool") (.type "int") = some true := rfl
theorem kit_bool_bool : PySem.W.kitOne K (.type "bool") (.type "bool") = some true := rfl
theorem kit_bool_str : PySem.W.kitOne K (.type "bool") (.type "str") = some false := rfl
theorem kit_bool_tuple : PySem.W.kitOne K (.type "bool") (.type "tuple") = some false := rfl
theorem kit_bool_list : PySem.W.kitOne K (.type "bool") (.type "list") = some false := rfl
theorem kit_bool_dict : PySem.W.kitOne K (.type "bool") (.type "dict") = some false := rfl
theorem kit_int_int : PySem.W.kitOne K (.type "int") (.type "int") = some true := rfl
theorem kit_int_bool : PySem.W.kitOne K (.type "int") (.type "bool") = some false := rfl
theorem kit_int_str : PySem.W.kitOne K (.type "int") (.type "str") = some false := rfl
theorem kit_int_tuple : PySem.W.kitOne K (.type "int") (.type "tuple") = some false := rfl
theorem kit_int_list : PySem.W.kitOne K (.type "int") (.type "list") = some false := rfl
theorem kit_int_dict : PySem.W.kitOne K (.type "int") (.type "dict") = some false := rfl
theorem kit_str_int : PySem.W.kitOne K (.type "str") (.type "int") = some false := rfl
theorem kit_str_bool : PySem.W.kitOne K (.type "str") (.type "bool") = some false := rfl
theorem kit_str_str : PySem.W.kitOne K (.type "str") (.type "str") = some true := rfl
theorem kit_str_tuple : PySem.W.kitOne K (.type "str") (.type "tuple") = some false := rfl
theorem kit_str_list : PySem.W.kitOne K (.type "str") (.type "list") = some false := rfl
theorem kit_str_dict : PySem.W.kitOne K (.type "str") (.type "dict") = some false := rfl
theorem kit_list_int : PySem.W.kitOne K (.type "list") (.type "int") = some false := rfl
theorem kit_list_bool : PySem.W.kitOne K (.type "list") (.type "bool") = some false := rfl
theorem kit_list_str : PySem.W.kitOne K (.type "list") (.type "str") = some false := rfl
theorem kit_list_tuple : PySem.W.kitOne K (.type "list") (.type "tuple") = some false := rfl
theorem kit_list_list : PySem.W.kitOne K (.type "list") (.type "list") = some true := rfl
theorem kit_list_dict : PySem.W.kitOne K (.type "list") (.type "dict") = some false := rfl
theorem kit_tuple_int : PySem.W.kitOne K (.type "tuple") (.type "int") = some false := rfl
theorem kit_tuple_bool : PySem.W.kitOne K (.type "tuple") (.type "bool") = some false := rfl
theorem kit_tuple_str : PySem.W.kitOne K (.type "tuple") (.type "str") = some false := rfl
theorem kit_tuple_tuple : PySem.W.kitOne K (.type "tuple") (.type "tuple") = some true := rfl
theorem kit_tuple_list : PySem.W.kitOne K (.type "tuple") (.type "list") = some false := rfl
theorem kit_tuple_dict : PySem.W.kitOne K (.type "tuple") (.type "dict") = some false := rfl
theorem kit_dict_int : PySem.W.kitOne K (.type "dict") (.type "int") = some false := rfl
theorem kit_dict_bool : PySem.W.kitOne K (.type "dict") (.type "bool") = some false := rfl
theorem kit_dict_str : PySem.W.kitOne K (.type "dict") (.type "str") = some false := rfl
theorem kit_dict_tuple : PySem.W.kitOne K (.type "dict") (.type "tuple") = some false := rfl
theorem kit_dict_list : PySem.W.kitOne K (.type "dict") (.type "list") = some false := rfl
theorem kit_dict_dict : PySem.W.kitOne K (.type "dict") (.type "dict") = some true := rfl
end
end WX
namespace WX
theorem iteNF {A B : Prop} (h : A) : if (!false) = true then A else B := by
  rw [if_pos (by rfl)]
  exact h
theorem iteNT {A B : Prop} (h : B) : if (!true) = true then A else B := by
  rw [if_neg (by decide)]
  exact h
theorem iteD {c A B : Prop} [Decidable c] (h1 : c → A) (h2 : ¬ c → B) : if decide c = true then A else B := by
  by_cases h : c
  · rw [if_pos (decide_eq_true h)]
    exact h1 h
  · rw [if_neg (by rw [decide_eq_false h]; exact Bool.false_ne_true)]
    exact h2 h
theorem iteND {c A B : Prop} [Decidable c] (h1 : ¬ c → A) (h2 : c → B) : if (!decide c) = true then A else B := by
  by_cases h : c
  · rw [decide_eq_true h, if_neg (by decide)]
    exact h2 h
  · rw [decide_eq_false h, if_pos (by rfl)]
    exact h1 h
theorem iteB {b : Bool} {A B : Prop} (h1 : b = true → A) (h2 : b = false → B) : if b = true then A else B := by
  cases b with
  | true => rw [if_pos rfl]; exact h1 rfl
  | false => rw [if_neg Bool.false_ne_true]; exact h2 rfl
end WX
namespace WX
open PySem PySem.Spec PyProof.Rows L2
/-- nothing is tracked, or the script alone -/
def scH (a : Addr) (t : Option HO) : Hp := fun b => if b = a then t else none
theorem scH_at {a : Addr} {t : Option HO} : scH a t a = t := if_pos rfl
theorem scH_off {a b : Addr} {t : Option HO} (h : b ≠ a) : scH a t b = none := if_neg h
section
variable {P : Program} {w : World} {K : PySem.W.Frag} {mg mb : Str → Option Value} {k : Nat} {fa a : Addr} {fd : FuncData} {x : Str} {sp : Sp} {s1 : Shared} {vs : List Value} {ns : List Int}
/-- the law's own call, by its promise: t is what is tracked of the script -/
theorem law_core (t : Option HO) (inK : K.In s1.heap) (gl : s1.heap.Ns mainGlobals mg) (bl : s1.heap.Ns builtinsNs mb) (bb : ∀ x : Str, x ≠ "__name__" → mb x = bootBuiltins x) (lim : s1.heap.NoLimit) (gens : s1.gens = #[])
    (ob : s1.heap.get? a = some { cls := .type "list", data := .seq vs.toArray }) (ht : t = none ∨ ∃ xs, t = some (.frz { cls := .type "list", data := .seq vs.toArray } (.lst xs))) (hk : t ≠ none → K.lookup a = none) (hok : HOk P w (scH a t) s1.heap) (room : Room k callerA)
    (F : ∀ base : Heap, K.In base → base.Ns mainGlobals mg → FnG P w K mg base CX0 k fa fd [x] sp) (bd : ∀ (s : Shared) (u : Value), BindsTo s fd ⟨[u], []⟩ [(x, u)]) (want : sp [.ref a] (scH a t) (fun v _ => v = .bl true) fun _ _ _ => False) :
    codeAny (model P w) callerA (.call (.ref fa) ⟨[.ref a], []⟩) (fun r s' => r = .ok (.ret (.bool true)) ∧ OldK s1.heap s'.heap ∧ s'.os = s1.os ∧ AllBare s'.gens) s1 := by
  have off : ∀ b, scH a t b ≠ none → b = a := fun b n => Classical.byContradiction fun z => n (scH_off z)
  -- a namespace is not the script
  have dic : ∀ {b : Addr} {m : Str → Option Value}, s1.heap.Ns b m → (hidT s1.heap (scH a t)).Ns b m := by
    rintro b m ⟨o, es, ep, q, dq, rest⟩
    have free : scH a t b = none := by
      by_cases z : b = a
      · rw [z, ob] at q
        cases q
        cases dq
      · exact scH_off z
    exact ⟨o, es, ep, hidT_get q free, dq, rest⟩
  have Kb : K.In (hidT s1.heap (scH a t)) := by
    intro b o q
    refine hidT_get (inK b o q) ?_
    by_cases z : scH a t b = none
    · exact z
    · have e := off b z
      subst e
      rw [hk (by rw [← scH_at (a := b) (t := t)]; exact z)] at q
      cases q
  have md : Mod K mg (hidT s1.heap (scH a t)) := ⟨Kb, dic gl, ⟨mb, dic bl, bb⟩, lim.elim fun mc h => ⟨mc, dic h.1, h.2⟩⟩
  have en : Env0 P w K mg (hidT s1.heap (scH a t)) callerA [] s1 (scH a t) := by
    refine ⟨rfl, md, fun b o q => of_hidT q, Nat.le_of_eq (hidT_size _ _), trivial, ?_, hok, .of_eq gens⟩
    intro b m
    cases m
  refine codeAny_mono ((F _ Kb (dic gl)).go callerA [] s1 (scH a t) ⟨[.ref a], []⟩ [.ref a] [.ref a] _ _ rfl room en (bd s1 (.ref a)) (.cons rfl .nil) want) ?_
  intro r s2 q
  match r, q with
  | .error e, q => exact q.elim
  | .ok .next, q => exact q.elim
  | .ok .brk, q => exact q.elim
  | .ok .cont, q => exact q.elim
  | .ok (.ret u), ⟨v, H2, os, bare, un, ok2, rv, ev⟩ =>
    have ev' : v = .bl true := ev
    subst ev'
    have eu : u = Value.bool true := rv
    subst eu
    refine ⟨rfl, OldK.of_keep ?_, os, bare⟩
    intro b o old
    by_cases z : scH a t b = none
    · exact un.keep b o old z (fun m => nomatch m) (fun m => nomatch m)
    · have e := off b z
      subst e
      rcases ht with h0 | ⟨xs, h0⟩
      · exact absurd (scH_at.trans h0) z
      · rw [ob] at old
        cases old
        exact (ok2 b _ (un.frzs b _ _ (scH_at.trans h0))).1
end
/-- the goal that k_head leaves, from the law's promise -/
theorem walkG {l : PySem.W.OpenLaw} {n k : Nat} {q : Program} {loose : List Str} {XP : (Str → Option Value) → Heap → Prop} {YP : World → Heap → Prop} {d : DefRec} {K : Params → PySem.W.Frag} {sp : PySem.W.Frag → Sp} {x : Str}
    (most : l.most = some n) (small : n ≤ sizeLine) (nodef : d.params.defaults = []) (room : Room k callerA) (hY : ∀ (w : World) (h : Heap), YP w h → (K w.params).In h)
    (F : ∀ (w : World) (mg : Str → Option Value) (fa : Addr) (h : Heap), (K w.params).In h → h.Ns mainGlobals mg → mg d.name = some (.ref fa) →
      ∃ fd : FuncData, (∀ (s : Shared) (u : Value), BindsTo s fd ⟨[u], []⟩ [(x, u)]) ∧ ∀ base : Heap, (K w.params).In base → base.Ns mainGlobals mg → FnG l.prog w (K w.params) mg base CX0 k fa fd [x] (sp (K w.params)))
    (want : ∀ (K : PySem.W.Frag) (H : Hp) (a : Addr) (ns : List Int), ns.length ≤ n → SqL K H a (ns.map V.int) → sp K [.ref a] H (fun v _ => v = .bl true) fun _ _ _ => False) :
    PySem.W.WalkO q loose XP YP l.row.toRowW d [] (fun f vs => PySem.call f vs) := by
  refine Att.attach_call most nodef ?_
  intro w s0 s1 mg mb fa o pm cd doc a vs ns G Y _ _ _ hmg ob hin len gens
  have inK := hY w _ Y
  obtain ⟨fd, bd, hF⟩ := F w mg fa _ inK G.T.g hmg
  have rv := vals_ints hin
  have lv := rv.length
  rw [List.length_map] at lv
  have sz : (ns.map V.int).length ≤ sizeLine := by rw [List.length_map]; exact Nat.le_trans len small
  cases hk : (K w.params).lookup a with
  | some ok =>
    have e := inK a ok hk
    rw [ob] at e
    cases e
    refine law_core none inK G.T.g G.T.b G.T.builtins G.T.nolimit gens ob (Or.inl rfl) (fun z => absurd rfl z) ?_ room hF bd (want _ _ a ns len (Or.inr ⟨_, vs.toArray, _, hk, rfl, rfl, rfl, ?_, ?_⟩))
    · intro b u z
      unfold scH at z
      split at z <;> cases z
    · rw [List.size_toArray, ← lv]
      exact Nat.le_trans len small
    · exact rv
  | none =>
    refine law_core (some (.frz { cls := .type "list", data := .seq vs.toArray } (.lst (ns.map V.int)))) inK G.T.g G.T.b G.T.builtins G.T.nolimit gens ob (Or.inr ⟨_, rfl⟩) (fun _ => hk) ?_ room hF bd (want _ _ a ns len (Or.inl (Or.inr ⟨_, scH_at⟩)))
    intro b u z
    by_cases hb : b = a
    · subst hb
      rw [scH_at] at z
      cases z
      exact ⟨ob, sz, vs, _, rv, ob⟩
    · rw [scH_off hb] at z
      cases z
end WX
namespace WX
open PySem PySem.Spec PyProof.Rows L2
section
variable {X : Cx} {σ : L2.St} {H : Hp} {Q : VK}
theorem o_les {i j : Str} (h : Q (.bl (!decide (j.cps.toList < i.cps.toList))) H) : wO X (compareOp .LtE) (.str i) (.str j) H Q := by
  constructor
  intro pins s σ v u I rx ry
  obtain ⟨t, rfl⟩ := rx
  obtain ⟨t', rfl⟩ := ry
  exact PySem.P.le_str ⟨.bl _, H, I, rfl, h⟩
/-- repr of data -/
theorem c_repr {x : V} {d : PyData} (hG : X.A.guards = some []) (hu : X.A.units + (d.depth + 1) < cLine) (hd : Dp X.K H x d) (hs : d.showable = true) (hn : d.hasDict = false) (hz : d.shown.length ≤ sizeLine) (h : Q (.str d.shown) H) : wC X (.builtin "repr") [x] H Q := by
  constructor
  intro pins s σ us I r
  obtain ⟨u, rfl, rx⟩ := vals1 r
  cases hd with
  | non =>
    cases (show u = Value.none from rx)
    simp only [PyData.shown] at h
    exact PySem.P.repr_of_none ⟨.str _, H, I.tok _, ⟨_, rfl⟩, h⟩
  | bl b =>
    cases (show u = Value.bool b from rx)
    simp only [PyData.shown] at h
    refine PySem.P.repr_of_bool ⟨.str _, H, I.tok _, ⟨_, rfl⟩, ?_⟩
    cases b <;> exact h
  | int i =>
    obtain ⟨t, rfl⟩ := rx
    simp only [PyData.shown] at h
    simp only [PyData.showable, decide_eq_true_eq] at hs
    exact PySem.P.repr_of_int hs ⟨.str _, H, I.tok _, ⟨_, rfl⟩, h⟩
  | str y =>
    obtain ⟨t, rfl⟩ := rx
    simp only [PyData.shown] at h hz
    exact PySem.P.repr_of_str ⟨.str _, H, I.tok _, ⟨_, rfl⟩, h⟩ hz
  | lst h1 h2 =>
    cases (show u = Value.ref _ from rx)
    obtain ⟨as, rd⟩ := Dp.reads I _ _ _ (Dp.lst h1 h2) rfl
    exact repr_of_reads' rd hs (fun z => absurd (hn.symm.trans z) Bool.false_ne_true) hG hu (fun _ _ q => q) (fun h' u tk hk => ⟨.str _, H, I.kept hk, ⟨_, rfl⟩, h⟩) hz
  | tup h1 h2 =>
    cases (show u = Value.ref _ from rx)
    obtain ⟨as, rd⟩ := Dp.reads I _ _ _ (Dp.tup h1 h2) rfl
    exact repr_of_reads' rd hs (fun z => absurd (hn.symm.trans z) Bool.false_ne_true) hG hu (fun _ _ q => q) (fun h' u tk hk => ⟨.str _, H, I.kept hk, ⟨_, rfl⟩, h⟩) hz
end
end WX
namespace WX
open PySem PySem.Spec PyProof.Rows L2
section
variable {X : Cx} {σ : L2.St} {H : Hp} {Q : VK}
theorem o_powW {i j : Int} (h0 : 0 ≤ j) (hz : (Builtin.Int.intBits i : Int) * j ≤ 2 ^ 27) (h : Q (.int (i ^ j.toNat)) H) : wO X (binaryOp .Pow) (.int i) (.int j) H Q := by
  constructor
  intro pins s σ v u I rx ry
  obtain ⟨t, rfl⟩ := rx
  obtain ⟨t', rfl⟩ := ry
  exact pow_int h0 hz ⟨.int _, H, I.tok _, ⟨_, rfl⟩, h⟩
theorem o_fdivW {i j : Int} (hc : CDivW i j) (h : Q (.int (i / j)) H) : wO X (binaryOp .FloorDiv) (.int i) (.int j) H Q := toO op_fdivW ⟨i, j, rfl, rfl, hc, h⟩
end
/-! ### what changes -/
/-- all but p stands -/
def Ch (p : Addr) (H H' : Hp) : Prop := ∀ b o, b ≠ p → H b = some o → H' b = some o
theorem Ch.refl {p : Addr} {H : Hp} : Ch p H H := fun _ _ _ h => h
theorem Ch.trans {p : Addr} {H H1 H2 : Hp} (a : Ch p H H1) (b : Ch p H1 H2) : Ch p H H2 := fun x o hx h => b x o hx (a x o hx h)
theorem Ch.new {p q : Addr} {H H1 : Hp} {o : HO} (a : Ch p H H1) (hq : H1 q = none) : Ch p H (upd H1 q o) := fun x u hx h => upd_keep hq (a x u hx h)
theorem Ch.put {p : Addr} {H H1 : Hp} {o : HO} (a : Ch p H H1) : Ch p H (upd H1 p o) := fun x u hx h => by
  rw [upd_ne hx]
  exact a x u hx h
theorem Ch.of {p : Addr} {H H1 : Hp} (a : Same H H1) : Ch p H H1 := fun x o _ h => a x o h
theorem _root_.L2.Same.new {q : Addr} {H H1 : Hp} {o : HO} (a : Same H H1) (hq : H1 q = none) : Same H (upd H1 q o) := fun x u h => upd_keep hq (a x u h)
theorem _root_.L2.Same.ch {p : Addr} {H H1 H2 : Hp} (a : Same H H1) (h0 : H p = none) (c : Ch p H1 H2) : Same H H2 := fun x u h => c x u (ne_of_none h h0) (a x u h)
/-- the dice: a list of three ints -/
def Dice (H : Hp) (p : Addr) : Prop := ∃ x y z : Int, H p = some (.lst [.int x, .int y, .int z])
theorem Dice.new {H : Hp} {p q : Addr} {o : HO} (d : Dice H p) (hq : H q = none) : Dice (upd H q o) p := by
  obtain ⟨x, y, z, h⟩ := d
  exact ⟨x, y, z, upd_keep hq h⟩
theorem Dice.ne {H : Hp} {p q : Addr} {xs : List V} (d : Dice H p) (h : H q = some (.lst xs)) (hx : xs.length ≠ 3) : q ≠ p := by
  obtain ⟨x, y, z, e⟩ := d
  rintro rfl
  rw [e] at h
  cases h
  exact hx rfl
end WX
namespace WX
open PySem PySem.Spec PyProof.Rows L2
section
variable {X : Cx} {σ : L2.St} {H : Hp} {Q R : VK} {e : Expr}
theorem wE_mono (h : wE X e σ H R) (k : ∀ v H', R v H' → Q v H') : wE X e σ H Q := ⟨fun pins s I => thn (h.run pins s I) fun _ _ ⟨v, H', I', r, q⟩ => ⟨v, H', I', r, k v H' q⟩⟩
theorem wT_mono {Q R : Bool → Hp → Prop} (h : wT X e σ H R) (k : ∀ v H', R v H' → Q v H') : wT X e σ H Q := ⟨fun pins s I => thn (h.run pins s I) fun _ _ ⟨H', I', q⟩ => ⟨H', I', k _ H' q⟩⟩
end
theorem at_ints {xs : List Int} {i : Int} (h0 : 0 ≤ i) (h : i < ((xs.map V.int).length : Int)) : ∃ c : Int, atI (xs.map V.int) i = some (.int c) := by
  rw [List.length_map] at h
  obtain ⟨n, rfl⟩ : ∃ n : Nat, i = (n : Int) := ⟨i.toNat, by omega⟩
  have h2 : n < xs.length := by omega
  refine ⟨xs[n], atI_nat ?_⟩
  rw [List.getElem?_map, List.getElem?_eq_getElem h2]
  rfl
theorem at_vs {xs : List V} {r : Int} (h0 : 0 ≤ r) (h : r < (xs.length : Int)) : ∃ (n : Nat) (v : V), xs[n]? = some v ∧ atI xs r = some v := by
  obtain ⟨n, rfl⟩ : ∃ n : Nat, r = (n : Int) := ⟨r.toNat, by omega⟩
  have h2 : n < xs.length := by omega
  exact ⟨n, xs[n], List.getElem?_eq_getElem h2, atI_nat (List.getElem?_eq_getElem h2)⟩
end WX
namespace WX
open PySem PySem.Spec PyProof.Rows L2
/-! ### comprehensions -/
structure Blk (X X' : Cx) (scope : Scope) : Prop where
  prog : X'.prog = X.prog
  w : X'.w = X.w
  K : X'.K = X.K
  mg : X'.mg = X.mg
  base : X'.base = X.base
  A : X'.A = X.A
  N : X'.N = X.N
  sc : X'.env.scope = relS scope X.env.scope
  calm : X'.calm = X.calm
  xe : X'.xe = fun _ _ => False
section
variable {X : Cx} {σ : L2.St} {H : Hp} {Q : VK} {pos : Pos} {elt iter : Expr} {scope : Scope} {x : Str} {j : Nat} {px : Pos}
theorem blk_mk (s : Shared) (H : Hp) (C : Addr) (cl : List (Str × Addr)) (fp : List Addr) : Blk X (X.blk s H scope (compEnvC scope cl C X.env) fp) scope := ⟨rfl, rfl, rfl, rfl, rfl, rfl, rfl, rfl, rfl, rfl⟩
theorem Blk.bd {X' : Cx} {N : List Str} {sc : Scope} {k : Nat} (b : Blk X X' scope) (B : Bd X N sc k) : Bd X' N (relS scope sc) k := by
  obtain ⟨e1, e2, e3, e4, e5, e6, e7, e8, e9, e10⟩ := b
  obtain ⟨b1, b2, b3, b4, b5, b6, b7, b8⟩ := B
  refine ⟨e7.trans b1, by rw [e7]; exact b2, by rw [e8, b3], e9.trans b4, by rw [e6]; exact b5, ?_, fun _ _ => trivial, by rw [e6]; exact b8⟩
  rw [e10]
  exact PassesOwn.never
/-- what the element gives, in whatever block -/
def wEb (X : Cx) (scope : Scope) (e : Expr) : TE := fun σ H Q => ∀ X', Blk X X' scope → wE X' e σ H Q
theorem peb_self {e : Expr} (s : Shared) (H : Hp) (C : Addr) (cl : List (Str × Addr)) (fp : List Addr) : PE (X.blk s H scope (compEnvC scope cl C X.env) fp) e (wEb X scope e) := ⟨fun pins s1 σ H1 Q I h => (h _ (blk_mk s H C cl fp)).run pins s1 I⟩
def wTb (X : Cx) (scope : Scope) (e : Expr) : TT := fun σ H Q => ∀ X', Blk X X' scope → wT X' e σ H Q
theorem ptb_self {e : Expr} (s : Shared) (H : Hp) (C : Addr) (cl : List (Str × Addr)) (fp : List Addr) : PT (X.blk s H scope (compEnvC scope cl C X.env) fp) e (wTb X scope e) := ⟨fun pins s1 σ H1 Q I h => (h _ (blk_mk s H C cl fp)).run pins s1 I⟩
theorem pgb_name {pos : Pos} (nd : X.N.Nodup) (hj : X.N[j]? = some x) (hx : scope.names.lookup x = some .local) (s : Shared) (H : Hp) (C : Addr) (cl : List (Str × Addr)) (fp : List Addr) : PG (X.blk s H scope (compEnvC scope cl C X.env) fp) (.Name x pos) (gName j) := by
  have hl : (relS scope X.env.scope).names.lookup x = some .local := lookup_relS_keep (by decide) hx
  exact pg_name nd hj (Or.inl hl) (.inr hl)
theorem wipe_one {σ : L2.St} {v : V} : wipe ((wipe σ [j]).set j (some v)) [j] = wipe σ [j] ∧ (wipe σ [j]).set j (some v) = σ.set j (some v) := by
  show (((σ.set j none).set j (some v)).set j none) = σ.set j none ∧ (σ.set j none).set j (some v) = σ.set j (some v)
  rw [List.set_set, List.set_set]
  exact ⟨rfl, List.set_set ..⟩
/-- over a tuple, every item kept -/
theorem lcT_read (h : wE X iter σ H fun v H1 => ∃ a xs, v = .ref a ∧ SqT X.K H1 a xs ∧ ∀ D, H1 D = none → ∃ Pv : Nat → Hp → Prop, Pv 0 (upd H1 D (.lst [])) ∧ (∀ i H, i ≤ xs.length → Pv i H → SqT X.K H a xs) ∧
    (∀ (i : Nat) (v : V) (H : Hp), xs[i]? = some v → Pv i H → wEb X scope elt (σ.set j (some v)) H fun y H4 => ∃ acc, H4 D = some (.lst acc) ∧ acc.length < sizeLine ∧ Pv (i + 1) (upd H4 D (.lst (acc ++ [y])))) ∧ ∀ H, Pv xs.length H → Q (.ref D) H) :
    tLc (iTup X.K (wE X iter)) (gName j) tYes (wEb X scope elt) [j] σ H Q := by
  refine wE_mono h ?_
  rintro v H1 ⟨a, xs, rfl, hs, k⟩
  refine ⟨a, rfl, ⟨xs, hs⟩, fun D hD => ?_⟩
  obtain ⟨Pv, p0, pk, pt, pe⟩ := k D hD
  refine lc_tup Pv p0 pk (fun i v H hi hp => ?_) pe
  obtain ⟨e1, e2⟩ := wipe_one (σ := σ) (v := v) (j := j)
  refine ⟨e1, ?_⟩
  rw [e2]
  exact pt i v H hi hp
theorem lcL_read (h : wE X iter σ H fun v H1 => ∃ a xs, v = .ref a ∧ SqL X.K H1 a xs ∧ ∀ D, H1 D = none → ∃ Pv : Nat → Hp → Prop, Pv 0 (upd H1 D (.lst [])) ∧ (∀ i H, i ≤ xs.length → Pv i H → SqL X.K H a xs) ∧
    (∀ (i : Nat) (v : V) (H : Hp), xs[i]? = some v → Pv i H → wEb X scope elt (σ.set j (some v)) H fun y H4 => ∃ acc, H4 D = some (.lst acc) ∧ acc.length < sizeLine ∧ Pv (i + 1) (upd H4 D (.lst (acc ++ [y])))) ∧ ∀ H, Pv xs.length H → Q (.ref D) H) :
    tLc (iList X.K (wE X iter)) (gName j) tYes (wEb X scope elt) [j] σ H Q := by
  refine wE_mono h ?_
  rintro v H1 ⟨a, xs, rfl, hs, k⟩
  refine ⟨a, rfl, ⟨xs, hs⟩, fun D hD => ?_⟩
  obtain ⟨Pv, p0, pk, pt, pe⟩ := k D hD
  refine lc_list Pv p0 pk (fun i v H hi hp => ?_) pe
  obtain ⟨e1, e2⟩ := wipe_one (σ := σ) (v := v) (j := j)
  refine ⟨e1, ?_⟩
  rw [e2]
  exact pt i v H hi hp
/-- the elements make nothing: the list of their values -/
theorem lcT_map (h : wE X iter σ H fun v H1 => ∃ a xs ys, v = .ref a ∧ SqT X.K H1 a xs ∧ ys.length = xs.length ∧ xs.length < sizeLine ∧ ∀ D, H1 D = none →
    (∀ (i : Nat) (v : V) (H : Hp), xs[i]? = some v → (∀ b o, H1 b = some o → H b = some o) → wEb X scope elt (σ.set j (some v)) H fun y H4 => H4 = H ∧ ys[i]? = some y) ∧ Q (.ref D) (upd H1 D (.lst ys))) :
    tLc (iTup X.K (wE X iter)) (gName j) tYes (wEb X scope elt) [j] σ H Q := by
  refine lcT_read (wE_mono h ?_)
  rintro v H1 ⟨a, xs, ys, rfl, hs, hl, hz, k⟩
  refine ⟨a, xs, rfl, hs, fun D hD => ?_⟩
  obtain ⟨k1, k2⟩ := k D hD
  have keep : ∀ zs, Same H1 (upd H1 D (.lst zs)) := fun zs b o e => upd_keep hD e
  refine ⟨fun i H => H = upd H1 D (.lst (ys.take i)), rfl, fun i H _ e => ?_, fun i v H hv e X' bk => ?_, fun H e => ?_⟩
  · rw [e]
    rcases hs with (hs | ⟨o, hs⟩) | hs
    · exact Or.inl (Or.inl (keep _ _ _ hs))
    · exact Or.inl (Or.inr ⟨o, keep _ _ _ hs⟩)
    · exact Or.inr hs
  · subst e
    refine wE_mono (k1 i v _ hv (keep _) X' bk) ?_
    rintro y H4 ⟨rfl, hy⟩
    refine ⟨ys.take i, upd_same, ?_, ?_⟩
    · rw [List.length_take]; omega
    · show upd (upd H1 D (.lst (ys.take i))) D (.lst (ys.take i ++ [y])) = upd H1 D (.lst (ys.take (i + 1)))
      rw [upd_upd, List.take_add_one, hy]; rfl
  · rw [e, show xs.length = ys.length from hl.symm, List.take_length]
    exact k2
theorem lcL_map (h : wE X iter σ H fun v H1 => ∃ a xs ys, v = .ref a ∧ SqL X.K H1 a xs ∧ ys.length = xs.length ∧ xs.length < sizeLine ∧ ∀ D, H1 D = none →
    (∀ (i : Nat) (v : V) (H : Hp), xs[i]? = some v → (∀ b o, H1 b = some o → H b = some o) → wEb X scope elt (σ.set j (some v)) H fun y H4 => H4 = H ∧ ys[i]? = some y) ∧ Q (.ref D) (upd H1 D (.lst ys))) :
    tLc (iList X.K (wE X iter)) (gName j) tYes (wEb X scope elt) [j] σ H Q := by
  refine lcL_read (wE_mono h ?_)
  rintro v H1 ⟨a, xs, ys, rfl, hs, hl, hz, k⟩
  refine ⟨a, xs, rfl, hs, fun D hD => ?_⟩
  obtain ⟨k1, k2⟩ := k D hD
  have keep : ∀ zs, Same H1 (upd H1 D (.lst zs)) := fun zs b o e => upd_keep hD e
  refine ⟨fun i H => H = upd H1 D (.lst (ys.take i)), rfl, fun i H _ e => ?_, fun i v H hv e X' bk => ?_, fun H e => ?_⟩
  · rw [e]
    exact (keep _).seq hs
  · subst e
    refine wE_mono (k1 i v _ hv (keep _) X' bk) ?_
    rintro y H4 ⟨rfl, hy⟩
    refine ⟨ys.take i, upd_same, ?_, ?_⟩
    · rw [List.length_take]; omega
    · show upd (upd H1 D (.lst (ys.take i))) D (.lst (ys.take i ++ [y])) = upd H1 D (.lst (ys.take (i + 1)))
      rw [upd_upd, List.take_add_one, hy]; rfl
  · rw [e, show xs.length = ys.length from hl.symm, List.take_length]
    exact k2
variable {N : List Str} {sc : Scope} {k : Nat}
theorem e_lcT (j : Nat) (B : Bd X N sc k) (ok : BlkOk N sc scope [(x, j)]) (hj : N[j]? = some x) (hx : scope.names.lookup x = some .local) (h : tLc (iTup X.K (wE X iter)) (gName j) tYes (wEb X scope elt) [j] σ H Q) (hs : ∀ x, foldedSetIterable iter X.env x = pure x := by intro _; rfl) :
    wE X (.ListComp elt [⟨.Name x px, iter, [], 0⟩] scope pos) σ H Q :=
  toE (pe_lc (own := [(x, j)]) B.calm B.nd (pi_tup pe_self) (by rw [B.hN, B.sc]; exact ok) (pgb_name B.nd (B.slot j hj) hx) (fun _ _ _ _ _ => pts_nil) peb_self hs) h
theorem e_lcL (j : Nat) (B : Bd X N sc k) (ok : BlkOk N sc scope [(x, j)]) (hj : N[j]? = some x) (hx : scope.names.lookup x = some .local) (h : tLc (iList X.K (wE X iter)) (gName j) tYes (wEb X scope elt) [j] σ H Q) (hs : ∀ x, foldedSetIterable iter X.env x = pure x := by intro _; rfl) :
    wE X (.ListComp elt [⟨.Name x px, iter, [], 0⟩] scope pos) σ H Q :=
  toE (pe_lc (own := [(x, j)]) B.calm B.nd (pi_list pe_self) (by rw [B.hN, B.sc]; exact ok) (pgb_name B.nd (B.slot j hj) hx) (fun _ _ _ _ _ => pts_nil) peb_self hs) h
/-- name = [..] on one row -/
theorem s_lcT (j : Nat) {D : Ends} {y : Str} {py spos : Pos} (i : Nat) (B : Bd X N sc k) (ok : BlkOk N sc scope [(x, j)]) (hj : N[j]? = some x) (hx : scope.names.lookup x = some .local) (hy : X.N[i]? = some y) (hyl : X.env.scope.names.lookup y = some .local)
    (hsw : swapsWith (.ListComp elt [⟨.Name x px, iter, [], 0⟩] scope pos) (some (.Name y py)) spos.line X.env = pure true)
    (h : tLc (iTup X.K (wE X iter)) (gName j) tYes (wEb X scope elt) [j] σ H fun v H1 => D.nx (σ.set i (some v)) H1) (hs : ∀ x, foldedSetIterable iter X.env x = pure x := by intro _; rfl) : wS X (.Assign [.Name y py] (.ListComp elt [⟨.Name x px, iter, [], 0⟩] scope pos) spos) D σ H :=
  toS (ps_setLc (own := [(x, j)]) B.calm B.nd hy hyl hsw (pi_tup pe_self) (by rw [B.hN, B.sc]; exact ok) (pgb_name B.nd (B.slot j hj) hx) (fun _ _ _ _ _ => pts_nil) peb_self hs) h
theorem s_lcL (j : Nat) {D : Ends} {y : Str} {py spos : Pos} (i : Nat) (B : Bd X N sc k) (ok : BlkOk N sc scope [(x, j)]) (hj : N[j]? = some x) (hx : scope.names.lookup x = some .local) (hy : X.N[i]? = some y) (hyl : X.env.scope.names.lookup y = some .local)
    (hsw : swapsWith (.ListComp elt [⟨.Name x px, iter, [], 0⟩] scope pos) (some (.Name y py)) spos.line X.env = pure true)
    (h : tLc (iList X.K (wE X iter)) (gName j) tYes (wEb X scope elt) [j] σ H fun v H1 => D.nx (σ.set i (some v)) H1) (hs : ∀ x, foldedSetIterable iter X.env x = pure x := by intro _; rfl) : wS X (.Assign [.Name y py] (.ListComp elt [⟨.Name x px, iter, [], 0⟩] scope pos) spos) D σ H :=
  toS (ps_setLc (own := [(x, j)]) B.calm B.nd hy hyl hsw (pi_list pe_self) (by rw [B.hN, B.sc]; exact ok) (pgb_name B.nd (B.slot j hj) hx) (fun _ _ _ _ _ => pts_nil) peb_self hs) h
/-- {k: v}, one written key -/
theorem e_dict1 {ek ev : Expr} {dpos : Pos} (h : ∀ p, H p = none → wE X ek σ (upd H p (.dK [])) fun a H1 => wE X ev σ H1 fun b H2 => H2 p = some (.dK []) ∧ ∃ q : L2.Key, a = kV q ∧ Q (.ref p) (upd H2 p (.dK [(q, b)]))) : wE X (.Dict [some ek] [ev] dpos) σ H Q := by
  refine toE (pe_disp (pps_cons pe_self pe_self pps_nil) (by rfl) (by rfl) (by simp) (by show 1 ≤ 15; decide)) ?_
  intro p hp
  refine wE_mono (h p hp) ?_
  intro a H1 h1
  refine wE_mono h1 ?_
  rintro b H2 ⟨e, q, rfl, k⟩
  exact ⟨e, [(q, b)], rfl, (by show 1 ≤ 15; decide), k⟩
theorem o_rep {l : Addr} {xs : List V} {k : Int} (h1 : H l = some (.lst xs)) (h2 : -(2 ^ 63) ≤ k) (h3 : k < 2 ^ 63) (h4 : xs.length * k.toNat ≤ sizeLine) (h : ∀ p, H p = none → Q (.ref p) (upd H p (.lst (List.replicate k.toNat xs).flatten))) : wO X (binaryOp .Mult) (.ref l) (.int k) H Q :=
  toO op_rep ⟨l, k, xs, rfl, rfl, h1, h2, h3, h4, h⟩
theorem o_eqD {a b : V} {d e : PyData} (hu : X.A.units + 64 < cLine) (h1 : Dp X.K H a d) (h2 : Dp X.K H b e) (s1 : SeqAt.shaped d = true) (s2 : SeqAt.shaped e = true) (h : Q (.bl (PyData.eqv d e)) H) : wO X (compareOp .Eq) a b H Q := toO (op_eqD hu) ⟨d, e, h1, h2, s1, s2, h⟩
theorem o_neD {a b : V} {d e : PyData} (hu : X.A.units + 64 < cLine) (h1 : Dp X.K H a d) (h2 : Dp X.K H b e) (s1 : SeqAt.shaped d = true) (s2 : SeqAt.shaped e = true) (h : Q (.bl (!PyData.eqv d e)) H) : wO X (compareOp .NotEq) a b H Q := toO (op_neD hu) ⟨d, e, h1, h2, s1, s2, h⟩
end
end WX
namespace WX
open PySem PySem.Spec PyProof.Rows L2
theorem env_eta {env : Env} {sc : Scope} (h : env.scope = sc) : env = { env with scope := sc } := by
  cases env
  cases h
  rfl
end WX
namespace WX
open PySem PySem.Spec PyProof.Rows L2
section
variable {X : Cx} {σ : L2.St} {H : Hp} {Q : VK}
theorem e_dict_i {i : Int} {a2 : Nat} {a3 : Pos} {ev : Expr} {dpos : Pos} (h : ∀ p, H p = none → wE X ev σ (upd H p (.dK [])) fun b H2 => H2 = upd H p (.dK []) ∧ Q (.ref p) (upd H p (.dK [(Sum.inl i, b)]))) : wE X (.Dict [some (.Constant (.int i) a2 a3)] [ev] dpos) σ H Q := by
  refine e_dict1 fun p hp => e_int (wE_mono (h p hp) ?_)
  rintro v H' ⟨rfl, k⟩
  exact ⟨upd_same, Sum.inl i, rfl, by rw [upd_upd]; exact k⟩
theorem e_dict_s {i : Str} {a2 : Nat} {a3 : Pos} {ev : Expr} {dpos : Pos} (h : ∀ p, H p = none → wE X ev σ (upd H p (.dK [])) fun b H2 => H2 = upd H p (.dK []) ∧ Q (.ref p) (upd H p (.dK [(Sum.inr i, b)]))) : wE X (.Dict [some (.Constant (.str i) a2 a3)] [ev] dpos) σ H Q := by
  refine e_dict1 fun p hp => e_str (wE_mono (h p hp) ?_)
  rintro v H' ⟨rfl, k⟩
  exact ⟨upd_same, Sum.inr i, rfl, by rw [upd_upd]; exact k⟩
end
end WX

namespace K00
open PySem PySem.Spec PyProof.Rows L2 WX
def top (i : Nat) : Stmt := PySem.Challenge.pw_renamedown_k00_integers_and_owners.main.body.getD i (.Pass ⟨0, 0, 0, 0⟩)
def big__TOO_LONG : Int := 100000000000000000000000000000000000000000000000000000000000000000000000000000000000000000000000000000000000000000000000000000000000000000000000000000000000000000000000000000000000000000000000000000000
abbrev S_is_integer : Stmt := top 5
abbrev N_is_integer : List Str := ["value"]
theorem sc_is_integer : FnScope N_is_integer ["value"] (defScope S_is_integer) := ⟨rfl, rfl, rfl, by decide +kernel, rfl, by decide +kernel, by decide +kernel⟩
abbrev S_is_count : Stmt := top 6
abbrev N_is_count : List Str := ["value"]
theorem sc_is_count : FnScope N_is_count ["value"] (defScope S_is_count) := ⟨rfl, rfl, rfl, by decide +kernel, rfl, by decide +kernel, by decide +kernel⟩
abbrev S_is_owner : Stmt := top 7
abbrev N_is_owner : List Str := ["value"]
theorem sc_is_owner : FnScope N_is_owner ["value"] (defScope S_is_owner) := ⟨rfl, rfl, rfl, by decide +kernel, rfl, by decide +kernel, by decide +kernel⟩
abbrev S_is_number_of_places : Stmt := top 8
abbrev N_is_number_of_places : List Str := ["value"]
theorem sc_is_number_of_places : FnScope N_is_number_of_places ["value"] (defScope S_is_number_of_places) := ⟨rfl, rfl, rfl, by decide +kernel, rfl, by decide +kernel, by decide +kernel⟩
abbrev S__law_dice : Stmt := top 10
abbrev N__law_dice : List Str := ["script", "spot", "cell", "left"]
theorem sc__law_dice : FnScope N__law_dice ["script", "spot"] (defScope S__law_dice) := ⟨rfl, rfl, rfl, by decide +kernel, rfl, by decide +kernel, by decide +kernel⟩
abbrev S__law_roll : Stmt := top 11
abbrev N__law_roll : List Str := ["dice", "total", "found", "one", "two"]
theorem sc__law_roll : FnScope N__law_roll ["dice", "total"] (defScope S__law_roll) := ⟨rfl, rfl, rfl, by decide +kernel, rfl, by decide +kernel, by decide +kernel⟩
abbrev S__law_pick : Stmt := top 12
abbrev N__law_pick : List Str := ["dice", "items"]
theorem sc__law_pick : FnScope N__law_pick ["dice", "items"] (defScope S__law_pick) := ⟨rfl, rfl, rfl, by decide +kernel, rfl, by decide +kernel, by decide +kernel⟩
abbrev S__law_limit : Stmt := top 13
abbrev N__law_limit : List Str := []
theorem sc__law_limit : FnScope N__law_limit [] (defScope S__law_limit) := ⟨rfl, rfl, rfl, by decide +kernel, rfl, by decide +kernel, by decide +kernel⟩
abbrev S__law_drawn_number : Stmt := top 14
abbrev N__law_drawn_number : List Str := ["dice", "near", "number"]
theorem sc__law_drawn_number : FnScope N__law_drawn_number ["dice"] (defScope S__law_drawn_number) := ⟨rfl, rfl, rfl, by decide +kernel, rfl, by decide +kernel, by decide +kernel⟩
abbrev S_law : Stmt := top 15
abbrev N_law : List Str := ["script", "signs", "spot", "dice", "turn", "number", "sign", "text", "is_short", "told", "due", "odd"]
theorem sc_law : FnScope N_law ["script"] (defScope S_law) := ⟨rfl, rfl, rfl, by decide +kernel, rfl, by decide +kernel, by decide +kernel⟩
/-- what the top has left -/
structure Tx (K : PySem.W.Frag) (mg : Str → Option Value) : Prop where
  z_abs : mg "abs" = none
  z_bool : mg "bool" = none
  z_int : mg "int" = none
  z_isinstance : mg "isinstance" = none
  z_len : mg "len" = none
  z_max : mg "max" = none
  z_min : mg "min" = none
  z_range : mg "range" = none
  z_repr : mg "repr" = none
  z_str : mg "str" = none
  c_MAX_PLACES : ∃ t : Tok, mg "MAX_PLACES" = some (Value.int 12 t)
  c_MAX_STEPS : ∃ t : Tok, mg "MAX_STEPS" = some (Value.int 24 t)
  c_MAX_FIGURES : ∃ t : Tok, mg "MAX_FIGURES" = some (Value.int 200 t)
  c__TOO_LONG : ∃ t : Tok, mg "_TOO_LONG" = some (Value.int big__TOO_LONG t)
  d_is_integer : ∃ f fd, L2.Fun K "is_integer" "is_integer" S_is_integer f fd ∧ mg "is_integer" = some (.ref f)
  d_is_count : ∃ f fd, L2.Fun K "is_count" "is_count" S_is_count f fd ∧ mg "is_count" = some (.ref f)
  d_is_owner : ∃ f fd, L2.Fun K "is_owner" "is_owner" S_is_owner f fd ∧ mg "is_owner" = some (.ref f)
  d_is_number_of_places : ∃ f fd, L2.Fun K "is_number_of_places" "is_number_of_places" S_is_number_of_places f fd ∧ mg "is_number_of_places" = some (.ref f)
  d__law_dice : ∃ f fd, L2.Fun K "_law_dice" "_law_dice" S__law_dice f fd ∧ mg "_law_dice" = some (.ref f)
  d__law_roll : ∃ f fd, L2.Fun K "_law_roll" "_law_roll" S__law_roll f fd ∧ mg "_law_roll" = some (.ref f)
  d__law_pick : ∃ f fd, L2.Fun K "_law_pick" "_law_pick" S__law_pick f fd ∧ mg "_law_pick" = some (.ref f)
  d__law_limit : ∃ f fd, L2.Fun K "_law_limit" "_law_limit" S__law_limit f fd ∧ mg "_law_limit" = some (.ref f)
  d__law_drawn_number : ∃ f fd, L2.Fun K "_law_drawn_number" "_law_drawn_number" S__law_drawn_number f fd ∧ mg "_law_drawn_number" = some (.ref f)

local macro_rules | `(tactic| walk_at "kit") => `(tactic| with_reducible first | exact kit_NoneType_int | exact kit_NoneType_bool | exact kit_NoneType_str | exact kit_NoneType_tuple | exact kit_NoneType_list | exact kit_NoneType_dict | exact kit_bool_int | exact kit_bool_bool | exact kit_bool_str | exact kit_bool_tuple | exact kit_bool_list | exact kit_bool_dict | exact kit_int_int | exact kit_int_bool | exact kit_int_str | exact kit_int_tuple | exact kit_int_list | exact kit_int_dict | exact kit_str_int | exact kit_str_bool | exact kit_str_str | exact kit_str_tuple | exact kit_str_list | exact kit_str_dict | exact kit_list_int | exact kit_list_bool | exact kit_list_str | exact kit_list_tuple | exact kit_list_list | exact kit_list_dict | exact kit_tuple_int | exact kit_tuple_bool | exact kit_tuple_str | exact kit_tuple_tuple | exact kit_tuple_list | exact kit_tuple_dict | exact kit_dict_int | exact kit_dict_bool | exact kit_dict_str | exact kit_dict_tuple | exact kit_dict_list | exact kit_dict_dict)
local macro_rules | `(tactic| walk_at "nm") => `(tactic| first
  | (refine' e_lo _ ?nm ?lc ?sl ?_; (case nm => with_reducible assumption); (case lc => with_reducible assumption); (case sl => rfl))
  | (refine' e_ce _ ?nm ?lc ?sl ?_; (case nm => with_reducible assumption); (case lc => with_reducible assumption); (case sl => rfl))
  | (refine' e_gi ?g ?m ?_; (case g => with_reducible assumption); (case m => with_reducible assumption))
  | (refine' e_ty ?g ?m ?v ?_; (case g => with_reducible assumption); (case m => with_reducible assumption); (case v => with_reducible assumption)))
local macro_rules | `(tactic| walk_at "ex") => `(tactic| first
  | refine e_int ?_ | refine e_bl ?_ | refine e_str ?_ | refine e_non ?_
  | walk_at "nm"
  | refine e_bin ?_ | refine e_not ?_ | refine e_un ?_ | refine e_cmpn ?_ | refine e_chain ?_
  | refine e_dict_i ?_ | refine e_dict_s ?_ | refine e_one ?_ | refine e_and ?_ | refine e_or ?_ | refine e_if ?_ | refine e_ixp ?_ | refine e_tup ?_ | refine e_lst ?_
  | (refine' e_callB ?g ?m ?v ?_; (case g => with_reducible assumption); (case m => with_reducible assumption); (case v => with_reducible assumption))
  | (refine' e_callT ?g ?m ?v ?_; (case g => with_reducible assumption); (case m => with_reducible assumption); (case v => with_reducible assumption)))
local macro_rules | `(tactic| walk_at "op") => `(tactic| first
  | refine o_add ?_ | refine o_sub ?_ | refine o_lt ?_ | refine o_le ?_ | refine o_gt ?_ | refine o_ge ?_ | refine o_neg ?_
  | refine o_mod (by omega) ?_ | refine o_eq rfl ?_ | refine o_ne rfl ?_
  | refine o_pow ⟨by decide, by decide, by decide⟩ ?_
  | refine c_abs ?_ | refine c_int ?_ | refine c_intb ?_ | refine c_max ‹Bd _ _ _ _›.calm ?_ | refine c_min ‹Bd _ _ _ _›.calm ?_)
local macro_rules | `(tactic| walk_at "st") => `(tactic| first
  | refine b_one ?_ | refine b_cons ?_ | refine b_nil ?_ | refine s_ret ?_ | refine s_expr ?_ | refine s_doc ?_ | refine s_pass ?_ | refine s_if ?_
  | (refine' s_lo _ ‹Bd _ _ _ _› ?nm ?lc ?_; (case nm => with_reducible assumption); (case lc => with_reducible assumption))
  | (refine' s_ce _ ‹Bd _ _ _ _› (by assumption) ?nm ?lc ?_; (case nm => with_reducible assumption); (case lc => with_reducible assumption))
  | refine s_sub ?_)
local macro_rules | `(tactic| walk_at "ts") => `(tactic| first
  | refine t_cmpn ?_ | refine t_chain ?_ | refine t_not ?_ | refine w_and1 ?_ | refine w_or1 ?_ | refine w_and ?_ | refine w_or ?_ | refine t_w ?_)
local macro_rules | `(tactic| walk_at "wx") => `(tactic| first
  | ((with_reducible show wB _ _ _ _ _); walk_at "st") | ((with_reducible show wS _ _ _ _ _); walk_at "st") | ((with_reducible show wE _ _ _ _ _); walk_at "ex") | ((with_reducible show wO _ _ _ _ _ _); walk_at "op") | ((with_reducible show wU _ _ _ _ _); walk_at "op") | ((with_reducible show wC _ _ _ _ _); walk_at "op")
  | ((with_reducible show wT _ _ _ _ _); walk_at "ts") | ((with_reducible show wW _ _ _ _ _); walk_at "ts")
  | ((with_reducible show wA _ _ _ _ _); first | refine a_nil ?_ | refine a_cons ?_))
local macro_rules | `(tactic| walk_at "ws") => `(tactic| repeat (walk_at "wx"))
local macro_rules | `(tactic| walk_at "lg") => `(tactic| first
  | with_reducible refine iteT ?_ | with_reducible refine iteF ?_ | with_reducible refine iteNF ?_ | with_reducible refine iteNT ?_
  | with_reducible refine ⟨_, rfl, ?_⟩)
local macro_rules | `(tactic| walk_at "isi") => `(tactic| ((with_reducible show wC _ (Value.builtin "isinstance") _ _ _); first
  | (refine' c_isi (TyX.base (TyOf.int _)) ?e ?_; (case e => walk_at "kit"))
  | (refine' c_isi (TyX.base (TyOf.bl _)) ?e ?_; (case e => walk_at "kit"))
  | (refine' c_isi (TyX.base TyOf.non) ?e ?_; (case e => walk_at "kit"))
  | (refine' c_isi (TyX.base (TyOf.str _)) ?e ?_; (case e => walk_at "kit"))
  | (refine' c_isi (TyX.base (TyOf.lst ?h)) ?e ?_; (case h => assumption); (case e => walk_at "kit"))
  | (refine' c_isi (TyX.base (TyOf.tup ?h)) ?e ?_; (case h => assumption); (case e => walk_at "kit"))
  | (refine' c_isi (TyX.base (TyOf.dK ?h)) ?e ?_; (case h => assumption); (case e => walk_at "kit"))))
local macro_rules | `(tactic| walk_at "wz") => `(tactic| repeat (first | walk_at "wx" | walk_at "isi" | walk_at "lg" | walk_at "cl" | walk_at "sp"))
local macro_rules | `(tactic| walk_at "mul") => `(tactic| first | (refine o_mul (.inr ⟨by decide, by decide⟩) ?_) | (refine o_mul (.inl ⟨by decide, by decide⟩) ?_) | (refine o_mul (.inl ⟨by omega, by omega⟩) ?_) | (refine o_mul (.inr ⟨by omega, by omega⟩) ?_))
local macro_rules | `(tactic| walk_at "nw") => `(tactic| ((refine ⟨?z, ?_⟩); (case z => (simp only [List.length_cons, List.length_nil]; decide)); intro p hp))

/-- a value of a kind that isinstance tells -/
inductive Okv (K : PySem.W.Frag) (H : Hp) : V → Prop where
  | non : Okv K H .non
  | bl (b : Bool) : Okv K H (.bl b)
  | int (i : Int) : Okv K H (.int i)
  | str (x : Str) : Okv K H (.str x)
  | lst {a : Addr} {xs : List V} (e : H a = some (.lst xs)) : Okv K H (.ref a)
  | tup {a : Addr} {xs : List V} (e : H a = some (.tup xs)) : Okv K H (.ref a)
  | dK {a : Addr} {kvs : List (L2.Key × V)} (e : H a = some (.dK kvs)) : Okv K H (.ref a)
def isI : V → Bool
  | .int i => decide (-big__TOO_LONG < i) && decide (i < big__TOO_LONG)
  | _ => false
def sp_is_integer (K : PySem.W.Frag) : Sp := fun vs H Q _ => ∃ v, vs = [v] ∧ Okv K H v ∧ Q (.bl (isI v)) H
theorem b_is_integer {X : Cx} (B : Bd X N_is_integer (defScope S_is_integer) 0) (F : ∀ x, X.fn x = true) (T : Tx X.K X.mg) {vs : List V} {H : Hp} {Q : VK} {E : XK} (h : sp_is_integer X.K vs H Q E) :
    wB X (defBody S_is_integer) { nx := fun _ H' => Q .non H', rt := Q } (start N_is_integer vs) H := by
  have n_value : X.N[0]? = some ("value" : Str) := B.slot 0 rfl
  have l_value : X.env.scope.names.lookup ("value" : Str) = some NameKind.local := B.loc rfl
  have g_isinstance : Gl X "isinstance" := B.gl rfl
  have g_int : Gl X "int" := B.gl rfl
  have g_bool : Gl X "bool" := B.gl rfl
  have g__TOO_LONG : Gl X "_TOO_LONG" := B.gl rfl
  have z_isinstance := T.z_isinstance
  have v_isinstance := bb_isinstance
  have z_int := T.z_int
  have v_int := bb_int
  have z_bool := T.z_bool
  have v_bool := bb_bool
  obtain ⟨t__TOO_LONG, c__TOO_LONG⟩ := T.c__TOO_LONG
  obtain ⟨v, rfl, ok, q⟩ := h
  cases ok with
  | int i =>
    walk_at "wz"
    refine iteD (fun h1 => ?_) (fun h1 => ?_)
    · walk_at "wz"
      have e : isI (.int i) = decide (i < big__TOO_LONG) := by show (decide (-big__TOO_LONG < i) && decide (i < big__TOO_LONG)) = _; rw [decide_eq_true h1, Bool.true_and]
      rw [e] at q
      exact q
    · have e : isI (.int i) = false := by show (decide (-big__TOO_LONG < i) && decide (i < big__TOO_LONG)) = _; rw [decide_eq_false h1, Bool.false_and]
      rw [e] at q
      exact q
  | non => walk_at "wz"; exact q
  | bl b => walk_at "wz"; exact q
  | str x => walk_at "wz"; exact q
  | lst e => walk_at "wz"; exact q
  | tup e => walk_at "wz"; exact q
  | dK e => walk_at "wz"; exact q
theorem len_is_integer {K : PySem.W.Frag} : ∀ vs H Q E, sp_is_integer K vs H Q E → vs.length = 1 := by
  intro vs H Q E h
  obtain ⟨_, e, _⟩ := h
  rw [e]; rfl
theorem D_is_integer {P : Program} {w : World} {K : PySem.W.Frag} {mg : Str → Option Value} {base : Heap} (T : Tx K mg) : Df P w K mg base "is_integer" 1 ["value"] (sp_is_integer K) :=
  df_of T.d_is_integer sc_is_integer (fun _ _ _ _ _ _ us hl => match us, hl with | [_], _ => rfl) len_is_integer (fun X e1 e2 e3 e4 e5 B F vs H Q E h => by subst e1 e2 e3 e4 e5; exact b_is_integer B F T h)
local macro_rules | `(tactic| walk_at "cl") => `(tactic| (refine' e_call (D_is_integer ‹Tx _ _›) ‹Bd _ _ _ _›.gu ?rm ?gl ?_; (case rm => exact ‹Bd _ _ _ _›.room.mono (by decide)); (case gl => with_reducible assumption)))
local macro_rules | `(tactic| walk_at "hg") => `(tactic| first | exact upd_same | assumption | (refine upd_keep (by assumption) ?_; walk_at "hg"))
local macro_rules | `(tactic| walk_at "ok") => `(tactic| first | exact .int _ | exact .bl _ | exact .str _ | exact .non | assumption | exact .lst (by walk_at "hg") | exact .tup (by walk_at "hg") | exact .dK (by walk_at "hg"))
local macro_rules | `(tactic| walk_at "sp") => `(tactic| ((with_reducible show sp_is_integer _ _ _ _ _); refine ⟨_, rfl, by walk_at "ok", ?_⟩))
def isC : V → Bool
  | .int i => isI (.int i) && decide (0 ≤ i)
  | _ => false
def sp_is_count (K : PySem.W.Frag) : Sp := fun vs H Q _ => ∃ v, vs = [v] ∧ Okv K H v ∧ Q (.bl (isC v)) H
theorem b_is_count {X : Cx} (B : Bd X N_is_count (defScope S_is_count) 1) (F : ∀ x, X.fn x = true) (T : Tx X.K X.mg) {vs : List V} {H : Hp} {Q : VK} {E : XK} (h : sp_is_count X.K vs H Q E) :
    wB X (defBody S_is_count) { nx := fun _ H' => Q .non H', rt := Q } (start N_is_count vs) H := by
  have n_value : X.N[0]? = some ("value" : Str) := B.slot 0 rfl
  have l_value : X.env.scope.names.lookup ("value" : Str) = some NameKind.local := B.loc rfl
  have g_is_integer : Gl X "is_integer" := B.gl rfl
  obtain ⟨v, rfl, ok, q⟩ := h
  walk_at "wz"
  refine iteB (fun h1 => ?_) (fun h1 => ?_)
  · cases v with
    | int i =>
      walk_at "wz"
      have e : isC (.int i) = decide (0 ≤ i) := by show (isI (.int i) && _) = _; rw [h1, Bool.true_and]
      rw [e] at q
      exact q
    | _ => cases h1
  · have e : isC v = false := by
      cases v with
      | int i => show (isI (.int i) && _) = _; rw [h1, Bool.false_and]
      | _ => rfl
    rw [e] at q
    exact q
theorem len_is_count {K : PySem.W.Frag} : ∀ vs H Q E, sp_is_count K vs H Q E → vs.length = 1 := by
  intro vs H Q E h
  obtain ⟨_, e, _⟩ := h
  rw [e]; rfl
theorem D_is_count {P : Program} {w : World} {K : PySem.W.Frag} {mg : Str → Option Value} {base : Heap} (T : Tx K mg) : Df P w K mg base "is_count" 2 ["value"] (sp_is_count K) :=
  df_of T.d_is_count sc_is_count (fun _ _ _ _ _ _ us hl => match us, hl with | [_], _ => rfl) len_is_count (fun X e1 e2 e3 e4 e5 B F vs H Q E h => by subst e1 e2 e3 e4 e5; exact b_is_count B F T h)
local macro_rules | `(tactic| walk_at "cl") => `(tactic| (refine' e_call (D_is_count ‹Tx _ _›) ‹Bd _ _ _ _›.gu ?rm ?gl ?_; (case rm => exact ‹Bd _ _ _ _›.room.mono (by decide)); (case gl => with_reducible assumption)))
local macro_rules | `(tactic| walk_at "sp") => `(tactic| ((with_reducible show sp_is_count _ _ _ _ _); refine ⟨_, rfl, by walk_at "ok", ?_⟩))
def isP : V → Bool
  | .int i => decide (1 ≤ i) && decide (i ≤ 12)
  | _ => false
theorem isI_of {i : Int} (h1 : -1000000 ≤ i) (h2 : i ≤ 1000000) : isI (.int i) = true := by
  have hb : (1000000 : Int) < big__TOO_LONG := by decide
  show (decide (-big__TOO_LONG < i) && decide (i < big__TOO_LONG)) = true
  rw [decide_eq_true (by omega), decide_eq_true (by omega)]; rfl
def sp_is_number_of_places (K : PySem.W.Frag) : Sp := fun vs H Q _ => ∃ v, vs = [v] ∧ Okv K H v ∧ Q (.bl (isP v)) H
theorem b_is_number_of_places {X : Cx} (B : Bd X N_is_number_of_places (defScope S_is_number_of_places) 1) (F : ∀ x, X.fn x = true) (T : Tx X.K X.mg) {vs : List V} {H : Hp} {Q : VK} {E : XK} (h : sp_is_number_of_places X.K vs H Q E) :
    wB X (defBody S_is_number_of_places) { nx := fun _ H' => Q .non H', rt := Q } (start N_is_number_of_places vs) H := by
  have n_value : X.N[0]? = some ("value" : Str) := B.slot 0 rfl
  have l_value : X.env.scope.names.lookup ("value" : Str) = some NameKind.local := B.loc rfl
  have g_is_integer : Gl X "is_integer" := B.gl rfl
  have g_MAX_PLACES : Gl X "MAX_PLACES" := B.gl rfl
  obtain ⟨t_MAX_PLACES, c_MAX_PLACES⟩ := T.c_MAX_PLACES
  obtain ⟨v, rfl, ok, q⟩ := h
  walk_at "wz"
  refine iteB (fun h1 => ?_) (fun h1 => ?_)
  · cases v with
    | int i =>
      walk_at "wz"
      refine iteD (fun h2 => ?_) (fun h2 => ?_)
      · walk_at "wz"
        have e : isP (.int i) = decide (i ≤ 12) := by show (decide (1 ≤ i) && _) = _; rw [decide_eq_true h2, Bool.true_and]
        rw [e] at q
        exact q
      · have e : isP (.int i) = false := by show (decide (1 ≤ i) && _) = _; rw [decide_eq_false h2, Bool.false_and]
        rw [e] at q
        exact q
    | _ => cases h1
  · have e : isP v = false := by
      cases v with
      | int i =>
        show (decide (1 ≤ i) && decide (i ≤ 12)) = false
        by_cases a : 1 ≤ i
        · by_cases b : i ≤ 12
          · rw [isI_of (by omega) (by omega)] at h1; cases h1
          · rw [decide_eq_false b, Bool.and_false]
        · rw [decide_eq_false a, Bool.false_and]
      | _ => rfl
    rw [e] at q
    exact q
theorem len_is_number_of_places {K : PySem.W.Frag} : ∀ vs H Q E, sp_is_number_of_places K vs H Q E → vs.length = 1 := by
  intro vs H Q E h
  obtain ⟨_, e, _⟩ := h
  rw [e]; rfl
theorem D_is_number_of_places {P : Program} {w : World} {K : PySem.W.Frag} {mg : Str → Option Value} {base : Heap} (T : Tx K mg) : Df P w K mg base "is_number_of_places" 2 ["value"] (sp_is_number_of_places K) :=
  df_of T.d_is_number_of_places sc_is_number_of_places (fun _ _ _ _ _ _ us hl => match us, hl with | [_], _ => rfl) len_is_number_of_places (fun X e1 e2 e3 e4 e5 B F vs H Q E h => by subst e1 e2 e3 e4 e5; exact b_is_number_of_places B F T h)
local macro_rules | `(tactic| walk_at "cl") => `(tactic| (refine' e_call (D_is_number_of_places ‹Tx _ _›) ‹Bd _ _ _ _›.gu ?rm ?gl ?_; (case rm => exact ‹Bd _ _ _ _›.room.mono (by decide)); (case gl => with_reducible assumption)))
local macro_rules | `(tactic| walk_at "sp") => `(tactic| ((with_reducible show sp_is_number_of_places _ _ _ _ _); refine ⟨_, rfl, by walk_at "ok", ?_⟩))
theorem isO_def : True := trivial
def isO : V → Bool
  | .str x => decide ((V.int (x.length : Int)) = V.int 1) && (!decide (x.cps.toList < (Str.ofString "a").cps.toList) && !decide ((Str.ofString "z").cps.toList < x.cps.toList))
  | _ => false
def sp_is_owner (K : PySem.W.Frag) : Sp := fun vs H Q _ => ∃ v, vs = [v] ∧ (Okv K H v ∧ ∀ x, v = .str x → x.length ≤ 1000) ∧ Q (.bl (isO v)) H
theorem b_is_owner {X : Cx} (B : Bd X N_is_owner (defScope S_is_owner) 0) (F : ∀ x, X.fn x = true) (T : Tx X.K X.mg) {vs : List V} {H : Hp} {Q : VK} {E : XK} (h : sp_is_owner X.K vs H Q E) :
    wB X (defBody S_is_owner) { nx := fun _ H' => Q .non H', rt := Q } (start N_is_owner vs) H := by
  have n_value : X.N[0]? = some ("value" : Str) := B.slot 0 rfl
  have l_value : X.env.scope.names.lookup ("value" : Str) = some NameKind.local := B.loc rfl
  have g_isinstance : Gl X "isinstance" := B.gl rfl
  have g_str : Gl X "str" := B.gl rfl
  have g_len : Gl X "len" := B.gl rfl
  have z_isinstance := T.z_isinstance
  have v_isinstance := bb_isinstance
  have z_str := T.z_str
  have v_str := bb_str
  have z_len := T.z_len
  have v_len := bb_len
  obtain ⟨v, rfl, ⟨ok, hl⟩, q⟩ := h
  cases ok with
  | str x =>
    have hx := hl x rfl
    walk_at "wz"
    refine c_lenS (Nat.le_trans hx (by decide)) ?_
    walk_at "wz"
    refine iteD (fun h1 => ?_) (fun h1 => ?_)
    · walk_at "wz"
      refine o_les ?_
      walk_at "wz"
      refine iteND (fun h2 => ?_) (fun h2 => ?_)
      · walk_at "wz"
        refine o_les ?_
        have e : isO (.str x) = !decide ((Str.ofString "z").cps.toList < x.cps.toList) := by
          show (decide _ && (!decide _ && _)) = _
          rw [decide_eq_true h1, decide_eq_false h2]; rfl
        rw [e] at q
        exact q
      · have e : isO (.str x) = false := by
          show (decide _ && (!decide _ && _)) = _
          rw [decide_eq_true h1, decide_eq_true h2]; rfl
        rw [e] at q
        exact q
    · have e : isO (.str x) = false := by
        show (decide _ && _) = _
        rw [decide_eq_false h1]; rfl
      rw [e] at q
      exact q
  | non => walk_at "wz"; exact q
  | bl b => walk_at "wz"; exact q
  | int i => walk_at "wz"; exact q
  | lst e => walk_at "wz"; exact q
  | tup e => walk_at "wz"; exact q
  | dK e => walk_at "wz"; exact q
theorem len_is_owner {K : PySem.W.Frag} : ∀ vs H Q E, sp_is_owner K vs H Q E → vs.length = 1 := by
  intro vs H Q E h
  obtain ⟨_, e, _⟩ := h
  rw [e]; rfl
theorem D_is_owner {P : Program} {w : World} {K : PySem.W.Frag} {mg : Str → Option Value} {base : Heap} (T : Tx K mg) : Df P w K mg base "is_owner" 1 ["value"] (sp_is_owner K) :=
  df_of T.d_is_owner sc_is_owner (fun _ _ _ _ _ _ us hl => match us, hl with | [_], _ => rfl) len_is_owner (fun X e1 e2 e3 e4 e5 B F vs H Q E h => by subst e1 e2 e3 e4 e5; exact b_is_owner B F T h)
local macro_rules | `(tactic| walk_at "cl") => `(tactic| (refine' e_call (D_is_owner ‹Tx _ _›) ‹Bd _ _ _ _›.gu ?rm ?gl ?_; (case rm => exact ‹Bd _ _ _ _›.room.mono (by decide)); (case gl => with_reducible assumption)))

def sp__law_dice (K : PySem.W.Frag) : Sp := fun vs H Q _ => ∃ a ns, vs = [.ref a, .int (ns : Int)] ∧ (∃ xs : List Int, SqL K H a (xs.map V.int)) ∧ (ns : Int) = ns ∧ 0 ≤ (ns : Int) ∧ ∀ p x y, H p = none → Q (.ref p) (upd H p (.lst [.int x, .int y, .int 0]))
theorem b__law_dice {X : Cx} (B : Bd X N__law_dice (defScope S__law_dice) 0) (F : ∀ x, X.fn x = true) (T : Tx X.K X.mg) {vs : List V} {H : Hp} {Q : VK} {E : XK} (h : sp__law_dice X.K vs H Q E) :
    wB X (defBody S__law_dice) { nx := fun _ H' => Q .non H', rt := Q } (start N__law_dice vs) H := by
  have n_script : X.N[0]? = some ("script" : Str) := B.slot 0 rfl
  have l_script : X.env.scope.names.lookup ("script" : Str) = some NameKind.local := B.loc rfl
  have n_spot : X.N[1]? = some ("spot" : Str) := B.slot 1 rfl
  have l_spot : X.env.scope.names.lookup ("spot" : Str) = some NameKind.local := B.loc rfl
  have n_cell : X.N[2]? = some ("cell" : Str) := B.slot 2 rfl
  have l_cell : X.env.scope.names.lookup ("cell" : Str) = some NameKind.local := B.loc rfl
  have n_left : X.N[3]? = some ("left" : Str) := B.slot 3 rfl
  have l_left : X.env.scope.names.lookup ("left" : Str) = some NameKind.local := B.loc rfl
  have g_len : Gl X "len" := B.gl rfl
  have g_int : Gl X "int" := B.gl rfl
  have g_max : Gl X "max" := B.gl rfl
  have g_abs : Gl X "abs" := B.gl rfl
  have z_len := T.z_len
  have v_len := bb_len
  have z_int := T.z_int
  have v_int := bb_int
  have z_max := T.z_max
  have v_max := bb_max
  have z_abs := T.z_abs
  have v_abs := bb_abs
  obtain ⟨a, i, rfl, ⟨xs, hs⟩, _, hi, q⟩ := h
  walk_at "st"
  walk_at "st"
  refine wE_mono (R := fun v H' => H' = H ∧ ∃ c : Int, v = .int c) ?_ ?_
  · walk_at "wz"
    refine c_lenL hs ?_
    walk_at "wz"
    refine iteD (fun h1 => ?_) (fun h1 => ?_)
    · obtain ⟨c, g⟩ := at_ints hi h1
      walk_at "wz"
      refine x_lst hs g ?_
      walk_at "wz"
      exact ⟨rfl, _, rfl⟩
    · walk_at "wz"
      walk_at "mul"
      walk_at "wz"
      exact ⟨rfl, _, rfl⟩
  · rintro v H' ⟨rfl, c, rfl⟩
    walk_at "wz"
    refine o_mulW (show _ < _ by decide +kernel) ?_
    refine o_mod (by decide +kernel) ?_
    walk_at "wz"
    walk_at "mul"
    walk_at "wz"
    walk_at "mul"
    walk_at "wz"
    walk_at "mul"
    walk_at "wz"
    refine ⟨by show 3 ≤ sizeLine; decide, fun p hp => q p _ _ hp⟩
theorem len__law_dice {K : PySem.W.Frag} : ∀ vs H Q E, sp__law_dice K vs H Q E → vs.length = 2 := by
  intro vs H Q E h
  obtain ⟨_, _, e, _⟩ := h
  rw [e]; rfl
theorem D__law_dice {P : Program} {w : World} {K : PySem.W.Frag} {mg : Str → Option Value} {base : Heap} (T : Tx K mg) : Df P w K mg base "_law_dice" 1 ["script", "spot"] (sp__law_dice K) :=
  df_of T.d__law_dice sc__law_dice (fun _ _ _ _ _ _ us hl => match us, hl with | [_, _], _ => rfl) len__law_dice (fun X e1 e2 e3 e4 e5 B F vs H Q E h => by subst e1 e2 e3 e4 e5; exact b__law_dice B F T h)
local macro_rules | `(tactic| walk_at "cl") => `(tactic| (refine' e_call (D__law_dice ‹Tx _ _›) ‹Bd _ _ _ _›.gu ?rm ?gl ?_; (case rm => exact ‹Bd _ _ _ _›.room.mono (by decide)); (case gl => with_reducible assumption)))
def sp__law_roll (K : PySem.W.Frag) : Sp := fun vs H Q _ => ∃ p t, vs = [.ref p, .int t] ∧ Dice H p ∧ 0 < t ∧ t < 1073741824 ∧ ∀ (r : Int) (H' : Hp), 0 ≤ r → r < t → Ch p H H' → Dice H' p → Q (.int r) H'
theorem b__law_roll {X : Cx} (B : Bd X N__law_roll (defScope S__law_roll) 0) (F : ∀ x, X.fn x = true) (T : Tx X.K X.mg) {vs : List V} {H : Hp} {Q : VK} {E : XK} (h : sp__law_roll X.K vs H Q E) :
    wB X (defBody S__law_roll) { nx := fun _ H' => Q .non H', rt := Q } (start N__law_roll vs) H := by
  have n_dice : X.N[0]? = some ("dice" : Str) := B.slot 0 rfl
  have l_dice : X.env.scope.names.lookup ("dice" : Str) = some NameKind.local := B.loc rfl
  have n_total : X.N[1]? = some ("total" : Str) := B.slot 1 rfl
  have l_total : X.env.scope.names.lookup ("total" : Str) = some NameKind.local := B.loc rfl
  have n_found : X.N[2]? = some ("found" : Str) := B.slot 2 rfl
  have l_found : X.env.scope.names.lookup ("found" : Str) = some NameKind.local := B.loc rfl
  have n_one : X.N[3]? = some ("one" : Str) := B.slot 3 rfl
  have l_one : X.env.scope.names.lookup ("one" : Str) = some NameKind.local := B.loc rfl
  have n_two : X.N[4]? = some ("two" : Str) := B.slot 4 rfl
  have l_two : X.env.scope.names.lookup ("two" : Str) = some NameKind.local := B.loc rfl
  have g_int : Gl X "int" := B.gl rfl
  have z_int := T.z_int
  have v_int := bb_int
  obtain ⟨p, t, rfl, ⟨x, y, z, hp⟩, h0, h1, q⟩ := h
  have ix0 : ∀ a b c : V, atI [a, b, c] 0 = some a := fun _ _ _ => rfl
  have ix1 : ∀ a b c : V, atI [a, b, c] 1 = some b := fun _ _ _ => rfl
  have ix2 : ∀ a b c : V, atI [a, b, c] 2 = some c := fun _ _ _ => rfl
  walk_at "wz"
  refine x_lst (SqL.of hp) (ix0 _ _ _) ?_
  walk_at "wz"
  refine iteD (fun h2 => ?_) (fun h2 => ?_)
  · walk_at "wz"
    refine x_lst (SqL.of hp) (ix0 _ _ _) ?_
    walk_at "wz"
    refine x_lst (SqL.of hp) (ix0 _ _ _) ?_
    walk_at "wz"
    refine o_fdiv ⟨h0, h1⟩ ?_
    walk_at "wz"
    refine ps_set_list ⟨p, _, 0, 0, rfl, rfl, hp, rfl, ?_⟩
    walk_at "wz"
    exact q _ _ (Int.emod_nonneg _ (by omega)) (Int.emod_lt_of_pos _ h0) Ch.refl.put ⟨_, _, _, upd_same⟩
  · walk_at "wz"
    refine x_lst (SqL.of hp) (ix2 _ _ _) ?_
    walk_at "wz"
    refine ps_set_list ⟨p, _, 2, 2, rfl, rfl, hp, rfl, ?_⟩
    walk_at "wz"
    refine x_lst (SqL.of upd_same) (ix1 _ _ _) ?_
    walk_at "wz"
    refine x_lst (SqL.of upd_same) (ix2 _ _ _) ?_
    walk_at "mul"
    walk_at "wz"
    walk_at "mul"
    walk_at "wz"
    refine x_lst (SqL.of upd_same) (ix2 _ _ _) ?_
    walk_at "mul"
    walk_at "wz"
    walk_at "mul"
    walk_at "wz"
    refine o_fdiv ⟨by decide, by decide⟩ ?_
    walk_at "wz"
    exact q _ _ (Int.emod_nonneg _ (by omega)) (Int.emod_lt_of_pos _ h0) Ch.refl.put ⟨_, _, _, upd_same⟩
theorem len__law_roll {K : PySem.W.Frag} : ∀ vs H Q E, sp__law_roll K vs H Q E → vs.length = 2 := by
  intro vs H Q E h
  obtain ⟨_, _, e, _⟩ := h
  rw [e]; rfl
theorem D__law_roll {P : Program} {w : World} {K : PySem.W.Frag} {mg : Str → Option Value} {base : Heap} (T : Tx K mg) : Df P w K mg base "_law_roll" 1 ["dice", "total"] (sp__law_roll K) :=
  df_of T.d__law_roll sc__law_roll (fun _ _ _ _ _ _ us hl => match us, hl with | [_, _], _ => rfl) len__law_roll (fun X e1 e2 e3 e4 e5 B F vs H Q E h => by subst e1 e2 e3 e4 e5; exact b__law_roll B F T h)
local macro_rules | `(tactic| walk_at "cl") => `(tactic| (refine' e_call (D__law_roll ‹Tx _ _›) ‹Bd _ _ _ _›.gu ?rm ?gl ?_; (case rm => exact ‹Bd _ _ _ _›.room.mono (by decide)); (case gl => with_reducible assumption)))
def sp__law_pick (K : PySem.W.Frag) : Sp := fun vs H Q _ => ∃ p q, vs = [.ref p, .ref q] ∧ Dice H p ∧ ∃ xs, H q = some (.lst xs) ∧ q ≠ p ∧ 0 < xs.length ∧ xs.length < 1073741824 ∧ ∀ (i : Nat) (v : V) (H' : Hp), xs[i]? = some v → Ch p H H' → Dice H' p → Q v H'
theorem b__law_pick {X : Cx} (B : Bd X N__law_pick (defScope S__law_pick) 1) (F : ∀ x, X.fn x = true) (T : Tx X.K X.mg) {vs : List V} {H : Hp} {Q : VK} {E : XK} (h : sp__law_pick X.K vs H Q E) :
    wB X (defBody S__law_pick) { nx := fun _ H' => Q .non H', rt := Q } (start N__law_pick vs) H := by
  have n_dice : X.N[0]? = some ("dice" : Str) := B.slot 0 rfl
  have l_dice : X.env.scope.names.lookup ("dice" : Str) = some NameKind.local := B.loc rfl
  have n_items : X.N[1]? = some ("items" : Str) := B.slot 1 rfl
  have l_items : X.env.scope.names.lookup ("items" : Str) = some NameKind.local := B.loc rfl
  have g__law_roll : Gl X "_law_roll" := B.gl rfl
  have g_len : Gl X "len" := B.gl rfl
  have z_len := T.z_len
  have v_len := bb_len
  obtain ⟨p, q, rfl, hd, xs, hq, hne, h0, h1, k⟩ := h
  walk_at "wz"
  refine c_lenL (SqL.of hq) ?_
  walk_at "wz"
  refine ⟨p, _, rfl, hd, by omega, by omega, fun r H' r0 r1 c d => ?_⟩
  obtain ⟨n, v, g1, g2⟩ := at_vs r0 r1
  exact x_lst (SqL.of (c q _ hne hq)) g2 (k n v H' g1 c d)
theorem len__law_pick {K : PySem.W.Frag} : ∀ vs H Q E, sp__law_pick K vs H Q E → vs.length = 2 := by
  intro vs H Q E h
  obtain ⟨_, _, e, _⟩ := h
  rw [e]; rfl
theorem D__law_pick {P : Program} {w : World} {K : PySem.W.Frag} {mg : Str → Option Value} {base : Heap} (T : Tx K mg) : Df P w K mg base "_law_pick" 2 ["dice", "items"] (sp__law_pick K) :=
  df_of T.d__law_pick sc__law_pick (fun _ _ _ _ _ _ us hl => match us, hl with | [_, _], _ => rfl) len__law_pick (fun X e1 e2 e3 e4 e5 B F vs H Q E h => by subst e1 e2 e3 e4 e5; exact b__law_pick B F T h)
local macro_rules | `(tactic| walk_at "cl") => `(tactic| (refine' e_call (D__law_pick ‹Tx _ _›) ‹Bd _ _ _ _›.gu ?rm ?gl ?_; (case rm => exact ‹Bd _ _ _ _›.room.mono (by decide)); (case gl => with_reducible assumption)))
def sp__law_limit (K : PySem.W.Frag) : Sp := fun vs H Q _ => vs = [] ∧ Q (.int big__TOO_LONG) H
theorem b__law_limit {X : Cx} (B : Bd X N__law_limit (defScope S__law_limit) 0) (F : ∀ x, X.fn x = true) (T : Tx X.K X.mg) {vs : List V} {H : Hp} {Q : VK} {E : XK} (h : sp__law_limit X.K vs H Q E) :
    wB X (defBody S__law_limit) { nx := fun _ H' => Q .non H', rt := Q } (start N__law_limit vs) H := by

  obtain ⟨rfl, q⟩ := h
  walk_at "wz"
  refine o_powW (by decide) (by decide +kernel) ?_
  have e : ((10 : Int) ^ (50 : Int).toNat) ^ (4 : Int).toNat = big__TOO_LONG := by decide +kernel
  rw [e]
  exact q
theorem len__law_limit {K : PySem.W.Frag} : ∀ vs H Q E, sp__law_limit K vs H Q E → vs.length = 0 := by
  intro vs H Q E h
  obtain ⟨e, _⟩ := h
  rw [e]; rfl
theorem D__law_limit {P : Program} {w : World} {K : PySem.W.Frag} {mg : Str → Option Value} {base : Heap} (T : Tx K mg) : Df P w K mg base "_law_limit" 1 [] (sp__law_limit K) :=
  df_of T.d__law_limit sc__law_limit (fun _ _ _ _ _ _ us hl => match us, hl with | [], _ => rfl) len__law_limit (fun X e1 e2 e3 e4 e5 B F vs H Q E h => by subst e1 e2 e3 e4 e5; exact b__law_limit B F T h)
local macro_rules | `(tactic| walk_at "cl") => `(tactic| (refine' e_call0 (D__law_limit ‹Tx _ _›) ‹Bd _ _ _ _›.gu ?rm ?gl ?_; (case rm => exact ‹Bd _ _ _ _›.room.mono (by decide)); (case gl => with_reducible assumption)))

def sp__law_drawn_number (K : PySem.W.Frag) : Sp := fun vs H Q _ => ∃ p, vs = [.ref p] ∧ Dice H p ∧ ∀ (n : Int) (H' : Hp), n.natAbs < 10 ^ 240 → Ch p H H' → Dice H' p → Q (.int n) H'
theorem b__law_drawn_number {X : Cx} (B : Bd X N__law_drawn_number (defScope S__law_drawn_number) 2) (F : ∀ x, X.fn x = true) (T : Tx X.K X.mg) {vs : List V} {H : Hp} {Q : VK} {E : XK} (h : sp__law_drawn_number X.K vs H Q E) :
    wB X (defBody S__law_drawn_number) { nx := fun _ H' => Q .non H', rt := Q } (start N__law_drawn_number vs) H := by
  have n_dice : X.N[0]? = some ("dice" : Str) := B.slot 0 rfl
  have l_dice : X.env.scope.names.lookup ("dice" : Str) = some NameKind.local := B.loc rfl
  have n_near : X.N[1]? = some ("near" : Str) := B.slot 1 rfl
  have l_near : X.env.scope.names.lookup ("near" : Str) = some NameKind.local := B.loc rfl
  have n_number : X.N[2]? = some ("number" : Str) := B.slot 2 rfl
  have l_number : X.env.scope.names.lookup ("number" : Str) = some NameKind.local := B.loc rfl
  have g__law_limit : Gl X "_law_limit" := B.gl rfl
  have g__law_pick : Gl X "_law_pick" := B.gl rfl
  have g__law_roll : Gl X "_law_roll" := B.gl rfl
  obtain ⟨p, rfl, hd, q⟩ := h
  walk_at "wz"
  refine ⟨rfl, ?_⟩
  walk_at "wz"
  refine o_fdiv ⟨by decide, by decide⟩ ?_
  walk_at "wz"
  refine ⟨rfl, ?_⟩
  walk_at "wz"
  refine ⟨rfl, ?_⟩
  walk_at "wz"
  refine ⟨rfl, ?_⟩
  walk_at "wz"
  refine o_mulW (show _ < _ by decide +kernel) ?_
  walk_at "wz"
  refine ⟨by show 9 ≤ sizeLine; decide, fun l hl => ?_⟩
  walk_at "wz"
  have dne : l ≠ p := fun e => by
    obtain ⟨x, y, z, e2⟩ := hd
    rw [e, e2] at hl
    cases hl
  refine ⟨p, l, rfl, hd.new hl, _, upd_same, dne, by show 0 < 9; decide, by show 9 < _; decide, fun i v H1 hi c1 d1 => ?_⟩
  have hv : ∃ m : Int, v = .int m ∧ m.natAbs < 10 ^ 235 := by
    have hm := List.mem_of_getElem? hi
    simp only [List.mem_cons, List.not_mem_nil, or_false] at hm
    rcases hm with e | e | e | e | e | e | e | e | e <;> exact ⟨_, e, by decide +kernel⟩
  obtain ⟨m, rfl, hm⟩ := hv
  walk_at "wz"
  refine ⟨p, 5, rfl, d1, by decide, by decide, fun r H2 r0 r5 c2 d2 => ?_⟩
  walk_at "wz"
  refine ⟨p, 3, rfl, d2, by decide, by decide, fun s H3 s0 s3 c3 d3 => ?_⟩
  have cc : Ch p H H3 := ((Ch.refl.new hl).trans (c1.trans c2)).trans c3
  have e1 : (m + r - 2).natAbs < 10 ^ 240 := by
    have : (m + r - 2).natAbs ≤ m.natAbs + 7 := by omega
    refine Nat.lt_of_le_of_lt this ?_
    exact Nat.lt_of_lt_of_le (Nat.add_lt_add_right hm 7) (by decide +kernel)
  walk_at "wz"
  refine iteD (fun h1 => ?_) (fun h1 => ?_)
  · walk_at "wz"
    refine q _ _ ?_ cc d3
    rw [show (0 - (m + r - 2)).natAbs = (m + r - 2).natAbs by omega]
    exact e1
  · walk_at "wz"
    exact q _ _ e1 cc d3
theorem len__law_drawn_number {K : PySem.W.Frag} : ∀ vs H Q E, sp__law_drawn_number K vs H Q E → vs.length = 1 := by
  intro vs H Q E h
  obtain ⟨_, e, _⟩ := h
  rw [e]; rfl
theorem D__law_drawn_number {P : Program} {w : World} {K : PySem.W.Frag} {mg : Str → Option Value} {base : Heap} (T : Tx K mg) : Df P w K mg base "_law_drawn_number" 3 ["dice"] (sp__law_drawn_number K) :=
  df_of T.d__law_drawn_number sc__law_drawn_number (fun _ _ _ _ _ _ us hl => match us, hl with | [_], _ => rfl) len__law_drawn_number (fun X e1 e2 e3 e4 e5 B F vs H Q E h => by subst e1 e2 e3 e4 e5; exact b__law_drawn_number B F T h)
local macro_rules | `(tactic| walk_at "cl") => `(tactic| (refine' e_call (D__law_drawn_number ‹Tx _ _›) ‹Bd _ _ _ _›.gu ?rm ?gl ?_; (case rm => exact ‹Bd _ _ _ _›.room.mono (by decide)); (case gl => with_reducible assumption)))

theorem at_str {z : Str} {r : Int} (h0 : 0 ≤ r) (h : r < (z.length : Int)) : ∃ c : Nat, atI z.cps.toList r = some c := by
  obtain ⟨n, rfl⟩ : ∃ n : Nat, r = (n : Int) := ⟨r.toNat, by omega⟩
  have h2 : n < z.cps.toList.length := by
    have : z.length = z.cps.toList.length := by show z.cps.size = _; simp
    omega
  exact ⟨z.cps.toList[n], atI_nat (List.getElem?_eq_getElem h2)⟩
theorem short_eq (n : Int) : decide (((Str.ofString (toString (n.natAbs : Int))).length : Int) ≤ 200) = isI (.int n) := by
  have e1 : toString (n.natAbs : Int) = n.natAbs.repr := rfl
  have e2 : (Str.ofString (toString (n.natAbs : Int))).length = n.natAbs.repr.length := by rw [PySem.ofString_length, e1]
  have e3 : n.natAbs.repr.length ≤ 200 ↔ n.natAbs < 10 ^ 200 := Nat.length_repr_le_iff (by decide)
  have e4 : ((10 ^ 200 : Nat) : Int) = big__TOO_LONG := by decide +kernel
  rw [e2]
  show _ = (decide (-big__TOO_LONG < n) && decide (n < big__TOO_LONG))
  rw [← e4]
  generalize 10 ^ 200 = L at e3
  by_cases h : n.natAbs < L
  · rw [decide_eq_true (by have := e3.mpr h; omega), decide_eq_true (by omega), decide_eq_true (by omega)]; rfl
  · rw [decide_eq_false (fun z => h (e3.mp (by omega)))]
    by_cases h2 : -(L : Int) < n
    · rw [decide_eq_false (show ¬ n < (L : Int) by omega), Bool.and_false]
    · rw [decide_eq_false h2, Bool.false_and]
theorem Okv.ch {K : PySem.W.Frag} {H H' : Hp} {p : Addr} {v : V} (o : Okv K H v) (c : Ch p H H') (h : v ≠ .ref p) : Okv K H' v := by
  cases o with
  | non => exact .non
  | bl b => exact .bl b
  | int i => exact .int i
  | str x => exact .str x
  | lst e => exact .lst (c _ _ (fun z => h (by rw [z])) e)
  | tup e => exact .tup (c _ _ (fun z => h (by rw [z])) e)
  | dK e => exact .dK (c _ _ (fun z => h (by rw [z])) e)
/-- a value of another kind -/
def Odd (K : PySem.W.Frag) (H : Hp) (p : Addr) (v : V) : Prop := Okv K H v ∧ v ≠ .ref p ∧ isI v = false ∧ isC v = false ∧ isO v = false ∧ isP v = false ∧ ∀ x, v = .str x → x.length ≤ 1000
theorem odd_ref {K : PySem.W.Frag} {H : Hp} {p a : Addr} (o : Okv K H (.ref a)) (h : a ≠ p) : Odd K H p (.ref a) := ⟨o, fun z => h (V.ref.inj z), rfl, rfl, rfl, rfl, fun x z => nomatch z⟩
theorem ne_dice {H : Hp} {p q : Addr} (d : Dice H p) (h : H q = none) : q ≠ p := by
  obtain ⟨x, y, z, e⟩ := d
  rintro rfl
  rw [e] at h
  cases h
def sp_law (K : PySem.W.Frag) : Sp := fun vs H Q _ => ∃ a, vs = [.ref a] ∧ ∃ ns : List Int, SqL K H a (ns.map V.int) ∧ ns.length ≤ 63 ∧ ∀ H', Q (.bl true) H'
theorem b_law {X : Cx} (B : Bd X N_law (defScope S_law) 3) (F : ∀ x, X.fn x = true) (T : Tx X.K X.mg) {vs : List V} {H : Hp} {Q : VK} {E : XK} (h : sp_law X.K vs H Q E) :
    wB X (defBody S_law) { nx := fun _ H' => Q .non H', rt := Q } (start N_law vs) H := by
  have n_script : X.N[0]? = some ("script" : Str) := B.slot 0 rfl
  have l_script : X.env.scope.names.lookup ("script" : Str) = some NameKind.local := B.loc rfl
  have n_signs : X.N[1]? = some ("signs" : Str) := B.slot 1 rfl
  have l_signs : X.env.scope.names.lookup ("signs" : Str) = some NameKind.local := B.loc rfl
  have n_spot : X.N[2]? = some ("spot" : Str) := B.slot 2 rfl
  have l_spot : X.env.scope.names.lookup ("spot" : Str) = some NameKind.local := B.loc rfl
  have n_dice : X.N[3]? = some ("dice" : Str) := B.slot 3 rfl
  have l_dice : X.env.scope.names.lookup ("dice" : Str) = some NameKind.local := B.loc rfl
  have n_turn : X.N[4]? = some ("turn" : Str) := B.slot 4 rfl
  have l_turn : X.env.scope.names.lookup ("turn" : Str) = some NameKind.local := B.loc rfl
  have n_number : X.N[5]? = some ("number" : Str) := B.slot 5 rfl
  have l_number : X.env.scope.names.lookup ("number" : Str) = some NameKind.local := B.loc rfl
  have n_sign : X.N[6]? = some ("sign" : Str) := B.slot 6 rfl
  have l_sign : X.env.scope.names.lookup ("sign" : Str) = some NameKind.local := B.loc rfl
  have n_text : X.N[7]? = some ("text" : Str) := B.slot 7 rfl
  have l_text : X.env.scope.names.lookup ("text" : Str) = some NameKind.local := B.loc rfl
  have n_is_short : X.N[8]? = some ("is_short" : Str) := B.slot 8 rfl
  have l_is_short : X.env.scope.names.lookup ("is_short" : Str) = some NameKind.local := B.loc rfl
  have n_told : X.N[9]? = some ("told" : Str) := B.slot 9 rfl
  have l_told : X.env.scope.names.lookup ("told" : Str) = some NameKind.local := B.loc rfl
  have n_due : X.N[10]? = some ("due" : Str) := B.slot 10 rfl
  have l_due : X.env.scope.names.lookup ("due" : Str) = some NameKind.local := B.loc rfl
  have n_odd : X.N[11]? = some ("odd" : Str) := B.slot 11 rfl
  have l_odd : X.env.scope.names.lookup ("odd" : Str) = some NameKind.local := B.loc rfl
  have g_range : Gl X "range" := B.gl rfl
  have g_max : Gl X "max" := B.gl rfl
  have g_min : Gl X "min" := B.gl rfl
  have g_len : Gl X "len" := B.gl rfl
  have g__law_dice : Gl X "_law_dice" := B.gl rfl
  have g__law_drawn_number : Gl X "_law_drawn_number" := B.gl rfl
  have g__law_roll : Gl X "_law_roll" := B.gl rfl
  have g__law_pick : Gl X "_law_pick" := B.gl rfl
  have g_str : Gl X "str" := B.gl rfl
  have g_abs : Gl X "abs" := B.gl rfl
  have g_is_integer : Gl X "is_integer" := B.gl rfl
  have g_is_count : Gl X "is_count" := B.gl rfl
  have g_is_owner : Gl X "is_owner" := B.gl rfl
  have g_is_number_of_places : Gl X "is_number_of_places" := B.gl rfl
  have g_repr : Gl X "repr" := B.gl rfl
  have g_MAX_PLACES : Gl X "MAX_PLACES" := B.gl rfl
  have g_MAX_STEPS : Gl X "MAX_STEPS" := B.gl rfl
  have g_MAX_FIGURES : Gl X "MAX_FIGURES" := B.gl rfl
  have z_range := T.z_range
  have v_range := bb_range
  have z_max := T.z_max
  have v_max := bb_max
  have z_min := T.z_min
  have v_min := bb_min
  have z_len := T.z_len
  have v_len := bb_len
  have z_str := T.z_str
  have v_str := bb_str
  have z_abs := T.z_abs
  have v_abs := bb_abs
  have z_repr := T.z_repr
  have v_repr := bb_repr
  obtain ⟨t_MAX_PLACES, c_MAX_PLACES⟩ := T.c_MAX_PLACES
  obtain ⟨t_MAX_STEPS, c_MAX_STEPS⟩ := T.c_MAX_STEPS
  obtain ⟨t_MAX_FIGURES, c_MAX_FIGURES⟩ := T.c_MAX_FIGURES
  obtain ⟨a, rfl, ns, hs, hn, q⟩ := h
  walk_at "wz"
  refine s_forR1 2 B.ps B.calm g_range z_range B.nd n_spot (Or.inl l_spot) ?_ (hf := .inr l_spot)
  walk_at "wz"
  refine c_lenL hs ?_
  walk_at "wz"
  rw [List.length_map]
  refine ⟨(max 1 (min 5 ns.length)), ?_, by omega, fun k σ H1 => ∃ z y2 y3 y4 y5 y6 y7 y8 y9 y10 y11, σ = [some (.ref a), some (.str z), y2, y3, y4, y5, y6, y7, y8, y9, y10, y11] ∧ Same H H1 ∧ z.length ≤ 100 ∧ 0 < z.length, ?_, ?_, ?_⟩
  · congr 1
    split <;> split <;> omega
  · refine ⟨_, _, _, _, _, _, _, _, _, _, _, rfl, Same.refl H, by decide +kernel, by decide +kernel⟩
  · rintro k σ H1 hk ⟨z, y2, y3, y4, y5, y6, y7, y8, y9, y10, y11, rfl, sm, zl, z0⟩
    walk_at "wz"
    refine ⟨a, (k : Int), rfl, ⟨ns, sm.seq hs⟩, rfl, by omega, fun p x y hp => ?_⟩
    walk_at "wz"
    have smp : Same H (upd H1 p (.lst [.int x, .int y, .int 0])) := sm.new hp
    have p0 : H p = none := sm.free hp
    refine s_forR1 4 B.ps B.calm g_range z_range B.nd n_turn (Or.inl l_turn) ?_ (hf := .inr l_turn)
    walk_at "wz"
    refine ⟨by decide, fun k2 σ H2 => ∃ y4 y5 y6 y7 y8 y9 y10 y11, σ = [some (.ref a), some (.str z), some (.int (k : Int)), some (.ref p), y4, y5, y6, y7, y8, y9, y10, y11] ∧ Same H H2 ∧ Dice H2 p, ?_, ?_, ?_⟩
    · exact ⟨_, _, _, _, _, _, _, _, rfl, smp, _, _, _, upd_same⟩
    · rintro k2 σ H2 hk2 ⟨y4, y5, y6, y7, y8, y9, y10, y11, rfl, sm2, d2⟩
      walk_at "wz"
      refine s_par 5 6 B.calm B.nd n_number n_sign (by decide) l_number l_sign (by rw [env_eta B.sc]; rfl) ?_
      walk_at "wz"
      refine ⟨p, rfl, d2, fun n H3 hn3 c3 d3 => ?_⟩
      walk_at "wz"
      refine c_lenS (Nat.le_trans zl (by decide)) ?_
      walk_at "wz"
      refine ⟨p, _, rfl, d3, by omega, by omega, fun r H4 r0 r1 c4 d4 => ?_⟩
      obtain ⟨cz, gz⟩ := at_str r0 r1
      refine x_str (Nat.le_trans zl (by decide)) gz ?_
      walk_at "wz"
      refine ⟨by show 6 ≤ sizeLine; decide, fun l hl => ?_⟩
      walk_at "wz"
      have p4 : l ≠ p := fun e => by
        obtain ⟨_, _, _, e2⟩ := d4
        rw [e, e2] at hl
        cases hl
      refine ⟨p, l, rfl, d4.new hl, _, upd_same, p4, by show 0 < 6; decide, by show 6 < _; decide, fun i v H5 hi c5 d5 => ?_⟩
      have hv : ∃ m : Str, v = .str m ∧ m.length ≤ 1 := by
        have hm := List.mem_of_getElem? hi
        simp only [List.mem_cons, List.not_mem_nil, or_false] at hm
        rcases hm with e | e | e | e | e | e <;> exact ⟨_, e, by decide +kernel⟩
      obtain ⟨m, rfl, hm⟩ := hv
      have c45 : Ch p H2 H5 := ((c3.trans c4).new hl).trans c5
      have sm5 : Same H H5 := sm2.ch p0 c45
      have tl : ((⟨#[cz]⟩ : Str) ++ m).length ≤ 2 := by
        show (#[cz] ++ m.cps).size ≤ 2
        have : m.cps.size ≤ 1 := hm
        simp
        omega
      refine o_adds (Nat.le_trans (show _ ≤ 2 from by have : m.length ≤ 1 := hm; show 1 + m.length ≤ 2; omega) (by decide)) ?_
      generalize (⟨#[cz]⟩ : Str) ++ m = tx at tl
      walk_at "wz"
      rw [show (if n < 0 then -n else n) = (n.natAbs : Int) by split <;> omega]
      have lg : n.natAbs.log2 < 1920 := Nat.lt_of_lt_of_le (PySem.Flt.log2_lt_of (by decide) (Nat.lt_of_lt_of_le hn3 (show 10 ^ 240 ≤ 2 ^ 800 by decide +kernel))) (by decide)
      refine c_str (by rw [Int.natAbs_natCast]; exact lg) ?_
      walk_at "wz"
      refine c_lenS (int_text_fits (by rw [Int.natAbs_natCast]; exact lg)) ?_
      walk_at "wz"
      rw [show decide (((Str.ofString (toString (n.natAbs : Int))).length : Int) ≤ 200) = isI (.int n) from short_eq n]
      refine ⟨_, rfl, ⟨.str _, fun x e => by cases e; exact Nat.le_trans tl (by decide)⟩, ?_⟩
      walk_at "wz"
      refine ⟨by show 4 ≤ sizeLine; decide, fun l1 hl1 => ?_⟩
      walk_at "st"
      walk_at "st"
      refine e_lst ?_
      refine a_cons ?_
      walk_at "ex"
      refine a_cons ?_
      refine wE_mono (R := fun v H' => H' = upd H5 l1 (.lst [.bl (isI (.int n)), .bl (isC (.int n)), .bl (isO (.str tx)), .bl (isP (.int n))]) ∧ v = .bl (isC (.int n))) ?_ ?_
      · walk_at "wz"
        refine iteB (fun b1 => ?_) (fun b1 => ?_)
        · walk_at "wz"
          refine ⟨rfl, ?_⟩
          show V.bl _ = V.bl (isI (.int n) && decide (0 ≤ n))
          rw [b1]; rfl
        · refine ⟨rfl, ?_⟩
          show V.bl _ = V.bl (isI (.int n) && decide (0 ≤ n))
          rw [b1]; rfl
      · rintro v H6 ⟨rfl, rfl⟩
        refine a_cons ?_
        refine wE_mono (R := fun v H' => H' = upd H5 l1 (.lst [.bl (isI (.int n)), .bl (isC (.int n)), .bl (isO (.str tx)), .bl (isP (.int n))]) ∧ v = .bl (isO (.str tx))) ?_ ?_
        · walk_at "wz"
          refine c_lenS (Nat.le_trans tl (by decide)) ?_
          walk_at "wz"
          refine iteD (fun h1 => ?_) (fun h1 => ?_)
          · walk_at "wz"
            refine o_les ?_
            walk_at "wz"
            refine iteND (fun h2 => ?_) (fun h2 => ?_)
            · walk_at "wz"
              refine o_les ?_
              refine ⟨rfl, ?_⟩
              show V.bl _ = V.bl (decide _ && (!decide _ && _))
              rw [decide_eq_true h1, decide_eq_false h2]; rfl
            · refine ⟨rfl, ?_⟩
              show V.bl _ = V.bl (decide _ && (!decide _ && _))
              rw [decide_eq_true h1, decide_eq_true h2]; rfl
          · refine ⟨rfl, ?_⟩
            show V.bl _ = V.bl (decide _ && _)
            rw [decide_eq_false h1]; rfl
        · rintro v H6 ⟨rfl, rfl⟩
          refine a_cons ?_
          refine wE_mono (R := fun v H' => H' = upd H5 l1 (.lst [.bl (isI (.int n)), .bl (isC (.int n)), .bl (isO (.str tx)), .bl (isP (.int n))]) ∧ v = .bl (isP (.int n))) ?_ ?_
          · walk_at "wz"
            refine iteD (fun h1 => ?_) (fun h1 => ?_)
            · walk_at "wz"
              refine ⟨rfl, ?_⟩
              show V.bl _ = V.bl (decide (1 ≤ n) && decide (n ≤ 12))
              rw [decide_eq_true (show 1 ≤ n by omega), Bool.true_and]
              congr 1
              exact decide_eq_decide.mpr (by omega)
            · refine ⟨rfl, ?_⟩
              show V.bl _ = V.bl (decide (1 ≤ n) && decide (n ≤ 12))
              rw [decide_eq_false (show ¬ 1 ≤ n by omega), Bool.false_and]
          · rintro v H6 ⟨rfl, rfl⟩
            walk_at "wz"
            refine ⟨by show 4 ≤ sizeLine; decide, fun l2 hl2 => ?_⟩
            generalize isI (.int n) = ba at *
            generalize isC (.int n) = bb at *
            generalize isO (.str tx) = bc at *
            generalize isP (.int n) = bd at *
            walk_at "wz"
            have dp : ∀ (H : Hp) (l : Addr), H l = some (.lst [.bl ba, .bl bb, .bl bc, .bl bd]) → Dp X.K H (.ref l) (.list [.bool ba, .bool bb, .bool bc, .bool bd]) := fun H l e => .lst (SqL.of e) (.cons (.bl _) (.cons (.bl _) (.cons (.bl _) (.cons (.bl _) .nil))))
            have sh : (PyData.shown (.list [.bool ba, .bool bb, .bool bc, .bool bd])).length ≤ sizeLine := by cases ba <;> cases bb <;> cases bc <;> cases bd <;> decide +kernel
            have un : X.A.units + (PyData.depth (.list [.bool ba, .bool bb, .bool bc, .bool bd]) + 1) < cLine := by
              have e : PyData.depth (.list [.bool ba, .bool bb, .bool bc, .bool bd]) = 1 := by simp [PyData.depth, PyData.depthAll]
              have := B.room.units
              rw [e]; omega
            refine c_repr B.gu un (dp _ l1 (upd_keep hl2 upd_same)) (by simp [PyData.showable, PyData.showableAll]) (by simp [PyData.hasDict, PyData.hasDictAll]) sh ?_
            walk_at "wz"
            refine c_repr B.gu un (dp _ l2 upd_same) (by simp [PyData.showable, PyData.showableAll]) (by simp [PyData.hasDict, PyData.hasDictAll]) sh ?_
            walk_at "wz"
            refine iteND (fun z => absurd rfl z) (fun _ => ?_)
            walk_at "wz"
            exact ⟨_, _, _, _, _, _, _, _, rfl, (sm5.new hl1).new hl2, (d5.new hl1).new hl2⟩
    · rintro σ H2 ⟨y4, y5, y6, y7, y8, y9, y10, y11, rfl, sm2, d2⟩
      walk_at "st"
      walk_at "st"
      walk_at "cl"
      refine a_cons ?_
      walk_at "ex"
      refine a_cons ?_
      walk_at "wz"
      walk_at "nw"
      walk_at "wz"
      walk_at "nw"
      walk_at "wz"
      walk_at "nw"
      walk_at "wz"
      intro p4 h4
      walk_at "ex"
      refine ⟨rfl, ?_⟩
      walk_at "wz"
      walk_at "nw"
      walk_at "wz"
      walk_at "nw"
      walk_at "wz"
      intro p7 h7
      walk_at "ex"
      refine ⟨rfl, ?_⟩
      walk_at "wz"
      rename_i p1 h1 p2 h2 p3 h3 p5 h5 p6 h6
      refine ⟨by (simp only [List.length_cons, List.length_nil]; decide), fun pl hl => ?_⟩
      walk_at "wz"
      have D1 := d2.new (o := .tup []) h1
      have D2 := D1.new (o := .tup [.int 7]) h2
      have D3 := D2.new (o := .lst [.int 7]) h3
      have D4 := D3.new (o := .dK [(Sum.inl 7, .int 7)]) h4
      have D5 := D4.new (o := .tup [.str "a"]) h5
      have D6 := D5.new (o := .lst [.str "a"]) h6
      have D7 := D6.new (o := .dK [(Sum.inr "a", .int 1)]) h7
      refine ⟨p, pl, rfl, D7.new hl, _, upd_same, ne_dice D7 hl, by (simp only [List.length_cons, List.length_nil]; decide), by (simp only [List.length_cons, List.length_nil]; decide), fun i v H5 hi c5 d5 => ?_⟩
      have sm8 := ((((((((sm2.new (o := .tup []) h1).new (o := .tup [.int 7]) h2).new (o := .lst [.int 7]) h3).new h4).new h5).new h6).new h7).new hl).ch p0 c5
      have od : Odd X.K H5 p v := by
        have hm := List.mem_of_getElem? hi
        clear hi
        suffices h : Odd X.K _ p v from ⟨h.1.ch c5 h.2.1, h.2⟩
        simp only [List.mem_cons, List.not_mem_nil, or_false] at hm
        rcases hm with e | e | e | e | e | e | e | e | e | e | e | e | e | e <;> subst e
        · exact ⟨.non, by simp, rfl, rfl, rfl, rfl, fun x z => nomatch z⟩
        · exact ⟨.bl _, by simp, rfl, rfl, rfl, rfl, fun x z => nomatch z⟩
        · exact ⟨.bl _, by simp, rfl, rfl, rfl, rfl, fun x z => nomatch z⟩
        · exact ⟨.str _, by simp, rfl, rfl, by decide +kernel, rfl, fun x z => by cases z; decide +kernel⟩
        · exact odd_ref (.tup (by walk_at "hg")) (ne_dice d2 h1)
        · exact odd_ref (.tup (by walk_at "hg")) (ne_dice D1 h2)
        · exact odd_ref (.lst (by walk_at "hg")) (ne_dice D2 h3)
        · exact odd_ref (.dK (by walk_at "hg")) (ne_dice D3 h4)
        · exact odd_ref (.tup (by walk_at "hg")) (ne_dice D4 h5)
        · exact odd_ref (.lst (by walk_at "hg")) (ne_dice D5 h6)
        · exact ⟨.str _, by simp, rfl, rfl, by decide +kernel, rfl, fun x z => by cases z; decide +kernel⟩
        · exact ⟨.str _, by simp, rfl, rfl, by decide +kernel, rfl, fun x z => by cases z; decide +kernel⟩
        · exact odd_ref (.dK (by walk_at "hg")) (ne_dice D6 h7)
        · exact ⟨.str _, by simp, rfl, rfl, by decide +kernel, rfl, fun x z => by cases z; decide +kernel⟩
      clear D1 D2 D3 D4 D5 D6 D7 hi c5 hl h7 h6 h5 h4 h3 h2 h1
      obtain ⟨ok, _, f1, f2, f3, f4, fl⟩ := od
      walk_at "wz"
      refine ⟨_, rfl, ⟨ok, fl⟩, ?_⟩
      walk_at "wz"
      rw [f1, f2, f3, f4]
      walk_at "nw"
      walk_at "wz"
      walk_at "nw"
      walk_at "wz"
      rename_i q1 k1 q2 k2
      refine o_rep upd_same (by decide) (by decide) (by show 1 * 4 ≤ _; decide) fun q3 k3 => ?_
      have dl : ∀ (H : Hp) (l : Addr), H l = some (.lst [.bl false, .bl false, .bl false, .bl false]) → Dp X.K H (.ref l) (.list [.bool false, .bool false, .bool false, .bool false]) := fun H l e => .lst (SqL.of e) (.cons (.bl _) (.cons (.bl _) (.cons (.bl _) (.cons (.bl _) .nil))))
      refine o_neD B.room.units (dl _ q1 (by walk_at "hg")) (dl _ q3 upd_same) (by decide +kernel) (by decide +kernel) ?_
      rw [show PyData.eqv (.list [.bool false, .bool false, .bool false, .bool false]) (.list [.bool false, .bool false, .bool false, .bool false]) = true by decide +kernel]
      walk_at "wz"
      exact ⟨_, _, _, _, _, _, _, _, _, _, _, rfl, ((sm8.new k1).new k2).new k3, zl, z0⟩
  · rintro σ H2 ⟨z, y2, y3, y4, y5, y6, y7, y8, y9, y10, y11, rfl, sm2, zl, z0⟩
    walk_at "st"
    refine s_lcT 5 9 B (blkOk_by (by decide +kernel)) rfl rfl n_told l_told (sw_true (by rw [B.sc]; rfl) l_told (by rfl) (by decide +kernel)) ?_
    refine lcT_map ?_
    walk_at "wz"
    walk_at "nw"
    rename_i p1 h1
    refine ⟨p1, _, [.bl false, .bl true, .bl true, .bl false], rfl, SqT.of upd_same, rfl, by (simp only [List.length_cons, List.length_nil]; decide), fun D hD => ⟨?_, ?_⟩⟩
    · intro i v H3 hv keep X' bk
      have B' := bk.bd B
      have n_number : X'.N[5]? = some ("number" : Str) := B'.slot 5 rfl
      have l_number : X'.env.scope.names.lookup ("number" : Str) = some NameKind.local := B'.loc rfl
      have g_is_number_of_places : Gl X' "is_number_of_places" := B'.gl rfl
      have T' : Tx X'.K X'.mg := by rw [bk.K, bk.mg]; exact T
      rcases i with _ | _ | _ | _ | i
      · cases hv
        walk_at "wz"
        exact ⟨rfl, by decide +kernel⟩
      · cases hv
        walk_at "wz"
        exact ⟨rfl, by decide +kernel⟩
      · cases hv
        walk_at "wz"
        exact ⟨rfl, by decide +kernel⟩
      · cases hv
        walk_at "wz"
        exact ⟨rfl, by decide +kernel⟩
      · simp at hv
    · walk_at "wz"
      walk_at "nw"
      walk_at "wz"
      rename_i p2 h2
      have dl : ∀ (H : Hp) (l : Addr), H l = some (.lst [.bl false, .bl true, .bl true, .bl false]) → Dp X.K H (.ref l) (.list [.bool false, .bool true, .bool true, .bool false]) := fun H l e => .lst (SqL.of e) (.cons (.bl _) (.cons (.bl _) (.cons (.bl _) (.cons (.bl _) .nil))))
      refine o_eqD B.room.units (dl _ D (by walk_at "hg")) (dl _ p2 upd_same) (by decide +kernel) (by decide +kernel) ?_
      rw [show PyData.eqv (.list [.bool false, .bool true, .bool true, .bool false]) (.list [.bool false, .bool true, .bool true, .bool false]) = true by decide +kernel]
      walk_at "wz"
      walk_at "nw"
      walk_at "wz"
      walk_at "nw"
      walk_at "wz"
      rename_i p3 h3 p4 h4
      have dn : ∀ (H : Hp) (l : Addr), H l = some (.lst [.int 12, .int 24, .int 200]) → Dp X.K H (.ref l) (.list [.int 12, .int 24, .int 200]) := fun H l e => .lst (SqL.of e) (.cons (.int _) (.cons (.int _) (.cons (.int _) .nil)))
      refine o_eqD B.room.units (dn _ p3 (by walk_at "hg")) (dn _ p4 upd_same) (by decide +kernel) (by decide +kernel) ?_
      rw [show PyData.eqv (.list [.int 12, .int 24, .int 200]) (.list [.int 12, .int 24, .int 200]) = true by decide +kernel]
      exact q _

theorem len_law {K : PySem.W.Frag} : ∀ vs H Q E, sp_law K vs H Q E → vs.length = 1 := by
  intro vs H Q E h
  obtain ⟨_, e, _⟩ := h
  rw [e]; rfl
theorem all_mk {l : PySem.W.OpenLaw} {w : World} {K : PySem.W.Frag} {h : Heap} {mg : Str → Option Value} {fa : Addr} (X : K.In h) (G : h.Ns mainGlobals mg) (hfa : mg "law" = some (.ref fa))
    (z_abs : PySem.W.nsIn K mainGlobals "abs" = some none)
    (z_bool : PySem.W.nsIn K mainGlobals "bool" = some none)
    (z_int : PySem.W.nsIn K mainGlobals "int" = some none)
    (z_isinstance : PySem.W.nsIn K mainGlobals "isinstance" = some none)
    (z_len : PySem.W.nsIn K mainGlobals "len" = some none)
    (z_max : PySem.W.nsIn K mainGlobals "max" = some none)
    (z_min : PySem.W.nsIn K mainGlobals "min" = some none)
    (z_range : PySem.W.nsIn K mainGlobals "range" = some none)
    (z_repr : PySem.W.nsIn K mainGlobals "repr" = some none)
    (z_str : PySem.W.nsIn K mainGlobals "str" = some none)
    {t_MAX_PLACES : Tok} (c_MAX_PLACES : PySem.W.nsIn K mainGlobals "MAX_PLACES" = some (some (Value.int 12 t_MAX_PLACES)))
    {t_MAX_STEPS : Tok} (c_MAX_STEPS : PySem.W.nsIn K mainGlobals "MAX_STEPS" = some (some (Value.int 24 t_MAX_STEPS)))
    {t_MAX_FIGURES : Tok} (c_MAX_FIGURES : PySem.W.nsIn K mainGlobals "MAX_FIGURES" = some (some (Value.int 200 t_MAX_FIGURES)))
    {t__TOO_LONG : Tok} (c__TOO_LONG : PySem.W.nsIn K mainGlobals "_TOO_LONG" = some (some (Value.int 100000000000000000000000000000000000000000000000000000000000000000000000000000000000000000000000000000000000000000000000000000000000000000000000000000000000000000000000000000000000000000000000000000000 t__TOO_LONG)))
    {f_is_integer : Addr} {od_is_integer an_is_integer : Option Addr} {sl_is_integer : Array (Option Value)} {oc_is_integer kV_is_integer dc_is_integer pm_is_integer cd_is_integer ct_is_integer : Value} (a_is_integer : PySem.W.nsIn K mainGlobals "is_integer" = some (some (.ref f_is_integer))) (l_is_integer : K.lookup f_is_integer = some ⟨oc_is_integer, od_is_integer, .func (PySem.W.fnOf "is_integer" "is_integer" (defArgs S_is_integer) (defBody S_is_integer) (defScope S_is_integer) .none kV_is_integer dc_is_integer pm_is_integer an_is_integer cd_is_integer ct_is_integer), sl_is_integer⟩) (i_is_integer : PySem.W.codeIn K cd_is_integer "is_integer" = true) (k_is_integer : PySem.W.keepIn K (.ref f_is_integer) = true)
    {f_is_count : Addr} {od_is_count an_is_count : Option Addr} {sl_is_count : Array (Option Value)} {oc_is_count kV_is_count dc_is_count pm_is_count cd_is_count ct_is_count : Value} (a_is_count : PySem.W.nsIn K mainGlobals "is_count" = some (some (.ref f_is_count))) (l_is_count : K.lookup f_is_count = some ⟨oc_is_count, od_is_count, .func (PySem.W.fnOf "is_count" "is_count" (defArgs S_is_count) (defBody S_is_count) (defScope S_is_count) .none kV_is_count dc_is_count pm_is_count an_is_count cd_is_count ct_is_count), sl_is_count⟩) (i_is_count : PySem.W.codeIn K cd_is_count "is_count" = true) (k_is_count : PySem.W.keepIn K (.ref f_is_count) = true)
    {f_is_owner : Addr} {od_is_owner an_is_owner : Option Addr} {sl_is_owner : Array (Option Value)} {oc_is_owner kV_is_owner dc_is_owner pm_is_owner cd_is_owner ct_is_owner : Value} (a_is_owner : PySem.W.nsIn K mainGlobals "is_owner" = some (some (.ref f_is_owner))) (l_is_owner : K.lookup f_is_owner = some ⟨oc_is_owner, od_is_owner, .func (PySem.W.fnOf "is_owner" "is_owner" (defArgs S_is_owner) (defBody S_is_owner) (defScope S_is_owner) .none kV_is_owner dc_is_owner pm_is_owner an_is_owner cd_is_owner ct_is_owner), sl_is_owner⟩) (i_is_owner : PySem.W.codeIn K cd_is_owner "is_owner" = true) (k_is_owner : PySem.W.keepIn K (.ref f_is_owner) = true)
    {f_is_number_of_places : Addr} {od_is_number_of_places an_is_number_of_places : Option Addr} {sl_is_number_of_places : Array (Option Value)} {oc_is_number_of_places kV_is_number_of_places dc_is_number_of_places pm_is_number_of_places cd_is_number_of_places ct_is_number_of_places : Value} (a_is_number_of_places : PySem.W.nsIn K mainGlobals "is_number_of_places" = some (some (.ref f_is_number_of_places))) (l_is_number_of_places : K.lookup f_is_number_of_places = some ⟨oc_is_number_of_places, od_is_number_of_places, .func (PySem.W.fnOf "is_number_of_places" "is_number_of_places" (defArgs S_is_number_of_places) (defBody S_is_number_of_places) (defScope S_is_number_of_places) .none kV_is_number_of_places dc_is_number_of_places pm_is_number_of_places an_is_number_of_places cd_is_number_of_places ct_is_number_of_places), sl_is_number_of_places⟩) (i_is_number_of_places : PySem.W.codeIn K cd_is_number_of_places "is_number_of_places" = true) (k_is_number_of_places : PySem.W.keepIn K (.ref f_is_number_of_places) = true)
    {f__law_dice : Addr} {od__law_dice an__law_dice : Option Addr} {sl__law_dice : Array (Option Value)} {oc__law_dice kV__law_dice dc__law_dice pm__law_dice cd__law_dice ct__law_dice : Value} (a__law_dice : PySem.W.nsIn K mainGlobals "_law_dice" = some (some (.ref f__law_dice))) (l__law_dice : K.lookup f__law_dice = some ⟨oc__law_dice, od__law_dice, .func (PySem.W.fnOf "_law_dice" "_law_dice" (defArgs S__law_dice) (defBody S__law_dice) (defScope S__law_dice) .none kV__law_dice dc__law_dice pm__law_dice an__law_dice cd__law_dice ct__law_dice), sl__law_dice⟩) (i__law_dice : PySem.W.codeIn K cd__law_dice "_law_dice" = true) (k__law_dice : PySem.W.keepIn K (.ref f__law_dice) = true)
    {f__law_roll : Addr} {od__law_roll an__law_roll : Option Addr} {sl__law_roll : Array (Option Value)} {oc__law_roll kV__law_roll dc__law_roll pm__law_roll cd__law_roll ct__law_roll : Value} (a__law_roll : PySem.W.nsIn K mainGlobals "_law_roll" = some (some (.ref f__law_roll))) (l__law_roll : K.lookup f__law_roll = some ⟨oc__law_roll, od__law_roll, .func (PySem.W.fnOf "_law_roll" "_law_roll" (defArgs S__law_roll) (defBody S__law_roll) (defScope S__law_roll) .none kV__law_roll dc__law_roll pm__law_roll an__law_roll cd__law_roll ct__law_roll), sl__law_roll⟩) (i__law_roll : PySem.W.codeIn K cd__law_roll "_law_roll" = true) (k__law_roll : PySem.W.keepIn K (.ref f__law_roll) = true)
    {f__law_pick : Addr} {od__law_pick an__law_pick : Option Addr} {sl__law_pick : Array (Option Value)} {oc__law_pick kV__law_pick dc__law_pick pm__law_pick cd__law_pick ct__law_pick : Value} (a__law_pick : PySem.W.nsIn K mainGlobals "_law_pick" = some (some (.ref f__law_pick))) (l__law_pick : K.lookup f__law_pick = some ⟨oc__law_pick, od__law_pick, .func (PySem.W.fnOf "_law_pick" "_law_pick" (defArgs S__law_pick) (defBody S__law_pick) (defScope S__law_pick) .none kV__law_pick dc__law_pick pm__law_pick an__law_pick cd__law_pick ct__law_pick), sl__law_pick⟩) (i__law_pick : PySem.W.codeIn K cd__law_pick "_law_pick" = true) (k__law_pick : PySem.W.keepIn K (.ref f__law_pick) = true)
    {f__law_limit : Addr} {od__law_limit an__law_limit : Option Addr} {sl__law_limit : Array (Option Value)} {oc__law_limit kV__law_limit dc__law_limit pm__law_limit cd__law_limit ct__law_limit : Value} (a__law_limit : PySem.W.nsIn K mainGlobals "_law_limit" = some (some (.ref f__law_limit))) (l__law_limit : K.lookup f__law_limit = some ⟨oc__law_limit, od__law_limit, .func (PySem.W.fnOf "_law_limit" "_law_limit" (defArgs S__law_limit) (defBody S__law_limit) (defScope S__law_limit) .none kV__law_limit dc__law_limit pm__law_limit an__law_limit cd__law_limit ct__law_limit), sl__law_limit⟩) (i__law_limit : PySem.W.codeIn K cd__law_limit "_law_limit" = true) (k__law_limit : PySem.W.keepIn K (.ref f__law_limit) = true)
    {f__law_drawn_number : Addr} {od__law_drawn_number an__law_drawn_number : Option Addr} {sl__law_drawn_number : Array (Option Value)} {oc__law_drawn_number kV__law_drawn_number dc__law_drawn_number pm__law_drawn_number cd__law_drawn_number ct__law_drawn_number : Value} (a__law_drawn_number : PySem.W.nsIn K mainGlobals "_law_drawn_number" = some (some (.ref f__law_drawn_number))) (l__law_drawn_number : K.lookup f__law_drawn_number = some ⟨oc__law_drawn_number, od__law_drawn_number, .func (PySem.W.fnOf "_law_drawn_number" "_law_drawn_number" (defArgs S__law_drawn_number) (defBody S__law_drawn_number) (defScope S__law_drawn_number) .none kV__law_drawn_number dc__law_drawn_number pm__law_drawn_number an__law_drawn_number cd__law_drawn_number ct__law_drawn_number), sl__law_drawn_number⟩) (i__law_drawn_number : PySem.W.codeIn K cd__law_drawn_number "_law_drawn_number" = true) (k__law_drawn_number : PySem.W.keepIn K (.ref f__law_drawn_number) = true)
    {f_law : Addr} {od_law an_law : Option Addr} {sl_law : Array (Option Value)} {oc_law kV_law dc_law pm_law cd_law ct_law : Value} (a_law : PySem.W.nsIn K mainGlobals "law" = some (some (.ref f_law))) (l_law : K.lookup f_law = some ⟨oc_law, od_law, .func (PySem.W.fnOf "law" "law" (defArgs S_law) (defBody S_law) (defScope S_law) .none kV_law dc_law pm_law an_law cd_law ct_law), sl_law⟩) (i_law : PySem.W.codeIn K cd_law "law" = true) (k_law : PySem.W.keepIn K (.ref f_law) = true) :
    ∃ fd : FuncData, (∀ (s : Shared) (v : Value), BindsTo s fd ⟨[v], []⟩ [("script", v)]) ∧ ∀ base : Heap, K.In base → base.Ns mainGlobals mg → FnG l.prog w K mg base CX0 4 fa fd ["script"] (sp_law K) := by
  have e := hfa.symm.trans (PySem.W.mg_of X G a_law)
  cases e
  have T : Tx K mg := ⟨PySem.W.mg_none_of X G z_abs, PySem.W.mg_none_of X G z_bool, PySem.W.mg_none_of X G z_int, PySem.W.mg_none_of X G z_isinstance, PySem.W.mg_none_of X G z_len, PySem.W.mg_none_of X G z_max, PySem.W.mg_none_of X G z_min, PySem.W.mg_none_of X G z_range, PySem.W.mg_none_of X G z_repr, PySem.W.mg_none_of X G z_str, ⟨_, PySem.W.mg_of X G c_MAX_PLACES⟩, ⟨_, PySem.W.mg_of X G c_MAX_STEPS⟩, ⟨_, PySem.W.mg_of X G c_MAX_FIGURES⟩, ⟨_, PySem.W.mg_of X G c__TOO_LONG⟩, ⟨_, _, fun_mk (st := S_is_integer) l_is_integer i_is_integer k_is_integer, PySem.W.mg_of X G a_is_integer⟩, ⟨_, _, fun_mk (st := S_is_count) l_is_count i_is_count k_is_count, PySem.W.mg_of X G a_is_count⟩, ⟨_, _, fun_mk (st := S_is_owner) l_is_owner i_is_owner k_is_owner, PySem.W.mg_of X G a_is_owner⟩, ⟨_, _, fun_mk (st := S_is_number_of_places) l_is_number_of_places i_is_number_of_places k_is_number_of_places, PySem.W.mg_of X G a_is_number_of_places⟩, ⟨_, _, fun_mk (st := S__law_dice) l__law_dice i__law_dice k__law_dice, PySem.W.mg_of X G a__law_dice⟩, ⟨_, _, fun_mk (st := S__law_roll) l__law_roll i__law_roll k__law_roll, PySem.W.mg_of X G a__law_roll⟩, ⟨_, _, fun_mk (st := S__law_pick) l__law_pick i__law_pick k__law_pick, PySem.W.mg_of X G a__law_pick⟩, ⟨_, _, fun_mk (st := S__law_limit) l__law_limit i__law_limit k__law_limit, PySem.W.mg_of X G a__law_limit⟩, ⟨_, _, fun_mk (st := S__law_drawn_number) l__law_drawn_number i__law_drawn_number k__law_drawn_number, PySem.W.mg_of X G a__law_drawn_number⟩⟩
  exact ⟨PySem.W.fnOf "law" "law" (defArgs S_law) (defBody S_law) (defScope S_law) .none kV_law dc_law pm_law an_law cd_law ct_law, fun s v => .of_eq rfl, fun base _ _ => fnG_of (fun_mk (st := S_law) l_law i_law k_law) sc_law len_law (fun cd B l s H vs Q E hg hr h => wB_nox (b_law ⟨rfl, sc_law.nd, rfl, rfl, hr, PassesOwn.never, fun _ _ => trivial, hg⟩ (fun _ => rfl) T h))⟩

end K00
open PySem PySem.W PyProof.Rows
set_option maxRecDepth 100000 in
set_option maxHeartbeats 0 in
theorem PySem.Challenge.cw_renamedown_k00_integers_and_owners_holds : PySem.Challenge.rw_renamedown_k00_integers_and_owners.Holds := by
  w_on; o_law; k_head; (case hw => w_witness2)
  k_fill
  refine WX.walkG (l := PySem.Challenge.rw_renamedown_k00_integers_and_owners) (n := 63) (k := 4) (x := "script") (sp := fun K => K00.sp_law K) rfl (by decide) rfl ⟨rfl, by decide, by decide⟩ (fun w h Y => PySem.W.kIn_of Y) ?F (fun _ _ a ns hl hS => ⟨a, rfl, ns, hS, hl, fun _ => rfl⟩)
  case F =>
    intro w mg fa h KX G hmg
    refine' K00.all_mk KX G hmg ?z_abs ?z_bool ?z_int ?z_isinstance ?z_len ?z_max ?z_min ?z_range ?z_repr ?z_str ?c_MAX_PLACES ?c_MAX_STEPS ?c_MAX_FIGURES ?c__TOO_LONG ?a_is_integer ?l_is_integer ?i_is_integer ?k_is_integer ?a_is_count ?l_is_count ?i_is_count ?k_is_count ?a_is_owner ?l_is_owner ?i_is_owner ?k_is_owner ?a_is_number_of_places ?l_is_number_of_places ?i_is_number_of_places ?k_is_number_of_places ?a__law_dice ?l__law_dice ?i__law_dice ?k__law_dice ?a__law_roll ?l__law_roll ?i__law_roll ?k__law_roll ?a__law_pick ?l__law_pick ?i__law_pick ?k__law_pick ?a__law_limit ?l__law_limit ?i__law_limit ?k__law_limit ?a__law_drawn_number ?l__law_drawn_number ?i__law_drawn_number ?k__law_drawn_number ?a_law ?l_law ?i_law ?k_law
    (case z_abs => k_is); (case z_bool => k_is); (case z_int => k_is); (case z_isinstance => k_is); (case z_len => k_is); (case z_max => k_is); (case z_min => k_is); (case z_range => k_is); (case z_repr => k_is); (case z_str => k_is); (case c_MAX_PLACES => k_is); (case c_MAX_STEPS => k_is); (case c_MAX_FIGURES => k_is); (case c__TOO_LONG => k_is); (case a_is_integer => k_is); (case l_is_integer => k_is); (case i_is_integer => k_is); (case k_is_integer => k_is); (case a_is_count => k_is); (case l_is_count => k_is); (case i_is_count => k_is); (case k_is_count => k_is); (case a_is_owner => k_is); (case l_is_owner => k_is); (case i_is_owner => k_is); (case k_is_owner => k_is); (case a_is_number_of_places => k_is); (case l_is_number_of_places => k_is); (case i_is_number_of_places => k_is); (case k_is_number_of_places => k_is); (case a__law_dice => k_is); (case l__law_dice => k_is); (case i__law_dice => k_is); (case k__law_dice => k_is); (case a__law_roll => k_is); (case l__law_roll => k_is); (case i__law_roll => k_is); (case k__law_roll => k_is); (case a__law_pick => k_is); (case l__law_pick => k_is); (case i__law_pick => k_is); (case k__law_pick => k_is); (case a__law_limit => k_is); (case l__law_limit => k_is); (case i__law_limit => k_is); (case k__law_limit => k_is); (case a__law_drawn_number => k_is); (case l__law_drawn_number => k_is); (case i__law_drawn_number => k_is); (case k__law_drawn_number => k_is); (case a_law => k_is); (case l_law => k_is); (case i_law => k_is); (case k_law => k_is)
