import PyProof.Rows.All
import Wide.All
import OpenK.AllK
import Wide.FinOn
import HandS.ForMost
import HandS.IsInst
import HandS.Wide
import HandS.Flow
import HandS.Defaults
import HandS.Property
import HandS.TupAny
import HandS.Conv
import HandS.Style
import HandS.OwnEq
import HandS.Walk
import PySem.Challenge.RW_renamedown_k10_whole_paths_of_things
set_option Elab.async false
set_option linter.all false
set_option maxRecDepth 100000
set_option maxHeartbeats 4000000
/-! WX: readings run forwards: each rule takes the syntax at hand and asks for what follows it. -/
namespace WX
open PySem PySem.Spec PyProof.Rows L2
section
variable {X : Cx} {σ : L2.St} {H : Hp} {Q : VK} {D : Ends} {pos : Pos}
/-! ### the readings as they are -/
structure wE (X : Cx) (e : Expr) (σ : L2.St) (H : Hp) (Q : VK) : Prop where
  run : ∀ (pins : List (Addr × Obj)) (s : Shared), Inv X pins σ H s → wpAny (model X.prog X.w) X.A (eval e X.env) (EP X pins σ Q) X.xe s
structure wT (X : Cx) (e : Expr) (σ : L2.St) (H : Hp) (Q : Bool → Hp → Prop) : Prop where
  run : ∀ (pins : List (Addr × Obj)) (s : Shared), Inv X pins σ H s → wpAny (model X.prog X.w) X.A (isTrue e X.env (eval e X.env)) (TP X pins σ Q) X.xe s
structure wW (X : Cx) (e : Expr) (σ : L2.St) (H : Hp) (Q : Bool → Hp → Prop) : Prop where
  run : ∀ (whole : Sem Value) (pins : List (Addr × Obj)) (s : Shared), Inv X pins σ H s → wpAny (model X.prog X.w) X.A (isTrue e X.env whole) (TP X pins σ Q) X.xe s
structure wA (X : Cx) (es : List Expr) (σ : L2.St) (H : Hp) (Q : List V → Hp → Prop) : Prop where
  run : ∀ (pos : Pos) (pins : List (Addr × Obj)) (s : Shared), Inv X pins σ H s → wpAny (model X.prog X.w) X.A (spliced (backTo pos (starEach es X.env))) (AP X pins σ Q) X.xe s
structure wS (X : Cx) (st : Stmt) (D : Ends) (σ : L2.St) (H : Hp) : Prop where
  run : ∀ (pins : List (Addr × Obj)) (s : Shared), Inv X pins σ H s → wpAny (model X.prog X.w) X.A (exec st X.env) (SP X pins D) X.xe s
structure wB (X : Cx) (st : List Stmt) (D : Ends) (σ : L2.St) (H : Hp) : Prop where
  run : ∀ (pins : List (Addr × Obj)) (s : Shared), Inv X pins σ H s → wpAny (model X.prog X.w) X.A (execs st X.env) (SP X pins D) X.xe s
structure wO (X : Cx) (f : Value → Value → Sem Value) (x y : V) (H : Hp) (Q : VK) : Prop where
  run : ∀ (pins : List (Addr × Obj)) (s : Shared) (σ : L2.St) (v u : Value), Inv X pins σ H s → RelV x v → RelV y u → wpAny (model X.prog X.w) X.A (f v u) (EP X pins σ Q) X.xe s
structure wU (X : Cx) (f : Value → Sem Value) (x : V) (H : Hp) (Q : VK) : Prop where
  run : ∀ (pins : List (Addr × Obj)) (s : Shared) (σ : L2.St) (v : Value), Inv X pins σ H s → RelV x v → wpAny (model X.prog X.w) X.A (f v) (EP X pins σ Q) X.xe s
structure wC (X : Cx) (f : Value) (xs : List V) (H : Hp) (Q : VK) : Prop where
  run : ∀ (pins : List (Addr × Obj)) (s : Shared) (σ : L2.St) (us : List Value), Inv X pins σ H s → Vals xs us → wpAny (model X.prog X.w) X.A (call f us) (EP X pins σ Q) X.xe s
structure wX (X : Cx) (x y : V) (H : Hp) (Q : VK) : Prop where
  run : ∀ (value slice : Expr) (pins : List (Addr × Obj)) (s : Shared) (σ : L2.St) (v u : Value), Inv X pins σ H s → RelV x v → RelV y u →
    subscripted slice false v u = operate [v, u] (getItem v u) → wpAny (model X.prog X.w) X.A (subscriptTail value slice v u) (EP X pins σ Q) X.xe s
structure wM (X : Cx) (id : String) (x : V) (xs : List V) (H : Hp) (Q : VK) : Prop where
  run : ∀ (pins : List (Addr × Obj)) (s : Shared) (σ : L2.St) (v : Value) (us : List Value), Inv X pins σ H s → RelV x v → Vals xs us → wpAny (model X.prog X.w) X.A (call (.builtin id) (v :: us)) (EP X pins σ Q) X.xe s
structure wPS (X : Cx) (o i v : V) (H : Hp) (Q : Hp → Prop) : Prop where
  run : ∀ (pins : List (Addr × Obj)) (s : Shared) (σ : L2.St) (ov iv u : Value), Inv X pins σ H s → RelV o ov → RelV i iv → RelV v u → wpAny (model X.prog X.w) X.A (setItem ov iv u) (fun _ s' => ∃ H', Inv X pins σ H' s' ∧ Q H') X.xe s

variable {e a b c : Expr} {es rest : List Expr} {st : Stmt} {sts : List Stmt}
theorem pe_self : PE X e (wE X e) := ⟨fun pins s _ _ _ I h => h.run pins s I⟩
theorem pt_self : PT X e (wT X e) := ⟨fun pins s _ _ _ I h => h.run pins s I⟩
theorem pw_self : PW X e (wW X e) := ⟨fun wh pins s _ _ _ I h => h.run wh pins s I⟩
theorem pa_self : PA X es (wA X es) := ⟨fun p pins s _ _ _ I h => h.run p pins s I⟩
theorem ps_self : PS X st (wS X st) := ⟨fun pins s _ _ _ I h => h.run pins s I⟩
theorem pss_self : PSs X sts (wB X sts) := ⟨fun pins s _ _ _ I h => h.run pins s I⟩
theorem op_self {f : Value → Value → Sem Value} : OpR X f (wO X f) := fun pins s σ _ _ _ v u _ I rx ry h => h.run pins s σ v u I rx ry
theorem un_self {f : Value → Sem Value} : UnR X f (wU X f) := fun pins s σ _ _ v _ I rx h => h.run pins s σ v I rx
theorem call_self {f : Value} : CallR X f (wC X f) := fun pins s σ _ _ us _ I r h => h.run pins s σ us I r
theorem ix_self : IxR X (wX X) := fun value slice pins s σ _ _ _ v u _ I rx ry h hs => h.run value slice pins s σ v u I rx ry hs
theorem mt_self {id : String} : MtR X id (wM X id) := fun pins s σ _ _ _ v us _ I rx r h => h.run pins s σ v us I rx r
theorem set_self : PSet X (wPS X) := fun pins s σ _ _ _ _ ov iv u _ I ro ri rv h => h.run pins s σ ov iv u I ro ri rv
theorem toE {t : TE} (p : PE X e t) (h : t σ H Q) : wE X e σ H Q := ⟨fun pins s I => p.run pins s σ H Q I h⟩
theorem toT {t : TT} {Q : Bool → Hp → Prop} (p : PT X e t) (h : t σ H Q) : wT X e σ H Q := ⟨fun pins s I => p.run pins s σ H Q I h⟩
theorem toW {t : TT} {Q : Bool → Hp → Prop} (p : PW X e t) (h : t σ H Q) : wW X e σ H Q := ⟨fun wh pins s I => p.run wh pins s σ H Q I h⟩
theorem toA {t : TA} {Q : List V → Hp → Prop} (p : PA X es t) (h : t σ H Q) : wA X es σ H Q := ⟨fun ps pins s I => p.run ps pins s σ H Q I h⟩
theorem toS {t : TS} (p : PS X st t) (h : t D σ H) : wS X st D σ H := ⟨fun pins s I => p.run pins s σ H D I h⟩
theorem toB {t : TS} (p : PSs X sts t) (h : t D σ H) : wB X sts D σ H := ⟨fun pins s I => p.run pins s σ H D I h⟩
theorem toO {f : Value → Value → Sem Value} {r : R2} {x y : V} (p : OpR X f r) (h : r x y H Q) : wO X f x y H Q := ⟨fun pins s σ v u I rx ry => p pins s σ H x y v u Q I rx ry h⟩
theorem toU {f : Value → Sem Value} {r : V → Hp → VK → Prop} {x : V} (p : UnR X f r) (h : r x H Q) : wU X f x H Q := ⟨fun pins s σ v I rx => p pins s σ H x v Q I rx h⟩
theorem toC {f : Value} {r : List V → Hp → VK → Prop} {xs : List V} (p : CallR X f r) (h : r xs H Q) : wC X f xs H Q := ⟨fun pins s σ us I rv => p pins s σ H xs us Q I rv h⟩
theorem toX {r : R2} {x y : V} (p : IxR X r) (h : r x y H Q) : wX X x y H Q := ⟨fun value slice pins s σ v u I rx ry hs => p value slice pins s σ H x y v u Q I rx ry h hs⟩
theorem toM {id : String} {r : V → List V → Hp → VK → Prop} {x : V} {xs : List V} (p : MtR X id r) (h : r x xs H Q) : wM X id x xs H Q := ⟨fun pins s σ v us I rx rv => p pins s σ H x xs v us Q I rx rv h⟩

/-! ### what is known of the def at work -/
structure Bd (X : Cx) (N : List Str) (sc : Scope) (k : Nat) : Prop where
  hN : X.N = N
  nd : X.N.Nodup
  sc : X.env.scope = sc
  calm : X.calm = true
  room : Room k X.A
  ps : PassesOwn (model X.prog X.w) X.A X.env X.xe
theorem Bd.slot {N : List Str} {sc : Scope} {k : Nat} (B : Bd X N sc k) (i : Nat) {x : Str} (h : N[i]? = some x) : X.N[i]? = some x := by rw [B.hN]; exact h
theorem Bd.gl {N : List Str} {sc : Scope} {k : Nat} (B : Bd X N sc k) {x : Str} (h : sc.names.lookup x = some .globalImplicit) : Gl X x := by
  have e := B.sc
  subst e
  exact h
theorem Bd.loc {N : List Str} {sc : Scope} {k : Nat} (B : Bd X N sc k) {x : Str} (h : sc.names.lookup x = some .local) : X.env.scope.names.lookup x = some .local := by rw [B.sc]; exact h
theorem Bd.cel {N : List Str} {sc : Scope} {k : Nat} (B : Bd X N sc k) {x : Str} (h : sc.names.lookup x = some .cell) : X.env.scope.names.lookup x = some .cell := by rw [B.sc]; exact h
/-! ### expressions -/
theorem e_int {i : Int} {j} (h : Q (.int i) H) : wE X (.Constant (.int i) j pos) σ H Q := toE pe_int h
theorem e_bl {i : Bool} {j} (h : Q (.bl i) H) : wE X (.Constant (.bool i) j pos) σ H Q := toE pe_bl h
theorem e_non {j} (h : Q .non H) : wE X (.Constant .none j pos) σ H Q := toE pe_non h
theorem e_str {i : Str} {j} (h : Q (.str i) H) : wE X (.Constant (.str i) j pos) σ H Q := toE pe_str h
theorem e_loc (i : Nat) {x : Str} {v : V} (hN : X.N[i]? = some x) (hv : Vis X.env.scope x) (hs : σ[i]? = some (some v)) (h : Q v H) (hd : (x == ("__debug__" : Str)) = false := by decide) (hcd : (x == ("__classdict__" : Str)) = false := by decide) :
    wE X (.Name x pos) σ H Q := toE (pe_var hN hv hd hcd) ⟨v, hs, h⟩
theorem e_glob {x : Str} {v : V} {u : Value} (hg : Gl X x) (hm : X.mg x = some u) (r : RelV v u) (h : Q v H) (hd : (x == ("__debug__" : Str)) = false := by decide) : wE X (.Name x pos) σ H Q := toE (pe_glob hg hm r hd) h
theorem e_blt {x : Str} {v : V} {u : Value} (hg : Gl X x) (hm : X.mg x = none) (hv : bootBuiltins x = some u) (r : RelV v u) (h : Q v H) (hn : x ≠ "__name__" := by decide) (hd : (x == ("__debug__" : Str)) = false := by decide) : wE X (.Name x pos) σ H Q := toE (pe_bltn hg hm hv r hn hd) h
theorem e_bin {op : Operator} (h : wE X a σ H fun x H1 => wE X b σ H1 fun y H2 => wO X (binaryOp op) x y H2 Q) : wE X (.BinOp a op b pos) σ H Q := toE (pe_op op_self pe_self pe_self) h
theorem e_un {op : UnaryOp} (h : wE X a σ H fun x H1 => wU X (unaryOp op) x H1 Q) : wE X (.UnaryOp op a pos) σ H Q := toE (pe_un un_self pe_self) h
theorem e_not (h : wE X a σ H fun x H1 => ∃ c, x = .bl c ∧ Q (.bl (!c)) H1) : wE X (.UnaryOp .Not a pos) σ H Q := toE (pe_not pe_self) h
theorem e_cmp {op : CmpOp} (hm : behindInMarks op b = false) (h : wE X a σ H fun x H1 => wE X b σ H1 fun y H2 => wO X (compareOp op) x y H2 Q) : wE X (.Compare a [op] [b] pos) σ H Q := toE (pe_cmpR op_self pe_self pe_self hm) h
theorem e_chain {op op' : CmpOp} (h : wE X a σ H fun x H1 => wE X b σ H1 fun y H2 => wO X (compareOp op) x y H2 fun z H3 => ∃ k, z = .bl k ∧
    (if k = true then wE X c σ H3 fun w' H4 => wO X (compareOp op') y w' H4 Q else Q (.bl false) H3)) (hm : lastMarks [op, op'] [b, c] = false := by with_unfolding_all rfl) : wE X (.Compare a [op, op'] [b, c] pos) σ H Q :=
  toE (pe_chain op_self op_self pe_self pe_self pe_self hm) h
theorem e_one {op} (h : wE X a σ H Q) : wE X (.BoolOp op [a] pos) σ H Q := toE (pe_one pe_self) h
theorem e_and (h : wE X a σ H fun x H1 => ∃ c, x = .bl c ∧ if c = true then wE X (.BoolOp .And (b :: rest) pos) σ H1 Q else Q (.bl false) H1) : wE X (.BoolOp .And (a :: b :: rest) pos) σ H Q := toE (pe_and pe_self pe_self) h
theorem e_or (h : wE X a σ H fun x H1 => ∃ c, x = .bl c ∧ if c = true then Q (.bl true) H1 else wE X (.BoolOp .Or (b :: rest) pos) σ H1 Q) : wE X (.BoolOp .Or (a :: b :: rest) pos) σ H Q := toE (pe_or pe_self pe_self) h
theorem e_if (h : wT X c σ H fun k H1 => if k = true then wE X a σ H1 Q else wE X b σ H1 Q) : wE X (.IfExp c a b pos) σ H Q := toE (pe_ifExp pt_self pe_self pe_self) h
theorem e_ix (hs : PlainIx b) (h : wE X a σ H fun x H1 => wE X b σ H1 fun y H2 => wX X x y H2 Q) : wE X (.Subscript a b pos) σ H Q := toE (pe_ix ix_self pe_self pe_self hs) h
theorem e_tup {x1} (h : wA X es σ H fun xs H1 => xs.length ≤ sizeLine ∧ ∀ p, H1 p = none → Q (.ref p) (upd H1 p (.tup xs))) : wE X (.Tuple es x1 pos) σ H Q := toE (pe_tup pa_self) h
theorem e_lst (h : wA X es σ H fun xs H1 => xs.length ≤ sizeLine ∧ ∀ p, H1 p = none → Q (.ref p) (upd H1 p (.lst xs))) : wE X (.List es pos) σ H Q := toE (pe_lst pa_self) h
theorem a_nil {Q : List V → Hp → Prop} (h : Q [] H) : wA X [] σ H Q := toA pa_nil h
theorem a_cons {Q : List V → Hp → Prop} (h : wE X e σ H fun x H1 => wA X es σ H1 fun xs H2 => Q (x :: xs) H2) (hs : starEach (e :: es) X.env = (false, eval e X.env) :: starEach es X.env := by rfl) : wA X (e :: es) σ H Q := toA (pa_cons pe_self pa_self hs) h
/-- a built-in function, a built-in type -/
theorem e_callB {id : String} {x : Str} {p : Pos} (hg : Gl X x) (hm : X.mg x = none) (hv : bootBuiltins x = some (.builtin id)) (h : wA X (e :: es) σ H fun vs H1 => wC X (.builtin id) vs H1 Q) (hn : x ≠ "__name__" := by decide) (hdb : (x == ("__debug__" : Str)) = false := by decide)
    (he : starEach (e :: es) X.env = (false, eval e X.env) :: starEach es X.env := by rfl) (hpl : (backTo pos (starEach es X.env)).any (·.1) = false := by rfl) : wE X (.Call (.Name x p) (e :: es) [] pos) σ H Q := toE (pe_callB call_self hg hm hv pa_self hn hdb he hpl) h
theorem e_callT {T : String} {x : Str} {p : Pos} (hg : Gl X x) (hm : X.mg x = none) (hv : bootBuiltins x = some (.type T)) (h : wA X (e :: es) σ H fun vs H1 => wC X (.type T) vs H1 Q) (hn : x ≠ "__name__" := by decide) (hdb : (x == ("__debug__" : Str)) = false := by decide)
    (he : starEach (e :: es) X.env = (false, eval e X.env) :: starEach es X.env := by rfl) (hpl : (backTo pos (starEach es X.env)).any (·.1) = false := by rfl) : wE X (.Call (.Name x p) (e :: es) [] pos) σ H Q := toE (pe_callTy call_self hg hm hv pa_self hn hdb he hpl) h

/-! ### promises of defs that are called while no repr runs -/
structure FnG (P : Program) (w : World) (K : PySem.W.Frag) (mg : Str → Option Value) (base : Heap) (CX : CXT) (k : Nat) (f : Addr) (fd : FuncData) (ps : List Str) (sp : Sp) : Prop where
  cnt : ∀ vs H Q E, sp vs H Q E → vs.length = ps.length
  go : ∀ (B : Around) (l : List Env) (s : Shared) (H : Hp) (gs : Args) (us : List Value) (vs : List V) (Q : VK) (E : XK),
    B.guards = some [] → Room k B → Env0 P w K mg base B l s H → BindsTo s fd gs (ps.zip us) → Vals vs us → sp vs H Q E → codeAny (model P w) B (.call (.ref f) gs) (CR CX l P w H s Q E) s
/-- from a def's body -/
theorem fnG_of {CX : CXT} {P : Program} {w : World} {K : PySem.W.Frag} {mg : Str → Option Value} {base : Heap} {x qual : Str} {st : Stmt} {f : Addr} {fd : FuncData} {N ps : List Str} {k : Nat} {sp : Sp}
    (F : L2.Fun K x qual st f fd) (S : FnScope N ps (defScope st)) (len : ∀ vs H Q E, sp vs H Q E → vs.length = ps.length)
    (body : ∀ (cd : Value) (B : Around) (l : List Env) (s : Shared) (H : Hp) (vs : List V) (Q : VK) (E : XK), (B.deeper (envOfC qual (defScope st) s.heap.objs.size f cd)).guards = some [] → Room k (B.deeper (envOfC qual (defScope st) s.heap.objs.size f cd)) → sp vs H Q E →
      wB (cxOf CX P w K mg base N qual (defScope st) f cd B l s H E) (defBody st) { nx := fun _ H' => Q .non H', rt := Q } (start N vs) H) : FnG P w K mg base CX (k + 1) f fd ps sp := by
  obtain ⟨oc, od, kV, doc, pm, an, cd, ct, sl, efd, look, isCode⟩ := F.ex
  constructor
  · exact len
  · intro B l s H gs us vs Q E noG room en bind rel want
    have keepB : ∀ b o, base.get? b = some o → s.heap.get? b = some o := fun b o q => (en.bs b o q).1
    have inK := en.mod.kin.keeps keepB
    subst efd
    refine codeAny_call_function (Room.depth room) (inK _ _ look) rfl S.co S.gen rfl (PySem.W.codeRec_of inK isCode) (bind _ _ _ _ ?_)
    refine wpAny_newFunctionEnv_cells S.kind ?_ ?_
    · rintro ⟨n, v⟩ mem
      exact (S.par n (List.of_mem_zip mem).1).imp id fun q => ⟨q, PySem.W.cellsFrom_some _ _ _ (Or.inl q)⟩
    · intro env eenv s1 x1
      subst eenv
      refine ⟨(en.mod.nolimit.keeps keepB).keeps x1.toInCall.keep, codeAny_func ?_⟩
      have I0 := inv_start (CX := CX) (E := E) (qual := qual) (mg := mg) (cd := cd) (f := f) S (Room.hd room) en (len vs H Q E want) rel x1
      refine wpAny_mono ((body cd B l s H vs Q E noG (Room.deeper room _) want).run [] s1 I0) ?_ fun e s2 q => q
      intro fl s2 q
      match fl, q with
      | .ret u, ⟨v, σ2, H2, J, rv, q2⟩ => exact ⟨v, H2, J.os, J.bare, J.base, J.hok, rv, q2⟩
      | .next, ⟨σ2, H2, J, q2⟩ => exact ⟨V.non, H2, J.os, J.bare, J.base, J.hok, rfl, q2⟩
      | .brk, ⟨_, _, _, q2⟩ => exact q2.elim
      | .cont, ⟨_, _, _, q2⟩ => exact q2.elim
/-- the call -/
theorem fnG_run {X : Cx} {CX : CXT} {k : Nat} {f : Addr} {fd : FuncData} {ps : List Str} {sp : Sp} {E : XK} {pins : List (Addr × Obj)} {σ : L2.St} {H : Hp} {s : Shared} {Q : VK} {us : List Value} {vs : List V} (F : FnG X.prog X.w X.K X.mg X.base CX k f fd ps sp)
    (hg : X.A.guards = some []) (hr : Room k X.A) (hb : Binds X.K fd ps []) (hx : Passes CX X E) (I : Inv X pins σ H s) (r : Vals vs us) (h : sp vs H Q E) : wpAny (model X.prog X.w) X.A (call (.ref f) us) (EP X pins σ Q) X.xe s := by
  have n1 : us.length = ps.length := r.length.symm.trans (F.cnt vs H Q E h)
  have bt := hb s us I.kIn (by rw [List.append_nil]; exact n1)
  rw [List.append_nil] at bt
  refine wpAny_call (codeAny_mono (F.go X.A X.stack s H ⟨us, []⟩ us vs Q E hg hr I.env0 bt r h) ?_)
  intro res s2 q
  match res, q with
  | .error e, q => exact hx pins σ H s e s2 I q
  | .ok (.ret u), q => exact I.after q
  | .ok .next, q => exact q.elim
  | .ok .brk, q => exact q.elim
  | .ok .cont, q => exact q.elim
/-- a def of the text, by its promise -/
structure Df (P : Program) (w : World) (K : PySem.W.Frag) (mg : Str → Option Value) (base : Heap) (x : Str) (k : Nat) (ps : List Str) (sp : Sp) : Prop where
  ex : ∃ (f : Addr) (fd : FuncData), FnG P w K mg base CX0 k f fd ps sp ∧ mg x = some (.ref f) ∧ PySem.W.keepIn K (.ref f) = true ∧ Binds K fd ps []
theorem e_call {x : Str} {p : Pos} {k : Nat} {ps : List Str} {sp : Sp} (F : Df X.prog X.w X.K X.mg X.base x k ps sp) (hG : X.A.guards = some []) (hr : Room k X.A) (hg : Gl X x) (h : wA X (e :: es) σ H fun vs H1 => sp vs H1 Q E0) (hdb : (x == ("__debug__" : Str)) = false := by decide)
    (he : starEach (e :: es) X.env = (false, eval e X.env) :: starEach es X.env := by rfl) (hpl : (backTo pos (starEach es X.env)).any (·.1) = false := by rfl) : wE X (.Call (.Name x p) (e :: es) [] pos) σ H Q := by
  obtain ⟨f, fd, G, hm, hk, hb⟩ := F.ex
  constructor
  intro pins s I
  refine wpAny_Call_Name_kw (ld_glob I hg hm (PySem.W.callWith_K (h₀ := X.base) I.ok.mod.kin hk ?_ he hpl) hdb)
  refine thn (h.run pos pins s I) ?_
  rintro us s1 ⟨vs, H1, I1, r, q⟩
  exact ⟨I1.kIn, fnG_run G hG hr hb pass0 I1 r q⟩
theorem e_call0 {x : Str} {p : Pos} {k : Nat} {ps : List Str} {sp : Sp} (F : Df X.prog X.w X.K X.mg X.base x k ps sp) (hG : X.A.guards = some []) (hr : Room k X.A) (hg : Gl X x) (h : sp [] H Q E0) (hdb : (x == ("__debug__" : Str)) = false := by decide) : wE X (.Call (.Name x p) [] [] pos) σ H Q := by
  obtain ⟨f, fd, G, hm, hk, hb⟩ := F.ex
  constructor
  intro pins s I
  exact wpAny_Call_Name_kw (ld_glob I hg hm (PySem.W.callWith_K0 I.kIn hk (fnG_run (us := []) G hG hr hb pass0 I .nil h)) hdb)
/-- a method of a built-in type -/
theorem e_bm0 {o : Expr} {name : Str} {apos cpos : Pos} {T id : String} (pa : PlainAttrs T) (slot : Slot T name id) (hty : typeOf (.builtin id) = pure (.type "method_descriptor")) (h : wE X o σ H fun x H1 => tyV X.K T x H1 ∧ wM X id x [] H1 Q)
    (hbase : attributeBase o name X.env (eval o X.env) = eval o X.env := by rfl) (hline : (apos.endLine == cpos.line) = true := by rfl) : wE X (.Call (.Attribute o name apos) [] [] cpos) σ H Q := toE (pe_bm0 pa slot hty mt_self pe_self hbase hline) h

/-! ### tests -/
theorem t_cmp {Q : Bool → Hp → Prop} {op : CmpOp} (hm : behindInMarks op b = false) (h : wE X a σ H fun x H1 => wE X b σ H1 fun y H2 => wO X (compareOp op) x y H2 fun z H3 => ∃ k, z = .bl k ∧ Q k H3) : wT X (.Compare a [op] [b] pos) σ H Q :=
  toT (pt_cmpR op_self pe_self pe_self hm) h
theorem t_chain {Q : Bool → Hp → Prop} {op op' : CmpOp} (h : wE X a σ H fun x H1 => wE X b σ H1 fun y H2 => wO X (compareOp op) x y H2 fun z H3 => ∃ k, z = .bl k ∧
    (if k = true then wE X c σ H3 fun w' H4 => wO X (compareOp op') y w' H4 fun z H5 => ∃ k, z = .bl k ∧ Q k H5 else ∃ k, V.bl false = .bl k ∧ Q k H3)) (hm : lastMarks [op, op'] [b, c] = false := by with_unfolding_all rfl) : wT X (.Compare a [op, op'] [b, c] pos) σ H Q :=
  toT (pt_chain op_self op_self pe_self pe_self pe_self hm) h
theorem t_val {Q : Bool → Hp → Prop} (he : ∀ whole, isTrue e X.env whole = (do let v ← whole; standAt e.pos; holding [v] (truthy v))) (h : wE X e σ H fun x H1 => ∃ c, x = .bl c ∧ Q c H1) : wT X e σ H Q := toT (pt_val pe_self he) h
theorem t_tru {Q : Bool → Hp → Prop} (he : ∀ whole, isTrue e X.env whole = (do let v ← whole; standAt e.pos; holding [v] (truthy v))) (h : wE X e σ H fun x H' => ∃ k, TruV X.K x H' k ∧ Q k H') : wT X e σ H Q := toT (pt_truth pe_self he) h
theorem t_not {Q : Bool → Hp → Prop} (h : wT X a σ H fun c H1 => Q (!c) H1) : wT X (.UnaryOp .Not a pos) σ H Q := toT (pt_not pt_self) h
theorem t_w {Q : Bool → Hp → Prop} (h : wW X e σ H Q) : wT X e σ H Q := toT pw_self.pt h
theorem w_and1 {Q : Bool → Hp → Prop} (h : wT X a σ H Q) : wW X (.BoolOp .And [a] pos) σ H Q := toW (pw_and1 pt_self) h
theorem w_or1 {Q : Bool → Hp → Prop} (h : wT X a σ H Q) : wW X (.BoolOp .Or [a] pos) σ H Q := toW (pw_or1 pt_self) h
theorem w_and {Q : Bool → Hp → Prop} (h : wT X a σ H fun c H1 => if c = true then wW X (.BoolOp .And (b :: rest) pos) σ H1 Q else Q false H1) : wW X (.BoolOp .And (a :: b :: rest) pos) σ H Q := toW (pw_and pt_self pw_self) h
theorem w_or {Q : Bool → Hp → Prop} (h : wT X a σ H fun c H1 => if c = true then Q true H1 else wW X (.BoolOp .Or (b :: rest) pos) σ H1 Q) : wW X (.BoolOp .Or (a :: b :: rest) pos) σ H Q := toW (pw_or pt_self pw_self) h

/-! ### statements -/
theorem b_nil (h : D.nx σ H) : wB X [] D σ H := toB pss_nil h
theorem b_one (h : wS X st D σ H) : wB X [st] D σ H := toB (pss_one ps_self) h
theorem b_cons (h : wS X st { D with nx := fun σ' H' => wB X sts D σ' H' } σ H) : wB X (st :: sts) D σ H := toB (pss_cons ps_self pss_self) h
theorem s_ret (h : wE X e σ H D.rt) : wS X (.Return (some e) pos) D σ H := toS (ps_ret pe_self) h
theorem s_expr (h : wE X e σ H fun _ H1 => D.nx σ H1) (hs : swapsWith e none pos.line X.env = pure false := by rfl) : wS X (.Expr e pos) D σ H := toS (ps_expr pe_self hs) h
theorem s_doc {x j pos'} (h : D.nx σ H) : wS X (.Expr (.Constant (.str x) j pos) pos') D σ H := toS ps_doc h
theorem s_pass (h : D.nx σ H) : wS X (.Pass pos) D σ H := toS ps_pass h
theorem s_if {sa sb : List Stmt} (h : wT X c σ H fun k H1 => if k = true then wB X sa D σ H1 else wB X sb D σ H1) : wS X (.If c sa sb pos) D σ H := toS (ps_if pt_self pss_self pss_self) h
theorem s_set (i : Nat) {x : Str} {pos' : Pos} (hN : X.N.Nodup) (hi : X.N[i]? = some x) (hx : Loc X.env.scope x) (h : wE X e σ H fun y H1 => D.nx (σ.set i (some y)) H1) (hs : swapsWith e (some (.Name x pos')) pos.line X.env = pure false := by rfl)
    (hf : X.fn x = true ∨ X.env.scope.names.lookup x = some .local := by first | exact .inl rfl | exact .inr rfl | assumption) : wS X (.Assign [.Name x pos'] e pos) D σ H := toS (ps_set hN hi hx pe_self hs hf) h
/-- a, b = x, y of plain locals -/
theorem s_par (i j : Nat) {x y : Str} {px py pt : Pos} {kt k2 pt2} (hc : X.calm = true) (hN : X.N.Nodup) (hi : X.N[i]? = some x) (hj : X.N[j]? = some y) (hij : i ≠ j) (hx : X.env.scope.names.lookup x = some .local) (hy : X.env.scope.names.lookup y = some .local)
    (hw : swappedStores [.Tuple [.Name x px, .Name y py] kt pt] (.Tuple [a, b] k2 pt2) X.env = pure (some [x, y])) (h : wE X a σ H fun u H1 => wE X b σ H1 fun v H2 => D.nx ((σ.set j (some v)).set i (some u)) H2)
    (hs : swapsWithSole [.Tuple [.Name x px, .Name y py] kt pt] (.Tuple [a, b] k2 pt2) pos.line X.env = pure false := by rfl) (h1 : starEach [a, b] X.env = (false, eval a X.env) :: starEach [b] X.env := by rfl) (h2 : starEach [b] X.env = (false, eval b X.env) :: starEach [] X.env := by rfl) :
    wS X (.Assign [.Tuple [.Name x px, .Name y py] kt pt] (.Tuple [a, b] k2 pt2) pos) D σ H := by
  refine toS (ps_par hc hN hi hj hij hx hy pa_self hw hs) ?_
  refine a_cons ⟨fun pins s I => ?_⟩ h1
  refine thn (h.run pins s I) fun v s1 ⟨x1, H1, I1, r1, q1⟩ => ⟨x1, H1, I1, r1, ?_⟩
  refine a_cons ⟨fun pins2 s2 I2 => ?_⟩ h2
  refine thn (q1.run pins2 s2 I2) fun v2 s3 ⟨x3, H3, I3, r3, q3⟩ => ⟨x3, H3, I3, r3, ?_⟩
  refine a_nil ?_
  refine ⟨x1, x3, rfl, ?_⟩
  rw [List.set_comm _ _ hij]
  exact q3
/-- o[i] = e -/
theorem s_sub {o i : Expr} {pos' : Pos} (h : wE X e σ H fun v H1 => wE X o σ H1 fun ov H2 => wE X i σ H2 fun iv H3 => wPS X ov iv v H3 fun H4 => D.nx σ H4)
    (ha : ∀ v, assign (.Subscript o i pos') X.env v = (do
      let ov ← holding [v] (eval o X.env)
      let iv ← holding [v, ov] (eval i X.env)
      standAt pos'
      holding [v, ov, iv] (setItem ov iv v)
      release [v, ov, iv] []) := by intro _; rfl)
    (hs : swapsWithSole [.Subscript o i pos'] e pos.line X.env = pure false := by rfl) (hw : swappedStores [.Subscript o i pos'] e X.env = pure none := by rfl) (h1 : (assignEach [.Subscript o i pos'] X.env).map (·.2) = [assign (.Subscript o i pos') X.env] := by rfl) :
    wS X (.Assign [.Subscript o i pos'] e pos) D σ H := toS (ps_asg pe_self (pg_sub pe_self pe_self set_self ha) hs hw h1) h
theorem ps_set_list {o i v : V} {H : Hp} {Q : Hp → Prop} (h : rSetL o i v H Q) : wPS X o i v H Q := ⟨fun pins s σ ov iv u I ro ri rv => set_list pins s σ H o i v ov iv u Q I ro ri rv h⟩
/-- for x in range(a) -/
theorem s_forR1 (i : Nat) {x : Str} {px p1 p2 : Pos} {body : List Stmt} (hp : PassesOwn (model X.prog X.w) X.A X.env X.xe) (hc : X.calm = true) (hg : Gl X "range") (hm : X.mg "range" = none) (hN : X.N.Nodup) (hi : X.N[i]? = some x) (hx : Loc X.env.scope x)
    (h : wE X a σ H fun v H1 => ∃ n : Nat, v = .int (n : Int) ∧ n < 2 ^ 62 ∧ ∃ Pv : Nat → L2.St → Hp → Prop, Pv 0 σ H1 ∧
      (∀ k σ H, k < n → Pv k σ H → wB X body { D with nx := Pv (k + 1), ct := Pv (k + 1), bk := D.nx } (σ.set i (some (.int (k : Int)))) H) ∧ ∀ σ H, Pv n σ H → D.nx σ H)
    (hs : ∀ x, foldedSetIterable (.Call (.Name "range" p1) [a] [] p2) X.env x = pure x := by intro _; rfl) (hst : starEach [a] X.env = [(false, eval a X.env)] := by rfl)
    (hf : X.fn x = true ∨ X.env.scope.names.lookup x = some .local := by first | exact .inl rfl | exact .inr rfl | assumption) :
    wS X (.For (.Name x px) (.Call (.Name "range" p1) [a] [] p2) body [] pos) D σ H := by
  refine toS (ps_for hp hc (pi_range1 hg hm pa_self hst) (pg_name hN hi hx hf) pss_self hs) ?_
  show wA X [a] σ H _
  refine a_cons ⟨fun pins s I => ?_⟩ hst
  refine thn (h.run pins s I) fun v s1 ⟨x1, H1, I1, r1, q1⟩ => ⟨x1, H1, I1, r1, ?_⟩
  obtain ⟨n, rfl, hn, Pv, h0, ht, he⟩ := q1
  refine a_nil ?_
  refine ⟨(n : Int), rfl, by omega, by omega, ?_⟩
  have e1 : (n : Int).toNat = n := by omega
  rw [e1]
  refine for_range Pv h0 (fun k σ2 H2 hk hP => ?_) he
  have e2 : (0 : Int) + (k : Int) = (k : Int) := Int.zero_add _
  rw [e2]
  exact ht k σ2 H2 hk hP

/-! ### operations by values -/
theorem o_add {i j : Int} (h : Q (.int (i + j)) H) : wO X (binaryOp .Add) (.int i) (.int j) H Q := toO op_add ⟨i, j, rfl, rfl, h⟩
theorem o_sub {i j : Int} (h : Q (.int (i - j)) H) : wO X (binaryOp .Sub) (.int i) (.int j) H Q := toO op_sub ⟨i, j, rfl, rfl, h⟩
theorem o_mul {i j : Int} (hc : CMul i j) (h : Q (.int (i * j)) H) : wO X (binaryOp .Mult) (.int i) (.int j) H Q := toO op_mul ⟨i, j, rfl, rfl, hc, h⟩
theorem o_mulW {i j : Int} (hc : CMulW i j) (h : Q (.int (i * j)) H) : wO X (binaryOp .Mult) (.int i) (.int j) H Q := toO op_mulW ⟨i, j, rfl, rfl, hc, h⟩
theorem o_mod {i j : Int} (hc : 0 < j) (h : Q (.int (i % j)) H) : wO X (binaryOp .Mod) (.int i) (.int j) H Q := toO op_mod ⟨i, j, rfl, rfl, hc, h⟩
theorem o_fdiv {i j : Int} (hc : CDiv i j) (h : Q (.int (i / j)) H) : wO X (binaryOp .FloorDiv) (.int i) (.int j) H Q := toO op_fdiv ⟨i, j, rfl, rfl, hc, h⟩
theorem o_pow {i j : Int} (hc : CPow i j) (h : Q (.int (i ^ j.toNat)) H) : wO X (binaryOp .Pow) (.int i) (.int j) H Q := toO op_pow ⟨i, j, rfl, rfl, hc, h⟩
theorem o_adds {i j : Str} (hc : i.length + j.length ≤ sizeLine) (h : Q (.str (i ++ j)) H) : wO X (binaryOp .Add) (.str i) (.str j) H Q := toO op_add_str ⟨i, j, rfl, rfl, hc, h⟩
theorem o_neg {i : Int} (h : Q (.int (-i)) H) : wU X (unaryOp .USub) (.int i) H Q := toU un_neg ⟨i, rfl, h⟩
theorem o_eq {x y : V} (hs : scal x y = true) (h : Q (.bl (decide (x = y))) H) : wO X (compareOp .Eq) x y H Q := toO op_eq ⟨hs, h⟩
theorem o_ne {x y : V} (hs : scal x y = true) (h : Q (.bl (!decide (x = y))) H) : wO X (compareOp .NotEq) x y H Q := toO op_ne ⟨hs, h⟩
theorem o_lt {i j : Int} (h : Q (.bl (decide (i < j))) H) : wO X (compareOp .Lt) (.int i) (.int j) H Q := toO op_lt ⟨i, j, rfl, rfl, h⟩
theorem o_le {i j : Int} (h : Q (.bl (decide (i ≤ j))) H) : wO X (compareOp .LtE) (.int i) (.int j) H Q := toO op_le ⟨i, j, rfl, rfl, h⟩
theorem o_gt {i j : Int} (h : Q (.bl (decide (j < i))) H) : wO X (compareOp .Gt) (.int i) (.int j) H Q := toO op_gt ⟨i, j, rfl, rfl, h⟩
theorem o_ge {i j : Int} (h : Q (.bl (decide (j ≤ i))) H) : wO X (compareOp .GtE) (.int i) (.int j) H Q := toO op_ge ⟨i, j, rfl, rfl, h⟩
theorem x_lst {p : Addr} {xs : List V} {i : Int} {v : V} (hp : SqL X.K H p xs) (ha : atI xs i = some v) (h : Q v H) : wX X (.ref p) (.int i) H Q := toX ix_list ⟨p, xs, i, v, rfl, rfl, hp, ha, h⟩
theorem x_tup {p : Addr} {xs : List V} {i : Int} {v : V} (hp : SqT X.K H p xs) (ha : atI xs i = some v) (h : Q v H) : wX X (.ref p) (.int i) H Q := toX ix_tup ⟨p, xs, i, v, rfl, rfl, hp, ha, h⟩
theorem x_str {z : Str} {i : Int} {c : Nat} (hz : z.length ≤ sizeLine) (ha : atI z.cps.toList i = some c) (h : Q (.str ⟨#[c]⟩) H) : wX X (.str z) (.int i) H Q := toX ix_str ⟨z, i, c, rfl, rfl, hz, ha, h⟩
theorem c_abs {i : Int} (h : Q (.int (if i < 0 then -i else i)) H) : wC X (.builtin "abs") [.int i] H Q := toC call_abs ⟨i, rfl, h⟩
theorem c_max {i j : Int} (hc : X.calm = true) (h : Q (.int (if j > i then j else i)) H) : wC X (.builtin "max") [.int i, .int j] H Q := toC (call_max2 hc) ⟨i, j, rfl, h⟩
theorem c_min {i j : Int} (hc : X.calm = true) (h : Q (.int (if j < i then j else i)) H) : wC X (.builtin "min") [.int i, .int j] H Q := toC (call_min2 hc) ⟨i, j, rfl, h⟩
theorem c_int {i : Int} (h : Q (.int i) H) : wC X (.type "int") [.int i] H Q := toC call_int1 (.inl ⟨i, rfl, h⟩)
theorem c_intb {i : Bool} (h : Q (.int (if i then 1 else 0)) H) : wC X (.type "int") [.bl i] H Q := toC call_int1 (.inr ⟨i, rfl, h⟩)
theorem c_str {i : Int} (hc : i.natAbs.log2 < 1920) (h : Q (.str (toString i)) H) : wC X (.type "str") [.int i] H Q := toC call_str_int ⟨i, rfl, hc, h⟩
theorem c_lenL {p : Addr} {xs : List V} (hp : SqL X.K H p xs) (h : Q (.int xs.length) H) : wC X (.builtin "len") [.ref p] H Q := toC call_len_seq ⟨p, xs, rfl, .inl hp, h⟩
theorem c_lenT {p : Addr} {xs : List V} (hp : SqT X.K H p xs) (h : Q (.int xs.length) H) : wC X (.builtin "len") [.ref p] H Q := toC call_len_seq ⟨p, xs, rfl, .inr hp, h⟩
theorem c_lenS {z : Str} (hz : z.length ≤ sizeLine) (h : Q (.int z.length) H) : wC X (.builtin "len") [.str z] H Q := toC call_len_str ⟨z, rfl, hz, h⟩
theorem c_isi {x : V} {n : String} {t : Value} {k : Bool} (ty : TyX X.K H x t) (e : PySem.W.kitOne X.K t (.type n) = some k) (h : Q (.bl k) H) : wC X (.builtin "isinstance") [x, .ty n] H Q := toC call_isi ⟨x, .ty n, t, .type n, k, rfl, .ty n, ty, e, h⟩
end
end WX
namespace WX
open PySem PySem.Spec PyProof.Rows L2
theorem wB_nox {X : Cx} {sts : List Stmt} {D : Ends} {σ : L2.St} {H : Hp} (h : wB X.nox sts D σ H) : wB X sts D σ H := toB (PSs.nox pss_self) h
theorem df_of {P : Program} {w : World} {K : PySem.W.Frag} {mg : Str → Option Value} {base : Heap} {x qual : Str} {st : Stmt} {N ps : List Str} {k : Nat} {sp : Sp} (hx : ∃ f fd, L2.Fun K x qual st f fd ∧ mg x = some (.ref f)) (S : FnScope N ps (defScope st))
    (hb : ∀ (kV doc pm : Value) (an : Option Addr) (cdv ct : Value) (us : List Value), us.length = ps.length → bindArgs (PySem.W.fnOf x qual (defArgs st) (defBody st) (defScope st) .none kV doc pm an cdv ct) ⟨us, []⟩ = pure (ps.zip us))
    (len : ∀ vs H Q E, sp vs H Q E → vs.length = ps.length)
    (body : ∀ X : Cx, X.prog = P → X.w = w → X.K = K → X.mg = mg → X.base = base → Bd X N (defScope st) k → (∀ x, X.fn x = true) → X.A.guards = some [] → ∀ vs H Q E, sp vs H Q E → wB X (defBody st) { nx := fun _ H' => Q .non H', rt := Q } (start N vs) H) : Df P w K mg base x (k + 1) ps sp := by
  obtain ⟨f, fd, F, hm⟩ := hx
  refine ⟨f, fd, fnG_of F S len ?_, hm, F.kp, F.binds hb⟩
  intro cd B l s H vs Q E hg hr h
  refine wB_nox ?_
  exact body _ rfl rfl rfl rfl rfl ⟨rfl, S.nd, rfl, rfl, hr, PassesOwn.never⟩ (fun _ => rfl) hg vs H Q E h
/-- a fact about a place stands over a new place -/
theorem upd_keep {H : Hp} {a b : Addr} {o x : HO} (hn : H a = none) (h : H b = some x) : upd H a o b = some x := by
  rw [upd_ne (ne_of_none h hn)]
  exact h
theorem upd_keep2 {H : Hp} {a b : Addr} {o : HO} {x : Option HO} (hne : b ≠ a) (h : H b = x) : upd H a o b = x := by
  rw [upd_ne hne]
  exact h
end WX
namespace WX
open PySem PySem.Spec PyProof.Rows L2
section
variable {X : Cx} {σ : L2.St} {H : Hp} {Q : VK} {D : Ends} {pos : Pos}
theorem e_lo {x : Str} {v : V} (i : Nat) (hN : X.N[i]? = some x) (hv : X.env.scope.names.lookup x = some .local) (hs : σ[i]? = some (some v)) (h : Q v H) (hd : (x == ("__debug__" : Str)) = false := by decide) (hcd : (x == ("__classdict__" : Str)) = false := by decide) :
    wE X (.Name x pos) σ H Q := e_loc i hN (Or.inl hv) hs h hd hcd
theorem e_ce {x : Str} {v : V} (i : Nat) (hN : X.N[i]? = some x) (hv : X.env.scope.names.lookup x = some .cell) (hs : σ[i]? = some (some v)) (h : Q v H) (hd : (x == ("__debug__" : Str)) = false := by decide) (hcd : (x == ("__classdict__" : Str)) = false := by decide) :
    wE X (.Name x pos) σ H Q := e_loc i hN (Or.inr (Or.inl hv)) hs h hd hcd
theorem e_gi {x : Str} {i : Int} {t : Tok} (hg : Gl X x) (hm : X.mg x = some (Value.int i t)) (h : Q (.int i) H) (hd : (x == ("__debug__" : Str)) = false := by decide) : wE X (.Name x pos) σ H Q := e_glob hg hm (show RelV (.int i) (Value.int i t) from ⟨t, rfl⟩) h hd
theorem e_ty {x : Str} {n : String} (hg : Gl X x) (hm : X.mg x = none) (hv : bootBuiltins x = some (.type n)) (h : Q (.ty n) H) (hn : x ≠ "__name__" := by decide) (hd : (x == ("__debug__" : Str)) = false := by decide) : wE X (.Name x pos) σ H Q :=
  e_blt hg hm hv (show RelV (.ty n) (Value.type n) from rfl) h hn hd
theorem s_lo {e : Expr} (i : Nat) {x : Str} {pos' : Pos} {N : List Str} {sc : Scope} {k : Nat} (B : Bd X N sc k) (hi : X.N[i]? = some x) (hx : X.env.scope.names.lookup x = some .local) (h : wE X e σ H fun y H1 => D.nx (σ.set i (some y)) H1) (hs : swapsWith e (some (.Name x pos')) pos.line X.env = pure false := by rfl) :
    wS X (.Assign [.Name x pos'] e pos) D σ H := s_set i B.nd hi (Or.inl hx) h hs (.inr hx)
theorem s_ce {e : Expr} (i : Nat) {x : Str} {pos' : Pos} {N : List Str} {sc : Scope} {k : Nat} (B : Bd X N sc k) (hf : ∀ x, X.fn x = true) (hi : X.N[i]? = some x) (hx : X.env.scope.names.lookup x = some .cell) (h : wE X e σ H fun y H1 => D.nx (σ.set i (some y)) H1) (hs : swapsWith e (some (.Name x pos')) pos.line X.env = pure false := by rfl) :
    wS X (.Assign [.Name x pos'] e pos) D σ H := s_set i B.nd hi (Or.inr hx) h hs (.inl (hf x))
theorem e_ixp {a b : Expr} (h : wE X a σ H fun x H1 => wE X b σ H1 fun y H2 => wX X x y H2 Q) (hs : PlainIx b := by exact fun _ _ => rfl) : wE X (.Subscript a b pos) σ H Q := e_ix hs h
theorem e_cmpn {a b : Expr} {op : CmpOp} (h : wE X a σ H fun x H1 => wE X b σ H1 fun y H2 => wO X (compareOp op) x y H2 Q) (h1 : op ≠ .In := by decide) (h2 : op ≠ .NotIn := by decide) : wE X (.Compare a [op] [b] pos) σ H Q := e_cmp (nomark b h1 h2) h
theorem t_cmpn {a b : Expr} {Q : Bool → Hp → Prop} {op : CmpOp} (h : wE X a σ H fun x H1 => wE X b σ H1 fun y H2 => wO X (compareOp op) x y H2 fun z H3 => ∃ k, z = .bl k ∧ Q k H3) (h1 : op ≠ .In := by decide) (h2 : op ≠ .NotIn := by decide) : wT X (.Compare a [op] [b] pos) σ H Q := t_cmp (nomark b h1 h2) h
end
theorem bb_len : bootBuiltins "len" = some (.builtin "len") := by decide +kernel
theorem bb_isinstance : bootBuiltins "isinstance" = some (.builtin "isinstance") := by decide +kernel
theorem bb_abs : bootBuiltins "abs" = some (.builtin "abs") := by decide +kernel
theorem bb_max : bootBuiltins "max" = some (.builtin "max") := by decide +kernel
theorem bb_min : bootBuiltins "min" = some (.builtin "min") := by decide +kernel
theorem bb_repr : bootBuiltins "repr" = some (.builtin "repr") := by decide +kernel
theorem bb_all : bootBuiltins "all" = some (.builtin "all") := by decide +kernel
theorem bb_any : bootBuiltins "any" = some (.builtin "any") := by decide +kernel
theorem bb_sorted : bootBuiltins "sorted" = some (.builtin "sorted") := by decide +kernel
theorem bb_sum : bootBuiltins "sum" = some (.builtin "sum") := by decide +kernel
theorem bb_divmod : bootBuiltins "divmod" = some (.builtin "divmod") := by decide +kernel
theorem bb_range : bootBuiltins "range" = some (.type "range") := by decide +kernel
theorem bb_int : bootBuiltins "int" = some (.type "int") := by decide +kernel
theorem bb_bool : bootBuiltins "bool" = some (.type "bool") := by decide +kernel
theorem bb_str : bootBuiltins "str" = some (.type "str") := by decide +kernel
theorem bb_list : bootBuiltins "list" = some (.type "list") := by decide +kernel
theorem bb_tuple : bootBuiltins "tuple" = some (.type "tuple") := by decide +kernel
theorem bb_dict : bootBuiltins "dict" = some (.type "dict") := by decide +kernel
theorem bb_set : bootBuiltins "set" = some (.type "set") := by decide +kernel
end WX
namespace WX
open PySem PySem.Spec PyProof.Rows L2
section
variable {K : PySem.W.Frag}
theorem kit_NoneType_int : PySem.W.kitOne K (.type "NoneType") (.type "int") = some false := rfl
theorem kit_NoneType_bool : PySem.W.kitOne K (.type "NoneType") (.type "bool") = some false := rfl
theorem kit_NoneType_str : PySem.W.kitOne K (.type "NoneType") (.type "str") = some false := rfl
theorem kit_NoneType_tuple : PySem.W.kitOne K (.type "NoneType") (.type "tuple") = some false := rfl
theorem kit_NoneType_list : PySem.W.kitOne K (.type "NoneType") (.type "list") = some false := rfl
theorem kit_NoneType_dict : PySem.W.kitOne K (.type "NoneType") (.type "dict") = some false := rfl
theorem kit_bool_int : PySem.W.kitOne K (.type "bool") (.type "int") = some true := rfl
theorem kit_bool_bool : PySem.W.kitOne K (.type "bool") (.type "bool") = some true := rfl
theorem kit_bool_str : PySem.W.kitOne K (.type "bool") (.type "str") = some false := rfl
theorem kit_bool_tuple : PySem.W.kitOne K (.type "bool") (.type "tuple") = some false := rfl
theorem kit_bool_list : PySem.W.kitOne K (.type "bool") (.type "list") = some false := rfl
theorem kit_bool_dict : PySem.W.kitOne K (.type "bool") (.type "dict") = some false := rfl
theorem kit_int_int : PySem.W.kitOne K (.type "int") (.type "int") = some true := rfl
theorem kit_int_bool : PySem.W.kitOne K (.type "int") (.type "bool") = some false := rfl
theorem kit_int_str : PySem.W.kitOne K (.type "int") (.type "str") = some false := rfl
theorem kit_int_tuple : PySem.W.kitOne K (.type "int") (.type "tuple") = some false := rfl
theorem kit_int_list : PySem.W.kitOne K (.type "int") (.type "list") = some false := rfl
theorem kit_int_dict : PySem.W.kitOne K (.type "int") (.type "dict") = some false := rfl
theorem kit_str_int : PySem.W.kitOne K (.type "str") (.type "int") = some false := rfl
theorem kit_str_bool : PySem.W.kitOne K (.type "str") (.type "bool") = some false := rfl
theorem kit_str_str : PySem.W.kitOne K (.type "str") (.type "str") = some true := rfl
theorem kit_str_tuple : PySem.W.kitOne K (.type "str") (.type "tuple") = some false := rfl
theorem kit_str_list : PySem.W.kitOne K (.type "str") (.type "list") = some false := rfl
theorem kit_str_dict : PySem.W.kitOne K (.type "str") (.type "dict") = some false := rfl
theorem kit_list_int : PySem.W.kitOne K (.type "list") (.type "int") = some false := rfl
theorem kit_list_bool : PySem.W.kitOne K (.type "list") (.type "bool") = some false := rfl
theorem kit_list_str : PySem.W.kitOne K (.type "list") (.type "str") = some false := rfl
theorem kit_list_tuple : PySem.W.kitOne K (.type "list") (.type "tuple") = some false := rfl
theorem kit_list_list : PySem.W.kitOne K (.type "list") (.type "list") = some true := rfl
theorem kit_list_dict : PySem.W.kitOne K (.type "list") (.type "dict") = some false := rfl
theorem kit_tuple_int : PySem.W.kitOne K (.type "tuple") (.type "int") = some false := rfl
theorem kit_tuple_bool : PySem.W.kitOne K (.type "tuple") (.type "bool") = some false := rfl
theorem kit_tuple_str : PySem.W.kitOne K (.type "tuple") (.type "str") = some false := rfl
theorem kit_tuple_tuple : PySem.W.kitOne K (.type "tuple") (.type "tuple") = some true := rfl
theorem kit_tuple_list : PySem.W.kitOne K (.type "tuple") (.type "list") = some false := rfl
theorem kit_tuple_dict : PySem.W.kitOne K (.type "tuple") (.type "dict") = some false := rfl
theorem kit_dict_int : PySem.W.kitOne K (.type "dict") (.type "int") = some false := rfl
theorem kit_dict_bool : PySem.W.kitOne K (.type "dict") (.type "bool") = some false := rfl
theorem kit_dict_str : PySem.W.kitOne K (.type "dict") (.type "str") = some false := rfl
theorem kit_dict_tuple : PySem.W.kitOne K (.type "dict") (.type "tuple") = some false := rfl
theorem kit_dict_list : PySem.W.kitOne K (.type "dict") (.type "list") = some false := rfl
theorem kit_dict_dict : PySem.W.kitOne K (.type "dict") (.type "dict") = some true := rfl
end
end WX
namespace WX
theorem iteNF {A B : Prop} (h : A) : if (!false) = true then A else B := by
  rw [if_pos (by rfl)]
  exact h
theorem iteNT {A B : Prop} (h : B) : if (!true) = true then A else B := by
  rw [if_neg (by decide)]
  exact h
theorem iteD {c A B : Prop} [Decidable c] (h1 : c → A) (h2 : ¬ c → B) : if decide c = true then A else B := by
  by_cases h : c
  · rw [if_pos (decide_eq_true h)]
    exact h1 h
  · rw [if_neg (by rw [decide_eq_false h]; exact Bool.false_ne_true)]
    exact h2 h
theorem iteND {c A B : Prop} [Decidable c] (h1 : ¬ c → A) (h2 : c → B) : if (!decide c) = true then A else B := by
  by_cases h : c
  · rw [decide_eq_true h, if_neg (by decide)]
    exact h2 h
  · rw [decide_eq_false h, if_pos (by rfl)]
    exact h1 h
theorem iteB {b : Bool} {A B : Prop} (h1 : b = true → A) (h2 : b = false → B) : if b = true then A else B := by
  cases b with
  | true => rw [if_pos rfl]; exact h1 rfl
  | false => rw [if_neg Bool.false_ne_true]; exact h2 rfl
end WX
namespace WX
open PySem PySem.Spec PyProof.Rows L2
/-- nothing is tracked, or the script alone -/
def scH (a : Addr) (t : Option HO) : Hp := fun b => if b = a then t else none
theorem scH_at {a : Addr} {t : Option HO} : scH a t a = t := if_pos rfl
theorem scH_off {a b : Addr} {t : Option HO} (h : b ≠ a) : scH a t b = none := if_neg h
section
variable {P : Program} {w : World} {K : PySem.W.Frag} {mg mb : Str → Option Value} {k : Nat} {fa a : Addr} {fd : FuncData} {x : Str} {sp : Sp} {s1 : Shared} {vs : List Value} {ns : List Int}
/-- the law's own call, by its promise: t is what is tracked of the script -/
theorem law_core (t : Option HO) (inK : K.In s1.heap) (gl : s1.heap.Ns mainGlobals mg) (bl : s1.heap.Ns builtinsNs mb) (bb : ∀ x : Str, x ≠ "__name__" → mb x = bootBuiltins x) (lim : s1.heap.NoLimit) (gens : s1.gens = #[])
    (ob : s1.heap.get? a = some { cls := .type "list", data := .seq vs.toArray }) (ht : t = none ∨ ∃ xs, t = some (.frz { cls := .type "list", data := .seq vs.toArray } (.lst xs))) (hk : t ≠ none → K.lookup a = none) (hok : HOk P w (scH a t) s1.heap) (room : Room k callerA)
    (F : ∀ base : Heap, K.In base → base.Ns mainGlobals mg → FnG P w K mg base CX0 k fa fd [x] sp) (bd : ∀ (s : Shared) (u : Value), BindsTo s fd ⟨[u], []⟩ [(x, u)]) (want : sp [.ref a] (scH a t) (fun v _ => v = .bl true) fun _ _ _ => False) :
    codeAny (model P w) callerA (.call (.ref fa) ⟨[.ref a], []⟩) (fun r s' => r = .ok (.ret (.bool true)) ∧ OldK s1.heap s'.heap ∧ s'.os = s1.os ∧ AllBare s'.gens) s1 := by
  have off : ∀ b, scH a t b ≠ none → b = a := fun b n => Classical.byContradiction fun z => n (scH_off z)
  -- a namespace is not the script
  have dic : ∀ {b : Addr} {m : Str → Option Value}, s1.heap.Ns b m → (hidT s1.heap (scH a t)).Ns b m := by
    rintro b m ⟨o, es, ep, q, dq, rest⟩
    have free : scH a t b = none := by
      by_cases z : b = a
      · rw [z, ob] at q
        cases q
        cases dq
      · exact scH_off z
    exact ⟨o, es, ep, hidT_get q free, dq, rest⟩
  have Kb : K.In (hidT s1.heap (scH a t)) := by
    intro b o q
    refine hidT_get (inK b o q) ?_
    by_cases z : scH a t b = none
    · exact z
    · have e := off b z
      subst e
      rw [hk (by rw [← scH_at (a := b) (t := t)]; exact z)] at q
      cases q
  have md : Mod K mg (hidT s1.heap (scH a t)) := ⟨Kb, dic gl, ⟨mb, dic bl, bb⟩, lim.elim fun mc h => ⟨mc, dic h.1, h.2⟩⟩
  have en : Env0 P w K mg (hidT s1.heap (scH a t)) callerA [] s1 (scH a t) := by
    refine ⟨rfl, md, fun b o q => of_hidT q, Nat.le_of_eq (hidT_size _ _), trivial, ?_, hok, .of_eq gens⟩
    intro b m
    cases m
  refine codeAny_mono ((F _ Kb (dic gl)).go callerA [] s1 (scH a t) ⟨[.ref a], []⟩ [.ref a] [.ref a] _ _ rfl room en (bd s1 (.ref a)) (.cons rfl .nil) want) ?_
  intro r s2 q
  match r, q with
  | .error e, q => exact q.elim
  | .ok .next, q => exact q.elim
  | .ok .brk, q => exact q.elim
  | .ok .cont, q => exact q.elim
  | .ok (.ret u), ⟨v, H2, os, bare, un, ok2, rv, ev⟩ =>
    have ev' : v = .bl true := ev
    subst ev'
    have eu : u = Value.bool true := rv
    subst eu
    refine ⟨rfl, OldK.of_keep ?_, os, bare⟩
    intro b o old
    by_cases z : scH a t b = none
    · exact un.keep b o old z (fun m => nomatch m) (fun m => nomatch m)
    · have e := off b z
      subst e
      rcases ht with h0 | ⟨xs, h0⟩
      · exact absurd (scH_at.trans h0) z
      · rw [ob] at old
        cases old
        exact (ok2 b _ (un.frzs b _ _ (scH_at.trans h0))).1
end
/-- the goal that k_head leaves, from the law's promise -/
theorem walkG {l : PySem.W.OpenLaw} {n k : Nat} {q : Program} {loose : List Str} {XP : (Str → Option Value) → Heap → Prop} {YP : World → Heap → Prop} {d : DefRec} {K : Params → PySem.W.Frag} {sp : PySem.W.Frag → Sp} {x : Str}
    (most : l.most = some n) (small : n ≤ sizeLine) (nodef : d.params.defaults = []) (room : Room k callerA) (hY : ∀ (w : World) (h : Heap), YP w h → (K w.params).In h)
    (F : ∀ (w : World) (mg : Str → Option Value) (fa : Addr) (h : Heap), (K w.params).In h → h.Ns mainGlobals mg → mg d.name = some (.ref fa) →
      ∃ fd : FuncData, (∀ (s : Shared) (u : Value), BindsTo s fd ⟨[u], []⟩ [(x, u)]) ∧ ∀ base : Heap, (K w.params).In base → base.Ns mainGlobals mg → FnG l.prog w (K w.params) mg base CX0 k fa fd [x] (sp (K w.params)))
    (want : ∀ (K : PySem.W.Frag) (H : Hp) (a : Addr) (ns : List Int), ns.length ≤ n → SqL K H a (ns.map V.int) → sp K [.ref a] H (fun v _ => v = .bl true) fun _ _ _ => False) :
    PySem.W.WalkO q loose XP YP l.row.toRowW d [] (fun f vs => PySem.call f vs) := by
  refine Att.attach_call most nodef ?_
  intro w s0 s1 mg mb fa o pm cd doc a vs ns G Y _ _ _ hmg ob hin len gens
  have inK := hY w _ Y
  obtain ⟨fd, bd, hF⟩ := F w mg fa _ inK G.T.g hmg
  have rv := vals_ints hin
  have lv := rv.length
  rw [List.length_map] at lv
  have sz : (ns.map V.int).length ≤ sizeLine := by rw [List.length_map]; exact Nat.le_trans len small
  cases hk : (K w.params).lookup a with
  | some ok =>
    have e := inK a ok hk
    rw [ob] at e
    cases e
    refine law_core none inK G.T.g G.T.b G.T.builtins G.T.nolimit gens ob (Or.inl rfl) (fun z => absurd rfl z) ?_ room hF bd (want _ _ a ns len (Or.inr ⟨_, vs.toArray, _, hk, rfl, rfl, rfl, ?_, ?_⟩))
    · intro b u z
      unfold scH at z
      split at z <;> cases z
    · rw [List.size_toArray, ← lv]
      exact Nat.le_trans len small
    · exact rv
  | none =>
    refine law_core (some (.frz { cls := .type "list", data := .seq vs.toArray } (.lst (ns.map V.int)))) inK G.T.g G.T.b G.T.builtins G.T.nolimit gens ob (Or.inr ⟨_, rfl⟩) (fun _ => hk) ?_ room hF bd (want _ _ a ns len (Or.inl (Or.inr ⟨_, scH_at⟩)))
    intro b u z
    by_cases hb : b = a
    · subst hb
      rw [scH_at] at z
      cases z
      exact ⟨ob, sz, vs, _, rv, ob⟩
    · rw [scH_off hb] at z
      cases z
end WX
namespace WX
open PySem PySem.Spec PyProof.Rows L2
section
variable {X : Cx} {σ : L2.St} {H : Hp} {Q : VK}
theorem o_les {i j : Str} (h : Q (.bl (!decide (j.cps.toList < i.cps.toList))) H) : wO X (compareOp .LtE) (.str i) (.str j) H Q := by
  constructor
  intro pins s σ v u I rx ry
  obtain ⟨t, rfl⟩ := rx
  obtain ⟨t', rfl⟩ := ry
  exact PySem.P.le_str ⟨.bl _, H, I, rfl, h⟩
/-- repr of data -/
theorem c_repr {x : V} {d : PyData} (hG : X.A.guards = some []) (hu : X.A.units + (d.depth + 1) < cLine) (hd : Dp X.K H x d) (hs : d.showable = true) (hn : d.hasDict = false) (hz : d.shown.length ≤ sizeLine) (h : Q (.str d.shown) H) : wC X (.builtin "repr") [x] H Q := by
  constructor
  intro pins s σ us I r
  obtain ⟨u, rfl, rx⟩ := vals1 r
  cases hd with
  | non =>
    cases (show u = Value.none from rx)
    simp only [PyData.shown] at h
    exact PySem.P.repr_of_none ⟨.str _, H, I.tok _, ⟨_, rfl⟩, h⟩
  | bl b =>
    cases (show u = Value.bool b from rx)
    simp only [PyData.shown] at h
    refine PySem.P.repr_of_bool ⟨.str _, H, I.tok _, ⟨_, rfl⟩, ?_⟩
    cases b <;> exact h
  | int i =>
    obtain ⟨t, rfl⟩ := rx
    simp only [PyData.shown] at h
    simp only [PyData.showable, decide_eq_true_eq] at hs
    exact PySem.P.repr_of_int hs ⟨.str _, H, I.tok _, ⟨_, rfl⟩, h⟩
  | str y =>
    obtain ⟨t, rfl⟩ := rx
    simp only [PyData.shown] at h hz
    exact PySem.P.repr_of_str ⟨.str _, H, I.tok _, ⟨_, rfl⟩, h⟩ hz
  | lst h1 h2 =>
    cases (show u = Value.ref _ from rx)
    obtain ⟨as, rd⟩ := Dp.reads I _ _ _ (Dp.lst h1 h2) rfl
    exact repr_of_reads' rd hs (fun z => absurd (hn.symm.trans z) Bool.false_ne_true) hG hu (fun _ _ q => q) (fun h' u tk hk => ⟨.str _, H, I.kept hk, ⟨_, rfl⟩, h⟩) hz
  | tup h1 h2 =>
    cases (show u = Value.ref _ from rx)
    obtain ⟨as, rd⟩ := Dp.reads I _ _ _ (Dp.tup h1 h2) rfl
    exact repr_of_reads' rd hs (fun z => absurd (hn.symm.trans z) Bool.false_ne_true) hG hu (fun _ _ q => q) (fun h' u tk hk => ⟨.str _, H, I.kept hk, ⟨_, rfl⟩, h⟩) hz
end
end WX
namespace WX
open PySem PySem.Spec PyProof.Rows L2
section
variable {X : Cx} {σ : L2.St} {H : Hp} {Q : VK}
theorem o_powW {i j : Int} (h0 : 0 ≤ j) (hz : (Builtin.Int.intBits i : Int) * j ≤ 2 ^ 27) (h : Q (.int (i ^ j.toNat)) H) : wO X (binaryOp .Pow) (.int i) (.int j) H Q := by
  constructor
  intro pins s σ v u I rx ry
  obtain ⟨t, rfl⟩ := rx
  obtain ⟨t', rfl⟩ := ry
  exact pow_int h0 hz ⟨.int _, H, I.tok _, ⟨_, rfl⟩, h⟩
theorem o_fdivW {i j : Int} (hc : CDivW i j) (h : Q (.int (i / j)) H) : wO X (binaryOp .FloorDiv) (.int i) (.int j) H Q := toO op_fdivW ⟨i, j, rfl, rfl, hc, h⟩
end
/-! ### what changes -/
/-- all but p stands -/
def Ch (p : Addr) (H H' : Hp) : Prop := ∀ b o, b ≠ p → H b = some o → H' b = some o
theorem Ch.refl {p : Addr} {H : Hp} : Ch p H H := fun _ _ _ h => h
theorem Ch.trans {p : Addr} {H H1 H2 : Hp} (a : Ch p H H1) (b : Ch p H1 H2) : Ch p H H2 := fun x o hx h => b x o hx (a x o hx h)
theorem Ch.new {p q : Addr} {H H1 : Hp} {o : HO} (a : Ch p H H1) (hq : H1 q = none) : Ch p H (upd H1 q o) := fun x u hx h => upd_keep hq (a x u hx h)
theorem Ch.put {p : Addr} {H H1 : Hp} {o : HO} (a : Ch p H H1) : Ch p H (upd H1 p o) := fun x u hx h => by
  rw [upd_ne hx]
  exact a x u hx h
theorem Ch.of {p : Addr} {H H1 : Hp} (a : Same H H1) : Ch p H H1 := fun x o _ h => a x o h
theorem _root_.L2.Same.new {q : Addr} {H H1 : Hp} {o : HO} (a : Same H H1) (hq : H1 q = none) : Same H (upd H1 q o) := fun x u h => upd_keep hq (a x u h)
theorem _root_.L2.Same.ch {p : Addr} {H H1 H2 : Hp} (a : Same H H1) (h0 : H p = none) (c : Ch p H1 H2) : Same H H2 := fun x u h => c x u (ne_of_none h h0) (a x u h)
/-- the dice: a list of three ints -/
def Dice (H : Hp) (p : Addr) : Prop := ∃ x y z : Int, H p = some (.lst [.int x, .int y, .int z])
theorem Dice.new {H : Hp} {p q : Addr} {o : HO} (d : Dice H p) (hq : H q = none) : Dice (upd H q o) p := by
  obtain ⟨x, y, z, h⟩ := d
  exact ⟨x, y, z, upd_keep hq h⟩
theorem Dice.ne {H : Hp} {p q : Addr} {xs : List V} (d : Dice H p) (h : H q = some (.lst xs)) (hx : xs.length ≠ 3) : q ≠ p := by
  obtain ⟨x, y, z, e⟩ := d
  rintro rfl
  rw [e] at h
  cases h
  exact hx rfl
end WX
namespace WX
open PySem PySem.Spec PyProof.Rows L2
section
variable {X : Cx} {σ : L2.St} {H : Hp} {Q R : VK} {e : Expr}
theorem wE_mono (h : wE X e σ H R) (k : ∀ v H', R v H' → Q v H') : wE X e σ H Q := ⟨fun pins s I => thn (h.run pins s I) fun _ _ ⟨v, H', I', r, q⟩ => ⟨v, H', I', r, k v H' q⟩⟩
theorem wT_mono {Q R : Bool → Hp → Prop} (h : wT X e σ H R) (k : ∀ v H', R v H' → Q v H') : wT X e σ H Q := ⟨fun pins s I => thn (h.run pins s I) fun _ _ ⟨H', I', q⟩ => ⟨H', I', k _ H' q⟩⟩
end
theorem at_ints {xs : List Int} {i : Int} (h0 : 0 ≤ i) (h : i < ((xs.map V.int).length : Int)) : ∃ c : Int, atI (xs.map V.int) i = some (.int c) := by
  rw [List.length_map] at h
  obtain ⟨n, rfl⟩ : ∃ n : Nat, i = (n : Int) := ⟨i.toNat, by omega⟩
  have h2 : n < xs.length := by omega
  refine ⟨xs[n], atI_nat ?_⟩
  rw [List.getElem?_map, List.getElem?_eq_getElem h2]
  rfl
theorem at_vs {xs : List V} {r : Int} (h0 : 0 ≤ r) (h : r < (xs.length : Int)) : ∃ (n : Nat) (v : V), xs[n]? = some v ∧ atI xs r = some v := by
  obtain ⟨n, rfl⟩ : ∃ n : Nat, r = (n : Int) := ⟨r.toNat, by omega⟩
  have h2 : n < xs.length := by omega
  exact ⟨n, xs[n], List.getElem?_eq_getElem h2, atI_nat (List.getElem?_eq_getElem h2)⟩
end WX
namespace WX
open PySem PySem.Spec PyProof.Rows L2
/-! ### comprehensions -/
structure Blk (X X' : Cx) (scope : Scope) : Prop where
  prog : X'.prog = X.prog
  w : X'.w = X.w
  K : X'.K = X.K
  mg : X'.mg = X.mg
  base : X'.base = X.base
  A : X'.A = X.A
  N : X'.N = X.N
  sc : X'.env.scope = relS scope X.env.scope
  calm : X'.calm = X.calm
  xe : X'.xe = fun _ _ => False
section
variable {X : Cx} {σ : L2.St} {H : Hp} {Q : VK} {pos : Pos} {elt iter : Expr} {scope : Scope} {x : Str} {j : Nat} {px : Pos}
theorem blk_mk (s : Shared) (H : Hp) (C : Addr) (cl : List (Str × Addr)) (fp : List Addr) : Blk X (X.blk s H scope (compEnvC scope cl C X.env) fp) scope := ⟨rfl, rfl, rfl, rfl, rfl, rfl, rfl, rfl, rfl, rfl⟩
theorem Blk.bd {X' : Cx} {N : List Str} {sc : Scope} {k : Nat} (b : Blk X X' scope) (B : Bd X N sc k) : Bd X' N (relS scope sc) k := by
  obtain ⟨e1, e2, e3, e4, e5, e6, e7, e8, e9, e10⟩ := b
  obtain ⟨b1, b2, b3, b4, b5, b6⟩ := B
  refine ⟨e7.trans b1, by rw [e7]; exact b2, by rw [e8, b3], e9.trans b4, by rw [e6]; exact b5, ?_⟩
  rw [e10]
  exact PassesOwn.never
/-- what the element gives, in whatever block -/
def wEb (X : Cx) (scope : Scope) (e : Expr) : TE := fun σ H Q => ∀ X', Blk X X' scope → wE X' e σ H Q
theorem peb_self {e : Expr} (s : Shared) (H : Hp) (C : Addr) (cl : List (Str × Addr)) (fp : List Addr) : PE (X.blk s H scope (compEnvC scope cl C X.env) fp) e (wEb X scope e) := ⟨fun pins s1 σ H1 Q I h => (h _ (blk_mk s H C cl fp)).run pins s1 I⟩
def wTb (X : Cx) (scope : Scope) (e : Expr) : TT := fun σ H Q => ∀ X', Blk X X' scope → wT X' e σ H Q
theorem ptb_self {e : Expr} (s : Shared) (H : Hp) (C : Addr) (cl : List (Str × Addr)) (fp : List Addr) : PT (X.blk s H scope (compEnvC scope cl C X.env) fp) e (wTb X scope e) := ⟨fun pins s1 σ H1 Q I h => (h _ (blk_mk s H C cl fp)).run pins s1 I⟩
theorem pgb_name {pos : Pos} (nd : X.N.Nodup) (hj : X.N[j]? = some x) (hx : scope.names.lookup x = some .local) (s : Shared) (H : Hp) (C : Addr) (cl : List (Str × Addr)) (fp : List Addr) : PG (X.blk s H scope (compEnvC scope cl C X.env) fp) (.Name x pos) (gName j) := by
  have hl : (relS scope X.env.scope).names.lookup x = some .local := lookup_relS_keep (by decide) hx
  exact pg_name nd hj (Or.inl hl) (.inr hl)
theorem wipe_one {σ : L2.St} {v : V} : wipe ((wipe σ [j]).set j (some v)) [j] = wipe σ [j] ∧ (wipe σ [j]).set j (some v) = σ.set j (some v) := by
  show (((σ.set j none).set j (some v)).set j none) = σ.set j none ∧ (σ.set j none).set j (some v) = σ.set j (some v)
  rw [List.set_set, List.set_set]
  exact ⟨rfl, List.set_set ..⟩
/-- over a tuple, every item kept -/
theorem lcT_read (h : wE X iter σ H fun v H1 => ∃ a xs, v = .ref a ∧ SqT X.K H1 a xs ∧ ∀ D, H1 D = none → ∃ Pv : Nat → Hp → Prop, Pv 0 (upd H1 D (.lst [])) ∧ (∀ i H, i ≤ xs.length → Pv i H → SqT X.K H a xs) ∧
    (∀ (i : Nat) (v : V) (H : Hp), xs[i]? = some v → Pv i H → wEb X scope elt (σ.set j (some v)) H fun y H4 => ∃ acc, H4 D = some (.lst acc) ∧ acc.length < sizeLine ∧ Pv (i + 1) (upd H4 D (.lst (acc ++ [y])))) ∧ ∀ H, Pv xs.length H → Q (.ref D) H) :
    tLc (iTup X.K (wE X iter)) (gName j) tYes (wEb X scope elt) [j] σ H Q := by
  refine wE_mono h ?_
  rintro v H1 ⟨a, xs, rfl, hs, k⟩
  refine ⟨a, rfl, ⟨xs, hs⟩, fun D hD => ?_⟩
  obtain ⟨Pv, p0, pk, pt, pe⟩ := k D hD
  refine lc_tup Pv p0 pk (fun i v H hi hp => ?_) pe
  obtain ⟨e1, e2⟩ := wipe_one (σ := σ) (v := v) (j := j)
  refine ⟨e1, ?_⟩
  rw [e2]
  exact pt i v H hi hp
theorem lcL_read (h : wE X iter σ H fun v H1 => ∃ a xs, v = .ref a ∧ SqL X.K H1 a xs ∧ ∀ D, H1 D = none → ∃ Pv : Nat → Hp → Prop, Pv 0 (upd H1 D (.lst [])) ∧ (∀ i H, i ≤ xs.length → Pv i H → SqL X.K H a xs) ∧
    (∀ (i : Nat) (v : V) (H : Hp), xs[i]? = some v → Pv i H → wEb X scope elt (σ.set j (some v)) H fun y H4 => ∃ acc, H4 D = some (.lst acc) ∧ acc.length < sizeLine ∧ Pv (i + 1) (upd H4 D (.lst (acc ++ [y])))) ∧ ∀ H, Pv xs.length H → Q (.ref D) H) :
    tLc (iList X.K (wE X iter)) (gName j) tYes (wEb X scope elt) [j] σ H Q := by
  refine wE_mono h ?_
  rintro v H1 ⟨a, xs, rfl, hs, k⟩
  refine ⟨a, rfl, ⟨xs, hs⟩, fun D hD => ?_⟩
  obtain ⟨Pv, p0, pk, pt, pe⟩ := k D hD
  refine lc_list Pv p0 pk (fun i v H hi hp => ?_) pe
  obtain ⟨e1, e2⟩ := wipe_one (σ := σ) (v := v) (j := j)
  refine ⟨e1, ?_⟩
  rw [e2]
  exact pt i v H hi hp
/-- the elements make nothing: the list of their values -/
theorem lcT_map (h : wE X iter σ H fun v H1 => ∃ a xs ys, v = .ref a ∧ SqT X.K H1 a xs ∧ ys.length = xs.length ∧ xs.length < sizeLine ∧ ∀ D, H1 D = none →
    (∀ (i : Nat) (v : V) (H : Hp), xs[i]? = some v → (∀ b o, H1 b = some o → H b = some o) → wEb X scope elt (σ.set j (some v)) H fun y H4 => H4 = H ∧ ys[i]? = some y) ∧ Q (.ref D) (upd H1 D (.lst ys))) :
    tLc (iTup X.K (wE X iter)) (gName j) tYes (wEb X scope elt) [j] σ H Q := by
  refine lcT_read (wE_mono h ?_)
  rintro v H1 ⟨a, xs, ys, rfl, hs, hl, hz, k⟩
  refine ⟨a, xs, rfl, hs, fun D hD => ?_⟩
  obtain ⟨k1, k2⟩ := k D hD
  have keep : ∀ zs, Same H1 (upd H1 D (.lst zs)) := fun zs b o e => upd_keep hD e
  refine ⟨fun i H => H = upd H1 D (.lst (ys.take i)), rfl, fun i H _ e => ?_, fun i v H hv e X' bk => ?_, fun H e => ?_⟩
  · rw [e]
    rcases hs with (hs | ⟨o, hs⟩) | hs
    · exact Or.inl (Or.inl (keep _ _ _ hs))
    · exact Or.inl (Or.inr ⟨o, keep _ _ _ hs⟩)
    · exact Or.inr hs
  · subst e
    refine wE_mono (k1 i v _ hv (keep _) X' bk) ?_
    rintro y H4 ⟨rfl, hy⟩
    refine ⟨ys.take i, upd_same, ?_, ?_⟩
    · rw [List.length_take]; omega
    · show upd (upd H1 D (.lst (ys.take i))) D (.lst (ys.take i ++ [y])) = upd H1 D (.lst (ys.take (i + 1)))
      rw [upd_upd, List.take_add_one, hy]; rfl
  · rw [e, show xs.length = ys.length from hl.symm, List.take_length]
    exact k2
theorem lcL_map (h : wE X iter σ H fun v H1 => ∃ a xs ys, v = .ref a ∧ SqL X.K H1 a xs ∧ ys.length = xs.length ∧ xs.length < sizeLine ∧ ∀ D, H1 D = none →
    (∀ (i : Nat) (v : V) (H : Hp), xs[i]? = some v → (∀ b o, H1 b = some o → H b = some o) → wEb X scope elt (σ.set j (some v)) H fun y H4 => H4 = H ∧ ys[i]? = some y) ∧ Q (.ref D) (upd H1 D (.lst ys))) :
    tLc (iList X.K (wE X iter)) (gName j) tYes (wEb X scope elt) [j] σ H Q := by
  refine lcL_read (wE_mono h ?_)
  rintro v H1 ⟨a, xs, ys, rfl, hs, hl, hz, k⟩
  refine ⟨a, xs, rfl, hs, fun D hD => ?_⟩
  obtain ⟨k1, k2⟩ := k D hD
  have keep : ∀ zs, Same H1 (upd H1 D (.lst zs)) := fun zs b o e => upd_keep hD e
  refine ⟨fun i H => H = upd H1 D (.lst (ys.take i)), rfl, fun i H _ e => ?_, fun i v H hv e X' bk => ?_, fun H e => ?_⟩
  · rw [e]
    exact (keep _).seq hs
  · subst e
    refine wE_mono (k1 i v _ hv (keep _) X' bk) ?_
    rintro y H4 ⟨rfl, hy⟩
    refine ⟨ys.take i, upd_same, ?_, ?_⟩
    · rw [List.length_take]; omega
    · show upd (upd H1 D (.lst (ys.take i))) D (.lst (ys.take i ++ [y])) = upd H1 D (.lst (ys.take (i + 1)))
      rw [upd_upd, List.take_add_one, hy]; rfl
  · rw [e, show xs.length = ys.length from hl.symm, List.take_length]
    exact k2
variable {N : List Str} {sc : Scope} {k : Nat}
theorem e_lcT (j : Nat) (B : Bd X N sc k) (ok : BlkOk N sc scope [(x, j)]) (hj : N[j]? = some x) (hx : scope.names.lookup x = some .local) (h : tLc (iTup X.K (wE X iter)) (gName j) tYes (wEb X scope elt) [j] σ H Q) (hs : ∀ x, foldedSetIterable iter X.env x = pure x := by intro _; rfl) :
    wE X (.ListComp elt [⟨.Name x px, iter, [], 0⟩] scope pos) σ H Q :=
  toE (pe_lc (own := [(x, j)]) B.calm B.nd (pi_tup pe_self) (by rw [B.hN, B.sc]; exact ok) (pgb_name B.nd (B.slot j hj) hx) (fun _ _ _ _ _ => pts_nil) peb_self hs) h
theorem e_lcL (j : Nat) (B : Bd X N sc k) (ok : BlkOk N sc scope [(x, j)]) (hj : N[j]? = some x) (hx : scope.names.lookup x = some .local) (h : tLc (iList X.K (wE X iter)) (gName j) tYes (wEb X scope elt) [j] σ H Q) (hs : ∀ x, foldedSetIterable iter X.env x = pure x := by intro _; rfl) :
    wE X (.ListComp elt [⟨.Name x px, iter, [], 0⟩] scope pos) σ H Q :=
  toE (pe_lc (own := [(x, j)]) B.calm B.nd (pi_list pe_self) (by rw [B.hN, B.sc]; exact ok) (pgb_name B.nd (B.slot j hj) hx) (fun _ _ _ _ _ => pts_nil) peb_self hs) h
/-- name = [..] on one row -/
theorem s_lcT (j : Nat) {D : Ends} {y : Str} {py spos : Pos} (i : Nat) (B : Bd X N sc k) (ok : BlkOk N sc scope [(x, j)]) (hj : N[j]? = some x) (hx : scope.names.lookup x = some .local) (hy : X.N[i]? = some y) (hyl : X.env.scope.names.lookup y = some .local)
    (hsw : swapsWith (.ListComp elt [⟨.Name x px, iter, [], 0⟩] scope pos) (some (.Name y py)) spos.line X.env = pure true)
    (h : tLc (iTup X.K (wE X iter)) (gName j) tYes (wEb X scope elt) [j] σ H fun v H1 => D.nx (σ.set i (some v)) H1) (hs : ∀ x, foldedSetIterable iter X.env x = pure x := by intro _; rfl) : wS X (.Assign [.Name y py] (.ListComp elt [⟨.Name x px, iter, [], 0⟩] scope pos) spos) D σ H :=
  toS (ps_setLc (own := [(x, j)]) B.calm B.nd hy hyl hsw (pi_tup pe_self) (by rw [B.hN, B.sc]; exact ok) (pgb_name B.nd (B.slot j hj) hx) (fun _ _ _ _ _ => pts_nil) peb_self hs) h
theorem s_lcL (j : Nat) {D : Ends} {y : Str} {py spos : Pos} (i : Nat) (B : Bd X N sc k) (ok : BlkOk N sc scope [(x, j)]) (hj : N[j]? = some x) (hx : scope.names.lookup x = some .local) (hy : X.N[i]? = some y) (hyl : X.env.scope.names.lookup y = some .local)
    (hsw : swapsWith (.ListComp elt [⟨.Name x px, iter, [], 0⟩] scope pos) (some (.Name y py)) spos.line X.env = pure true)
    (h : tLc (iList X.K (wE X iter)) (gName j) tYes (wEb X scope elt) [j] σ H fun v H1 => D.nx (σ.set i (some v)) H1) (hs : ∀ x, foldedSetIterable iter X.env x = pure x := by intro _; rfl) : wS X (.Assign [.Name y py] (.ListComp elt [⟨.Name x px, iter, [], 0⟩] scope pos) spos) D σ H :=
  toS (ps_setLc (own := [(x, j)]) B.calm B.nd hy hyl hsw (pi_list pe_self) (by rw [B.hN, B.sc]; exact ok) (pgb_name B.nd (B.slot j hj) hx) (fun _ _ _ _ _ => pts_nil) peb_self hs) h
/-- {k: v}, one written key -/
theorem e_dict1 {ek ev : Expr} {dpos : Pos} (h : ∀ p, H p = none → wE X ek σ (upd H p (.dK [])) fun a H1 => wE X ev σ H1 fun b H2 => H2 p = some (.dK []) ∧ ∃ q : L2.Key, a = kV q ∧ Q (.ref p) (upd H2 p (.dK [(q, b)]))) : wE X (.Dict [some ek] [ev] dpos) σ H Q := by
  refine toE (pe_disp (pps_cons pe_self pe_self pps_nil) (by rfl) (by rfl) (by simp) (by show 1 ≤ 15; decide)) ?_
  intro p hp
  refine wE_mono (h p hp) ?_
  intro a H1 h1
  refine wE_mono h1 ?_
  rintro b H2 ⟨e, q, rfl, k⟩
  exact ⟨e, [(q, b)], rfl, (by show 1 ≤ 15; decide), k⟩
theorem o_rep {l : Addr} {xs : List V} {k : Int} (h1 : H l = some (.lst xs)) (h2 : -(2 ^ 63) ≤ k) (h3 : k < 2 ^ 63) (h4 : xs.length * k.toNat ≤ sizeLine) (h : ∀ p, H p = none → Q (.ref p) (upd H p (.lst (List.replicate k.toNat xs).flatten))) : wO X (binaryOp .Mult) (.ref l) (.int k) H Q :=
  toO op_rep ⟨l, k, xs, rfl, rfl, h1, h2, h3, h4, h⟩
theorem o_eqD {a b : V} {d e : PyData} (hu : X.A.units + 64 < cLine) (h1 : Dp X.K H a d) (h2 : Dp X.K H b e) (s1 : SeqAt.shaped d = true) (s2 : SeqAt.shaped e = true) (h : Q (.bl (PyData.eqv d e)) H) : wO X (compareOp .Eq) a b H Q := toO (op_eqD hu) ⟨d, e, h1, h2, s1, s2, h⟩
theorem o_neD {a b : V} {d e : PyData} (hu : X.A.units + 64 < cLine) (h1 : Dp X.K H a d) (h2 : Dp X.K H b e) (s1 : SeqAt.shaped d = true) (s2 : SeqAt.shaped e = true) (h : Q (.bl (!PyData.eqv d e)) H) : wO X (compareOp .NotEq) a b H Q := toO (op_neD hu) ⟨d, e, h1, h2, s1, s2, h⟩
end
end WX
namespace WX
open PySem PySem.Spec PyProof.Rows L2
theorem env_eta {env : Env} {sc : Scope} (h : env.scope = sc) : env = { env with scope := sc } := by
  cases env
  cases h
  rfl
end WX
namespace WX
open PySem PySem.Spec PyProof.Rows L2
section
variable {X : Cx} {σ : L2.St} {H : Hp} {Q : VK}
theorem e_dict_i {i : Int} {a2 : Nat} {a3 : Pos} {ev : Expr} {dpos : Pos} (h : ∀ p, H p = none → wE X ev σ (upd H p (.dK [])) fun b H2 => H2 = upd H p (.dK []) ∧ Q (.ref p) (upd H p (.dK [(Sum.inl i, b)]))) : wE X (.Dict [some (.Constant (.int i) a2 a3)] [ev] dpos) σ H Q := by
  refine e_dict1 fun p hp => e_int (wE_mono (h p hp) ?_)
  rintro v H' ⟨rfl, k⟩
  exact ⟨upd_same, Sum.inl i, rfl, by rw [upd_upd]; exact k⟩
theorem e_dict_s {i : Str} {a2 : Nat} {a3 : Pos} {ev : Expr} {dpos : Pos} (h : ∀ p, H p = none → wE X ev σ (upd H p (.dK [])) fun b H2 => H2 = upd H p (.dK []) ∧ Q (.ref p) (upd H p (.dK [(Sum.inr i, b)]))) : wE X (.Dict [some (.Constant (.str i) a2 a3)] [ev] dpos) σ H Q := by
  refine e_dict1 fun p hp => e_str (wE_mono (h p hp) ?_)
  rintro v H' ⟨rfl, k⟩
  exact ⟨upd_same, Sum.inr i, rfl, by rw [upd_upd]; exact k⟩
end
end WX

namespace WX
open PySem PySem.Spec PyProof.Rows L2
/-! ### defs of the program: whatever runs around them -/
structure Dk (P : Program) (w : World) (K : PySem.W.Frag) (mg : Str → Option Value) (base : Heap) (x : Str) (k : Nat) (ps : List Str) (sp : Sp) : Prop where
  ex : ∃ (f : Addr) (fd : FuncData), FnOk P w K mg base CX0 k f fd ps sp ∧ mg x = some (.ref f) ∧ PySem.W.keepIn K (.ref f) = true ∧ Binds K fd ps []
section
variable {X : Cx} {σ : L2.St} {H : Hp} {Q : VK} {pos : Pos} {e : Expr} {es : List Expr}
theorem e_callk {x : Str} {p : Pos} {k : Nat} {ps : List Str} {sp : Sp} (F : Dk X.prog X.w X.K X.mg X.base x k ps sp) (hr : Room k X.A) (hg : Gl X x) (h : wA X (e :: es) σ H fun vs H1 => sp vs H1 Q E0) (hdb : (x == ("__debug__" : Str)) = false := by decide)
    (he : starEach (e :: es) X.env = (false, eval e X.env) :: starEach es X.env := by rfl) (hpl : (backTo pos (starEach es X.env)).any (·.1) = false := by rfl) : wE X (.Call (.Name x p) (e :: es) [] pos) σ H Q := by
  obtain ⟨f, fd, G, hm, hk, hb⟩ := F.ex
  refine toE (pe_call G hr hg hm hk hb .nil pass0 pa_self hdb he hpl) ?_
  have e1 : (fun vs (H1 : Hp) => sp (vs ++ []) H1 Q E0) = fun vs H1 => sp vs H1 Q E0 := by
    funext vs H1
    rw [List.append_nil]
  show wA X (e :: es) σ H (fun vs H1 => sp (vs ++ []) H1 Q E0)
  rw [e1]
  exact h
theorem e_callk0 {x : Str} {p : Pos} {k : Nat} {ps : List Str} {sp : Sp} (F : Dk X.prog X.w X.K X.mg X.base x k ps sp) (hr : Room k X.A) (hg : Gl X x) (h : sp [] H Q E0) (hdb : (x == ("__debug__" : Str)) = false := by decide) : wE X (.Call (.Name x p) [] [] pos) σ H Q := by
  obtain ⟨f, fd, G, hm, hk, hb⟩ := F.ex
  exact toE (pe_call0 G hr hg hm hk hb .nil pass0 hdb) h
end
/-- a body's promise in whatever surroundings -/
theorem fnk_of {P : Program} {w : World} {K : PySem.W.Frag} {mg : Str → Option Value} {base : Heap} {x qual : Str} {st : Stmt} {f : Addr} {fd : FuncData} {N ps : List Str} {k : Nat} {sp : Sp} (F : L2.Fun K x qual st f fd) (S : FnScope N ps (defScope st)) (len : ∀ vs H Q E, sp vs H Q E → vs.length = ps.length)
    (body : ∀ X : Cx, X.prog = P → X.w = w → X.K = K → X.mg = mg → X.base = base → Bd X N (defScope st) k → (∀ x, X.fn x = true) → ∀ vs H Q E, sp vs H Q E → wB X (defBody st) { nx := fun _ H' => Q .non H', rt := Q } (start N vs) H) : FnOk P w K mg base CX0 (k + 1) f fd ps sp :=
  F.ok S len fun cdv A outer s H vs Q E hr h => ⟨_, pss_self, body _ rfl rfl rfl rfl rfl ⟨rfl, S.nd, rfl, rfl, hr, PassesOwn.never⟩ (fun _ => rfl) vs H Q E h⟩
theorem dk_of {P : Program} {w : World} {K : PySem.W.Frag} {mg : Str → Option Value} {base : Heap} {x qual : Str} {st : Stmt} {N ps : List Str} {k : Nat} {sp : Sp} (hx : ∃ f fd, L2.Fun K x qual st f fd ∧ mg x = some (.ref f)) (S : FnScope N ps (defScope st))
    (hb : ∀ (kV doc pm : Value) (an : Option Addr) (cdv ct : Value) (us : List Value), us.length = ps.length → bindArgs (PySem.W.fnOf x qual (defArgs st) (defBody st) (defScope st) .none kV doc pm an cdv ct) ⟨us, []⟩ = pure (ps.zip us))
    (len : ∀ vs H Q E, sp vs H Q E → vs.length = ps.length)
    (body : ∀ X : Cx, X.prog = P → X.w = w → X.K = K → X.mg = mg → X.base = base → Bd X N (defScope st) k → (∀ x, X.fn x = true) → ∀ vs H Q E, sp vs H Q E → wB X (defBody st) { nx := fun _ H' => Q .non H', rt := Q } (start N vs) H) : Dk P w K mg base x (k + 1) ps sp := by
  obtain ⟨f, fd, F, hm⟩ := hx
  exact ⟨f, fd, fnk_of F S len body, hm, F.kp, F.binds hb⟩
end WX

set_option Elab.async false
set_option linter.all false
set_option maxRecDepth 100000
set_option maxHeartbeats 4000000
namespace WX
open PySem PySem.Spec PyProof.Rows L2
/-! ### data that stand -/
theorem same_tup {K : PySem.W.Frag} {H H' : Hp} {a : Addr} {xs : List V} (e : Same H H') (h : SqT K H a xs) : SqT K H' a xs := by
  rcases h with (h | ⟨o, h⟩) | h
  · exact .inl (.inl (e _ _ h))
  · exact .inl (.inr ⟨o, e _ _ h⟩)
  · exact .inr h
mutual
theorem dp_same {K : PySem.W.Frag} {H H' : Hp} (e : Same H H') : ∀ {v : V} {d : PyData}, Dp K H v d → Dp K H' v d
  | _, _, .non => .non
  | _, _, .bl b => .bl b
  | _, _, .int i => .int i
  | _, _, .str x => .str x
  | _, _, .lst h a => .lst (Same.seq e h) (dpa_same e a)
  | _, _, .tup h a => .tup (same_tup e h) (dpa_same e a)
theorem dpa_same {K : PySem.W.Frag} {H H' : Hp} (e : Same H H') : ∀ {vs : List V} {ds : List PyData}, DpAll K H vs ds → DpAll K H' vs ds
  | _, _, .nil => .nil
  | _, _, .cons h a => .cons (dp_same e h) (dpa_same e a)
end
/-- p is no tuple -/
def NoTup (H : Hp) (p : Addr) : Prop := ∀ xs, H p ≠ some (.tup xs) ∧ ∀ o, H p ≠ some (.frz o (.tup xs))
theorem tup_ch {K : PySem.W.Frag} {H H' : Hp} {p a : Addr} {xs : List V} (c : Ch p H H') (np : NoTup H p) (h : SqT K H a xs) : SqT K H' a xs := by
  rcases h with (h | ⟨o, h⟩) | h
  · exact .inl (.inl (c _ _ (fun e => (np xs).1 (e ▸ h)) h))
  · exact .inl (.inr ⟨o, c _ _ (fun e => (np xs).2 o (e ▸ h)) h⟩)
  · exact .inr h
mutual
def noLst : PyData → Bool
  | .tuple ds => noLstAll ds
  | .list _ => false
  | .dict _ => false
  | _ => true
def noLstAll : List PyData → Bool
  | [] => true
  | d :: ds => noLst d && noLstAll ds
end
mutual
theorem dp_ch {K : PySem.W.Frag} {H H' : Hp} {p : Addr} (c : Ch p H H') (np : NoTup H p) : ∀ {v : V} {d : PyData}, noLst d = true → Dp K H v d → Dp K H' v d
  | _, _, _, .non => .non
  | _, _, _, .bl b => .bl b
  | _, _, _, .int i => .int i
  | _, _, _, .str x => .str x
  | _, _, n, .lst h a => by simp [noLst] at n
  | _, _, n, .tup h a => .tup (tup_ch c np h) (dpa_ch c np (by simpa [noLst] using n) a)
theorem dpa_ch {K : PySem.W.Frag} {H H' : Hp} {p : Addr} (c : Ch p H H') (np : NoTup H p) : ∀ {vs : List V} {ds : List PyData}, noLstAll ds = true → DpAll K H vs ds → DpAll K H' vs ds
  | _, _, _, .nil => .nil
  | _, _, n, .cons h a => by
    simp only [noLstAll, Bool.and_eq_true] at n
    exact .cons (dp_ch c np n.1 h) (dpa_ch c np n.2 a)
end
theorem Dice.noTup {H : Hp} {p : Addr} (d : Dice H p) : NoTup H p := by
  obtain ⟨x, y, z, e⟩ := d
  intro xs
  rw [e]
  refine ⟨?_, ?_⟩
  · intro h
    cases h
  · intro o h
    cases h
theorem dp_get {K : PySem.W.Frag} {H : Hp} : ∀ {vs : List V} {ds : List PyData} {i : Nat} {d : PyData}, DpAll K H vs ds → ds[i]? = some d → ∃ v, vs[i]? = some v ∧ Dp K H v d
  | _, _, _, _, .nil, h => by simp at h
  | _, _, 0, _, .cons a _, h => by simp at h; subst h; exact ⟨_, rfl, a⟩
  | _, _, i + 1, _, .cons _ t, h => by
    obtain ⟨v, h1, h2⟩ := dp_get (i := i) t (by simpa using h)
    exact ⟨v, by simpa using h1, h2⟩
theorem dp_len {K : PySem.W.Frag} {H : Hp} : ∀ {vs : List V} {ds : List PyData}, DpAll K H vs ds → vs.length = ds.length
  | _, _, .nil => rfl
  | _, _, .cons _ t => congrArg (· + 1) (dp_len t)
theorem dp_ints {K : PySem.W.Frag} {H : Hp} : ∀ (ns : List Int), DpAll K H (ns.map V.int) (ns.map PyData.int)
  | [] => .nil
  | n :: ns => .cons (.int n) (dp_ints ns)
theorem dp_of_ints {K : PySem.W.Frag} {H : Hp} : ∀ {vs : List V} (ns : List Int), DpAll K H vs (ns.map PyData.int) → vs = ns.map V.int
  | _, [], h => by cases h; rfl
  | _, n :: ns, h => by
    cases h with
    | cons a t =>
      cases a
      rw [dp_of_ints ns t]
      rfl
/-! ### fields, methods, properties -/
section
variable {X : Cx} {σ : L2.St} {H : Hp} {Q : VK} {D : Ends} {pos : Pos} {e o : Expr} {es : List Expr} {C a dx : Addr} {fs : List (Str × V)} {v : V}
theorem e_fld {f : Str} (h : wE X e σ H fun x H1 => ∃ a C dx fs v, x = .ref a ∧ H1 a = some (.ins C dx fs) ∧ Cls X.K C ∧ NoAttr X.K C f ∧ fs.lookup f = some v ∧ Q v H1) (hb : attributeBase e f X.env (eval e X.env) = eval e X.env := by rfl) : wE X (.Attribute e f pos) σ H Q := toE (pe_fld pe_self hb) h
theorem s_fld {f : Str} {value : Expr} {pos' : Pos} (h : wE X value σ H fun y H1 => wE X o σ H1 fun x H2 => ∃ a C dx fs, x = .ref a ∧ H2 a = some (.ins C dx fs) ∧ Cls X.K C ∧ NoAttr X.K C f ∧ fs.length < 1000 ∧ D.nx σ (upd H2 a (.ins C dx (putF f y fs))))
    (hs : swapsWith value (some (.Attribute o f pos')) pos.line X.env = pure false := by rfl) : wS X (.Assign [.Attribute o f pos'] value pos) D σ H := toS (ps_fld pe_self pe_self hs) h
/-- a method of the class at C -/
structure Md (P : Program) (w : World) (K : PySem.W.Frag) (mg : Str → Option Value) (base : Heap) (C : Addr) (m : Str) (k : Nat) (ps : List Str) (sp : Sp) : Prop where
  ex : ∃ (f : Addr) (fd : FuncData), FnOk P w K mg base CX0 k f fd ps sp ∧ Meth K C m f ∧ Binds K fd ps []
theorem e_meth {m : Str} {pl : Sem Bool} {apos : Pos} {k : Nat} {ps : List Str} {sp : Sp} (F : Md X.prog X.w X.K X.mg X.base C m k ps sp) (c : Cls X.K C) (hr : Room k X.A) (h : wE X o σ H fun x H1 => ∃ a dx fs, x = .ref a ∧ H1 a = some (.ins C dx fs) ∧ fs.lookup m = none ∧ wA X (e :: es) σ H1 fun vs H2 => sp (x :: vs) H2 Q E0)
    (hst : starEach (e :: es) X.env = (false, eval e X.env) :: starEach es X.env := by rfl) (hpl : (backTo pos (starEach es X.env)).any (·.1) = false := by rfl)
    (ht : eval (.Call (.Attribute o m apos) (e :: es) [] pos) X.env = (do
      let ov ← eval o X.env
      standAt apos.atName
      let (f, first) ← holding [ov] (getMethod ov m pl)
      callWith pos f first (backTo pos (starEach (e :: es) X.env)) (backToKw pos (keywordEach [] X.env))) := by rfl) : wE X (.Call (.Attribute o m apos) (e :: es) [] pos) σ H Q := by
  obtain ⟨f, fd, G, hm, hb⟩ := F.ex
  refine toE (pe_meth (pl := pl) pe_self c hm G hr hb .nil pass0 pa_self hst hpl ht) ?_
  refine wE_mono h ?_
  rintro x H1 ⟨a, dx, fs, rfl, ha, hl, k⟩
  refine ⟨a, dx, fs, rfl, ha, hl, ?_⟩
  have e1 : (fun vs (H2 : Hp) => sp (V.ref a :: (vs ++ [])) H2 Q E0) = fun vs H2 => sp (V.ref a :: vs) H2 Q E0 := by
    funext vs H2
    rw [List.append_nil]
  show wA X (e :: es) σ H1 (fun vs (H2 : Hp) => sp (V.ref a :: (vs ++ [])) H2 Q E0)
  rw [e1]
  exact k
/-- a property -/
structure Pd (P : Program) (w : World) (K : PySem.W.Frag) (mg : Str → Option Value) (base : Heap) (C : Addr) (m : Str) (k : Nat) (sp : Sp) : Prop where
  ex : ∃ (p f : Addr) (fd : FuncData), FnOk P w K mg base CX0 k f fd ["self"] sp ∧ PropOf K C m p f ∧ Binds K fd ["self"] []
theorem e_prop {m : Str} {k : Nat} {sp : Sp} (F : Pd X.prog X.w X.K X.mg X.base C m k sp) (c : Cls X.K C) (hr : Room (k + 1) X.A) (h : wE X e σ H fun x H1 => ∃ a dx fs, x = .ref a ∧ H1 a = some (.ins C dx fs) ∧ sp [.ref a] H1 Q E0)
    (hab : attributeBase e m X.env (eval e X.env) = eval e X.env := by rfl) : wE X (.Attribute e m pos) σ H Q := by
  obtain ⟨p, f, fd, G, hp, hb⟩ := F.ex
  exact toE (pe_prop pe_self c hp G hr hb .nil (fun _ _ _ _ _ _ _ h => h.elim) hab) h
/-- a class of the text, made -/
structure Ckd (P : Program) (w : World) (K : PySem.W.Frag) (mg : Str → Option Value) (base : Heap) (C : Addr) (x : Str) (k : Nat) (ps : List Str) (dvs : List V) (sp : Sp) : Prop where
  ex : ∃ (f : Addr) (fd : FuncData) (ds : List Value), FnOk P w K mg base CX0 k f fd ps sp ∧ mg x = some (.ref C) ∧ Mk K C f ∧ Vals dvs ds ∧ Binds K fd ps ds
theorem e_make {x : Str} {p : Pos} {k : Nat} {ps : List Str} {dvs : List V} {sp : Sp} (F : Ckd X.prog X.w X.K X.mg X.base C x k ps dvs sp) (hr : Room (k + 1) X.A) (hg : Gl X x)
    (h : wA X (e :: es) σ H fun vs H1 => ∀ x dx, H1 x = none → H1 dx = none → dx ≠ x → sp (.ref x :: (vs ++ dvs)) (upd (upd H1 dx (.own x)) x (.ins C dx [])) (fun v H2 => v = .non ∧ Q (.ref x) H2) E0) (hdb : (x == ("__debug__" : Str)) = false := by decide)
    (he : starEach (e :: es) X.env = (false, eval e X.env) :: starEach es X.env := by rfl) (hpl : (backTo pos (starEach es X.env)).any (·.1) = false := by rfl) : wE X (.Call (.Name x p) (e :: es) [] pos) σ H Q := by
  obtain ⟨f, fd, ds, G, hm, M, hd, hb⟩ := F.ex
  exact toE (pe_make M G hr hg hm hb hd pass0 pa_self hdb he hpl) h
/-! ### own operators -/
theorem ins_at {pins : List (Addr × Obj)} {s : Shared} (I : Inv X pins σ H s) (h : H a = some (.ins C dx fs)) : ∃ od, PySem.W.InstAt s.heap a (PySem.W.instObj C dx) C (some od) := by
  obtain ⟨mA, J, _⟩ := ins_get I.hok h
  obtain ⟨od, J, _⟩ := J.look
  exact ⟨od, J⟩
theorem md_run {m : Str} {k : Nat} {ps : List Str} {sp : Sp} {b : V} {pins : List (Addr × Obj)} {s : Shared} {us : List Value} {vs : List V} {f : Addr} {fd : FuncData} (G : FnOk X.prog X.w X.K X.mg X.base CX0 k f fd ps sp) (hb : Binds X.K fd ps []) (hr : Room k X.A) (I : Inv X pins σ H s) (r : Vals vs us) (h : sp vs H Q E0) :
    wpAny (model X.prog X.w) X.A (call (.ref f) us) (EP X pins σ Q) X.xe s := by
  have e1 : sp (vs ++ []) H Q E0 := by rw [List.append_nil]; exact h
  exact run_fn G hr hb .nil pass0 I r e1
/-- a op b, op a def of the class of both -/
theorem o_own {op : Operator} {b dy : Addr} {gs : List (Str × V)} {k : Nat} {ps : List Str} {sp : Sp} (F : Md X.prog X.w X.K X.mg X.base C (PySem.dunder op.info.2) k ps sp) (hc : PySem.W.selfFirst X.K C = true) (hr : Room k X.A) (ha : H a = some (.ins C dx fs)) (hb : H b = some (.ins C dy gs))
    (h : sp [.ref a, .ref b] H (fun v H' => (∃ c, v = .ref c) ∧ Q v H') E0) : wO X (binaryOp op) (.ref a) (.ref b) H Q := by
  obtain ⟨f, fd, G, hm, bd⟩ := F.ex
  constructor
  intro pins s σ v u I rx ry
  cases rx
  cases ry
  obtain ⟨od, J⟩ := ins_at I ha
  obtain ⟨od', J'⟩ := ins_at I hb
  obtain ⟨m, hF⟩ := I.fr
  refine PySem.W.binop_K hF I.ok.mod.kin J J'.type hc hm.at_ hm.fn ?_
  refine thn (md_run (m := PySem.dunder op.info.2) (b := .ref b) G bd hr I (vs := [.ref a, .ref b]) (.cons (show RelV (.ref a) (.ref a) from rfl) (.cons (show RelV (.ref b) (.ref b) from rfl) .nil)) h) ?_
  rintro z s' ⟨y, H', I', ry, ⟨c, rfl⟩, q⟩
  cases ry
  exact ⟨.ref c, H', I', rfl, q⟩
/-- a == b -/
theorem o_eqOwn {b dy : Addr} {gs : List (Str × V)} {k : Nat} {ps : List Str} {sp : Sp} (F : Md X.prog X.w X.K X.mg X.base C "__eq__" k ps sp) (hr : Room k X.A) (ha : H a = some (.ins C dx fs)) (hb : H b = some (.ins C dy gs))
    (h : sp [.ref a, .ref b] H (fun v H' => (∃ c, v = .bl c) ∧ Q v H') E0) : wO X (compareOp .Eq) (.ref a) (.ref b) H Q := by
  obtain ⟨f, fd, G, hm, bd⟩ := F.ex
  constructor
  intro pins s σ v u I rx ry
  cases rx
  cases ry
  obtain ⟨od, J⟩ := ins_at I ha
  obtain ⟨od', J'⟩ := ins_at I hb
  obtain ⟨m, hF⟩ := I.fr
  show wpAny _ _ (richCompare .Eq _ _) _ _ _
  refine PySem.W.cmp_K (op := .Eq) (tb := .ref C) hr.units0 hF I.ok.mod.kin J J'.type (by simp [PySem.W.notFirst]) hm.at_ hm.fn ?_
  refine thn (md_run (m := "__eq__") (b := .ref b) G bd hr I (vs := [.ref a, .ref b]) (.cons (show RelV (.ref a) (.ref a) from rfl) (.cons (show RelV (.ref b) (.ref b) from rfl) .nil)) h) ?_
  rintro z s' ⟨y, H', I', ry, ⟨c, rfl⟩, q⟩
  cases ry
  exact ⟨.bl c, H', I', rfl, q⟩
end
end WX
namespace WX
open PySem PySem.Spec PyProof.Rows L2
theorem wB_run {X : Cx} {sts : List Stmt} {D : Ends} {σ : L2.St} {H : Hp} (h : wB X sts D σ H) : wB X sts D σ H := h
end WX
namespace WX
open PySem PySem.Spec PyProof.Rows L2
theorem ty_tup {K : PySem.W.Frag} {H : Hp} {a : Addr} {xs : List V} (h : SqT K H a xs) : TyX K H (.ref a) (.type "tuple") := by
  rcases h with (h | ⟨o, h⟩) | ⟨o, its, n, h, c, _⟩
  · exact .base (.tup h)
  · exact .fTuple h
  · exact .kTuple h c
theorem ty_lst {K : PySem.W.Frag} {H : Hp} {a : Addr} {xs : List V} (h : SqL K H a xs) : TyX K H (.ref a) (.type "list") := by
  rcases h with (h | ⟨o, h⟩) | ⟨o, its, n, h, c, _⟩
  · exact .base (.lst h)
  · exact .base (.frz h)
  · exact .kList h c
section
variable {X : Cx} {σ : L2.St} {H : Hp} {Q : VK} {pos p2 : Pos} {e b c : Expr}
/-- t[i:j] of a tuple: the whole of it, or a new one -/
def kSl (K : PySem.W.Frag) (x : V) (lo hi : Option Int) (H : Hp) (Q : VK) : Prop := ∃ a xs, x = .ref a ∧ SqT K H a xs ∧ ∀ p H', Same H H' → SqT K H' p (cutV xs lo hi) → Q (.ref p) H'
theorem rSl_of {x : V} {lo hi : Option Int} (h : kSl X.K x lo hi H Q) : rSlA X.K x lo hi H Q := by
  obtain ⟨a, xs, rfl, hs, k⟩ := h
  refine ⟨a, xs, rfl, hs, ?_, ?_⟩
  · rintro ⟨e1, e2⟩
    refine k a H (Same.refl H) ?_
    have e3 : cutV xs lo hi = xs := by
      show (xs.drop (HT.sIx xs.length 0 lo)).take (HT.sIx xs.length xs.length hi - HT.sIx xs.length 0 lo) = xs
      rw [e1, e2, List.drop_zero, Nat.sub_zero, List.take_length]
    rw [e3]
    exact hs
  · intro _ p hp
    exact k p _ (fun b o q => upd_keep hp q) (Or.inl (Or.inl upd_same))
theorem e_slNS (h : wE X e σ H fun x H1 => wE X b σ H1 fun y H2 => ∃ i, y = .int i ∧ kSl X.K x none (some i) H2 Q) : wE X (.Subscript e (.Slice none (some b) none p2) pos) σ H Q :=
  toE (pe_slice sl_tupA pe_self po_none (po_some pe_self)) (wE_mono h fun _ _ k => wE_mono k fun _ _ ⟨i, e1, k2⟩ => ⟨i, e1, rSl_of k2⟩)
theorem e_slSN (h : wE X e σ H fun x H1 => wE X b σ H1 fun y H2 => ∃ i, y = .int i ∧ kSl X.K x (some i) none H2 Q) : wE X (.Subscript e (.Slice (some b) none none p2) pos) σ H Q :=
  toE (pe_slice sl_tupA pe_self (po_some pe_self) po_none) (wE_mono h fun _ _ k => wE_mono k fun _ _ ⟨i, e1, k2⟩ => ⟨i, e1, rSl_of k2⟩)
theorem e_slSS (h : wE X e σ H fun x H1 => wE X b σ H1 fun y H2 => ∃ i, y = .int i ∧ wE X c σ H2 fun z H3 => ∃ j, z = .int j ∧ kSl X.K x (some i) (some j) H3 Q) : wE X (.Subscript e (.Slice (some b) (some c) none p2) pos) σ H Q :=
  toE (pe_slice sl_tupA pe_self (po_some pe_self) (po_some pe_self)) (wE_mono h fun _ _ k => wE_mono k fun _ _ ⟨i, e1, k2⟩ => ⟨i, e1, wE_mono k2 fun _ _ ⟨j, e2, k3⟩ => ⟨j, e2, rSl_of k3⟩⟩)
theorem c_all {a : Addr} {bs : List Bool} (hc : X.calm = true) (h1 : SqL X.K H a (bs.map V.bl)) (h : Q (.bl (bs.all id)) H) : wC X (.builtin "all") [.ref a] H Q := toC (cr_all hc) ⟨a, bs, rfl, h1, h⟩
theorem c_tupL {a : Addr} {xs : List V} (h1 : SqL X.K H a xs) (h : ∀ p, H p = none → Q (.ref p) (upd H p (.tup xs))) : wC X (.type "tuple") [.ref a] H Q := toC call_tuple_of ⟨a, xs, rfl, Or.inl ⟨h1, h⟩⟩
theorem c_lstL {a : Addr} {xs : List V} (h1 : SqL X.K H a xs ∨ SqT X.K H a xs) (h : ∀ p, H p = none → Q (.ref p) (upd H p (.lst xs))) : wC X (.type "list") [.ref a] H Q := toC call_list_of ⟨a, xs, rfl, h1, h⟩
/-- list(range(a)), tuple(range(a)) -/
theorem e_lstR1 {p p3 p4 : Pos} (hc : X.calm = true) (hg : Gl X "list") (hm : X.mg "list" = none) (hg2 : Gl X "range") (hm2 : X.mg "range" = none) (h : wE X b σ H fun y H1 => ∃ n : Nat, y = .int (n : Int) ∧ n ≤ 10000 ∧ ∀ q, H1 q = none → Q (.ref q) (upd H1 q (.lst ((List.range n).map fun (i : Nat) => V.int (i : Int)))))
    (n1 : starEach [b] X.env = (false, eval b X.env) :: starEach [] X.env := by rfl) (n2 : starEach [.Call (.Name "range" p3) [b] [] p4] X.env = (false, eval (.Call (.Name "range" p3) [b] [] p4) X.env) :: starEach [] X.env := by rfl) :
    wE X (.Call (.Name "list" p) [.Call (.Name "range" p3) [b] [] p4] [] pos) σ H Q := by
  refine toE (pe_listRg hc hg hm (prg_1 hg2 hm2 pe_self n1) n2) (wE_mono h ?_)
  rintro y H1 ⟨n, rfl, hn, k⟩
  refine ⟨(n : Int), rfl, RgOk.of_le (by omega) (by omega) (by omega) (by omega), fun q hq => ?_⟩
  have e1 : rgV 0 (n : Int) = (List.range n).map fun (i : Nat) => V.int (i : Int) := by
    unfold rgV
    rw [show ((n : Int) - 0).toNat = n by omega]
    congr 1
    funext i
    rw [Int.zero_add]
  rw [e1]
  exact k q hq
/-- o.append(e) -/
theorem e_app {o : Expr} {apos cpos : Pos} (h : wE X o σ H fun x H1 => tyV X.K "list" x H1 ∧ wE X e σ H1 fun y H2 => ∃ l xs, x = .ref l ∧ H2 l = some (.lst xs) ∧ xs.length < sizeLine ∧ Q .non (upd H2 l (.lst (xs ++ [y]))))
    (n1 : starEach [e] X.env = (false, eval e X.env) :: starEach [] X.env := by rfl) (n2 : attributeBase o "append" X.env (eval o X.env) = eval o X.env := by rfl) (n3 : ((((backTo cpos (starEach [e] X.env)).all fun x => !x.fst) && (backToKw cpos (keywordEach [] X.env)).all fun x => x.fst.isSome) && decide (([e].length + ([] : List Keyword).length + if ([] : List Keyword).isEmpty = true then 0 else 1) < 30)) = true := by rfl) (n4 : (apos.endLine == cpos.line) = true := by rfl) (n5 : ((backTo cpos (starEach [] X.env)).any fun x => x.fst) = false := by rfl) : wE X (.Call (.Attribute o "append" apos) [e] [] cpos) σ H Q := by
  refine toE (pe_bm PySem.F.plainAttrs_list PySem.F.slot_list_append PySem.F.type_list_append mt_append pe_self (pa_cons pe_self pa_nil n1) n2 n3 n4 n1 n5) ?_
  refine wE_mono h ?_
  rintro x H1 ⟨t, k⟩
  refine ⟨t, wE_mono k ?_⟩
  rintro y H2 ⟨l, xs, rfl, hl, hz, q⟩
  exact ⟨l, xs, y, rfl, rfl, hl, hz, q⟩
end
end WX

set_option Elab.async false
set_option linter.all false
set_option maxRecDepth 100000
set_option maxHeartbeats 4000000
namespace WX
open PySem PySem.Spec PyProof.Rows L2
section
variable {X : Cx} {σ : L2.St} {H : Hp} {Q : VK} {D : Ends} {pos : Pos} {e elt iter : Expr} {scope : Scope} {x : Str} {j : Nat} {px : Pos}
theorem noTup_lst {H : Hp} {p : Addr} {xs : List V} (h : H p = some (.lst xs)) : NoTup H p := by
  intro ys
  rw [h]
  refine ⟨?_, ?_⟩
  · intro z
    cases z
  · intro o z
    cases z
/-- for x in a tuple -/
theorem s_forT (i : Nat) {body : List Stmt} (hp : PassesOwn (model X.prog X.w) X.A X.env X.xe) (hc : X.calm = true) (hN : X.N.Nodup) (hi : X.N[i]? = some x) (hx : Loc X.env.scope x)
    (h : wE X e σ H fun v H1 => ∃ a xs, v = .ref a ∧ SqT X.K H1 a xs ∧ ∃ Pv : Nat → L2.St → Hp → Prop, Pv 0 σ H1 ∧ (∀ k σ H, k ≤ xs.length → Pv k σ H → SqT X.K H a xs) ∧
      (∀ k v σ H, xs[k]? = some v → Pv k σ H → wB X body { D with nx := Pv (k + 1), ct := Pv (k + 1), bk := D.nx } (σ.set i (some v)) H) ∧ ∀ σ H, Pv xs.length σ H → D.nx σ H)
    (hs : ∀ x, foldedSetIterable e X.env x = pure x := by intro _; rfl)
    (hf : X.fn x = true ∨ X.env.scope.names.lookup x = some .local := by first | exact .inl rfl | exact .inr rfl | assumption) : wS X (.For (.Name x px) e body [] pos) D σ H := by
  refine toS (ps_for hp hc (pi_tup pe_self) (pg_name hN hi hx hf) pss_self hs) ?_
  refine wE_mono h ?_
  rintro v H1 ⟨a, xs, rfl, hs, Pv, h0, hl, ht, he⟩
  exact ⟨a, rfl, ⟨xs, hs⟩, for_tup Pv h0 hl ht he⟩
/-- for x in a list -/
theorem s_forL (i : Nat) {body : List Stmt} (hp : PassesOwn (model X.prog X.w) X.A X.env X.xe) (hc : X.calm = true) (hN : X.N.Nodup) (hi : X.N[i]? = some x) (hx : Loc X.env.scope x)
    (h : wE X e σ H fun v H1 => ∃ a xs, v = .ref a ∧ SqL X.K H1 a xs ∧ ∃ Pv : Nat → L2.St → Hp → Prop, Pv 0 σ H1 ∧ (∀ k σ H, k ≤ xs.length → Pv k σ H → SqL X.K H a xs) ∧
      (∀ k v σ H, xs[k]? = some v → Pv k σ H → wB X body { D with nx := Pv (k + 1), ct := Pv (k + 1), bk := D.nx } (σ.set i (some v)) H) ∧ ∀ σ H, Pv xs.length σ H → D.nx σ H)
    (hs : ∀ x, foldedSetIterable e X.env x = pure x := by intro _; rfl)
    (hf : X.fn x = true ∨ X.env.scope.names.lookup x = some .local := by first | exact .inl rfl | exact .inr rfl | assumption) : wS X (.For (.Name x px) e body [] pos) D σ H := by
  refine toS (ps_for hp hc (pi_list pe_self) (pg_name hN hi hx hf) pss_self hs) ?_
  refine wE_mono h ?_
  rintro v H1 ⟨a, xs, rfl, hs, Pv, h0, hl, ht, he⟩
  exact ⟨a, rfl, ⟨xs, hs⟩, for_list Pv h0 hl ht he⟩
/-- what is told of the elements, and stands -/
def Stays (R : Nat → V → Hp → Prop) : Prop := ∀ i y p H4 H5, R i y H4 → NoTup H4 p → Ch p H4 H5 → R i y H5
/-- the list under way -/
def Way (R : Nat → V → Hp → Prop) (H1 : Hp) (D : Addr) (i : Nat) (H : Hp) : Prop := Same H1 H ∧ ∃ acc, H D = some (.lst acc) ∧ acc.length = i ∧ ∀ k y, acc[k]? = some y → R k y H
theorem way_0 {R : Nat → V → Hp → Prop} {H1 : Hp} {D : Addr} (h : H1 D = none) : Way R H1 D 0 (upd H1 D (.lst [])) := ⟨(Same.refl H1).new h, [], upd_same, rfl, fun k y z => by simp at z⟩
theorem way_s {R : Nat → V → Hp → Prop} (st : Stays R) {H1 H H4 : Hp} {D : Addr} {i : Nat} {y : V} (h0 : H1 D = none) (hz : i < sizeLine) (w : Way R H1 D i H) (s : Same H H4) (r : R i y H4) :
    ∃ acc, H4 D = some (.lst acc) ∧ acc.length < sizeLine ∧ Way R H1 D (i + 1) (upd H4 D (.lst (acc ++ [y]))) := by
  obtain ⟨sm, acc, hd, hl, ha⟩ := w
  have d4 := s _ _ hd
  refine ⟨acc, d4, by omega, (sm.trans s).ch h0 Ch.refl.put, acc ++ [y], upd_same, by simp [hl], fun k z hk => ?_⟩
  rw [List.getElem?_append] at hk
  split at hk
  · exact st _ _ D _ _ (st _ _ D _ _ (ha k z hk) (noTup_lst hd) (Ch.of s)) (noTup_lst d4) Ch.refl.put
  · rename_i h
    have e1 : k = i := by
      have := (List.getElem?_eq_some_iff.mp hk).1
      simp at this
      omega
    subst e1
    rw [hl, Nat.sub_self] at hk
    simp at hk
    subst hk
    exact st _ _ D _ _ r (noTup_lst d4) Ch.refl.put
theorem lcT_same (h : wE X iter σ H fun v H1 => ∃ a xs, ∃ R : Nat → V → Hp → Prop, v = .ref a ∧ SqT X.K H1 a xs ∧ xs.length < sizeLine ∧ Stays R ∧
      (∀ (i : Nat) (v : V) (H2 : Hp), xs[i]? = some v → Same H1 H2 → wEb X scope elt (σ.set j (some v)) H2 fun y H4 => Same H2 H4 ∧ R i y H4) ∧
      ∀ D H' ys, H1 D = none → Same H1 H' → H' D = some (.lst ys) → ys.length = xs.length → (∀ i y, ys[i]? = some y → R i y H') → Q (.ref D) H') :
    tLc (iTup X.K (wE X iter)) (gName j) tYes (wEb X scope elt) [j] σ H Q := by
  refine lcT_read (wE_mono h ?_)
  rintro v H1 ⟨a, xs, R, rfl, hs, hz, st, k1, k2⟩
  refine ⟨a, xs, rfl, hs, fun D hD => ⟨Way R H1 D, way_0 hD, fun i H _ w => same_tup w.1 hs, fun i v H hv w X' bk => ?_, fun H w => ?_⟩⟩
  · refine wE_mono (k1 i v H hv w.1 X' bk) ?_
    rintro y H4 ⟨s, r⟩
    have := (List.getElem?_eq_some_iff.mp hv).1
    exact way_s st hD (by omega) w s r
  · obtain ⟨sm, acc, hd, hl, ha⟩ := w
    exact k2 D H acc hD sm hd hl ha
theorem lcL_same (h : wE X iter σ H fun v H1 => ∃ a xs, ∃ R : Nat → V → Hp → Prop, v = .ref a ∧ SqL X.K H1 a xs ∧ xs.length < sizeLine ∧ Stays R ∧
      (∀ (i : Nat) (v : V) (H2 : Hp), xs[i]? = some v → Same H1 H2 → wEb X scope elt (σ.set j (some v)) H2 fun y H4 => Same H2 H4 ∧ R i y H4) ∧
      ∀ D H' ys, H1 D = none → Same H1 H' → H' D = some (.lst ys) → ys.length = xs.length → (∀ i y, ys[i]? = some y → R i y H') → Q (.ref D) H') :
    tLc (iList X.K (wE X iter)) (gName j) tYes (wEb X scope elt) [j] σ H Q := by
  refine lcL_read (wE_mono h ?_)
  rintro v H1 ⟨a, xs, R, rfl, hs, hz, st, k1, k2⟩
  refine ⟨a, xs, rfl, hs, fun D hD => ⟨Way R H1 D, way_0 hD, fun i H _ w => w.1.seq hs, fun i v H hv w X' bk => ?_, fun H w => ?_⟩⟩
  · refine wE_mono (k1 i v H hv w.1 X' bk) ?_
    rintro y H4 ⟨s, r⟩
    have := (List.getElem?_eq_some_iff.mp hv).1
    exact way_s st hD (by omega) w s r
  · obtain ⟨sm, acc, hd, hl, ha⟩ := w
    exact k2 D H acc hD sm hd hl ha
/-- [elt for x in range(a)] -/
theorem lcR_same {a : Expr} (h : wE X a σ H fun v H1 => ∃ n : Nat, ∃ R : Nat → V → Hp → Prop, v = .int (n : Int) ∧ n < 10000 ∧ Stays R ∧
      (∀ (i : Nat) (H2 : Hp), i < n → Same H1 H2 → wEb X scope elt (σ.set j (some (.int (i : Int)))) H2 fun y H4 => Same H2 H4 ∧ R i y H4) ∧
      ∀ D H' ys, H1 D = none → Same H1 H' → H' D = some (.lst ys) → ys.length = n → (∀ i y, ys[i]? = some y → R i y H') → Q (.ref D) H')
    (hst : starEach [a] X.env = [(false, eval a X.env)] := by rfl) :
    tLc (iRng1 (wA X [a])) (gName j) tYes (wEb X scope elt) [j] σ H Q := by
  show wA X [a] σ H _
  refine a_cons (wE_mono h ?_) hst
  rintro v H1 ⟨n, R, rfl, hn, st, k1, k2⟩
  refine a_nil ⟨(n : Int), rfl, by omega, by omega, fun D hD => ?_⟩
  have e1 : (n : Int).toNat = n := by omega
  rw [e1]
  refine lc_range (Way R H1 D) (way_0 hD) (fun i H hi w => ?_) (fun H w => ?_)
  · obtain ⟨e2, e3⟩ := wipe_one (σ := σ) (v := .int (i : Int)) (j := j)
    have e4 : (0 : Int) + (i : Int) = (i : Int) := Int.zero_add _
    rw [e4]
    refine ⟨e2, ?_⟩
    rw [e3]
    intro X' bk
    refine wE_mono (k1 i H hi w.1 X' bk) ?_
    rintro y H4 ⟨s, r⟩
    exact way_s st hD (by have : (10000 : Nat) ≤ sizeLine := by decide
                          omega) w s r
  · obtain ⟨sm, acc, hd, hl, ha⟩ := w
    exact k2 D H acc hD sm hd hl ha
variable {N : List Str} {sc : Scope} {k : Nat}
theorem e_lcR {a : Expr} {p1 p2 : Pos} (j : Nat) (B : Bd X N sc k) (ok : BlkOk N sc scope [(x, j)]) (hg : Gl X "range") (hm : X.mg "range" = none) (hj : N[j]? = some x) (hx : scope.names.lookup x = some .local) (h : tLc (iRng1 (wA X [a])) (gName j) tYes (wEb X scope elt) [j] σ H Q) (hst : starEach [a] X.env = [(false, eval a X.env)] := by rfl) (hs : ∀ x, foldedSetIterable (.Call (.Name "range" p1) [a] [] p2) X.env x = pure x := by intro _; rfl) :
    wE X (.ListComp elt [⟨.Name x px, .Call (.Name "range" p1) [a] [] p2, [], 0⟩] scope pos) σ H Q :=
  toE (pe_lc (own := [(x, j)]) B.calm B.nd (pi_range1 hg hm pa_self hst) (by rw [B.hN, B.sc]; exact ok) (pgb_name B.nd (B.slot j hj) hx) (fun _ _ _ _ _ => pts_nil) peb_self hs) h
theorem s_lcR {a : Expr} {p1 p2 : Pos} (j : Nat) {D : Ends} {y : Str} {py spos : Pos} (i : Nat) (B : Bd X N sc k) (ok : BlkOk N sc scope [(x, j)]) (hg : Gl X "range") (hm : X.mg "range" = none) (hj : N[j]? = some x) (hx : scope.names.lookup x = some .local) (hy : X.N[i]? = some y) (hyl : X.env.scope.names.lookup y = some .local)
    (hsw : swapsWith (.ListComp elt [⟨.Name x px, .Call (.Name "range" p1) [a] [] p2, [], 0⟩] scope pos) (some (.Name y py)) spos.line X.env = pure true)
    (h : tLc (iRng1 (wA X [a])) (gName j) tYes (wEb X scope elt) [j] σ H fun v H1 => D.nx (σ.set i (some v)) H1) (hst : starEach [a] X.env = [(false, eval a X.env)] := by rfl) (hs : ∀ x, foldedSetIterable (.Call (.Name "range" p1) [a] [] p2) X.env x = pure x := by intro _; rfl) : wS X (.Assign [.Name y py] (.ListComp elt [⟨.Name x px, .Call (.Name "range" p1) [a] [] p2, [], 0⟩] scope pos) spos) D σ H :=
  toS (ps_setLc (own := [(x, j)]) B.calm B.nd hy hyl hsw (pi_range1 hg hm pa_self hst) (by rw [B.hN, B.sc]; exact ok) (pgb_name B.nd (B.slot j hj) hx) (fun _ _ _ _ _ => pts_nil) peb_self hs) h
end
end WX

set_option Elab.async false
set_option linter.all false
set_option maxRecDepth 100000
set_option maxHeartbeats 4000000
namespace WX
open PySem PySem.Spec PyProof.Rows L2 HT
section
variable {prog : Program} {w : World} {A : Around} {E : Value → Shared → Prop} {s : Shared}
theorem sliceApplied_rev {sl : Addr} {vs : Value} {n : Nat} {Q : Int × Int × Nat → Shared → Prop} (hs : s.heap.IsSliceOf sl .none .none vs) (ps : IsPart vs (some (-1)))
    (h : Q ((n : Int) - 1, -1, n) s) : wpAny (model prog w) A (Builtin.Slice.sliceApplied (.ref sl) (pure (n : Int))) Q E s := by
  obtain ⟨os, hos, hcs, hds⟩ := id hs
  unfold Builtin.Slice.sliceApplied Builtin.Slice.sliceFields
  refine wpAny_bind (wpAny_bind (wpAny_field hos hds (x := .none) rfl (wpAny_bind (wpAny_field hos hds (x := .none) rfl (wpAny_bind (wpAny_field hos hds (x := vs) rfl (wpAny_pure ?_)))))))
  refine wpAny_bind (slicePart_ ps ?_)
  show wpAny _ _ (if ((-1 : Int) == 0) = true then _ else _) _ _ s
  rw [if_neg (by decide)]
  refine wpAny_bind (slicePart_none (wpAny_bind (slicePart_none (wpAny_bind (wpAny_pure ?_)))))
  show wpAny _ _ (match Builtin.Slice.sliceAdjust none none (-1) (n : Int) with | (lo, hi) => pure (lo, (-1 : Int), Builtin.Slice.slicePlaces lo hi (-1))) _ _ s
  have e1 : Builtin.Slice.sliceAdjust none none (-1) (n : Int) = ((n : Int) - 1, -1) := by
    unfold Builtin.Slice.sliceAdjust
    simp
  rw [e1]
  show wpAny _ _ (pure ((n : Int) - 1, (-1 : Int), Builtin.Slice.slicePlaces ((n : Int) - 1) (-1) (-1))) _ _ s
  have e2 : Builtin.Slice.slicePlaces ((n : Int) - 1) (-1) (-1) = n := by
    unfold Builtin.Slice.slicePlaces
    simp
    omega
  rw [e2]
  exact wpAny_pure h
theorem fm_congr {α β : Type} {f g : α → Option β} : ∀ {l : List α}, (∀ m ∈ l, f m = g m) → l.filterMap f = l.filterMap g
  | [], _ => rfl
  | a :: l, h => by
    rw [List.filterMap_cons, List.filterMap_cons, h a (List.mem_cons_self ..), fm_congr (l := l) fun m hm => h m (List.mem_cons_of_mem _ hm)]
theorem fm_all {α : Type} : ∀ (ys : List α), (List.range ys.length).filterMap (fun m => ys[m]?) = ys
  | [] => rfl
  | y :: ys => by
    rw [List.length_cons, List.range_succ_eq_map, List.filterMap_cons, List.filterMap_map]
    show y :: List.filterMap (fun m => ys[m]?) (List.range ys.length) = _
    rw [fm_all ys]
theorem pick_rev (xs : Array Value) : ((List.range xs.size).filterMap fun (m : Nat) => xs[((xs.size : Int) - 1 + (m : Int) * -1).toNat]?).toArray = xs.toList.reverse.toArray := by
  congr 1
  have e1 : ∀ m ∈ List.range xs.size, xs[((xs.size : Int) - 1 + (m : Int) * -1).toNat]? = xs.toList.reverse[m]? := by
    intro m hm
    have hm := List.mem_range.mp hm
    have e2 : ((xs.size : Int) - 1 + (m : Int) * -1).toNat = xs.size - 1 - m := by omega
    rw [e2, List.getElem?_reverse (by simpa using hm), Array.length_toList]
    simp
  rw [fm_congr e1]
  have e3 : xs.size = xs.toList.reverse.length := by simp
  rw [e3]
  exact fm_all _
theorem getItem_tuple_rev {t sl : Addr} {items : Array Value} {vs : Value} {Q : Value → Shared → Prop} (ht : IsTup s.heap t items) (hs : s.heap.IsSliceOf sl .none .none vs) (ps : IsPart vs (some (-1)))
    (h : Q (.ref s.heap.objs.size) { s with heap := s.heap.push { cls := .type "tuple", data := .seq items.toList.reverse.toArray } })
    (hsz : items.size ≤ sizeLine) : wpAny (model prog w) A (getItem (.ref t) (.ref sl)) Q E s := by
  have htake : sizeOk (.seq items.toList.reverse.toArray) := by
    show items.toList.reverse.toArray.size ≤ sizeLine
    rw [List.size_toArray, List.length_reverse, Array.length_toList]
    exact hsz
  obtain ⟨os, hos, hcs, hds⟩ := id hs
  have hTs : s.TypeIs (.ref sl) "slice" := ⟨os, hos, hcs⟩
  unfold getItem
  try with_reducible refine wpAny_holding ?_
  first | refine wpAny_bind (wpAny_pure ?_) | skip
  refine wpAny_bind (wpAny_sequenceKey ht.typeIs (by decide) ?_)
  refine wpAny_bind (wpAny_callSpecial?_slot (name := Str.ofString "__getitem__") ht.typeIs PyProof.Rows.slot_tuple_getitem
    (wpAny_call_entry PyProof.Rows.slot_tuple_getitem ht.typeIs entry_tuple_getitem ?_ (args_tuple_getitem _ _)))
  show wpAny _ _ (Builtin.Tuple.tupleItemsOf (.ref t) >>= _) _ _ s
  refine wpAny_bind (tupleItemsOf_ ht ?_)
  refine wpAny_bind (wpAny_typeOf hTs ?_)
  rw [if_pos (by decide)]
  refine wpAny_bind (sliceApplied_rev hs ps ?_)
  have hno : ¬ ((((items.size : Int) - 1) == 0 && (-1 : Int) == 1 && items.size == items.size) = true) := by
    intro q
    rw [Bool.and_eq_true, Bool.and_eq_true] at q
    exact absurd q.1.2 (by decide)
  show wpAny _ _ (if (((items.size : Int) - 1) == 0 && (-1 : Int) == 1 && items.size == items.size) = true then _ else _) _ _ s
  rw [if_neg hno, pick_rev]
  first
    | exact wpAny_bind (m := Builtin.Tuple.tupleExact _) (wpAny_newObj_type (wpAny_pure ⟨_, rfl, wpAny_pure h⟩) htake)
    | exact wpAny_bind (m := Builtin.Tuple.tupleExact _) (wpAny_newObj_type (wpAny_bind (wpAny_pure (wpAny_pure ⟨_, rfl, wpAny_pure h⟩))) htake)
end
section
variable {X : Cx} {σ : L2.St} {H : Hp} {Q : VK}
/-- t[::-1] -/
theorem e_revT {e : Expr} {k : Nat} {p1 p2 p3 pos : Pos} (h0 : wE X e σ H fun x H1 => ∃ a xs, x = .ref a ∧ SqT X.K H1 a xs ∧ ∀ p, H1 p = none → Q (.ref p) (upd H1 p (.tup xs.reverse))) : wE X (.Subscript e (.Slice none none (some (.UnaryOp .USub (.Constant (.int 1) k p1) p2)) p3) pos) σ H Q := by
  refine ⟨fun pins s I => ?_⟩
  refine Subscript_ (thn (h0.run pins s I) fun v s1 ⟨x, H1, I1, r1, q1⟩ => ?_)
  obtain ⟨a, xs, ex, hx, q⟩ := q1
  subst ex
  cases r1
  have hst : PO X (some (.UnaryOp .USub (.Constant (.int 1) k p1) p2)) (tPart (tUn (rU fun i => .int (-i)) (tC (.int 1)))) := po_some (pe_un un_neg pe_int)
  refine wpAny_Slice (thn (po_none.run pins s1 σ H1 (fun o H2 => o = none ∧ H2 = H1) I1 ⟨rfl, rfl⟩) fun vl s2 ⟨l, H2, I2, pl, el, e2⟩ => ?_)
  subst el e2
  refine thn (po_none.run pins s2 σ H2 (fun o H3 => o = none ∧ H3 = H2) I2 ⟨rfl, rfl⟩) fun vu s3 ⟨u, H3, I3, pu, eu, e3⟩ => ?_
  subst eu e3
  refine thn (hst.run pins s3 σ H3 (fun o H4 => o = some (-1) ∧ H4 = H3) I3 ⟨1, rfl, -1, rfl, rfl, rfl⟩) fun vs s4 ⟨o, H4, I4, ps, eo, e4⟩ => ?_
  subst eo e4
  have I5 : Inv X pins σ H4 { s4 with heap := s4.heap.push { cls := .type "slice", data := .fields #[vl, vu, vs] } } := I4.kept (t' := s4.toks) fun b ob q => Heap.get?_push_of_some _ q
  obtain ⟨its, r, ht, hz⟩ := I5.tuple hx
  have hlen := r.length
  cases pl
  cases pu
  show wpAny (model X.prog X.w) X.A (subscriptTail e (.Slice none none (some (.UnaryOp .USub (.Constant (.int 1) k p1) p2)) p3) (.ref a) (.ref s4.heap.objs.size)) (EP X pins σ Q) X.xe { s4 with heap := s4.heap.push { cls := .type "slice", data := .fields #[.none, .none, vs] } }
  refine tail_any (ops := [.ref a, .ref s4.heap.objs.size]) ht.typeIs (PyProof.Rows.slot_tuple_getitem.lookup) ?_ (by with_unfolding_all rfl)
  refine getItem_tuple_rev ht (Heap.IsSliceOf.new _ .none .none vs) ps ?_ (by rw [List.size_toArray]; omega)
  refine ⟨.ref _, _, I5.laid (t' := s4.toks) (o := .tup xs.reverse) (fun b ob q => Heap.get?_push_of_some _ q) (Nat.le_refl _) ?_, rfl, q _ (I5.hok.fresh (Nat.le_refl _))⟩
  exact ⟨by rw [List.length_reverse]; exact hz, _, r.reverse, IsTup.new _ _⟩
end
end WX
namespace WX
open PySem PySem.Spec PyProof.Rows L2 HT
/-- isinstance of the instances of C -/
structure IsiC (K : PySem.W.Frag) (C : Addr) : Prop where
  cl : PySem.W.findIn K (.ref C) "__class__" = some (some (.builtin "object.__class__"))
  gt : PySem.W.specialIn K (.builtin "object.__class__") "__get__" = some (some (.builtin "getset_descriptor.__get__"))
  tk : PySem.W.takesIn K (.builtin "object.__class__") = some true
  mr : PySem.W.mroIn K C (.type "object") = some true
section
variable {X : Cx} {σ : L2.St} {H : Hp} {Q : VK} {pos : Pos}
theorem ty_ins {K : PySem.W.Frag} {H : Hp} {a C dx : Addr} {fs : List (Str × V)} (c : Cls K C) (i : IsiC K C) (h : H a = some (.ins C dx fs)) : TyX K H (.ref a) (.ref C) := .base (.ins h c i.cl i.gt i.tk i.mr)
theorem kit_own {K : PySem.W.Frag} {C : Addr} : PySem.W.kitOne K (.ref C) (.ref C) = some true := by
  unfold PySem.W.kitOne
  rw [if_pos (beq_self_eq_true _)]
/-- isinstance(x, C) of an instance of C -/
theorem c_isC {a C dx : Addr} {fs : List (Str × V)} (c : Cls X.K C) (i : IsiC X.K C) (h : H a = some (.ins C dx fs)) (q : Q (.bl true) H) : wC X (.builtin "isinstance") [.ref a, .ref C] H Q := toC call_isi ⟨_, _, _, _, true, rfl, .own C, ty_ins c i h, kit_own, q⟩
/-- a name of the top that is a place -/
theorem e_gref {x : Str} {a : Addr} (hg : Gl X x) (hm : X.mg x = some (.ref a)) (h : Q (.ref a) H) (hd : (x == ("__debug__" : Str)) = false := by decide) : wE X (.Name x pos) σ H Q := e_glob hg hm (show RelV (.ref a) (Value.ref a) from rfl) h hd
/-! ### slices with places of the list -/
theorem cut_ij (xs : List V) {i j : Nat} (hi : i ≤ j) (hj : j ≤ xs.length) : cutV xs (some (i : Int)) (some (j : Int)) = (xs.drop i).take (j - i) := by
  unfold cutV
  rw [sIx_nat, sIx_nat, Nat.min_eq_left hj, Nat.min_eq_left (Nat.le_trans hi hj)]
theorem cut_j (xs : List V) {j : Nat} (hj : j ≤ xs.length) : cutV xs none (some (j : Int)) = xs.take j := by
  unfold cutV
  rw [sIx_nat, sIx_none, Nat.min_eq_left hj, List.drop_zero, Nat.sub_zero]
theorem cut_i (xs : List V) {i : Nat} (hi : i ≤ xs.length) : cutV xs (some (i : Int)) none = xs.drop i := by
  unfold cutV
  rw [sIx_nat, sIx_none, Nat.min_eq_left hi, List.take_of_length_le]
  rw [List.length_drop]; omega
/-- t + u -/
theorem o_cat {a b : Addr} {xs ys : List V} (h1 : SqT X.K H a xs) (h2 : SqT X.K H b ys) (hz : xs.length + ys.length ≤ sizeLine) (h : ∀ p H', Same H H' → SqT X.K H' p (xs ++ ys) → Q (.ref p) H') : wO X (binaryOp .Add) (.ref a) (.ref b) H Q := by
  refine toO op_catA ⟨a, b, xs, ys, rfl, rfl, h1, h2, hz, ?_, ?_, ?_⟩
  · rintro rfl
    exact h b H (Same.refl H) h2
  · rintro _ rfl
    exact h a H (Same.refl H) (by rw [List.append_nil]; exact h1)
  · intro _ _ p hp
    exact h p _ ((Same.refl H).new hp) (Or.inl (Or.inl upd_same))
/-! ### equality of data -/
theorem dpa_drop {K : PySem.W.Frag} {H : Hp} : ∀ {xs : List V} {ds : List PyData} (i : Nat), DpAll K H xs ds → DpAll K H (xs.drop i) (ds.drop i)
  | _, _, 0, h => h
  | _, _, i + 1, .nil => .nil
  | _, _, i + 1, .cons _ t => dpa_drop i t
theorem dpa_take {K : PySem.W.Frag} {H : Hp} : ∀ {xs : List V} {ds : List PyData} (i : Nat), DpAll K H xs ds → DpAll K H (xs.take i) (ds.take i)
  | _, _, 0, _ => .nil
  | _, _, i + 1, .nil => .nil
  | _, _, i + 1, .cons a t => .cons a (dpa_take i t)
theorem dpa_app {K : PySem.W.Frag} {H : Hp} : ∀ {xs ys : List V} {ds es : List PyData}, DpAll K H xs ds → DpAll K H ys es → DpAll K H (xs ++ ys) (ds ++ es)
  | _, _, _, _, .nil, h => h
  | _, _, _, _, .cons a t, h => .cons a (dpa_app t h)
end
end WX

set_option Elab.async false
set_option linter.all false
set_option maxRecDepth 100000
set_option maxHeartbeats 4000000
namespace WX
open PySem PySem.Spec PyProof.Rows L2
section
variable {X : Cx} {σ : L2.St} {H : Hp} {Q : VK} {D : Ends} {pos : Pos} {e : Expr} {x y z : Str} {px py pz pt : Pos} {kt : Nat}
theorem pg_t2 (i j : Nat) (hc : X.calm = true) (hN : X.N.Nodup) (hi : X.N[i]? = some x) (hj : X.N[j]? = some y) (hx : X.env.scope.names.lookup x = some .local) (hy : X.env.scope.names.lookup y = some .local) :
    PG X (.Tuple [.Name x px, .Name y py] kt pt) (gTup X.K 2 (gCons (gName i) (gCons (gName j) gNil))) :=
  pg_tup hc (pgs_cons (pg_name hN hi (Or.inl hx) (.inr hx)) (pgs_cons (pg_name hN hj (Or.inl hy) (.inr hy)) pgs_nil))
theorem pg_t3 (i j l : Nat) (hc : X.calm = true) (hN : X.N.Nodup) (hi : X.N[i]? = some x) (hj : X.N[j]? = some y) (hl : X.N[l]? = some z) (hx : X.env.scope.names.lookup x = some .local) (hy : X.env.scope.names.lookup y = some .local) (hz : X.env.scope.names.lookup z = some .local) :
    PG X (.Tuple [.Name x px, .Name y py, .Name z pz] kt pt) (gTup X.K 3 (gCons (gName i) (gCons (gName j) (gCons (gName l) gNil)))) :=
  pg_tup hc (pgs_cons (pg_name hN hi (Or.inl hx) (.inr hx)) (pgs_cons (pg_name hN hj (Or.inl hy) (.inr hy)) (pgs_cons (pg_name hN hl (Or.inl hz) (.inr hz)) pgs_nil)))
theorem pg_t2g (i j : Nat) (hc : X.calm = true) (hN : X.N.Nodup) (hi : X.N[i]? = some x) (hj : X.N[j]? = some y) (F : ∀ x, X.fn x = true) (hx : L2.Loc X.env.scope x) (hy : L2.Loc X.env.scope y) :
    PG X (.Tuple [.Name x px, .Name y py] kt pt) (gTup X.K 2 (gCons (gName i) (gCons (gName j) gNil))) :=
  pg_tup hc (pgs_cons (pg_name hN hi hx (.inl (F x))) (pgs_cons (pg_name hN hj hy (.inl (F y))) pgs_nil))
theorem g2 {i j : Nat} {a : Addr} {u v : V} {R : L2.St → Hp → Prop} (h : SqT X.K H a [u, v]) (q : R ((σ.set i (some u)).set j (some v)) H) : gTup X.K 2 (gCons (gName i) (gCons (gName j) gNil)) (.ref a) σ H R :=
  ⟨a, [u, v], rfl, h, rfl, u, [v], rfl, v, [], rfl, rfl, q⟩
theorem g3 {i j l : Nat} {a : Addr} {u v w : V} {R : L2.St → Hp → Prop} (h : SqT X.K H a [u, v, w]) (q : R (((σ.set i (some u)).set j (some v)).set l (some w)) H) : gTup X.K 3 (gCons (gName i) (gCons (gName j) (gCons (gName l) gNil))) (.ref a) σ H R :=
  ⟨a, [u, v, w], rfl, h, rfl, u, [v, w], rfl, v, [w], rfl, w, [], rfl, rfl, q⟩
/-- x, y = e -/
theorem s_unp2 (i j : Nat) (hc : X.calm = true) (hN : X.N.Nodup) (hi : X.N[i]? = some x) (hj : X.N[j]? = some y) (hx : X.env.scope.names.lookup x = some .local) (hy : X.env.scope.names.lookup y = some .local)
    (h : wE X e σ H fun v H1 => ∃ a u w, v = .ref a ∧ SqT X.K H1 a [u, w] ∧ D.nx ((σ.set i (some u)).set j (some w)) H1)
    (hw : swappedStores [.Tuple [.Name x px, .Name y py] kt pt] e X.env = pure none := by rfl) (hs : swapsWithSole [.Tuple [.Name x px, .Name y py] kt pt] e pos.line X.env = pure false := by rfl) : wS X (.Assign [.Tuple [.Name x px, .Name y py] kt pt] e pos) D σ H := by
  refine toS (ps_asg pe_self (pg_t2 i j hc hN hi hj hx hy) hs hw) ?_
  refine wE_mono h ?_
  rintro v H1 ⟨a, u, w, rfl, h1, h2⟩
  exact g2 h1 h2
/-- x, y, z = a, b, c -/
theorem s_par3 (i j l : Nat) {a b c : Expr} {k2 : Nat} {pt2 : Pos} (hc : X.calm = true) (hN : X.N.Nodup) (hi : X.N[i]? = some x) (hj : X.N[j]? = some y) (hl : X.N[l]? = some z) (hij : i ≠ j) (hil : i ≠ l) (hjl : j ≠ l) (hx : X.env.scope.names.lookup x = some .local) (hy : X.env.scope.names.lookup y = some .local) (hz : X.env.scope.names.lookup z = some .local)
    (hw : swappedStores [.Tuple [.Name x px, .Name y py, .Name z pz] kt pt] (.Tuple [a, b, c] k2 pt2) X.env = pure (some [x, y, z]))
    (h : wA X [a, b, c] σ H fun vs H1 => ∃ u v w, vs = [u, v, w] ∧ D.nx (((σ.set i (some u)).set j (some v)).set l (some w)) H1)
    (hs : swapsWithSole [.Tuple [.Name x px, .Name y py, .Name z pz] kt pt] (.Tuple [a, b, c] k2 pt2) pos.line X.env = pure false := by rfl) : wS X (.Assign [.Tuple [.Name x px, .Name y py, .Name z pz] kt pt] (.Tuple [a, b, c] k2 pt2) pos) D σ H :=
  toS (ps_par3 hc hN hi hj hl hij hil hjl hx hy hz pa_self hw hs) h
/-- for (tg) in a list -/
theorem s_forLg {tg : Expr} {g : TG} {body : List Stmt} (pg : PG X tg g) (hp : PassesOwn (model X.prog X.w) X.A X.env X.xe) (hc : X.calm = true)
    (h : wE X e σ H fun v H1 => ∃ a xs, v = .ref a ∧ SqL X.K H1 a xs ∧ ∃ Pv : Nat → L2.St → Hp → Prop, Pv 0 σ H1 ∧ (∀ k σ H, k ≤ xs.length → Pv k σ H → SqL X.K H a xs) ∧
      (∀ k v σ H, xs[k]? = some v → Pv k σ H → g v σ H fun σ2 H2 => wB X body { D with nx := Pv (k + 1), ct := Pv (k + 1), bk := D.nx } σ2 H2) ∧ ∀ σ H, Pv xs.length σ H → D.nx σ H)
    (hs : ∀ x, foldedSetIterable e X.env x = pure x := by intro _; rfl) : wS X (.For tg e body [] pos) D σ H := by
  refine toS (ps_for hp hc (pi_list pe_self) pg pss_self hs) ?_
  refine wE_mono h ?_
  rintro v H1 ⟨a, xs, rfl, hs, Pv, h0, hl, ht, he⟩
  exact ⟨a, rfl, ⟨xs, hs⟩, for_list Pv h0 hl ht he⟩
theorem s_forTg {tg : Expr} {g : TG} {body : List Stmt} (pg : PG X tg g) (hp : PassesOwn (model X.prog X.w) X.A X.env X.xe) (hc : X.calm = true)
    (h : wE X e σ H fun v H1 => ∃ a xs, v = .ref a ∧ SqT X.K H1 a xs ∧ ∃ Pv : Nat → L2.St → Hp → Prop, Pv 0 σ H1 ∧ (∀ k σ H, k ≤ xs.length → Pv k σ H → SqT X.K H a xs) ∧
      (∀ k v σ H, xs[k]? = some v → Pv k σ H → g v σ H fun σ2 H2 => wB X body { D with nx := Pv (k + 1), ct := Pv (k + 1), bk := D.nx } σ2 H2) ∧ ∀ σ H, Pv xs.length σ H → D.nx σ H)
    (hs : ∀ x, foldedSetIterable e X.env x = pure x := by intro _; rfl) : wS X (.For tg e body [] pos) D σ H := by
  refine toS (ps_for hp hc (pi_tup pe_self) pg pss_self hs) ?_
  refine wE_mono h ?_
  rintro v H1 ⟨a, xs, rfl, hs, Pv, h0, hl, ht, he⟩
  exact ⟨a, rfl, ⟨xs, hs⟩, for_tup Pv h0 hl ht he⟩
/-- for i, x in enumerate(list) -/
theorem s_forEn (i j : Nat) {p2 p3 : Pos} {body : List Stmt} (hg : Gl X "enumerate") (hm : X.mg "enumerate" = none) (hp : PassesOwn (model X.prog X.w) X.A X.env X.xe) (hc : X.calm = true) (hN : X.N.Nodup) (hi : X.N[i]? = some x) (hj : X.N[j]? = some y) (F : ∀ x, X.fn x = true) (hx : L2.Loc X.env.scope x) (hy : L2.Loc X.env.scope y)
    (h : wE X e σ H fun v H1 => ∃ a xs, v = .ref a ∧ SqL X.K H1 a xs ∧ ∃ Pv : Nat → L2.St → Hp → Prop, Pv 0 σ H1 ∧ (∀ k σ H, k ≤ xs.length → Pv k σ H → SqL X.K H a xs) ∧
      (∀ k v σ H T, xs[k]? = some v → Pv k σ H → H T = none → wB X body { D with nx := Pv (k + 1), ct := Pv (k + 1), bk := D.nx } ((σ.set i (some (.int (k : Int)))).set j (some v)) (upd H T (.tup [.int (k : Int), v]))) ∧ ∀ σ H, Pv xs.length σ H → D.nx σ H)
    (hst : starEach [e] X.env = [(false, eval e X.env)] := by rfl)
    (hs : ∀ z, foldedSetIterable (.Call (.Name "enumerate" p2) [e] [] p3) X.env z = pure z := by intro _; rfl) : wS X (.For (.Tuple [.Name x px, .Name y py] kt pt) (.Call (.Name "enumerate" p2) [e] [] p3) body [] pos) D σ H := by
  refine toS (ps_for hp hc (pi_enum hg hm pa_self hst) (pg_t2g i j hc hN hi hj F hx hy) pss_self hs) ?_
  show wA X [e] σ H _
  refine a_cons (wE_mono h ?_) hst
  rintro v H1 ⟨a, xs, rfl, hs, Pv, h0, hl, ht, he⟩
  refine a_nil ⟨a, xs, rfl, hs, for_it walk_enum Pv h0 hl ?_ he⟩
  rintro k v σ H H' hk hP ⟨T, u, w, rfl, hT, rfl, hu, hw⟩
  cases hu
  exact g2 (SqT.of upd_same) (ht k w σ H T hw hP hT)
/-- x, y = e, names of cells among them -/
theorem s_unp2g (i j : Nat) (hc : X.calm = true) (hN : X.N.Nodup) (hi : X.N[i]? = some x) (hj : X.N[j]? = some y) (F : ∀ x, X.fn x = true) (hx : L2.Loc X.env.scope x) (hy : L2.Loc X.env.scope y)
    (hw : swappedStores [.Tuple [.Name x px, .Name y py] kt pt] e X.env = pure none)
    (h : wE X e σ H fun v H1 => ∃ a u w, v = .ref a ∧ SqT X.K H1 a [u, w] ∧ D.nx ((σ.set i (some u)).set j (some w)) H1)
    (hs : swapsWithSole [.Tuple [.Name x px, .Name y py] kt pt] e pos.line X.env = pure false := by rfl) : wS X (.Assign [.Tuple [.Name x px, .Name y py] kt pt] e pos) D σ H := by
  refine toS (ps_asg pe_self (pg_t2g i j hc hN hi hj F hx hy) hs hw) ?_
  refine wE_mono h ?_
  rintro v H1 ⟨a, u, w, rfl, h1, h2⟩
  exact g2 h1 h2
/-- xs.index(e) -/
theorem e_index {o : Expr} {apos cpos : Pos} (h : wE X o σ H fun x H1 => tyV X.K "list" x H1 ∧ wE X e σ H1 fun y H2 => ∃ (a : Addr) (ys : List V) (j : Nat) (z : V), x = .ref a ∧ SqL X.K H2 a ys ∧ flatV y = true ∧ ys.all flatV = true ∧ ys[j]? = some z ∧ eqV z y = true ∧ (∀ (m : Nat) (z' : V), m < j → ys[m]? = some z' → eqV z' y = false) ∧ Q (.int (j : Int)) H2)
    (n1 : starEach [e] X.env = (false, eval e X.env) :: starEach [] X.env := by rfl) (n2 : attributeBase o "index" X.env (eval o X.env) = eval o X.env := by rfl) (n3 : ((((backTo cpos (starEach [e] X.env)).all fun x => !x.fst) && (backToKw cpos (keywordEach [] X.env)).all fun x => x.fst.isSome) && decide (([e].length + ([] : List Keyword).length + if ([] : List Keyword).isEmpty = true then 0 else 1) < 30)) = true := by rfl) (n4 : (apos.endLine == cpos.line) = true := by rfl) (n5 : ((backTo cpos (starEach [] X.env)).any fun x => x.fst) = false := by rfl) : wE X (.Call (.Attribute o "index" apos) [e] [] cpos) σ H Q := by
  refine toE (pe_bm PySem.F.plainAttrs_list PySem.F.slot_list_index PySem.F.type_list_index mt_index pe_self (pa_cons pe_self pa_nil n1) n2 n3 n4 n1 n5) ?_
  refine wE_mono h ?_
  rintro x H1 ⟨t, k⟩
  refine ⟨t, wE_mono k ?_⟩
  rintro y H2 ⟨a, ys, j, z, rfl, h1, h2, h3, h4, h5, h6, q⟩
  exact ⟨a, ys, y, j, z, rfl, rfl, h1, h2, h3, h4, h5, h6, q⟩
/-- xs[:-1] -/
theorem cut_m1 (xs : List V) : cutV xs none (some (-1)) = xs.take (xs.length - 1) := by
  unfold cutV
  have e : HT.sIx xs.length xs.length (some (-1)) = xs.length - 1 := by
    show (if (-1 : Int) < 0 then ((-1 : Int) + (xs.length : Int)).toNat else min (-1 : Int).toNat xs.length) = _
    rw [if_pos (by decide)]
    omega
  rw [e, HT.sIx_none, List.drop_zero, Nat.sub_zero]
theorem eqv_ints : ∀ ns ms : List Int, PyData.eqvAll (ns.map PyData.int) (ms.map PyData.int) = decide (ns = ms)
  | [], [] => by rfl
  | [], t :: ts => by rfl
  | s :: ss, [] => by rfl
  | s :: ss, t :: ts => by
    show ((s == t) && PyData.eqvAll (ss.map PyData.int) (ts.map PyData.int)) = _
    rw [eqv_ints ss ts, Bool.eq_iff_iff]
    simp
theorem lay_ints : ∀ ns : List Int, PyData.canLayAll0 (ns.map PyData.int) = true
  | [] => rfl
  | s :: ss => by
    show (true && PyData.canLayAll0 (ss.map PyData.int)) = true
    rw [lay_ints ss]; rfl
theorem depth_ints : ∀ ns : List Int, PyData.depthAll (ns.map PyData.int) ≤ 10
  | [] => by decide
  | s :: ss => by
    have := depth_ints ss
    have e : PyData.depth (PyData.int s) ≤ 10 := by simp [PyData.depth]
    simp only [List.map_cons, PyData.depthAll]
    omega
theorem shaped_intsT (ns : List Int) : SeqAt.shaped (.tuple (ns.map PyData.int)) = true := by
  unfold SeqAt.shaped
  rw [show PyData.canLay0 (.tuple (ns.map PyData.int)) = true by show PyData.canLayAll0 _ = true; exact lay_ints ns, Bool.true_and]
  have := depth_ints ns
  exact decide_eq_true (by simp only [PyData.depth]; omega)
theorem shaped_intsL (ns : List Int) : SeqAt.shaped (.list (ns.map PyData.int)) = true := by
  unfold SeqAt.shaped
  rw [show PyData.canLay0 (.list (ns.map PyData.int)) = true by show PyData.canLayAll0 _ = true; exact lay_ints ns, Bool.true_and]
  have := depth_ints ns
  exact decide_eq_true (by simp only [PyData.depth]; omega)
/-- tuples and lists of integers, one against the other -/
theorem o_neT {a b : Addr} {ns ms : List Int} (hu : X.A.units + 64 < cLine) (h1 : SqT X.K H a (ns.map V.int)) (h2 : SqT X.K H b (ms.map V.int)) (h : Q (.bl (!decide (ns = ms))) H) : wO X (compareOp .NotEq) (.ref a) (.ref b) H Q := by
  refine o_neD hu (.tup h1 (dp_ints ns)) (.tup h2 (dp_ints ms)) (shaped_intsT ns) (shaped_intsT ms) ?_
  rw [show PyData.eqv (.tuple (ns.map PyData.int)) (.tuple (ms.map PyData.int)) = decide (ns = ms) from eqv_ints ns ms]
  exact h
theorem o_neL {a b : Addr} {ns ms : List Int} (hu : X.A.units + 64 < cLine) (h1 : SqL X.K H a (ns.map V.int)) (h2 : SqL X.K H b (ms.map V.int)) (h : Q (.bl (!decide (ns = ms))) H) : wO X (compareOp .NotEq) (.ref a) (.ref b) H Q := by
  refine o_neD hu (.lst h1 (dp_ints ns)) (.lst h2 (dp_ints ms)) (shaped_intsL ns) (shaped_intsL ms) ?_
  rw [show PyData.eqv (.list (ns.map PyData.int)) (.list (ms.map PyData.int)) = decide (ns = ms) from eqv_ints ns ms]
  exact h
end
end WX

set_option Elab.async false
set_option linter.all false
set_option maxRecDepth 100000
set_option maxHeartbeats 4000000
namespace K10
open PySem PySem.Spec PyProof.Rows L2 WX
def top (i : Nat) : Stmt := PySem.Challenge.pw_renamedown_k10_whole_paths_of_things.main.body.getD i (.Pass ⟨0, 0, 0, 0⟩)
def big__TOO_LONG : Int := 100000000000000000000000000000000000000000000000000000000000000000000000000000000000000000000000000000000000000000000000000000000000000000000000000000000000000000000000000000000000000000000000000000000
abbrev S_is_integer : Stmt := top 11
abbrev N_is_integer : List Str := ["value"]
theorem sc_is_integer : FnScope N_is_integer ["value"] (defScope S_is_integer) := ⟨rfl, rfl, rfl, by decide +kernel, rfl, by decide +kernel, by decide +kernel⟩
abbrev S_is_owner : Stmt := top 12
abbrev N_is_owner : List Str := ["value"]
theorem sc_is_owner : FnScope N_is_owner ["value"] (defScope S_is_owner) := ⟨rfl, rfl, rfl, by decide +kernel, rfl, by decide +kernel, by decide +kernel⟩
abbrev S_is_below : Stmt := top 13
abbrev N_is_below : List Str := ["limit", "value"]
theorem sc_is_below : FnScope N_is_below ["limit", "value"] (defScope S_is_below) := ⟨rfl, rfl, rfl, by decide +kernel, rfl, by decide +kernel, by decide +kernel⟩
abbrev S_check_number : Stmt := top 14
abbrev N_check_number : List Str := ["value", "least", "most"]
theorem sc_check_number : FnScope N_check_number ["value", "least", "most"] (defScope S_check_number) := ⟨rfl, rfl, rfl, by decide +kernel, rfl, by decide +kernel, by decide +kernel⟩
abbrev S_check_places : Stmt := top 15
abbrev N_check_places : List Str := ["places"]
theorem sc_check_places : FnScope N_check_places ["places"] (defScope S_check_places) := ⟨rfl, rfl, rfl, by decide +kernel, rfl, by decide +kernel, by decide +kernel⟩
abbrev S_is_exchange : Stmt := top 16
abbrev N_is_exchange : List Str := ["places", "value"]
theorem sc_is_exchange : FnScope N_is_exchange ["places", "value"] (defScope S_is_exchange) := ⟨rfl, rfl, rfl, by decide +kernel, rfl, by decide +kernel, by decide +kernel⟩
abbrev S_is_step : Stmt := top 17
abbrev N_is_step : List Str := ["places", "value"]
theorem sc_is_step : FnScope N_is_step ["places", "value"] (defScope S_is_step) := ⟨rfl, rfl, rfl, by decide +kernel, rfl, by decide +kernel, by decide +kernel⟩
abbrev S_place_behind : Stmt := top 18
abbrev N_place_behind : List Str := ["place", "exchange"]
theorem sc_place_behind : FnScope N_place_behind ["place", "exchange"] (defScope S_place_behind) := ⟨rfl, rfl, rfl, by decide +kernel, rfl, by decide +kernel, by decide +kernel⟩
abbrev S__are_steps : Stmt := top 21
abbrev N__are_steps : List Str := ["places", "value", "step"]
theorem sc__are_steps : FnScope N__are_steps ["places", "value"] (defScope S__are_steps) := ⟨rfl, rfl, rfl, by decide +kernel, rfl, by decide +kernel, by decide +kernel⟩
abbrev S__law_dice : Stmt := top 24
abbrev N__law_dice : List Str := ["script", "spot", "cell", "left"]
theorem sc__law_dice : FnScope N__law_dice ["script", "spot"] (defScope S__law_dice) := ⟨rfl, rfl, rfl, by decide +kernel, rfl, by decide +kernel, by decide +kernel⟩
abbrev S__law_roll : Stmt := top 25
abbrev N__law_roll : List Str := ["dice", "total", "found", "one", "two"]
theorem sc__law_roll : FnScope N__law_roll ["dice", "total"] (defScope S__law_roll) := ⟨rfl, rfl, rfl, by decide +kernel, rfl, by decide +kernel, by decide +kernel⟩
abbrev S__law_pick : Stmt := top 26
abbrev N__law_pick : List Str := ["dice", "items"]
theorem sc__law_pick : FnScope N__law_pick ["dice", "items"] (defScope S__law_pick) := ⟨rfl, rfl, rfl, by decide +kernel, rfl, by decide +kernel, by decide +kernel⟩
abbrev S__law_exchange : Stmt := top 27
abbrev N__law_exchange : List Str := ["dice", "places", "one", "other"]
theorem sc__law_exchange : FnScope N__law_exchange ["dice", "places"] (defScope S__law_exchange) := ⟨rfl, rfl, rfl, by decide +kernel, rfl, by decide +kernel, by decide +kernel⟩
abbrev S__law_drawn_steps : Stmt := top 28
abbrev N__law_drawn_steps : List Str := ["dice", "places", "many", "owners", "found", "turn", "one", "other"]
theorem sc__law_drawn_steps : FnScope N__law_drawn_steps ["dice", "places", "many", "owners"] (defScope S__law_drawn_steps) := ⟨rfl, rfl, rfl, by decide +kernel, rfl, by decide +kernel, by decide +kernel⟩
abbrev S__law_small : Stmt := top 29
abbrev N__law_small : List Str := ["dice", "most", "many", "places", "owners"]
theorem sc__law_small : FnScope N__law_small ["dice", "most", "many"] (defScope S__law_small) := ⟨rfl, rfl, rfl, by decide +kernel, rfl, by decide +kernel, by decide +kernel⟩
abbrev S__law_great : Stmt := top 30
abbrev N__law_great : List Str := ["dice", "places", "many", "owners", "found", "cut", "turn", "low", "one", "other"]
theorem sc__law_great : FnScope N__law_great ["dice"] (defScope S__law_great) := ⟨rfl, rfl, rfl, by decide +kernel, rfl, by decide +kernel, by decide +kernel⟩
abbrev S__law_made_row : Stmt := top 31
abbrev N__law_made_row : List Str := ["places", "steps"]
theorem sc__law_made_row : FnScope N__law_made_row ["places", "steps"] (defScope S__law_made_row) := ⟨rfl, rfl, rfl, by decide +kernel, rfl, by decide +kernel, by decide +kernel⟩
abbrev S__law_row_here : Stmt := top 32
abbrev N__law_row_here : List Str := ["dice"]
theorem sc__law_row_here : FnScope N__law_row_here ["dice"] (defScope S__law_row_here) := ⟨rfl, rfl, rfl, by decide +kernel, rfl, by decide +kernel, by decide +kernel⟩
abbrev S__law_lies : Stmt := top 33
abbrev N__law_lies : List Str := ["places", "steps", "found", "one", "other", "owner", "lies"]
theorem sc__law_lies : FnScope N__law_lies ["places", "steps"] (defScope S__law_lies) := ⟨rfl, rfl, rfl, by decide +kernel, rfl, by decide +kernel, by decide +kernel⟩
abbrev S__law_right : Stmt := top 34
abbrev N__law_right : List Str := ["dice", "places", "steps", "row", "lies", "thing", "path", "now", "index", "cut", "head", "tail", "place"]
theorem sc__law_right : FnScope N__law_right ["dice"] (defScope S__law_right) := ⟨rfl, rfl, rfl, by decide +kernel, rfl, by decide +kernel, by decide +kernel⟩
abbrev S_law : Stmt := top 35
abbrev N_law : List Str := ["script", "spot", "dice", "turn", "trio"]
theorem sc_law : FnScope N_law ["script"] (defScope S_law) := ⟨rfl, rfl, rfl, by decide +kernel, rfl, by decide +kernel, by decide +kernel⟩
abbrev S_Row___init__ : Stmt := inClass (top 22) 0
abbrev N_Row___init__ : List Str := ["self", "places", "steps"]
theorem sc_Row___init__ : FnScope N_Row___init__ ["self", "places", "steps"] (defScope S_Row___init__) := ⟨rfl, rfl, rfl, by decide +kernel, rfl, by decide +kernel, by decide +kernel⟩
abbrev S_Row_deed : Stmt := inClass (top 22) 7
abbrev N_Row_deed : List Str := ["self", "place"]
theorem sc_Row_deed : FnScope N_Row_deed ["self"] (defScope S_Row_deed) := ⟨rfl, rfl, rfl, by decide +kernel, rfl, by decide +kernel, by decide +kernel⟩
abbrev S_Row_path : Stmt := inClass (top 22) 8
abbrev N_Row_path : List Str := ["self", "place", "stops", "step"]
theorem sc_Row_path : FnScope N_Row_path ["self", "place"] (defScope S_Row_path) := ⟨rfl, rfl, rfl, by decide +kernel, rfl, by decide +kernel, by decide +kernel⟩
abbrev S_Row_thing_at : Stmt := inClass (top 22) 9
abbrev N_Row_thing_at : List Str := ["self", "place", "index", "thing", "step"]
theorem sc_Row_thing_at : FnScope N_Row_thing_at ["self", "place", "index"] (defScope S_Row_thing_at) := ⟨rfl, rfl, rfl, by decide +kernel, rfl, by decide +kernel, by decide +kernel⟩
abbrev S_Row_part : Stmt := inClass (top 22) 12
abbrev N_Row_part : List Str := ["self", "first", "last"]
theorem sc_Row_part : FnScope N_Row_part ["self", "first", "last"] (defScope S_Row_part) := ⟨rfl, rfl, rfl, by decide +kernel, rfl, by decide +kernel, by decide +kernel⟩
abbrev S_Row___add__ : Stmt := inClass (top 22) 17
abbrev N_Row___add__ : List Str := ["self", "other"]
theorem sc_Row___add__ : FnScope N_Row___add__ ["self", "other"] (defScope S_Row___add__) := ⟨rfl, rfl, rfl, by decide +kernel, rfl, by decide +kernel, by decide +kernel⟩
abbrev S_Row___eq__ : Stmt := inClass (top 22) 22
abbrev N_Row___eq__ : List Str := ["self", "other"]
theorem sc_Row___eq__ : FnScope N_Row___eq__ ["self", "other"] (defScope S_Row___eq__) := ⟨rfl, rfl, rfl, by decide +kernel, rfl, by decide +kernel, by decide +kernel⟩
/-- what the top has left -/
structure Tx (K : PySem.W.Frag) (mg : Str → Option Value) (C_Row : Addr) : Prop where
  z_abs : mg "abs" = none
  z_all : mg "all" = none
  z_bool : mg "bool" = none
  z_enumerate : mg "enumerate" = none
  z_int : mg "int" = none
  z_isinstance : mg "isinstance" = none
  z_len : mg "len" = none
  z_list : mg "list" = none
  z_max : mg "max" = none
  z_min : mg "min" = none
  z_range : mg "range" = none
  z_str : mg "str" = none
  z_tuple : mg "tuple" = none
  c_MAX_PLACES : ∃ t : Tok, mg "MAX_PLACES" = some (Value.int 12 t)
  c_MAX_STEPS : ∃ t : Tok, mg "MAX_STEPS" = some (Value.int 24 t)
  c__TOO_LONG : ∃ t : Tok, mg "_TOO_LONG" = some (Value.int big__TOO_LONG t)
  k_Row : mg "Row" = some (.ref C_Row)
  cl_Row : Cls K C_Row
  na_Row__places : NoAttr K C_Row "_places"
  na_Row__steps : NoAttr K C_Row "_steps"
  ic_Row : IsiC K C_Row
  sf_Row : PySem.W.selfFirst K C_Row = true
  d_is_integer : ∃ f fd, L2.Fun K "is_integer" "is_integer" S_is_integer f fd ∧ mg "is_integer" = some (.ref f)
  d_is_owner : ∃ f fd, L2.Fun K "is_owner" "is_owner" S_is_owner f fd ∧ mg "is_owner" = some (.ref f)
  d_is_below : ∃ f fd, L2.Fun K "is_below" "is_below" S_is_below f fd ∧ mg "is_below" = some (.ref f)
  d_check_number : ∃ f fd, L2.Fun K "check_number" "check_number" S_check_number f fd ∧ mg "check_number" = some (.ref f)
  d_check_places : ∃ f fd, L2.Fun K "check_places" "check_places" S_check_places f fd ∧ mg "check_places" = some (.ref f)
  d_is_exchange : ∃ f fd, L2.Fun K "is_exchange" "is_exchange" S_is_exchange f fd ∧ mg "is_exchange" = some (.ref f)
  d_is_step : ∃ f fd, L2.Fun K "is_step" "is_step" S_is_step f fd ∧ mg "is_step" = some (.ref f)
  d_place_behind : ∃ f fd, L2.Fun K "place_behind" "place_behind" S_place_behind f fd ∧ mg "place_behind" = some (.ref f)
  d__are_steps : ∃ f fd, L2.Fun K "_are_steps" "_are_steps" S__are_steps f fd ∧ mg "_are_steps" = some (.ref f)
  d__law_dice : ∃ f fd, L2.Fun K "_law_dice" "_law_dice" S__law_dice f fd ∧ mg "_law_dice" = some (.ref f)
  d__law_roll : ∃ f fd, L2.Fun K "_law_roll" "_law_roll" S__law_roll f fd ∧ mg "_law_roll" = some (.ref f)
  d__law_pick : ∃ f fd, L2.Fun K "_law_pick" "_law_pick" S__law_pick f fd ∧ mg "_law_pick" = some (.ref f)
  d__law_exchange : ∃ f fd, L2.Fun K "_law_exchange" "_law_exchange" S__law_exchange f fd ∧ mg "_law_exchange" = some (.ref f)
  d__law_drawn_steps : ∃ f fd, L2.Fun K "_law_drawn_steps" "_law_drawn_steps" S__law_drawn_steps f fd ∧ mg "_law_drawn_steps" = some (.ref f)
  d__law_small : ∃ f fd, L2.Fun K "_law_small" "_law_small" S__law_small f fd ∧ mg "_law_small" = some (.ref f)
  d__law_great : ∃ f fd, L2.Fun K "_law_great" "_law_great" S__law_great f fd ∧ mg "_law_great" = some (.ref f)
  d__law_made_row : ∃ f fd, L2.Fun K "_law_made_row" "_law_made_row" S__law_made_row f fd ∧ mg "_law_made_row" = some (.ref f)
  d__law_row_here : ∃ f fd, L2.Fun K "_law_row_here" "_law_row_here" S__law_row_here f fd ∧ mg "_law_row_here" = some (.ref f)
  d__law_lies : ∃ f fd, L2.Fun K "_law_lies" "_law_lies" S__law_lies f fd ∧ mg "_law_lies" = some (.ref f)
  d__law_right : ∃ f fd, L2.Fun K "_law_right" "_law_right" S__law_right f fd ∧ mg "_law_right" = some (.ref f)
  d_Row___init__ : ∃ f fd t0, L2.FunD K "__init__" "Row.__init__" (defArgs S_Row___init__) (defBody S_Row___init__) (defScope S_Row___init__) [.ref t0] [] f fd ∧ Mk K C_Row f ∧ ∃ dd sl n0, K.lookup t0 = some ⟨.type "tuple", dd, .seq #[] n0, sl⟩
  d_Row_deed : ∃ p f fd, L2.Fun K "deed" "Row.deed" S_Row_deed f fd ∧ PropOf K C_Row "deed" p f
  d_Row_path : ∃ f fd, L2.Fun K "path" "Row.path" S_Row_path f fd ∧ Meth K C_Row "path" f
  d_Row_thing_at : ∃ f fd, L2.Fun K "thing_at" "Row.thing_at" S_Row_thing_at f fd ∧ Meth K C_Row "thing_at" f
  d_Row_part : ∃ f fd, L2.Fun K "part" "Row.part" S_Row_part f fd ∧ Meth K C_Row "part" f
  d_Row___add__ : ∃ f fd, L2.Fun K "__add__" "Row.__add__" S_Row___add__ f fd ∧ Meth K C_Row "__add__" f
  d_Row___eq__ : ∃ f fd, L2.Fun K "__eq__" "Row.__eq__" S_Row___eq__ f fd ∧ Meth K C_Row "__eq__" f

local macro_rules | `(tactic| walk_at "kit") => `(tactic| with_reducible first | exact kit_NoneType_int | exact kit_NoneType_bool | exact kit_NoneType_str | exact kit_NoneType_tuple | exact kit_NoneType_list | exact kit_NoneType_dict | exact kit_bool_int | exact kit_bool_bool | exact kit_bool_str | exact kit_bool_tuple | exact kit_bool_list | exact kit_bool_dict | exact kit_int_int | exact kit_int_bool | exact kit_int_str | exact kit_int_tuple | exact kit_int_list | exact kit_int_dict | exact kit_str_int | exact kit_str_bool | exact kit_str_str | exact kit_str_tuple | exact kit_str_list | exact kit_str_dict | exact kit_list_int | exact kit_list_bool | exact kit_list_str | exact kit_list_tuple | exact kit_list_list | exact kit_list_dict | exact kit_tuple_int | exact kit_tuple_bool | exact kit_tuple_str | exact kit_tuple_tuple | exact kit_tuple_list | exact kit_tuple_dict | exact kit_dict_int | exact kit_dict_bool | exact kit_dict_str | exact kit_dict_tuple | exact kit_dict_list | exact kit_dict_dict)
local macro_rules | `(tactic| walk_at "nm") => `(tactic| first
  | (refine' e_lo _ ?nm ?lc ?sl ?_; (case nm => with_reducible assumption); (case lc => with_reducible assumption); (case sl => rfl))
  | (refine' e_ce _ ?nm ?lc ?sl ?_; (case nm => with_reducible assumption); (case lc => with_reducible assumption); (case sl => rfl))
  | (refine' e_gi ?g ?m ?_; (case g => with_reducible assumption); (case m => with_reducible assumption))
  | (refine' e_ty ?g ?m ?v ?_; (case g => with_reducible assumption); (case m => with_reducible assumption); (case v => with_reducible assumption)))
local macro_rules | `(tactic| walk_at "ex") => `(tactic| first
  | refine e_int ?_ | refine e_bl ?_ | refine e_str ?_ | refine e_non ?_
  | walk_at "nm"
  | refine e_bin ?_ | refine e_not ?_ | refine e_un ?_ | refine e_cmpn ?_ | refine e_chain ?_
  | refine e_dict_i ?_ | refine e_dict_s ?_ | refine e_one ?_ | refine e_and ?_ | refine e_or ?_ | refine e_if ?_ | refine e_ixp ?_ | refine e_tup ?_ | refine e_lst ?_
  | (refine' e_callB ?g ?m ?v ?_; (case g => with_reducible assumption); (case m => with_reducible assumption); (case v => with_reducible assumption))
  | (refine' e_callT ?g ?m ?v ?_; (case g => with_reducible assumption); (case m => with_reducible assumption); (case v => with_reducible assumption)))
local macro_rules | `(tactic| walk_at "op") => `(tactic| first
  | refine o_add ?_ | refine o_sub ?_ | refine o_lt ?_ | refine o_le ?_ | refine o_gt ?_ | refine o_ge ?_ | refine o_neg ?_
  | refine o_mod (by omega) ?_ | refine o_eq rfl ?_ | refine o_ne rfl ?_
  | refine o_pow ⟨by decide, by decide, by decide⟩ ?_
  | refine c_abs ?_ | refine c_int ?_ | refine c_intb ?_ | refine c_max ‹Bd _ _ _ _›.calm ?_ | refine c_min ‹Bd _ _ _ _›.calm ?_)
local macro_rules | `(tactic| walk_at "st") => `(tactic| first
  | refine b_one ?_ | refine b_cons ?_ | refine b_nil ?_ | refine s_ret ?_ | refine s_expr ?_ | refine s_doc ?_ | refine s_pass ?_ | refine s_if ?_
  | (refine' s_lo _ ‹Bd _ _ _ _› ?nm ?lc ?_; (case nm => with_reducible assumption); (case lc => with_reducible assumption))
  | (refine' s_ce _ ‹Bd _ _ _ _› (by assumption) ?nm ?lc ?_; (case nm => with_reducible assumption); (case lc => with_reducible assumption))
  | refine s_sub ?_)
local macro_rules | `(tactic| walk_at "ts") => `(tactic| first
  | refine t_cmpn ?_ | refine t_chain ?_ | refine t_not ?_ | refine w_and1 ?_ | refine w_or1 ?_ | refine w_and ?_ | refine w_or ?_ | ((with_reducible show wT _ (Expr.BoolOp _ _ _) _ _ _); refine t_w ?_) | refine t_val (fun _ => rfl) ?_)
local macro_rules | `(tactic| walk_at "wx") => `(tactic| first
  | ((with_reducible show wB _ _ _ _ _); walk_at "st") | ((with_reducible show wS _ _ _ _ _); walk_at "st") | ((with_reducible show wE _ _ _ _ _); walk_at "ex") | ((with_reducible show wO _ _ _ _ _ _); walk_at "op") | ((with_reducible show wU _ _ _ _ _); walk_at "op") | ((with_reducible show wC _ _ _ _ _); walk_at "op")
  | ((with_reducible show wT _ _ _ _ _); walk_at "ts") | ((with_reducible show wW _ _ _ _ _); walk_at "ts")
  | ((with_reducible show wA _ _ _ _ _); first | refine a_nil ?_ | refine a_cons ?_))
local macro_rules | `(tactic| walk_at "ws") => `(tactic| repeat (walk_at "wx"))
local macro_rules | `(tactic| walk_at "lg") => `(tactic| first
  | with_reducible refine iteT ?_ | with_reducible refine iteF ?_ | with_reducible refine iteNF ?_ | with_reducible refine iteNT ?_
  | with_reducible refine ⟨_, rfl, ?_⟩)
local macro_rules | `(tactic| walk_at "isi") => `(tactic| ((with_reducible show wC _ (Value.builtin "isinstance") _ _ _); first
  | (refine' c_isi (TyX.base (TyOf.int _)) ?e ?_; (case e => walk_at "kit"))
  | (refine' c_isi (TyX.base (TyOf.bl _)) ?e ?_; (case e => walk_at "kit"))
  | (refine' c_isi (TyX.base TyOf.non) ?e ?_; (case e => walk_at "kit"))
  | (refine' c_isi (TyX.base (TyOf.str _)) ?e ?_; (case e => walk_at "kit"))
  | (refine' c_isi (TyX.base (TyOf.lst ?h)) ?e ?_; (case h => assumption); (case e => walk_at "kit"))
  | (refine' c_isi (TyX.base (TyOf.tup ?h)) ?e ?_; (case h => assumption); (case e => walk_at "kit"))
  | (refine' c_isi (ty_tup ?h) ?e ?_; (case h => assumption); (case e => walk_at "kit"))
  | (refine' c_isi (ty_lst ?h) ?e ?_; (case h => assumption); (case e => walk_at "kit"))
  | (refine' c_isi (TyX.base (TyOf.dK ?h)) ?e ?_; (case h => assumption); (case e => walk_at "kit"))))
local macro_rules | `(tactic| walk_at "wz") => `(tactic| repeat (first | walk_at "wx" | walk_at "isi" | walk_at "lg" | walk_at "cl" | walk_at "sp"))
local macro_rules | `(tactic| walk_at "mul") => `(tactic| first | (refine o_mul (.inr ⟨by decide, by decide⟩) ?_) | (refine o_mul (.inl ⟨by decide, by decide⟩) ?_) | (refine o_mul (.inl ⟨by omega, by omega⟩) ?_) | (refine o_mul (.inr ⟨by omega, by omega⟩) ?_))
local macro_rules | `(tactic| walk_at "nw") => `(tactic| ((refine ⟨?z, ?_⟩); (case z => (simp only [List.length_cons, List.length_nil]; decide)); intro p hp))

/-- a step as data -/
def stp (s : Int × Int × Str) : PyData := .tuple [.int s.1, .int s.2.1, .str s.2.2]
def okO (o : Str) : Prop := o.length = 1 ∧ ¬ (o.cps.toList < ("a" : Str).cps.toList) ∧ ¬ (("z" : Str).cps.toList < o.cps.toList)
def okE (P : Int) (x y : Int) : Prop := 0 ≤ x ∧ x < y ∧ y < P
def okS (P : Int) (s : Int × Int × Str) : Prop := okE P s.1 s.2.1 ∧ okO s.2.2
/-- where an exchange puts the thing of a place -/
def pb (x y p : Int) : Int := if p = x then y else if p = y then x else p
theorem isI_of {i : Int} (h1 : -1000000 ≤ i) (h2 : i ≤ 1000000) : (decide (-big__TOO_LONG < i) && decide (i < big__TOO_LONG)) = true := by
  have hb : (1000000 : Int) < big__TOO_LONG := by decide
  rw [decide_eq_true (by omega), decide_eq_true (by omega)]; rfl
local macro_rules | `(tactic| walk_at "hg") => `(tactic| first | exact upd_same | assumption | (refine upd_keep (by assumption) ?_; walk_at "hg"))
def sp_is_integer (K : PySem.W.Frag) (C_Row : Addr) : Sp := fun vs H Q _ => ∃ i, vs = [.int i] ∧ Q (.bl (decide (-big__TOO_LONG < i) && decide (i < big__TOO_LONG))) H
theorem b_is_integer {X : Cx} {C_Row : Addr} (B : Bd X N_is_integer (defScope S_is_integer) 0) (F : ∀ x, X.fn x = true) (T : Tx X.K X.mg C_Row) {vs : List V} {H : Hp} {Q : VK} {E : XK} (h : sp_is_integer X.K C_Row vs H Q E) :
    wB X (defBody S_is_integer) { nx := fun _ H' => Q .non H', rt := Q } (start N_is_integer vs) H := by
  have n_value : X.N[0]? = some ("value" : Str) := B.slot 0 rfl
  have l_value : X.env.scope.names.lookup ("value" : Str) = some NameKind.local := B.loc rfl
  have g_isinstance : Gl X "isinstance" := B.gl rfl
  have z_isinstance := T.z_isinstance
  have v_isinstance := bb_isinstance
  have g_int : Gl X "int" := B.gl rfl
  have z_int := T.z_int
  have v_int := bb_int
  have g_bool : Gl X "bool" := B.gl rfl
  have z_bool := T.z_bool
  have v_bool := bb_bool
  have g__TOO_LONG : Gl X "_TOO_LONG" := B.gl rfl
  obtain ⟨t__TOO_LONG, c__TOO_LONG⟩ := T.c__TOO_LONG
  obtain ⟨i, rfl, q⟩ := h
  walk_at "wz"
  refine iteD (fun h1 => ?_) (fun h1 => ?_)
  · walk_at "wz"
    rw [decide_eq_true h1, Bool.true_and] at q
    exact q
  · rw [decide_eq_false h1, Bool.false_and] at q
    exact q
theorem len_is_integer {K : PySem.W.Frag} {C_Row : Addr} : ∀ vs H Q E, sp_is_integer K C_Row vs H Q E → vs.length = 1 := by
  intro vs H Q E h
  obtain ⟨_, e, _⟩ := h
  rw [e]; rfl
theorem D_is_integer {P : Program} {w : World} {K : PySem.W.Frag} {mg : Str → Option Value} {base : Heap} {C_Row : Addr} (T : Tx K mg C_Row) : Dk P w K mg base "is_integer" 1 ["value"] (sp_is_integer K C_Row) :=
  dk_of T.d_is_integer sc_is_integer (fun _ _ _ _ _ _ us hl => match us, hl with | [_], _ => rfl) len_is_integer (fun X e1 e2 e3 e4 e5 B F vs H Q E h => by subst e1 e2 e3 e4 e5; exact b_is_integer B F T h)
local macro_rules | `(tactic| walk_at "cl") => `(tactic| (refine' e_callk (D_is_integer ‹Tx _ _ _›) ?rm ?gl ?_; (case rm => exact ‹Bd _ _ _ _›.room.mono (by decide)); (case gl => with_reducible assumption)))
local macro_rules | `(tactic| walk_at "sp") => `(tactic| ((with_reducible show sp_is_integer _ _ _ _ _ _); refine ⟨_, rfl, ?_⟩))
def sp_is_owner (K : PySem.W.Frag) (C_Row : Addr) : Sp := fun vs H Q _ => ∃ o, vs = [.str o] ∧ okO o ∧ Q (.bl true) H
theorem b_is_owner {X : Cx} {C_Row : Addr} (B : Bd X N_is_owner (defScope S_is_owner) 0) (F : ∀ x, X.fn x = true) (T : Tx X.K X.mg C_Row) {vs : List V} {H : Hp} {Q : VK} {E : XK} (h : sp_is_owner X.K C_Row vs H Q E) :
    wB X (defBody S_is_owner) { nx := fun _ H' => Q .non H', rt := Q } (start N_is_owner vs) H := by
  have n_value : X.N[0]? = some ("value" : Str) := B.slot 0 rfl
  have l_value : X.env.scope.names.lookup ("value" : Str) = some NameKind.local := B.loc rfl
  have g_isinstance : Gl X "isinstance" := B.gl rfl
  have z_isinstance := T.z_isinstance
  have v_isinstance := bb_isinstance
  have g_str : Gl X "str" := B.gl rfl
  have z_str := T.z_str
  have v_str := bb_str
  have g_len : Gl X "len" := B.gl rfl
  have z_len := T.z_len
  have v_len := bb_len
  obtain ⟨o, rfl, ⟨h1, h2, h3⟩, q⟩ := h
  walk_at "wz"
  refine c_lenS (by rw [h1]; decide) ?_
  rw [h1]
  walk_at "wz"
  refine iteD (fun _ => ?_) (fun z => absurd rfl z)
  walk_at "wz"
  refine o_les ?_
  walk_at "wz"
  rw [decide_eq_false h2]
  walk_at "wz"
  refine o_les ?_
  rw [decide_eq_false h3]
  exact q
theorem len_is_owner {K : PySem.W.Frag} {C_Row : Addr} : ∀ vs H Q E, sp_is_owner K C_Row vs H Q E → vs.length = 1 := by
  intro vs H Q E h
  obtain ⟨_, e, _⟩ := h
  rw [e]; rfl
theorem D_is_owner {P : Program} {w : World} {K : PySem.W.Frag} {mg : Str → Option Value} {base : Heap} {C_Row : Addr} (T : Tx K mg C_Row) : Dk P w K mg base "is_owner" 1 ["value"] (sp_is_owner K C_Row) :=
  dk_of T.d_is_owner sc_is_owner (fun _ _ _ _ _ _ us hl => match us, hl with | [_], _ => rfl) len_is_owner (fun X e1 e2 e3 e4 e5 B F vs H Q E h => by subst e1 e2 e3 e4 e5; exact b_is_owner B F T h)
local macro_rules | `(tactic| walk_at "cl") => `(tactic| (refine' e_callk (D_is_owner ‹Tx _ _ _›) ?rm ?gl ?_; (case rm => exact ‹Bd _ _ _ _›.room.mono (by decide)); (case gl => with_reducible assumption)))
local macro_rules | `(tactic| walk_at "sp") => `(tactic| ((with_reducible show sp_is_owner _ _ _ _ _ _); refine ⟨_, rfl, by first | assumption | exact And.right (by assumption), ?_⟩))
def sp_is_below (K : PySem.W.Frag) (C_Row : Addr) : Sp := fun vs H Q _ => ∃ l i, vs = [.int l, .int i] ∧ 0 ≤ i ∧ i < l ∧ i ≤ 1000000 ∧ Q (.bl true) H
theorem b_is_below {X : Cx} {C_Row : Addr} (B : Bd X N_is_below (defScope S_is_below) 1) (F : ∀ x, X.fn x = true) (T : Tx X.K X.mg C_Row) {vs : List V} {H : Hp} {Q : VK} {E : XK} (h : sp_is_below X.K C_Row vs H Q E) :
    wB X (defBody S_is_below) { nx := fun _ H' => Q .non H', rt := Q } (start N_is_below vs) H := by
  have n_limit : X.N[0]? = some ("limit" : Str) := B.slot 0 rfl
  have l_limit : X.env.scope.names.lookup ("limit" : Str) = some NameKind.local := B.loc rfl
  have n_value : X.N[1]? = some ("value" : Str) := B.slot 1 rfl
  have l_value : X.env.scope.names.lookup ("value" : Str) = some NameKind.local := B.loc rfl
  have g_is_integer : Gl X "is_integer" := B.gl rfl
  obtain ⟨l, i, rfl, h1, h2, h3, q⟩ := h
  walk_at "wz"
  rw [isI_of (by omega) (by omega)]
  walk_at "wz"
  rw [decide_eq_true h1]
  walk_at "wz"
  rw [decide_eq_true h2]
  exact q
theorem len_is_below {K : PySem.W.Frag} {C_Row : Addr} : ∀ vs H Q E, sp_is_below K C_Row vs H Q E → vs.length = 2 := by
  intro vs H Q E h
  obtain ⟨_, _, e, _⟩ := h
  rw [e]; rfl
theorem D_is_below {P : Program} {w : World} {K : PySem.W.Frag} {mg : Str → Option Value} {base : Heap} {C_Row : Addr} (T : Tx K mg C_Row) : Dk P w K mg base "is_below" 2 ["limit", "value"] (sp_is_below K C_Row) :=
  dk_of T.d_is_below sc_is_below (fun _ _ _ _ _ _ us hl => match us, hl with | [_, _], _ => rfl) len_is_below (fun X e1 e2 e3 e4 e5 B F vs H Q E h => by subst e1 e2 e3 e4 e5; exact b_is_below B F T h)
local macro_rules | `(tactic| walk_at "cl") => `(tactic| (refine' e_callk (D_is_below ‹Tx _ _ _›) ?rm ?gl ?_; (case rm => exact ‹Bd _ _ _ _›.room.mono (by decide)); (case gl => with_reducible assumption)))
local macro_rules | `(tactic| walk_at "sp") => `(tactic| ((with_reducible show sp_is_below _ _ _ _ _ _); refine ⟨_, _, rfl, by omega, by omega, by omega, ?_⟩))
def sp_check_number (K : PySem.W.Frag) (C_Row : Addr) : Sp := fun vs H Q _ => ∃ i l m, vs = [.int i, .int l, .int m] ∧ l ≤ i ∧ i ≤ m ∧ -1000000 ≤ i ∧ i ≤ 1000000 ∧ Q .non H
theorem b_check_number {X : Cx} {C_Row : Addr} (B : Bd X N_check_number (defScope S_check_number) 1) (F : ∀ x, X.fn x = true) (T : Tx X.K X.mg C_Row) {vs : List V} {H : Hp} {Q : VK} {E : XK} (h : sp_check_number X.K C_Row vs H Q E) :
    wB X (defBody S_check_number) { nx := fun _ H' => Q .non H', rt := Q } (start N_check_number vs) H := by
  have n_value : X.N[0]? = some ("value" : Str) := B.slot 0 rfl
  have l_value : X.env.scope.names.lookup ("value" : Str) = some NameKind.local := B.loc rfl
  have n_least : X.N[1]? = some ("least" : Str) := B.slot 1 rfl
  have l_least : X.env.scope.names.lookup ("least" : Str) = some NameKind.local := B.loc rfl
  have n_most : X.N[2]? = some ("most" : Str) := B.slot 2 rfl
  have l_most : X.env.scope.names.lookup ("most" : Str) = some NameKind.local := B.loc rfl
  have g_is_integer : Gl X "is_integer" := B.gl rfl
  have g_InvalidNumber : Gl X "InvalidNumber" := B.gl rfl
  obtain ⟨i, l, m, rfl, h1, h2, h3, h4, q⟩ := h
  walk_at "wz"
  rw [isI_of (by omega) (by omega)]
  walk_at "wz"
  refine iteD (fun z => absurd z (by omega)) (fun _ => ?_)
  walk_at "wz"
  rw [decide_eq_false (by omega)]
  walk_at "wz"
  exact q
theorem len_check_number {K : PySem.W.Frag} {C_Row : Addr} : ∀ vs H Q E, sp_check_number K C_Row vs H Q E → vs.length = 3 := by
  intro vs H Q E h
  obtain ⟨_, _, _, e, _⟩ := h
  rw [e]; rfl
theorem D_check_number {P : Program} {w : World} {K : PySem.W.Frag} {mg : Str → Option Value} {base : Heap} {C_Row : Addr} (T : Tx K mg C_Row) : Dk P w K mg base "check_number" 2 ["value", "least", "most"] (sp_check_number K C_Row) :=
  dk_of T.d_check_number sc_check_number (fun _ _ _ _ _ _ us hl => match us, hl with | [_, _, _], _ => rfl) len_check_number (fun X e1 e2 e3 e4 e5 B F vs H Q E h => by subst e1 e2 e3 e4 e5; exact b_check_number B F T h)
local macro_rules | `(tactic| walk_at "cl") => `(tactic| (refine' e_callk (D_check_number ‹Tx _ _ _›) ?rm ?gl ?_; (case rm => exact ‹Bd _ _ _ _›.room.mono (by decide)); (case gl => with_reducible assumption)))
local macro_rules | `(tactic| walk_at "sp") => `(tactic| ((with_reducible show sp_check_number _ _ _ _ _ _); refine ⟨_, _, _, rfl, by omega, by omega, by omega, by omega, ?_⟩))
def sp_check_places (K : PySem.W.Frag) (C_Row : Addr) : Sp := fun vs H Q _ => ∃ i, vs = [.int i] ∧ 1 ≤ i ∧ i ≤ 12 ∧ Q .non H
theorem b_check_places {X : Cx} {C_Row : Addr} (B : Bd X N_check_places (defScope S_check_places) 2) (F : ∀ x, X.fn x = true) (T : Tx X.K X.mg C_Row) {vs : List V} {H : Hp} {Q : VK} {E : XK} (h : sp_check_places X.K C_Row vs H Q E) :
    wB X (defBody S_check_places) { nx := fun _ H' => Q .non H', rt := Q } (start N_check_places vs) H := by
  have n_places : X.N[0]? = some ("places" : Str) := B.slot 0 rfl
  have l_places : X.env.scope.names.lookup ("places" : Str) = some NameKind.local := B.loc rfl
  have g_check_number : Gl X "check_number" := B.gl rfl
  have g_MAX_PLACES : Gl X "MAX_PLACES" := B.gl rfl
  obtain ⟨t_MAX_PLACES, c_MAX_PLACES⟩ := T.c_MAX_PLACES
  obtain ⟨i, rfl, h1, h2, q⟩ := h
  walk_at "wz"
  exact q
theorem len_check_places {K : PySem.W.Frag} {C_Row : Addr} : ∀ vs H Q E, sp_check_places K C_Row vs H Q E → vs.length = 1 := by
  intro vs H Q E h
  obtain ⟨_, e, _⟩ := h
  rw [e]; rfl
theorem D_check_places {P : Program} {w : World} {K : PySem.W.Frag} {mg : Str → Option Value} {base : Heap} {C_Row : Addr} (T : Tx K mg C_Row) : Dk P w K mg base "check_places" 3 ["places"] (sp_check_places K C_Row) :=
  dk_of T.d_check_places sc_check_places (fun _ _ _ _ _ _ us hl => match us, hl with | [_], _ => rfl) len_check_places (fun X e1 e2 e3 e4 e5 B F vs H Q E h => by subst e1 e2 e3 e4 e5; exact b_check_places B F T h)
local macro_rules | `(tactic| walk_at "cl") => `(tactic| (refine' e_callk (D_check_places ‹Tx _ _ _›) ?rm ?gl ?_; (case rm => exact ‹Bd _ _ _ _›.room.mono (by decide)); (case gl => with_reducible assumption)))
local macro_rules | `(tactic| walk_at "sp") => `(tactic| ((with_reducible show sp_check_places _ _ _ _ _ _); refine ⟨_, rfl, by omega, by omega, ?_⟩))
def sp_is_exchange (K : PySem.W.Frag) (C_Row : Addr) : Sp := fun vs H Q _ => ∃ P v x y, vs = [.int P, v] ∧ 1 ≤ P ∧ P ≤ 12 ∧ Dp K H v (.tuple [.int x, .int y]) ∧ okE P x y ∧ Q (.bl true) H
theorem dp_two {K : PySem.W.Frag} {H : Hp} {v : V} {x y : Int} (h : Dp K H v (.tuple [.int x, .int y])) : ∃ a, v = .ref a ∧ SqT K H a [.int x, .int y] := by
  cases h with
  | tup h a =>
    cases a with
    | cons a1 a2 =>
      cases a2 with
      | cons a3 a4 =>
        cases a1
        cases a3
        cases a4
        exact ⟨_, rfl, h⟩
theorem dp_stp {K : PySem.W.Frag} {H : Hp} {v : V} {s : Int × Int × Str} (h : Dp K H v (stp s)) : ∃ a, v = .ref a ∧ SqT K H a [.int s.1, .int s.2.1, .str s.2.2] := by
  cases h with
  | tup h a =>
    cases a with
    | cons a1 a2 =>
      cases a2 with
      | cons a3 a4 =>
        cases a4 with
        | cons a5 a6 =>
        cases a1
        cases a3
        cases a5
        cases a6
        exact ⟨_, rfl, h⟩
theorem ix0 {a : V} {as : List V} : atI (a :: as) 0 = some a := atI_nat (xs := a :: as) (j := 0) rfl
theorem ix1 {a b : V} {as : List V} : atI (a :: b :: as) 1 = some b := atI_nat (xs := a :: b :: as) (j := 1) rfl
theorem ix2 {a b c : V} {as : List V} : atI (a :: b :: c :: as) 2 = some c := atI_nat (xs := a :: b :: c :: as) (j := 2) rfl
theorem b_is_exchange {X : Cx} {C_Row : Addr} (B : Bd X N_is_exchange (defScope S_is_exchange) 3) (F : ∀ x, X.fn x = true) (T : Tx X.K X.mg C_Row) {vs : List V} {H : Hp} {Q : VK} {E : XK} (h : sp_is_exchange X.K C_Row vs H Q E) :
    wB X (defBody S_is_exchange) { nx := fun _ H' => Q .non H', rt := Q } (start N_is_exchange vs) H := by
  have n_places : X.N[0]? = some ("places" : Str) := B.slot 0 rfl
  have l_places : X.env.scope.names.lookup ("places" : Str) = some NameKind.local := B.loc rfl
  have n_value : X.N[1]? = some ("value" : Str) := B.slot 1 rfl
  have l_value : X.env.scope.names.lookup ("value" : Str) = some NameKind.local := B.loc rfl
  have g_check_places : Gl X "check_places" := B.gl rfl
  have g_isinstance : Gl X "isinstance" := B.gl rfl
  have z_isinstance := T.z_isinstance
  have v_isinstance := bb_isinstance
  have g_tuple : Gl X "tuple" := B.gl rfl
  have z_tuple := T.z_tuple
  have v_tuple := bb_tuple
  have g_len : Gl X "len" := B.gl rfl
  have z_len := T.z_len
  have v_len := bb_len
  have g_is_below : Gl X "is_below" := B.gl rfl
  obtain ⟨P, v, x, y, rfl, h1, h2, hd, ⟨h3, h4, h5⟩, q⟩ := h
  obtain ⟨a, rfl, hs⟩ := dp_two hd
  walk_at "wz"
  refine c_lenT hs ?_
  walk_at "wz"
  refine iteND (fun z => absurd rfl z) (fun _ => ?_)
  walk_at "wz"
  refine x_tup hs ix0 ?_
  walk_at "wz"
  refine x_tup hs ix1 ?_
  walk_at "wz"
  refine x_tup hs ix0 ?_
  walk_at "wz"
  refine x_tup hs ix1 ?_
  walk_at "wz"
  rw [decide_eq_true h4]
  exact q
theorem len_is_exchange {K : PySem.W.Frag} {C_Row : Addr} : ∀ vs H Q E, sp_is_exchange K C_Row vs H Q E → vs.length = 2 := by
  intro vs H Q E h
  obtain ⟨_, _, _, _, e, _⟩ := h
  rw [e]; rfl
theorem D_is_exchange {P : Program} {w : World} {K : PySem.W.Frag} {mg : Str → Option Value} {base : Heap} {C_Row : Addr} (T : Tx K mg C_Row) : Dk P w K mg base "is_exchange" 4 ["places", "value"] (sp_is_exchange K C_Row) :=
  dk_of T.d_is_exchange sc_is_exchange (fun _ _ _ _ _ _ us hl => match us, hl with | [_, _], _ => rfl) len_is_exchange (fun X e1 e2 e3 e4 e5 B F vs H Q E h => by subst e1 e2 e3 e4 e5; exact b_is_exchange B F T h)
local macro_rules | `(tactic| walk_at "cl") => `(tactic| (refine' e_callk (D_is_exchange ‹Tx _ _ _›) ?rm ?gl ?_; (case rm => exact ‹Bd _ _ _ _›.room.mono (by decide)); (case gl => with_reducible assumption)))
def sp_is_step (K : PySem.W.Frag) (C_Row : Addr) : Sp := fun vs H Q _ => ∃ P v s, vs = [.int P, v] ∧ 1 ≤ P ∧ P ≤ 12 ∧ Dp K H v (stp s) ∧ okS P s ∧ ∀ H', Same H H' → Q (.bl true) H'
theorem b_is_step {X : Cx} {C_Row : Addr} (B : Bd X N_is_step (defScope S_is_step) 4) (F : ∀ x, X.fn x = true) (T : Tx X.K X.mg C_Row) {vs : List V} {H : Hp} {Q : VK} {E : XK} (h : sp_is_step X.K C_Row vs H Q E) :
    wB X (defBody S_is_step) { nx := fun _ H' => Q .non H', rt := Q } (start N_is_step vs) H := by
  have n_places : X.N[0]? = some ("places" : Str) := B.slot 0 rfl
  have l_places : X.env.scope.names.lookup ("places" : Str) = some NameKind.local := B.loc rfl
  have n_value : X.N[1]? = some ("value" : Str) := B.slot 1 rfl
  have l_value : X.env.scope.names.lookup ("value" : Str) = some NameKind.local := B.loc rfl
  have g_check_places : Gl X "check_places" := B.gl rfl
  have g_isinstance : Gl X "isinstance" := B.gl rfl
  have z_isinstance := T.z_isinstance
  have v_isinstance := bb_isinstance
  have g_tuple : Gl X "tuple" := B.gl rfl
  have z_tuple := T.z_tuple
  have v_tuple := bb_tuple
  have g_len : Gl X "len" := B.gl rfl
  have z_len := T.z_len
  have v_len := bb_len
  have g_is_exchange : Gl X "is_exchange" := B.gl rfl
  have g_is_owner : Gl X "is_owner" := B.gl rfl
  obtain ⟨P, v, s, rfl, h1, h2, hd, ⟨h3, h4⟩, q⟩ := h
  obtain ⟨a, rfl, hs⟩ := dp_stp hd
  walk_at "wz"
  refine c_lenT hs ?_
  walk_at "wz"
  refine iteND (fun z => absurd rfl z) (fun _ => ?_)
  walk_at "wz"
  refine e_slNS ?_
  walk_at "wz"
  refine ⟨_, _, rfl, hs, fun p H' sm hp => ?_⟩
  walk_at "wz"
  refine ⟨P, _, s.1, s.2.1, rfl, h1, h2, .tup hp (.cons (.int _) (.cons (.int _) .nil)), h3, ?_⟩
  walk_at "wz"
  refine x_tup (same_tup sm hs) ix2 ?_
  walk_at "wz"
  exact q _ sm
theorem len_is_step {K : PySem.W.Frag} {C_Row : Addr} : ∀ vs H Q E, sp_is_step K C_Row vs H Q E → vs.length = 2 := by
  intro vs H Q E h
  obtain ⟨_, _, _, e, _⟩ := h
  rw [e]; rfl
theorem D_is_step {P : Program} {w : World} {K : PySem.W.Frag} {mg : Str → Option Value} {base : Heap} {C_Row : Addr} (T : Tx K mg C_Row) : Dk P w K mg base "is_step" 5 ["places", "value"] (sp_is_step K C_Row) :=
  dk_of T.d_is_step sc_is_step (fun _ _ _ _ _ _ us hl => match us, hl with | [_, _], _ => rfl) len_is_step (fun X e1 e2 e3 e4 e5 B F vs H Q E h => by subst e1 e2 e3 e4 e5; exact b_is_step B F T h)
local macro_rules | `(tactic| walk_at "cl") => `(tactic| (refine' e_callk (D_is_step ‹Tx _ _ _›) ?rm ?gl ?_; (case rm => exact ‹Bd _ _ _ _›.room.mono (by decide)); (case gl => with_reducible assumption)))
def sp_place_behind (K : PySem.W.Frag) (C_Row : Addr) : Sp := fun vs H Q _ => ∃ p a x y r, vs = [.int p, .ref a] ∧ SqT K H a (.int x :: .int y :: r) ∧ Q (.int (pb x y p)) H
theorem b_place_behind {X : Cx} {C_Row : Addr} (B : Bd X N_place_behind (defScope S_place_behind) 0) (F : ∀ x, X.fn x = true) (T : Tx X.K X.mg C_Row) {vs : List V} {H : Hp} {Q : VK} {E : XK} (h : sp_place_behind X.K C_Row vs H Q E) :
    wB X (defBody S_place_behind) { nx := fun _ H' => Q .non H', rt := Q } (start N_place_behind vs) H := by
  have n_place : X.N[0]? = some ("place" : Str) := B.slot 0 rfl
  have l_place : X.env.scope.names.lookup ("place" : Str) = some NameKind.local := B.loc rfl
  have n_exchange : X.N[1]? = some ("exchange" : Str) := B.slot 1 rfl
  have l_exchange : X.env.scope.names.lookup ("exchange" : Str) = some NameKind.local := B.loc rfl
  obtain ⟨p, a, x, y, r, rfl, hs, q⟩ := h
  walk_at "wz"
  refine x_tup hs ix0 ?_
  walk_at "wz"
  by_cases e1 : p = x
  · rw [decide_eq_true (by rw [e1])]
    walk_at "wz"
    refine x_tup hs ix1 ?_
    rw [pb, if_pos e1] at q
    exact q
  · rw [decide_eq_false (by simpa using e1)]
    walk_at "wz"
    refine x_tup hs ix1 ?_
    walk_at "wz"
    by_cases e2 : p = y
    · rw [decide_eq_true (by rw [e2])]
      walk_at "wz"
      refine x_tup hs ix0 ?_
      rw [pb, if_neg e1, if_pos e2] at q
      exact q
    · rw [decide_eq_false (by simpa using e2)]
      walk_at "wz"
      rw [pb, if_neg e1, if_neg e2] at q
      exact q
theorem len_place_behind {K : PySem.W.Frag} {C_Row : Addr} : ∀ vs H Q E, sp_place_behind K C_Row vs H Q E → vs.length = 2 := by
  intro vs H Q E h
  obtain ⟨_, _, _, _, _, e, _⟩ := h
  rw [e]; rfl
theorem D_place_behind {P : Program} {w : World} {K : PySem.W.Frag} {mg : Str → Option Value} {base : Heap} {C_Row : Addr} (T : Tx K mg C_Row) : Dk P w K mg base "place_behind" 1 ["place", "exchange"] (sp_place_behind K C_Row) :=
  dk_of T.d_place_behind sc_place_behind (fun _ _ _ _ _ _ us hl => match us, hl with | [_, _], _ => rfl) len_place_behind (fun X e1 e2 e3 e4 e5 B F vs H Q E h => by subst e1 e2 e3 e4 e5; exact b_place_behind B F T h)
local macro_rules | `(tactic| walk_at "cl") => `(tactic| (refine' e_callk (D_place_behind ‹Tx _ _ _›) ?rm ?gl ?_; (case rm => exact ‹Bd _ _ _ _›.room.mono (by decide)); (case gl => with_reducible assumption)))

theorem noLst_steps : ∀ ss : List (Int × Int × Str), noLstAll (ss.map stp) = true
  | [] => rfl
  | s :: ss => by
    show (noLst (stp s) && noLstAll (ss.map stp)) = true
    rw [noLst_steps ss, Bool.and_true]
    rfl
theorem noLst_ints : ∀ ns : List Int, noLstAll (ns.map PyData.int) = true
  | [] => rfl
  | n :: ns => by
    show (true && noLstAll (ns.map PyData.int)) = true
    rw [noLst_ints ns]; rfl
/-- a Row with these steps -/
def RowAt (K : PySem.W.Frag) (H : Hp) (C a : Addr) (P : Int) (ss : List (Int × Int × Str)) : Prop := (∃ dx v, H a = some (.ins C dx [("_places", .int P), ("_steps", v)]) ∧ Dp K H v (.tuple (ss.map stp))) ∧ 1 ≤ P ∧ P ≤ 12 ∧ ss.length ≤ 24 ∧ ∀ s ∈ ss, okS P s
theorem RowAt.same {K : PySem.W.Frag} {H H' : Hp} {C a : Addr} {P : Int} {ss : List (Int × Int × Str)} (r : RowAt K H C a P ss) (e : Same H H') : RowAt K H' C a P ss := by
  obtain ⟨⟨dx, v, h1, h2⟩, h3⟩ := r
  exact ⟨⟨dx, v, e _ _ h1, dp_same e h2⟩, h3⟩
theorem RowAt.ch {K : PySem.W.Frag} {H H' : Hp} {C a p : Addr} {P : Int} {ss : List (Int × Int × Str)} (r : RowAt K H C a P ss) (c : Ch p H H') {xs : List V} (hp : H p = some (.lst xs)) : RowAt K H' C a P ss := by
  obtain ⟨⟨dx, v, h1, h2⟩, h3⟩ := r
  refine ⟨⟨dx, v, c _ _ ?_ h1, dp_ch c (noTup_lst hp) (by show noLstAll _ = true; exact noLst_steps ss) h2⟩, h3⟩
  rintro rfl
  rw [hp] at h1
  cases h1
theorem dp_tup {K : PySem.W.Frag} {H : Hp} {v : V} {ds : List PyData} (h : Dp K H v (.tuple ds)) : ∃ a xs, v = .ref a ∧ SqT K H a xs ∧ DpAll K H xs ds := by
  cases h with
  | tup h a => exact ⟨_, _, rfl, h, a⟩
theorem dp_at {K : PySem.W.Frag} {H : Hp} : ∀ {xs : List V} {ds : List PyData} {i : Nat} {v : V}, DpAll K H xs ds → xs[i]? = some v → ∃ d, ds[i]? = some d ∧ Dp K H v d
  | _, _, _, _, .nil, h => by simp at h
  | _, _, 0, _, .cons a _, h => by simp at h; subst h; exact ⟨_, rfl, a⟩
  | _, _, i + 1, _, .cons _ t, h => by
    obtain ⟨d, h1, h2⟩ := dp_at (i := i) t (by simpa using h)
    exact ⟨d, by simpa using h1, h2⟩
theorem dp_step {K : PySem.W.Frag} {H : Hp} {xs : List V} {ss : List (Int × Int × Str)} {i : Nat} {v : V} (h : DpAll K H xs (ss.map stp)) (e : xs[i]? = some v) : ∃ s, ss[i]? = some s ∧ Dp K H v (stp s) := by
  obtain ⟨d, h1, h2⟩ := dp_at h e
  rw [List.getElem?_map] at h1
  cases hs : ss[i]? with
  | none => rw [hs] at h1; cases h1
  | some s => rw [hs] at h1; cases h1; exact ⟨s, rfl, h2⟩
def sp__are_steps (K : PySem.W.Frag) (C_Row : Addr) : Sp := fun vs H Q _ => ∃ P v, ∃ ss : List (Int × Int × Str), vs = [.int P, v] ∧ 1 ≤ P ∧ P ≤ 12 ∧ Dp K H v (.tuple (ss.map stp)) ∧ ss.length ≤ 24 ∧ (∀ s ∈ ss, okS P s) ∧ ∀ H', Same H H' → Q (.bl true) H'
theorem b__are_steps {X : Cx} {C_Row : Addr} (B : Bd X N__are_steps (defScope S__are_steps) 5) (F : ∀ x, X.fn x = true) (T : Tx X.K X.mg C_Row) {vs : List V} {H : Hp} {Q : VK} {E : XK} (h : sp__are_steps X.K C_Row vs H Q E) :
    wB X (defBody S__are_steps) { nx := fun _ H' => Q .non H', rt := Q } (start N__are_steps vs) H := by
  have n_places : X.N[0]? = some ("places" : Str) := B.slot 0 rfl
  have l_places : X.env.scope.names.lookup ("places" : Str) = some NameKind.cell := B.cel rfl
  have n_value : X.N[1]? = some ("value" : Str) := B.slot 1 rfl
  have l_value : X.env.scope.names.lookup ("value" : Str) = some NameKind.local := B.loc rfl
  have n_step : X.N[2]? = some ("step" : Str) := B.slot 2 rfl
  have g_isinstance : Gl X "isinstance" := B.gl rfl
  have z_isinstance := T.z_isinstance
  have v_isinstance := bb_isinstance
  have g_tuple : Gl X "tuple" := B.gl rfl
  have z_tuple := T.z_tuple
  have v_tuple := bb_tuple
  have g_len : Gl X "len" := B.gl rfl
  have z_len := T.z_len
  have v_len := bb_len
  have g_MAX_STEPS : Gl X "MAX_STEPS" := B.gl rfl
  obtain ⟨t_MAX_STEPS, c_MAX_STEPS⟩ := T.c_MAX_STEPS
  have g_all : Gl X "all" := B.gl rfl
  have z_all := T.z_all
  have v_all := bb_all
  obtain ⟨P, v, ss, rfl, h1, h2, hd, h3, h4, q⟩ := h
  obtain ⟨a, xs, rfl, hs, da⟩ := dp_tup hd
  have hl : xs.length = ss.length := by rw [dp_len da, List.length_map]
  walk_at "wz"
  refine c_lenT hs ?_
  walk_at "wz"
  refine iteD (fun z => absurd z (by omega)) (fun _ => ?_)
  walk_at "wz"
  refine e_lcT 2 B (blkOk_by (by decide +kernel)) rfl rfl (lcT_same ?_)
  walk_at "wz"
  refine ⟨a, xs, fun _ y _ => y = .bl true, rfl, hs, (by have : (25 : Nat) < sizeLine := (by decide); omega), fun _ _ _ _ _ e _ _ => e, ?_, ?_⟩
  · intro i v H2 hv sm X' bk
    have B' := bk.bd B
    have n_step : X'.N[2]? = some ("step" : Str) := B'.slot 2 rfl
    have l_step : X'.env.scope.names.lookup ("step" : Str) = some NameKind.local := B'.loc rfl
    have n_places : X'.N[0]? = some ("places" : Str) := B'.slot 0 rfl
    have l_places : X'.env.scope.names.lookup ("places" : Str) = some NameKind.cell := B'.cel rfl
    have T' : Tx X'.K X'.mg C_Row := by rw [bk.K, bk.mg]; exact T
    have g_is_step : Gl X' "is_step" := B'.gl rfl
    obtain ⟨s, e1, e2⟩ := dp_step da hv
    walk_at "wz"
    refine ⟨P, _, s, rfl, h1, h2, ?_, h4 s (List.mem_of_getElem? e1), fun H' s2 => ⟨s2, rfl⟩⟩
    rw [bk.K]
    exact dp_same sm e2
  · intro D H' ys h0 sm hD hl hy
    have e : ys = (List.replicate ys.length true).map V.bl := by
      refine List.ext_getElem? fun i => ?_
      rw [List.getElem?_map, List.getElem?_replicate]
      by_cases hi : i < ys.length
      · rw [if_pos hi]
        have := hy i ys[i] (List.getElem?_eq_getElem hi)
        rw [List.getElem?_eq_getElem hi, this]; rfl
      · rw [if_neg hi, List.getElem?_eq_none (by omega)]; rfl
    rw [e] at hD
    walk_at "wz"
    refine c_all B.calm (SqL.of hD) ?_
    rw [show (List.replicate ys.length true).all id = true by rw [List.all_eq_true]; intro x hx; exact (List.mem_replicate.mp hx).2]
    exact q _ sm
theorem len__are_steps {K : PySem.W.Frag} {C_Row : Addr} : ∀ vs H Q E, sp__are_steps K C_Row vs H Q E → vs.length = 2 := by
  intro vs H Q E h
  obtain ⟨_, _, _, e, _⟩ := h
  rw [e]; rfl
theorem D__are_steps {P : Program} {w : World} {K : PySem.W.Frag} {mg : Str → Option Value} {base : Heap} {C_Row : Addr} (T : Tx K mg C_Row) : Dk P w K mg base "_are_steps" 6 ["places", "value"] (sp__are_steps K C_Row) :=
  dk_of T.d__are_steps sc__are_steps (fun _ _ _ _ _ _ us hl => match us, hl with | [_, _], _ => rfl) len__are_steps (fun X e1 e2 e3 e4 e5 B F vs H Q E h => by subst e1 e2 e3 e4 e5; exact b__are_steps B F T h)
local macro_rules | `(tactic| walk_at "cl") => `(tactic| (refine' e_callk (D__are_steps ‹Tx _ _ _›) ?rm ?gl ?_; (case rm => exact ‹Bd _ _ _ _›.room.mono (by decide)); (case gl => with_reducible assumption)))
def sp_Row___init__ (K : PySem.W.Frag) (C_Row : Addr) : Sp := fun vs H Q _ => ∃ a dx P v, ∃ ss : List (Int × Int × Str), vs = [.ref a, .int P, v] ∧ H a = some (.ins C_Row dx []) ∧ 1 ≤ P ∧ P ≤ 12 ∧ Dp K H v (.tuple (ss.map stp)) ∧ ss.length ≤ 24 ∧ (∀ s ∈ ss, okS P s) ∧ ∀ H', Ch a H H' → RowAt K H' C_Row a P ss → Q .non H'
theorem b_Row___init__ {X : Cx} {C_Row : Addr} (B : Bd X N_Row___init__ (defScope S_Row___init__) 6) (F : ∀ x, X.fn x = true) (T : Tx X.K X.mg C_Row) {vs : List V} {H : Hp} {Q : VK} {E : XK} (h : sp_Row___init__ X.K C_Row vs H Q E) :
    wB X (defBody S_Row___init__) { nx := fun _ H' => Q .non H', rt := Q } (start N_Row___init__ vs) H := by
  have n_self : X.N[0]? = some ("self" : Str) := B.slot 0 rfl
  have l_self : X.env.scope.names.lookup ("self" : Str) = some NameKind.local := B.loc rfl
  have n_places : X.N[1]? = some ("places" : Str) := B.slot 1 rfl
  have l_places : X.env.scope.names.lookup ("places" : Str) = some NameKind.local := B.loc rfl
  have n_steps : X.N[2]? = some ("steps" : Str) := B.slot 2 rfl
  have l_steps : X.env.scope.names.lookup ("steps" : Str) = some NameKind.local := B.loc rfl
  have g_check_places : Gl X "check_places" := B.gl rfl
  have g__are_steps : Gl X "_are_steps" := B.gl rfl
  have g_InvalidRow : Gl X "InvalidRow" := B.gl rfl
  obtain ⟨a, dx, P, v, ss, rfl, ha, h1, h2, hd, h3, h4, q⟩ := h
  walk_at "wz"
  refine ⟨P, v, ss, rfl, h1, h2, hd, h3, h4, fun H' sm => ?_⟩
  walk_at "wz"
  refine s_fld ?_
  walk_at "wz"
  refine ⟨a, C_Row, dx, [], rfl, sm _ _ ha, T.cl_Row, T.na_Row__places, by decide, ?_⟩
  walk_at "wz"
  refine s_fld ?_
  walk_at "wz"
  refine ⟨a, C_Row, dx, _, rfl, upd_same, T.cl_Row, T.na_Row__steps, by show 1 < 1000; decide, ?_⟩
  refine q _ (((Ch.of sm).trans Ch.refl.put).trans Ch.refl.put) ⟨⟨dx, v, upd_same, ?_⟩, h1, h2, h3, h4⟩
  refine dp_ch (H := H) (p := a) (((Ch.of sm).trans Ch.refl.put).trans Ch.refl.put) ?_ (by show noLstAll _ = true; exact noLst_steps ss) hd
  intro ys
  rw [ha]
  refine ⟨?_, ?_⟩
  · intro z
    cases z
  · intro o z
    cases z
theorem len_Row___init__ {K : PySem.W.Frag} {C_Row : Addr} : ∀ vs H Q E, sp_Row___init__ K C_Row vs H Q E → vs.length = 3 := by
  intro vs H Q E h
  obtain ⟨_, _, _, _, _, e, _⟩ := h
  rw [e]; rfl
theorem D_Row___init__ {P : Program} {w : World} {K : PySem.W.Frag} {mg : Str → Option Value} {base : Heap} {C_Row : Addr} (T : Tx K mg C_Row) : Ckd P w K mg base C_Row "Row" 7 ["self", "places", "steps"] [] (sp_Row___init__ K C_Row) ∧ ∃ t0, SqT K (fun _ => none) t0 [] ∧ Ckd P w K mg base C_Row "Row" 7 ["self", "places", "steps"] [.ref t0] (sp_Row___init__ K C_Row) := by
  obtain ⟨f, fd, t0, F, M, dd, sl, n0, lt⟩ := T.d_Row___init__
  have ok : FnOk P w K mg base CX0 7 f fd ["self", "places", "steps"] (sp_Row___init__ K C_Row) := F.ok sc_Row___init__ len_Row___init__ fun cdv A outer s H vs Q E hr h => ⟨_, pss_self.nox, wB_run (b_Row___init__ (X := (cxOf CX0 P w K mg base N_Row___init__ "Row.__init__" (defScope S_Row___init__) f cdv A outer s H E).nox) ⟨rfl, sc_Row___init__.nd, rfl, rfl, hr, PassesOwn.never⟩ (fun _ => rfl) T h)⟩
  obtain ⟨d1, v1, b1⟩ := F.binds1 (ps := ["self", "places", "steps"]) 3 1 (by simp) (by rfl) (fun T kV doc pm an cdv ct us its hu hi => match us, hu, its, hi with | [_, _, _], _, [_], _ => ⟨_, rfl, rfl⟩)
  obtain ⟨d2, v2, b2⟩ := F.binds1 (ps := ["self", "places", "steps"]) 2 0 (by simp) (by rfl) (fun T kV doc pm an cdv ct us its hu hi => match us, hu, its, hi with | [_, _], _, [_], _ => ⟨_, rfl, rfl⟩)
  exact ⟨⟨f, fd, d1, ok, T.k_Row, M, v1, b1⟩, t0, Or.inr ⟨_, #[], n0, lt, rfl, rfl, Nat.zero_le _, .nil⟩, f, fd, d2, ok, T.k_Row, M, v2, b2⟩

theorem e_row {X : Cx} {C_Row : Addr} (T : Tx X.K X.mg C_Row) {σ : L2.St} {H : Hp} {Q : VK} {e1 e2 : Expr} {pos p : Pos} (hr : Room 8 X.A) (hg : Gl X "Row")
    (h : wE X e1 σ H fun x H1 => wE X e2 σ H1 fun v H2 => ∃ P, ∃ ss : List (Int × Int × Str), x = .int P ∧ 1 ≤ P ∧ P ≤ 12 ∧ Dp X.K H2 v (.tuple (ss.map stp)) ∧ ss.length ≤ 24 ∧ (∀ s ∈ ss, okS P s) ∧ ∀ a H', H2 a = none → Same H2 H' → RowAt X.K H' C_Row a P ss → Q (.ref a) H')
    (n1 : starEach [e1, e2] X.env = (false, eval e1 X.env) :: starEach [e2] X.env := by rfl) (n2 : starEach [e2] X.env = (false, eval e2 X.env) :: starEach [] X.env := by rfl)
    (n3 : (backTo pos (starEach [e2] X.env)).any (·.1) = false := by rfl) : wE X (.Call (.Name "Row" p) [e1, e2] [] pos) σ H Q := by
  refine e_make (D_Row___init__ T).1 hr hg ?_ (by decide) n1 n3
  refine a_cons (wE_mono h ?_) n1
  intro x H1 k
  refine a_cons (wE_mono k ?_) n2
  rintro v H2 ⟨P, ss, rfl, h1, h2, hd, h3, h4, q⟩
  refine a_nil ?_
  intro a dx ha hdx hne
  have s1 : Same H2 (upd H2 dx (.own a)) := (Same.refl H2).new hdx
  have f1 : upd H2 dx (.own a) a = none := by rw [upd_ne (Ne.symm hne)]; exact ha
  have s2 : Same H2 (upd (upd H2 dx (.own a)) a (.ins C_Row dx [])) := s1.new f1
  refine ⟨a, dx, P, v, ss, rfl, upd_same, h1, h2, dp_same s2 hd, h3, h4, fun H' c r => ⟨rfl, q a H' ha (s2.ch ha c) r⟩⟩
local macro_rules | `(tactic| walk_at "rw") => `(tactic| (refine' e_row ‹Tx _ _ _› ?rm ?gl ?_; (case rm => exact ‹Bd _ _ _ _›.room.mono (by decide)); (case gl => with_reducible assumption)))
/-- where the thing of a place lies behind each step -/
def trail : List (Int × Int × Str) → Int → List Int
  | [], p => [p]
  | s :: ss, p => p :: trail ss (pb s.1 s.2.1 p)
def lastP : List (Int × Int × Str) → Int → Int
  | [], p => p
  | s :: ss, p => lastP ss (pb s.1 s.2.1 p)
theorem lastP_app (ss ts : List (Int × Int × Str)) (p : Int) : lastP (ss ++ ts) p = lastP ts (lastP ss p) := by
  induction ss generalizing p with
  | nil => rfl
  | cons s ss ih => exact ih _
theorem pb_in {P x y p : Int} (h : okE P x y) (h0 : 0 ≤ p) (h1 : p < P) : 0 ≤ pb x y p ∧ pb x y p < P := by
  obtain ⟨a, b, c⟩ := h
  unfold pb
  split
  · omega
  · split <;> omega
theorem lastP_in {P : Int} : ∀ {ss : List (Int × Int × Str)} {p : Int}, (∀ s ∈ ss, okS P s) → 0 ≤ p → p < P → 0 ≤ lastP ss p ∧ lastP ss p < P
  | [], p, _, h0, h1 => ⟨h0, h1⟩
  | s :: ss, p, h, h0, h1 => by
    have := pb_in (h s (List.mem_cons_self ..)).1 h0 h1
    exact lastP_in (ss := ss) (fun t ht => h t (List.mem_cons_of_mem _ ht)) this.1 this.2
theorem trail_len (ss : List (Int × Int × Str)) (p : Int) : (trail ss p).length = ss.length + 1 := by
  induction ss generalizing p with
  | nil => rfl
  | cons s ss ih => show (trail ss _).length + 1 = _; rw [ih]; rfl
theorem trail_at : ∀ (ss : List (Int × Int × Str)) (p : Int) (i : Nat), i ≤ ss.length → (trail ss p)[i]? = some (lastP (ss.take i) p)
  | [], p, 0, _ => rfl
  | [], p, i + 1, h => by simp at h
  | s :: ss, p, 0, _ => rfl
  | s :: ss, p, i + 1, h => by
    show (trail ss _)[i]? = _
    rw [trail_at ss _ i (by simpa using h)]
    rfl
theorem trail_ne (ss : List (Int × Int × Str)) (p : Int) : trail ss p ≠ [] := by cases ss <;> simp [trail]
theorem trail_snoc (ss : List (Int × Int × Str)) (s : Int × Int × Str) (p : Int) : trail (ss ++ [s]) p = trail ss p ++ [pb s.1 s.2.1 (lastP ss p)] := by
  induction ss generalizing p with
  | nil => rfl
  | cons t ss ih => show p :: trail (ss ++ [s]) _ = p :: (trail ss _ ++ _); rw [ih]; rfl
theorem trail_last (ss : List (Int × Int × Str)) (p : Int) : ((trail ss p).map V.int)[ss.length]? = some (.int (lastP ss p)) := by
  rw [List.getElem?_map, trail_at ss p _ (Nat.le_refl _), List.take_length]; rfl
theorem atI_last {xs : List V} {n : Nat} {v : V} (hl : xs.length = n + 1) (h : xs[n]? = some v) : atI xs (-1) = some v := by
  have e : ixN xs.length (-1) = some n := by
    unfold ixN
    rw [hl]
    simp
    omega
  show (ixN xs.length (-1)).bind _ = _
  rw [e]
  exact h
theorem tk_snoc {α : Type} {l : List α} {i : Nat} {a : α} (h : l[i]? = some a) : l.take (i + 1) = l.take i ++ [a] := by rw [List.take_add_one, h]; rfl
def sp_Row_path (K : PySem.W.Frag) (C_Row : Addr) : Sp := fun vs H Q _ => ∃ a p P, ∃ ss : List (Int × Int × Str), vs = [.ref a, .int p] ∧ RowAt K H C_Row a P ss ∧ 0 ≤ p ∧ p < P ∧ ∀ r H', Same H H' → SqT K H' r ((trail ss p).map V.int) → Q (.ref r) H'
theorem b_Row_path {X : Cx} {C_Row : Addr} (B : Bd X N_Row_path (defScope S_Row_path) 2) (F : ∀ x, X.fn x = true) (T : Tx X.K X.mg C_Row) {vs : List V} {H : Hp} {Q : VK} {E : XK} (h : sp_Row_path X.K C_Row vs H Q E) :
    wB X (defBody S_Row_path) { nx := fun _ H' => Q .non H', rt := Q } (start N_Row_path vs) H := by
  have n_self : X.N[0]? = some ("self" : Str) := B.slot 0 rfl
  have l_self : X.env.scope.names.lookup ("self" : Str) = some NameKind.local := B.loc rfl
  have n_place : X.N[1]? = some ("place" : Str) := B.slot 1 rfl
  have l_place : X.env.scope.names.lookup ("place" : Str) = some NameKind.local := B.loc rfl
  have n_stops : X.N[2]? = some ("stops" : Str) := B.slot 2 rfl
  have l_stops : X.env.scope.names.lookup ("stops" : Str) = some NameKind.local := B.loc rfl
  have n_step : X.N[3]? = some ("step" : Str) := B.slot 3 rfl
  have l_step : X.env.scope.names.lookup ("step" : Str) = some NameKind.local := B.loc rfl
  have g_check_number : Gl X "check_number" := B.gl rfl
  have g_place_behind : Gl X "place_behind" := B.gl rfl
  have g_tuple : Gl X "tuple" := B.gl rfl
  have z_tuple := T.z_tuple
  have v_tuple := bb_tuple
  obtain ⟨a, p, P, ss, rfl, ⟨⟨dx, v, ha, hd⟩, h1, h2, h3, h4⟩, p0, p1, q⟩ := h
  obtain ⟨b, xs, rfl, hs, da⟩ := dp_tup hd
  have hl : xs.length = ss.length := by rw [dp_len da, List.length_map]
  walk_at "wz"
  refine e_fld ?_
  walk_at "wz"
  refine ⟨a, C_Row, dx, _, _, rfl, ha, T.cl_Row, T.na_Row__places, rfl, ?_⟩
  walk_at "wz"
  refine ⟨by show 1 ≤ sizeLine; decide, fun l hl0 => ?_⟩
  walk_at "wz"
  refine s_forT 3 B.ps B.calm B.nd n_step (Or.inl l_step) ?_ (hf := .inr l_step)
  refine e_fld ?_
  walk_at "wz"
  refine ⟨a, C_Row, dx, _, _, rfl, upd_keep hl0 ha, T.cl_Row, T.na_Row__steps, rfl, ?_⟩
  refine ⟨b, xs, rfl, same_tup ((Same.refl H).new hl0) hs, fun k σ H1 => ∃ y3, σ = [some (.ref a), some (.int p), some (.ref l), y3] ∧ Same H H1 ∧ H1 l = some (.lst ((trail (ss.take k) p).map V.int)), ?_, ?_, ?_, ?_⟩
  · exact ⟨_, rfl, (Same.refl H).new hl0, upd_same⟩
  · rintro k σ H1 hk ⟨y3, rfl, sm, _⟩
    exact same_tup sm hs
  · rintro k v σ H1 hk ⟨y3, rfl, sm, hll⟩
    obtain ⟨s, e1, e2⟩ := dp_step da hk
    obtain ⟨c, rfl, hc⟩ := dp_stp e2
    have hk2 : k < ss.length := (List.getElem?_eq_some_iff.mp e1).1
    have ht : (ss.take k).length = k := by rw [List.length_take]; omega
    walk_at "st"
    walk_at "st"
    refine e_app ?_
    walk_at "wz"
    refine ⟨Or.inl ⟨rfl, _, SqL.of hll⟩, ?_⟩
    walk_at "wz"
    have hat := trail_last (ss.take k) p
    rw [ht] at hat
    refine x_lst (SqL.of hll) (atI_last (n := k) (by rw [List.length_map, trail_len, ht]) hat) ?_
    walk_at "wz"
    refine ⟨_, c, s.1, s.2.1, [.str s.2.2], rfl, same_tup sm hc, ?_⟩
    refine ⟨l, _, rfl, hll, ?_, ?_⟩
    · rw [List.length_map, trail_len, ht]
      have : (100 : Nat) < sizeLine := by decide
      omega
    · refine ⟨_, rfl, sm.ch hl0 Ch.refl.put, ?_⟩
      rw [upd_same, tk_snoc e1, trail_snoc, List.map_append]
      rfl
  · rintro σ H1 ⟨y3, rfl, sm, hll⟩
    walk_at "wz"
    refine c_tupL (SqL.of hll) fun r hr => ?_
    rw [hl, List.take_length]
    exact q r _ (sm.new hr) (SqT.of upd_same)
theorem len_Row_path {K : PySem.W.Frag} {C_Row : Addr} : ∀ vs H Q E, sp_Row_path K C_Row vs H Q E → vs.length = 2 := by
  intro vs H Q E h
  obtain ⟨_, _, _, _, e, _⟩ := h
  rw [e]; rfl
theorem D_Row_path {P : Program} {w : World} {K : PySem.W.Frag} {mg : Str → Option Value} {base : Heap} {C_Row : Addr} (T : Tx K mg C_Row) : Md P w K mg base C_Row "path" 3 ["self", "place"] (sp_Row_path K C_Row) := by
  obtain ⟨f, fd, F0, M⟩ := T.d_Row_path
  exact ⟨f, fd, fnk_of F0 sc_Row_path len_Row_path (fun X e1 e2 e3 e4 e5 B F vs H Q E h => by subst e1 e2 e3 e4 e5; exact b_Row_path B F T h), M, F0.binds (fun _ _ _ _ _ _ us hl => match us, hl with | [_, _], _ => rfl)⟩

theorem okO_cps {o : Str} (h : okO o) : ∃ c : Nat, o.cps.toList = [c] ∧ c ≤ 122 ∧ 97 ≤ c := by
  obtain ⟨h1, h2, h3⟩ := h
  have hl : o.cps.toList.length = 1 := by rw [Array.length_toList]; exact h1
  match e : o.cps.toList, hl with
  | [c], _ =>
    rw [e] at h2 h3
    have ea : ("a" : Str).cps.toList = [97] := by decide
    have ez : ("z" : Str).cps.toList = [122] := by decide
    rw [ea] at h2
    rw [ez] at h3
    refine ⟨c, rfl, ?_, ?_⟩
    · exact Nat.le_of_not_lt fun z => h3 (List.Lex.rel z)
    · exact Nat.le_of_not_lt fun z => h2 (List.Lex.rel z)
theorem okO_str {o : Str} (h : okO o) : PyData.strOk o = true := by
  obtain ⟨c, e, h1, _⟩ := okO_cps h
  unfold PyData.strOk
  rw [← Array.all_toList, e]
  simp
  omega
theorem lay_steps {P : Int} : ∀ {ss : List (Int × Int × Str)}, (∀ s ∈ ss, okS P s) → PyData.canLayAll0 (ss.map stp) = true
  | [], _ => rfl
  | s :: ss, h => by
    show (PyData.canLay0 (stp s) && PyData.canLayAll0 (ss.map stp)) = true
    rw [lay_steps (ss := ss) fun t ht => h t (List.mem_cons_of_mem _ ht), Bool.and_true]
    show (true && (true && (PyData.strOk s.2.2 && true))) = true
    rw [okO_str (h s (List.mem_cons_self ..)).2]; rfl
theorem depth_steps : ∀ ss : List (Int × Int × Str), PyData.depthAll (ss.map stp) ≤ 10
  | [] => by decide
  | s :: ss => by
    have := depth_steps ss
    have e : PyData.depth (stp s) ≤ 10 := by simp [stp, PyData.depth, PyData.depthAll]
    simp only [List.map_cons, PyData.depthAll]
    omega
theorem shaped_steps {P : Int} {ss : List (Int × Int × Str)} (h : ∀ s ∈ ss, okS P s) : SeqAt.shaped (.tuple (ss.map stp)) = true := by
  unfold SeqAt.shaped
  rw [show PyData.canLay0 (.tuple (ss.map stp)) = true by show PyData.canLayAll0 _ = true; exact lay_steps h, Bool.true_and]
  have := depth_steps ss
  exact decide_eq_true (by simp only [PyData.depth]; omega)
theorem eqv_stp (s t : Int × Int × Str) : PyData.eqv (stp s) (stp t) = decide (s = t) := by
  obtain ⟨a, b, c⟩ := s
  obtain ⟨d, e, f⟩ := t
  show (a == d && (b == e && (c == f && true))) = _
  rw [Bool.and_true, Bool.eq_iff_iff]
  simp
theorem eqv_steps : ∀ ss ts : List (Int × Int × Str), PyData.eqvAll (ss.map stp) (ts.map stp) = decide (ss = ts)
  | [], [] => by rfl
  | [], t :: ts => by rfl
  | s :: ss, [] => by rfl
  | s :: ss, t :: ts => by
    show (PyData.eqv (stp s) (stp t) && PyData.eqvAll (ss.map stp) (ts.map stp)) = _
    rw [eqv_stp, eqv_steps ss ts, Bool.eq_iff_iff]
    simp

def deedL (P : Int) (ss : List (Int × Int × Str)) : List Int := (List.range P.toNat).map fun (i : Nat) => lastP ss (i : Int)
theorem same_T {K : PySem.W.Frag} {H H' : Hp} {a : Addr} {xs : List V} (h : SqT K H a xs) (e : Same H H') : SqT K H' a xs := same_tup e h
theorem stays_eq (f : Nat → V) : Stays (fun i y _ => y = f i) := fun _ _ _ _ _ e _ _ => e
theorem ys_eq {ys : List V} {n : Nat} {f : Nat → V} (hl : ys.length = n) (h : ∀ i y, ys[i]? = some y → y = f i) : ys = (List.range n).map f := by
  refine List.ext_getElem? fun i => ?_
  rw [List.getElem?_map]
  by_cases hi : i < n
  · have hi2 : i < ys.length := by omega
    rw [List.getElem?_range hi, List.getElem?_eq_getElem hi2, h i _ (List.getElem?_eq_getElem hi2)]; rfl
  · rw [List.getElem?_eq_none (by omega), List.getElem?_eq_none (by simpa using hi)]; rfl
def sp_Row_deed (K : PySem.W.Frag) (C_Row : Addr) : Sp := fun vs H Q _ => ∃ a P, ∃ ss : List (Int × Int × Str), vs = [.ref a] ∧ RowAt K H C_Row a P ss ∧ ∀ r H', Same H H' → SqT K H' r ((deedL P ss).map V.int) → Q (.ref r) H'
theorem b_Row_deed {X : Cx} {C_Row : Addr} (B : Bd X N_Row_deed (defScope S_Row_deed) 3) (F : ∀ x, X.fn x = true) (T : Tx X.K X.mg C_Row) {vs : List V} {H : Hp} {Q : VK} {E : XK} (h : sp_Row_deed X.K C_Row vs H Q E) :
    wB X (defBody S_Row_deed) { nx := fun _ H' => Q .non H', rt := Q } (start N_Row_deed vs) H := by
  have n_self : X.N[0]? = some ("self" : Str) := B.slot 0 rfl
  have l_self : X.env.scope.names.lookup ("self" : Str) = some NameKind.cell := B.cel rfl
  have n_place : X.N[1]? = some ("place" : Str) := B.slot 1 rfl
  have g_tuple : Gl X "tuple" := B.gl rfl
  have z_tuple := T.z_tuple
  have v_tuple := bb_tuple
  have g_range : Gl X "range" := B.gl rfl
  have z_range := T.z_range
  have v_range := bb_range
  obtain ⟨a, P, ss, rfl, R, q⟩ := h
  obtain ⟨⟨dx, v, ha, hd⟩, h1, h2, h3, h4⟩ := id R
  walk_at "wz"
  refine e_lcR 1 B (blkOk_by (by decide +kernel)) (by assumption) (by assumption) rfl rfl (lcR_same ?_)
  refine e_fld ?_
  walk_at "wz"
  refine ⟨a, C_Row, dx, _, _, rfl, ha, T.cl_Row, T.na_Row__places, rfl, ?_⟩
  refine ⟨P.toNat, fun i y _ => y = .int (lastP ss (i : Int)), by rw [Int.toNat_of_nonneg (by omega)], by omega, stays_eq _, ?_, ?_⟩
  · intro i H2 hi sm X' bk
    have B' := bk.bd B
    have n_place : X'.N[1]? = some ("place" : Str) := B'.slot 1 rfl
    have l_place : X'.env.scope.names.lookup ("place" : Str) = some NameKind.local := B'.loc rfl
    have n_self : X'.N[0]? = some ("self" : Str) := B'.slot 0 rfl
    have l_self : X'.env.scope.names.lookup ("self" : Str) = some NameKind.cell := B'.cel rfl
    have T' : Tx X'.K X'.mg C_Row := by rw [bk.K, bk.mg]; exact T
    walk_at "ex"
    refine e_meth (D_Row_path T') T'.cl_Row (B'.room.mono (by decide)) ?_
    walk_at "wz"
    refine ⟨a, dx, _, rfl, sm _ _ ha, rfl, ?_⟩
    walk_at "wz"
    refine ⟨a, (i : Int), P, ss, rfl, ?_, by omega, by omega, fun r H' s2 hr => ?_⟩
    · rw [bk.K]
      exact R.same sm
    walk_at "wz"
    refine x_tup hr (atI_last (n := ss.length) (by rw [List.length_map, trail_len]) (trail_last ss _)) ?_
    exact ⟨s2, rfl⟩
  · intro D H' ys h0 sm hD hl hy
    walk_at "wz"
    refine c_tupL (SqL.of hD) fun r hr => ?_
    refine q r _ (sm.new hr) ?_
    rw [ys_eq hl hy]
    refine SqT.of ?_
    rw [upd_same]
    unfold deedL
    rw [List.map_map]
    rfl
theorem len_Row_deed {K : PySem.W.Frag} {C_Row : Addr} : ∀ vs H Q E, sp_Row_deed K C_Row vs H Q E → vs.length = 1 := by
  intro vs H Q E h
  obtain ⟨_, _, _, e, _⟩ := h
  rw [e]; rfl
theorem D_Row_deed {P : Program} {w : World} {K : PySem.W.Frag} {mg : Str → Option Value} {base : Heap} {C_Row : Addr} (T : Tx K mg C_Row) : Pd P w K mg base C_Row "deed" 4 (sp_Row_deed K C_Row) := by
  obtain ⟨p, f, fd, F0, M⟩ := T.d_Row_deed
  exact ⟨p, f, fd, fnk_of F0 sc_Row_deed len_Row_deed (fun X e1 e2 e3 e4 e5 B F vs H Q E h => by subst e1 e2 e3 e4 e5; exact b_Row_deed B F T h), M, F0.binds (fun _ _ _ _ _ _ us hl => match us, hl with | [_], _ => rfl)⟩
def backP (ss : List (Int × Int × Str)) (p : Int) : Int := lastP ss.reverse p
def sp_Row_thing_at (K : PySem.W.Frag) (C_Row : Addr) : Sp := fun vs H Q _ => ∃ a p P, ∃ k : Nat, ∃ ss : List (Int × Int × Str), vs = [.ref a, .int p, .int (k : Int)] ∧ RowAt K H C_Row a P ss ∧ 0 ≤ p ∧ p < P ∧ k ≤ ss.length ∧ ∀ H', Same H H' → Q (.int (backP (ss.take k) p)) H'
theorem b_Row_thing_at {X : Cx} {C_Row : Addr} (B : Bd X N_Row_thing_at (defScope S_Row_thing_at) 2) (F : ∀ x, X.fn x = true) (T : Tx X.K X.mg C_Row) {vs : List V} {H : Hp} {Q : VK} {E : XK} (h : sp_Row_thing_at X.K C_Row vs H Q E) :
    wB X (defBody S_Row_thing_at) { nx := fun _ H' => Q .non H', rt := Q } (start N_Row_thing_at vs) H := by
  have n_self : X.N[0]? = some ("self" : Str) := B.slot 0 rfl
  have l_self : X.env.scope.names.lookup ("self" : Str) = some NameKind.local := B.loc rfl
  have n_place : X.N[1]? = some ("place" : Str) := B.slot 1 rfl
  have l_place : X.env.scope.names.lookup ("place" : Str) = some NameKind.local := B.loc rfl
  have n_index : X.N[2]? = some ("index" : Str) := B.slot 2 rfl
  have l_index : X.env.scope.names.lookup ("index" : Str) = some NameKind.local := B.loc rfl
  have n_thing : X.N[3]? = some ("thing" : Str) := B.slot 3 rfl
  have l_thing : X.env.scope.names.lookup ("thing" : Str) = some NameKind.local := B.loc rfl
  have n_step : X.N[4]? = some ("step" : Str) := B.slot 4 rfl
  have l_step : X.env.scope.names.lookup ("step" : Str) = some NameKind.local := B.loc rfl
  have g_check_number : Gl X "check_number" := B.gl rfl
  have g_len : Gl X "len" := B.gl rfl
  have z_len := T.z_len
  have v_len := bb_len
  have g_place_behind : Gl X "place_behind" := B.gl rfl
  obtain ⟨a, p, P, k, ss, rfl, ⟨⟨dx, v, ha, hd⟩, h1, h2, h3, h4⟩, p0, p1, hk, q⟩ := h
  obtain ⟨b, xs, rfl, hs, da⟩ := dp_tup hd
  have hl : xs.length = ss.length := by rw [dp_len da, List.length_map]
  walk_at "wz"
  refine e_fld ?_
  walk_at "wz"
  refine ⟨a, C_Row, dx, _, _, rfl, ha, T.cl_Row, T.na_Row__places, rfl, ?_⟩
  walk_at "wz"
  refine e_fld ?_
  walk_at "wz"
  refine ⟨a, C_Row, dx, _, _, rfl, ha, T.cl_Row, T.na_Row__steps, rfl, ?_⟩
  walk_at "wz"
  refine c_lenT hs ?_
  walk_at "wz"
  refine s_forT 4 B.ps B.calm B.nd n_step (Or.inl l_step) ?_ (hf := .inr l_step)
  refine e_revT (e_slNS ?_)
  refine e_fld ?_
  walk_at "wz"
  refine ⟨a, C_Row, dx, _, _, rfl, ha, T.cl_Row, T.na_Row__steps, rfl, ?_⟩
  walk_at "wz"
  refine ⟨b, xs, rfl, hs, fun c H1 sm1 hc => ?_⟩
  rw [cut_j xs (by omega)] at hc
  refine ⟨c, _, rfl, hc, fun d hd1 => ?_⟩
  have sm2 : Same H (upd H1 d (.tup (xs.take k).reverse)) := sm1.new hd1
  have hl2 : (xs.take k).reverse.length = k := by rw [List.length_reverse, List.length_take]; omega
  refine ⟨d, _, rfl, SqT.of upd_same, fun m σ H2 => ∃ y4, σ = [some (.ref a), some (.int p), some (.int (k : Int)), some (.int (lastP ((ss.take k).reverse.take m) p)), y4] ∧ Same (upd H1 d (.tup (xs.take k).reverse)) H2, ?_, ?_, ?_, ?_⟩
  · exact ⟨_, rfl, Same.refl _⟩
  · rintro m σ H2 hm ⟨y4, rfl, sm⟩
    exact same_T (SqT.of upd_same) sm
  · rintro m v σ H2 hm ⟨y4, rfl, sm⟩
    have hm2 : m < k := by
      have := (List.getElem?_eq_some_iff.mp hm).1
      omega
    have e0 : xs[k - 1 - m]? = some v := by
      rw [List.getElem?_reverse (by rw [List.length_take]; omega), List.length_take, Nat.min_eq_left (by omega), List.getElem?_take_of_lt (by omega)] at hm
      exact hm
    obtain ⟨s, e1, e2⟩ := dp_step da e0
    obtain ⟨c2, rfl, hc2⟩ := dp_stp e2
    have e3 : (ss.take k).reverse[m]? = some s := by
      rw [List.getElem?_reverse (by rw [List.length_take]; omega), List.length_take, Nat.min_eq_left hk, List.getElem?_take_of_lt (by omega)]
      exact e1
    walk_at "wz"
    refine ⟨_, c2, s.1, s.2.1, [.str s.2.2], rfl, same_T hc2 (Same.trans sm2 sm), ?_⟩
    refine ⟨some (.ref c2), ?_, sm⟩
    rw [tk_snoc e3, lastP_app]
    rfl
  · rintro σ H2 ⟨y4, rfl, sm⟩
    walk_at "wz"
    have e4 : (ss.take k).reverse.take (xs.take k).reverse.length = (ss.take k).reverse := by
      rw [hl2]
      exact List.take_of_length_le (by rw [List.length_reverse, List.length_take]; omega)
    rw [e4]
    exact q _ (sm2.trans sm)
theorem len_Row_thing_at {K : PySem.W.Frag} {C_Row : Addr} : ∀ vs H Q E, sp_Row_thing_at K C_Row vs H Q E → vs.length = 3 := by
  intro vs H Q E h
  obtain ⟨_, _, _, _, _, e, _⟩ := h
  rw [e]; rfl
theorem D_Row_thing_at {P : Program} {w : World} {K : PySem.W.Frag} {mg : Str → Option Value} {base : Heap} {C_Row : Addr} (T : Tx K mg C_Row) : Md P w K mg base C_Row "thing_at" 3 ["self", "place", "index"] (sp_Row_thing_at K C_Row) := by
  obtain ⟨f, fd, F0, M⟩ := T.d_Row_thing_at
  exact ⟨f, fd, fnk_of F0 sc_Row_thing_at len_Row_thing_at (fun X e1 e2 e3 e4 e5 B F vs H Q E h => by subst e1 e2 e3 e4 e5; exact b_Row_thing_at B F T h), M, F0.binds (fun _ _ _ _ _ _ us hl => match us, hl with | [_, _, _], _ => rfl)⟩
def sp_Row_part (K : PySem.W.Frag) (C_Row : Addr) : Sp := fun vs H Q _ => ∃ a P, ∃ i j : Nat, ∃ ss : List (Int × Int × Str), vs = [.ref a, .int (i : Int), .int (j : Int)] ∧ RowAt K H C_Row a P ss ∧ i ≤ j ∧ j ≤ ss.length ∧ ∀ r H', Same H H' → RowAt K H' C_Row r P ((ss.drop i).take (j - i)) → Q (.ref r) H'
theorem b_Row_part {X : Cx} {C_Row : Addr} (B : Bd X N_Row_part (defScope S_Row_part) 8) (F : ∀ x, X.fn x = true) (T : Tx X.K X.mg C_Row) {vs : List V} {H : Hp} {Q : VK} {E : XK} (h : sp_Row_part X.K C_Row vs H Q E) :
    wB X (defBody S_Row_part) { nx := fun _ H' => Q .non H', rt := Q } (start N_Row_part vs) H := by
  have n_self : X.N[0]? = some ("self" : Str) := B.slot 0 rfl
  have l_self : X.env.scope.names.lookup ("self" : Str) = some NameKind.local := B.loc rfl
  have n_first : X.N[1]? = some ("first" : Str) := B.slot 1 rfl
  have l_first : X.env.scope.names.lookup ("first" : Str) = some NameKind.local := B.loc rfl
  have n_last : X.N[2]? = some ("last" : Str) := B.slot 2 rfl
  have l_last : X.env.scope.names.lookup ("last" : Str) = some NameKind.local := B.loc rfl
  have g_check_number : Gl X "check_number" := B.gl rfl
  have g_len : Gl X "len" := B.gl rfl
  have z_len := T.z_len
  have v_len := bb_len
  have g_Row : Gl X "Row" := B.gl rfl
  obtain ⟨a, P, i, j, ss, rfl, ⟨⟨dx, v, ha, hd⟩, h1, h2, h3, h4⟩, hi, hj, q⟩ := h
  obtain ⟨b, xs, rfl, hs, da⟩ := dp_tup hd
  have hl : xs.length = ss.length := by rw [dp_len da, List.length_map]
  walk_at "wz"
  refine e_fld ?_
  walk_at "wz"
  refine ⟨a, C_Row, dx, _, _, rfl, ha, T.cl_Row, T.na_Row__steps, rfl, ?_⟩
  walk_at "wz"
  refine c_lenT hs ?_
  walk_at "wz"
  refine e_fld ?_
  walk_at "wz"
  refine ⟨a, C_Row, dx, _, _, rfl, ha, T.cl_Row, T.na_Row__steps, rfl, ?_⟩
  walk_at "wz"
  refine c_lenT hs ?_
  walk_at "wz"
  walk_at "rw"
  refine e_fld ?_
  walk_at "wz"
  refine ⟨a, C_Row, dx, _, _, rfl, ha, T.cl_Row, T.na_Row__places, rfl, ?_⟩
  refine e_slSS ?_
  refine e_fld ?_
  walk_at "wz"
  refine ⟨a, C_Row, dx, _, _, rfl, ha, T.cl_Row, T.na_Row__steps, rfl, ?_⟩
  walk_at "wz"
  refine ⟨b, xs, rfl, hs, fun c H1 sm hc => ?_⟩
  rw [cut_ij xs hi (by omega)] at hc
  refine ⟨P, (ss.drop i).take (j - i), rfl, h1, h2, ?_, by rw [List.length_take, List.length_drop]; omega, fun s hs => h4 s (List.mem_of_mem_drop (List.mem_of_mem_take hs)), fun r H' _ s2 R => q r H' (sm.trans s2) R⟩
  rw [List.map_take, List.map_drop]
  exact .tup hc (dpa_same sm (dpa_take _ (dpa_drop _ da)))
theorem len_Row_part {K : PySem.W.Frag} {C_Row : Addr} : ∀ vs H Q E, sp_Row_part K C_Row vs H Q E → vs.length = 3 := by
  intro vs H Q E h
  obtain ⟨_, _, _, _, _, e, _⟩ := h
  rw [e]; rfl
theorem D_Row_part {P : Program} {w : World} {K : PySem.W.Frag} {mg : Str → Option Value} {base : Heap} {C_Row : Addr} (T : Tx K mg C_Row) : Md P w K mg base C_Row "part" 9 ["self", "first", "last"] (sp_Row_part K C_Row) := by
  obtain ⟨f, fd, F0, M⟩ := T.d_Row_part
  exact ⟨f, fd, fnk_of F0 sc_Row_part len_Row_part (fun X e1 e2 e3 e4 e5 B F vs H Q E h => by subst e1 e2 e3 e4 e5; exact b_Row_part B F T h), M, F0.binds (fun _ _ _ _ _ _ us hl => match us, hl with | [_, _, _], _ => rfl)⟩

def sp_Row___add__ (K : PySem.W.Frag) (C_Row : Addr) : Sp := fun vs H Q _ => ∃ a b P, ∃ ss ts : List (Int × Int × Str), vs = [.ref a, .ref b] ∧ RowAt K H C_Row a P ss ∧ RowAt K H C_Row b P ts ∧ ss.length + ts.length ≤ 24 ∧ ∀ r H', Same H H' → RowAt K H' C_Row r P (ss ++ ts) → Q (.ref r) H'
theorem b_Row___add__ {X : Cx} {C_Row : Addr} (B : Bd X N_Row___add__ (defScope S_Row___add__) 8) (F : ∀ x, X.fn x = true) (T : Tx X.K X.mg C_Row) {vs : List V} {H : Hp} {Q : VK} {E : XK} (h : sp_Row___add__ X.K C_Row vs H Q E) :
    wB X (defBody S_Row___add__) { nx := fun _ H' => Q .non H', rt := Q } (start N_Row___add__ vs) H := by
  have n_self : X.N[0]? = some ("self" : Str) := B.slot 0 rfl
  have l_self : X.env.scope.names.lookup ("self" : Str) = some NameKind.local := B.loc rfl
  have n_other : X.N[1]? = some ("other" : Str) := B.slot 1 rfl
  have l_other : X.env.scope.names.lookup ("other" : Str) = some NameKind.local := B.loc rfl
  have g_isinstance : Gl X "isinstance" := B.gl rfl
  have z_isinstance := T.z_isinstance
  have v_isinstance := bb_isinstance
  have g_Row : Gl X "Row" := B.gl rfl
  have g_InvalidOperation : Gl X "InvalidOperation" := B.gl rfl
  have g_len : Gl X "len" := B.gl rfl
  have z_len := T.z_len
  have v_len := bb_len
  have g_MAX_STEPS : Gl X "MAX_STEPS" := B.gl rfl
  obtain ⟨t_MAX_STEPS, c_MAX_STEPS⟩ := T.c_MAX_STEPS
  have g_TooMany : Gl X "TooMany" := B.gl rfl
  obtain ⟨a, b, P, ss, ts, rfl, ⟨⟨dx, v, ha, hd⟩, h1, h2, h3, h4⟩, ⟨⟨dy, w, hb, he⟩, _, _, h5, h6⟩, hz, q⟩ := h
  obtain ⟨c, xs, rfl, hs, da⟩ := dp_tup hd
  obtain ⟨d, ys, rfl, ht, db⟩ := dp_tup he
  have hl : xs.length = ss.length := by rw [dp_len da, List.length_map]
  have hl2 : ys.length = ts.length := by rw [dp_len db, List.length_map]
  walk_at "wz"
  refine e_gref g_Row T.k_Row ?_
  walk_at "wz"
  refine c_isC T.cl_Row T.ic_Row hb ?_
  walk_at "wz"
  refine e_fld ?_
  walk_at "wz"
  refine ⟨b, C_Row, dy, _, _, rfl, hb, T.cl_Row, T.na_Row__places, rfl, ?_⟩
  refine e_fld ?_
  walk_at "wz"
  refine ⟨a, C_Row, dx, _, _, rfl, ha, T.cl_Row, T.na_Row__places, rfl, ?_⟩
  walk_at "wz"
  refine iteND (fun z => absurd rfl z) (fun _ => ?_)
  walk_at "wz"
  refine e_fld ?_
  walk_at "wz"
  refine ⟨a, C_Row, dx, _, _, rfl, ha, T.cl_Row, T.na_Row__steps, rfl, ?_⟩
  walk_at "wz"
  refine c_lenT hs ?_
  walk_at "wz"
  refine e_fld ?_
  walk_at "wz"
  refine ⟨b, C_Row, dy, _, _, rfl, hb, T.cl_Row, T.na_Row__steps, rfl, ?_⟩
  walk_at "wz"
  refine c_lenT ht ?_
  walk_at "wz"
  refine iteD (fun z => absurd z (by omega)) (fun _ => ?_)
  walk_at "wz"
  walk_at "rw"
  refine e_fld ?_
  walk_at "wz"
  refine ⟨a, C_Row, dx, _, _, rfl, ha, T.cl_Row, T.na_Row__places, rfl, ?_⟩
  walk_at "wz"
  refine e_fld ?_
  walk_at "wz"
  refine ⟨a, C_Row, dx, _, _, rfl, ha, T.cl_Row, T.na_Row__steps, rfl, ?_⟩
  refine e_fld ?_
  walk_at "wz"
  refine ⟨b, C_Row, dy, _, _, rfl, hb, T.cl_Row, T.na_Row__steps, rfl, ?_⟩
  refine o_cat hs ht (by have : (48 : Nat) ≤ sizeLine := (by decide); omega) fun p H' sm hp => ?_
  refine ⟨P, ss ++ ts, rfl, h1, h2, ?_, by rw [List.length_append]; omega, fun s hs => (List.mem_append.mp hs).elim (h4 s) (h6 s), fun r H2 _ s2 R => q r H2 (sm.trans s2) R⟩
  rw [List.map_append]
  exact .tup hp (dpa_same sm (dpa_app da db))
theorem len_Row___add__ {K : PySem.W.Frag} {C_Row : Addr} : ∀ vs H Q E, sp_Row___add__ K C_Row vs H Q E → vs.length = 2 := by
  intro vs H Q E h
  obtain ⟨_, _, _, _, _, e, _⟩ := h
  rw [e]; rfl
theorem D_Row___add__ {P : Program} {w : World} {K : PySem.W.Frag} {mg : Str → Option Value} {base : Heap} {C_Row : Addr} (T : Tx K mg C_Row) : Md P w K mg base C_Row "__add__" 9 ["self", "other"] (sp_Row___add__ K C_Row) := by
  obtain ⟨f, fd, F0, M⟩ := T.d_Row___add__
  exact ⟨f, fd, fnk_of F0 sc_Row___add__ len_Row___add__ (fun X e1 e2 e3 e4 e5 B F vs H Q E h => by subst e1 e2 e3 e4 e5; exact b_Row___add__ B F T h), M, F0.binds (fun _ _ _ _ _ _ us hl => match us, hl with | [_, _], _ => rfl)⟩
def sp_Row___eq__ (K : PySem.W.Frag) (C_Row : Addr) : Sp := fun vs H Q _ => ∃ a b P R, ∃ ss ts : List (Int × Int × Str), vs = [.ref a, .ref b] ∧ RowAt K H C_Row a P ss ∧ RowAt K H C_Row b R ts ∧ Q (.bl (decide (P = R) && decide (ss = ts))) H
theorem b_Row___eq__ {X : Cx} {C_Row : Addr} (B : Bd X N_Row___eq__ (defScope S_Row___eq__) 0) (F : ∀ x, X.fn x = true) (T : Tx X.K X.mg C_Row) {vs : List V} {H : Hp} {Q : VK} {E : XK} (h : sp_Row___eq__ X.K C_Row vs H Q E) :
    wB X (defBody S_Row___eq__) { nx := fun _ H' => Q .non H', rt := Q } (start N_Row___eq__ vs) H := by
  have n_self : X.N[0]? = some ("self" : Str) := B.slot 0 rfl
  have l_self : X.env.scope.names.lookup ("self" : Str) = some NameKind.local := B.loc rfl
  have n_other : X.N[1]? = some ("other" : Str) := B.slot 1 rfl
  have l_other : X.env.scope.names.lookup ("other" : Str) = some NameKind.local := B.loc rfl
  have g_isinstance : Gl X "isinstance" := B.gl rfl
  have z_isinstance := T.z_isinstance
  have v_isinstance := bb_isinstance
  have g_Row : Gl X "Row" := B.gl rfl
  obtain ⟨a, b, P, R, ss, ts, rfl, ⟨⟨dx, v, ha, hd⟩, h1, h2, h3, h4⟩, ⟨⟨dy, w, hb, he⟩, _, _, h5, h6⟩, q⟩ := h
  walk_at "wz"
  refine e_gref g_Row T.k_Row ?_
  walk_at "wz"
  refine c_isC T.cl_Row T.ic_Row hb ?_
  walk_at "wz"
  refine e_fld ?_
  walk_at "wz"
  refine ⟨a, C_Row, dx, _, _, rfl, ha, T.cl_Row, T.na_Row__places, rfl, ?_⟩
  refine e_fld ?_
  walk_at "wz"
  refine ⟨b, C_Row, dy, _, _, rfl, hb, T.cl_Row, T.na_Row__places, rfl, ?_⟩
  walk_at "wz"
  by_cases e : P = R
  · subst e
    rw [decide_eq_true rfl, Bool.true_and] at q
    refine iteD (fun _ => ?_) (fun z => absurd rfl z)
    walk_at "wz"
    refine e_fld ?_
    walk_at "wz"
    refine ⟨a, C_Row, dx, _, _, rfl, ha, T.cl_Row, T.na_Row__steps, rfl, ?_⟩
    refine e_fld ?_
    walk_at "wz"
    refine ⟨b, C_Row, dy, _, _, rfl, hb, T.cl_Row, T.na_Row__steps, rfl, ?_⟩
    refine o_eqD B.room.units hd he (shaped_steps h4) (shaped_steps h6) ?_
    rw [show PyData.eqv (.tuple (ss.map stp)) (.tuple (ts.map stp)) = decide (ss = ts) from eqv_steps ss ts]
    exact q
  · rw [decide_eq_false e, Bool.false_and] at q
    refine iteD (fun z => absurd (V.int.inj z) e) (fun _ => ?_)
    exact q
theorem len_Row___eq__ {K : PySem.W.Frag} {C_Row : Addr} : ∀ vs H Q E, sp_Row___eq__ K C_Row vs H Q E → vs.length = 2 := by
  intro vs H Q E h
  obtain ⟨_, _, _, _, _, _, e, _⟩ := h
  rw [e]; rfl
theorem D_Row___eq__ {P : Program} {w : World} {K : PySem.W.Frag} {mg : Str → Option Value} {base : Heap} {C_Row : Addr} (T : Tx K mg C_Row) : Md P w K mg base C_Row "__eq__" 1 ["self", "other"] (sp_Row___eq__ K C_Row) := by
  obtain ⟨f, fd, F0, M⟩ := T.d_Row___eq__
  exact ⟨f, fd, fnk_of F0 sc_Row___eq__ len_Row___eq__ (fun X e1 e2 e3 e4 e5 B F vs H Q E h => by subst e1 e2 e3 e4 e5; exact b_Row___eq__ B F T h), M, F0.binds (fun _ _ _ _ _ _ us hl => match us, hl with | [_, _], _ => rfl)⟩

theorem _root_.WX.Ch.at {p l : Addr} {H H1 : Hp} {o : HO} (a : Ch p H H1) (h : H l = none) : Ch p H (upd H1 l o) := fun b u hb e => upd_keep2 (ne_of_none e h) (a b u hb e)
theorem _root_.WX.Dice.at {H : Hp} {p l : Addr} {o : HO} (d : Dice H p) (h : l ≠ p) : Dice (upd H l o) p := by
  obtain ⟨x, y, z, e⟩ := d
  exact ⟨x, y, z, upd_keep2 (Ne.symm h) e⟩
theorem _root_.WX.Dice.off {H : Hp} {p q : Addr} (d : Dice H p) (h : H q = none) : q ≠ p := by
  obtain ⟨x, y, z, e⟩ := d
  rintro rfl
  rw [e] at h
  cases h
theorem at_str {z : Str} {r : Int} (h0 : 0 ≤ r) (h : r < (z.length : Int)) : ∃ c : Nat, c ∈ z.cps.toList ∧ atI z.cps.toList r = some c := by
  obtain ⟨n, rfl⟩ : ∃ n : Nat, r = (n : Int) := ⟨r.toNat, by omega⟩
  have h2 : n < z.cps.toList.length := by
    have : z.length = z.cps.toList.length := by show z.cps.size = _; simp
    omega
  exact ⟨z.cps.toList[n], List.getElem_mem h2, atI_nat (List.getElem?_eq_getElem h2)⟩
def sp__law_dice (K : PySem.W.Frag) (C_Row : Addr) : Sp := fun vs H Q _ => ∃ a ns, vs = [.ref a, .int (ns : Int)] ∧ (∃ xs : List Int, SqL K H a (xs.map V.int)) ∧ (ns : Int) = ns ∧ 0 ≤ (ns : Int) ∧ ∀ p x y, H p = none → Q (.ref p) (upd H p (.lst [.int x, .int y, .int 0]))
theorem b__law_dice {X : Cx} {C_Row : Addr} (B : Bd X N__law_dice (defScope S__law_dice) 0) (F : ∀ x, X.fn x = true) (G : X.A.guards = some []) (T : Tx X.K X.mg C_Row) {vs : List V} {H : Hp} {Q : VK} {E : XK} (h : sp__law_dice X.K C_Row vs H Q E) :
    wB X (defBody S__law_dice) { nx := fun _ H' => Q .non H', rt := Q } (start N__law_dice vs) H := by
  have n_script : X.N[0]? = some ("script" : Str) := B.slot 0 rfl
  have l_script : X.env.scope.names.lookup ("script" : Str) = some NameKind.local := B.loc rfl
  have n_spot : X.N[1]? = some ("spot" : Str) := B.slot 1 rfl
  have l_spot : X.env.scope.names.lookup ("spot" : Str) = some NameKind.local := B.loc rfl
  have n_cell : X.N[2]? = some ("cell" : Str) := B.slot 2 rfl
  have l_cell : X.env.scope.names.lookup ("cell" : Str) = some NameKind.local := B.loc rfl
  have n_left : X.N[3]? = some ("left" : Str) := B.slot 3 rfl
  have l_left : X.env.scope.names.lookup ("left" : Str) = some NameKind.local := B.loc rfl
  have g_len : Gl X "len" := B.gl rfl
  have z_len := T.z_len
  have v_len := bb_len
  have g_int : Gl X "int" := B.gl rfl
  have z_int := T.z_int
  have v_int := bb_int
  have g_max : Gl X "max" := B.gl rfl
  have z_max := T.z_max
  have v_max := bb_max
  have g_abs : Gl X "abs" := B.gl rfl
  have z_abs := T.z_abs
  have v_abs := bb_abs
  obtain ⟨a, i, rfl, ⟨xs, hs⟩, _, hi, q⟩ := h
  walk_at "st"
  walk_at "st"
  refine wE_mono (R := fun v H' => H' = H ∧ ∃ c : Int, v = .int c) ?_ ?_
  · walk_at "wz"
    refine c_lenL hs ?_
    walk_at "wz"
    refine iteD (fun h1 => ?_) (fun h1 => ?_)
    · obtain ⟨c, g⟩ := at_ints hi h1
      walk_at "wz"
      refine x_lst hs g ?_
      walk_at "wz"
      exact ⟨rfl, _, rfl⟩
    · walk_at "wz"
      walk_at "mul"
      walk_at "wz"
      exact ⟨rfl, _, rfl⟩
  · rintro v H' ⟨rfl, c, rfl⟩
    walk_at "wz"
    refine o_mulW (show _ < _ by decide +kernel) ?_
    refine o_mod (by decide +kernel) ?_
    walk_at "wz"
    walk_at "mul"
    walk_at "wz"
    walk_at "mul"
    walk_at "wz"
    walk_at "mul"
    walk_at "wz"
    refine ⟨by show 3 ≤ sizeLine; decide, fun p hp => q p _ _ hp⟩
theorem len__law_dice {K : PySem.W.Frag} {C_Row : Addr} : ∀ vs H Q E, sp__law_dice K C_Row vs H Q E → vs.length = 2 := by
  intro vs H Q E h
  obtain ⟨_, _, e, _⟩ := h
  rw [e]; rfl
theorem D__law_dice {P : Program} {w : World} {K : PySem.W.Frag} {mg : Str → Option Value} {base : Heap} {C_Row : Addr} (T : Tx K mg C_Row) : Df P w K mg base "_law_dice" 1 ["script", "spot"] (sp__law_dice K C_Row) :=
  df_of T.d__law_dice sc__law_dice (fun _ _ _ _ _ _ us hl => match us, hl with | [_, _], _ => rfl) len__law_dice (fun X e1 e2 e3 e4 e5 B F G vs H Q E h => by subst e1 e2 e3 e4 e5; exact b__law_dice B F G T h)
local macro_rules | `(tactic| walk_at "cl") => `(tactic| (refine' e_call (D__law_dice ‹Tx _ _ _›) (by assumption) ?rm ?gl ?_; (case rm => exact ‹Bd _ _ _ _›.room.mono (by decide)); (case gl => with_reducible assumption)))
def sp__law_roll (K : PySem.W.Frag) (C_Row : Addr) : Sp := fun vs H Q _ => ∃ p t, vs = [.ref p, .int t] ∧ Dice H p ∧ 0 < t ∧ t < 1073741824 ∧ ∀ (r : Int) (H' : Hp), 0 ≤ r → r < t → Ch p H H' → Dice H' p → Q (.int r) H'
theorem b__law_roll {X : Cx} {C_Row : Addr} (B : Bd X N__law_roll (defScope S__law_roll) 0) (F : ∀ x, X.fn x = true) (G : X.A.guards = some []) (T : Tx X.K X.mg C_Row) {vs : List V} {H : Hp} {Q : VK} {E : XK} (h : sp__law_roll X.K C_Row vs H Q E) :
    wB X (defBody S__law_roll) { nx := fun _ H' => Q .non H', rt := Q } (start N__law_roll vs) H := by
  have n_dice : X.N[0]? = some ("dice" : Str) := B.slot 0 rfl
  have l_dice : X.env.scope.names.lookup ("dice" : Str) = some NameKind.local := B.loc rfl
  have n_total : X.N[1]? = some ("total" : Str) := B.slot 1 rfl
  have l_total : X.env.scope.names.lookup ("total" : Str) = some NameKind.local := B.loc rfl
  have n_found : X.N[2]? = some ("found" : Str) := B.slot 2 rfl
  have l_found : X.env.scope.names.lookup ("found" : Str) = some NameKind.local := B.loc rfl
  have n_one : X.N[3]? = some ("one" : Str) := B.slot 3 rfl
  have l_one : X.env.scope.names.lookup ("one" : Str) = some NameKind.local := B.loc rfl
  have n_two : X.N[4]? = some ("two" : Str) := B.slot 4 rfl
  have l_two : X.env.scope.names.lookup ("two" : Str) = some NameKind.local := B.loc rfl
  have g_int : Gl X "int" := B.gl rfl
  have z_int := T.z_int
  have v_int := bb_int
  obtain ⟨p, t, rfl, ⟨x, y, z, hp⟩, h0, h1, q⟩ := h
  walk_at "wz"
  refine x_lst (SqL.of hp) ix0 ?_
  walk_at "wz"
  refine iteD (fun h2 => ?_) (fun h2 => ?_)
  · walk_at "wz"
    refine x_lst (SqL.of hp) ix0 ?_
    walk_at "wz"
    refine x_lst (SqL.of hp) ix0 ?_
    walk_at "wz"
    refine o_fdiv ⟨h0, h1⟩ ?_
    walk_at "wz"
    refine ps_set_list ⟨p, _, 0, 0, rfl, rfl, hp, rfl, ?_⟩
    walk_at "wz"
    exact q _ _ (Int.emod_nonneg _ (by omega)) (Int.emod_lt_of_pos _ h0) Ch.refl.put ⟨_, _, _, upd_same⟩
  · walk_at "wz"
    refine x_lst (SqL.of hp) ix2 ?_
    walk_at "wz"
    refine ps_set_list ⟨p, _, 2, 2, rfl, rfl, hp, rfl, ?_⟩
    walk_at "wz"
    refine x_lst (SqL.of upd_same) ix1 ?_
    walk_at "wz"
    refine x_lst (SqL.of upd_same) ix2 ?_
    walk_at "mul"
    walk_at "wz"
    walk_at "mul"
    walk_at "wz"
    refine x_lst (SqL.of upd_same) ix2 ?_
    walk_at "mul"
    walk_at "wz"
    walk_at "mul"
    walk_at "wz"
    refine o_fdiv ⟨by decide, by decide⟩ ?_
    walk_at "wz"
    exact q _ _ (Int.emod_nonneg _ (by omega)) (Int.emod_lt_of_pos _ h0) Ch.refl.put ⟨_, _, _, upd_same⟩
theorem len__law_roll {K : PySem.W.Frag} {C_Row : Addr} : ∀ vs H Q E, sp__law_roll K C_Row vs H Q E → vs.length = 2 := by
  intro vs H Q E h
  obtain ⟨_, _, e, _⟩ := h
  rw [e]; rfl
theorem D__law_roll {P : Program} {w : World} {K : PySem.W.Frag} {mg : Str → Option Value} {base : Heap} {C_Row : Addr} (T : Tx K mg C_Row) : Df P w K mg base "_law_roll" 1 ["dice", "total"] (sp__law_roll K C_Row) :=
  df_of T.d__law_roll sc__law_roll (fun _ _ _ _ _ _ us hl => match us, hl with | [_, _], _ => rfl) len__law_roll (fun X e1 e2 e3 e4 e5 B F G vs H Q E h => by subst e1 e2 e3 e4 e5; exact b__law_roll B F G T h)
local macro_rules | `(tactic| walk_at "cl") => `(tactic| (refine' e_call (D__law_roll ‹Tx _ _ _›) (by assumption) ?rm ?gl ?_; (case rm => exact ‹Bd _ _ _ _›.room.mono (by decide)); (case gl => with_reducible assumption)))
def sp__law_pick (K : PySem.W.Frag) (C_Row : Addr) : Sp := fun vs H Q _ => ∃ p x, vs = [.ref p, x] ∧ Dice H p ∧ ((∃ q xs, x = .ref q ∧ H q = some (.lst xs) ∧ q ≠ p ∧ 0 < xs.length ∧ xs.length < 1073741824 ∧ ∀ (i : Nat) (v : V) (H' : Hp), xs[i]? = some v → Ch p H H' → Dice H' p → Q v H') ∨
  ∃ z : Str, x = .str z ∧ 0 < z.length ∧ z.length ≤ 1000 ∧ ∀ (c : Nat) (H' : Hp), c ∈ z.cps.toList → Ch p H H' → Dice H' p → Q (.str ⟨#[c]⟩) H')
theorem b__law_pick {X : Cx} {C_Row : Addr} (B : Bd X N__law_pick (defScope S__law_pick) 1) (F : ∀ x, X.fn x = true) (G : X.A.guards = some []) (T : Tx X.K X.mg C_Row) {vs : List V} {H : Hp} {Q : VK} {E : XK} (h : sp__law_pick X.K C_Row vs H Q E) :
    wB X (defBody S__law_pick) { nx := fun _ H' => Q .non H', rt := Q } (start N__law_pick vs) H := by
  have n_dice : X.N[0]? = some ("dice" : Str) := B.slot 0 rfl
  have l_dice : X.env.scope.names.lookup ("dice" : Str) = some NameKind.local := B.loc rfl
  have n_items : X.N[1]? = some ("items" : Str) := B.slot 1 rfl
  have l_items : X.env.scope.names.lookup ("items" : Str) = some NameKind.local := B.loc rfl
  have g__law_roll : Gl X "_law_roll" := B.gl rfl
  have g_len : Gl X "len" := B.gl rfl
  have z_len := T.z_len
  have v_len := bb_len
  obtain ⟨p, x, rfl, hd, ⟨q, xs, rfl, hq, hne, h0, h1, k⟩ | ⟨z, rfl, h0, h1, k⟩⟩ := h
  · walk_at "wz"
    refine c_lenL (SqL.of hq) ?_
    walk_at "wz"
    refine ⟨p, _, rfl, hd, by omega, by omega, fun r H' r0 r1 c d => ?_⟩
    obtain ⟨n, v, g1, g2⟩ := at_vs r0 r1
    exact x_lst (SqL.of (c q _ hne hq)) g2 (k n v H' g1 c d)
  · have hz : z.length ≤ sizeLine := by have : (1000 : Nat) ≤ sizeLine := (by decide); omega
    walk_at "wz"
    refine c_lenS hz ?_
    walk_at "wz"
    refine ⟨p, _, rfl, hd, by omega, by omega, fun r H' r0 r1 c d => ?_⟩
    obtain ⟨n, g1, g2⟩ := at_str r0 r1
    exact x_str hz g2 (k n H' g1 c d)
theorem len__law_pick {K : PySem.W.Frag} {C_Row : Addr} : ∀ vs H Q E, sp__law_pick K C_Row vs H Q E → vs.length = 2 := by
  intro vs H Q E h
  obtain ⟨_, _, e, _⟩ := h
  rw [e]; rfl
theorem D__law_pick {P : Program} {w : World} {K : PySem.W.Frag} {mg : Str → Option Value} {base : Heap} {C_Row : Addr} (T : Tx K mg C_Row) : Df P w K mg base "_law_pick" 2 ["dice", "items"] (sp__law_pick K C_Row) :=
  df_of T.d__law_pick sc__law_pick (fun _ _ _ _ _ _ us hl => match us, hl with | [_, _], _ => rfl) len__law_pick (fun X e1 e2 e3 e4 e5 B F G vs H Q E h => by subst e1 e2 e3 e4 e5; exact b__law_pick B F G T h)
local macro_rules | `(tactic| walk_at "cl") => `(tactic| (refine' e_call (D__law_pick ‹Tx _ _ _›) (by assumption) ?rm ?gl ?_; (case rm => exact ‹Bd _ _ _ _›.room.mono (by decide)); (case gl => with_reducible assumption)))
def sp__law_exchange (K : PySem.W.Frag) (C_Row : Addr) : Sp := fun vs H Q _ => ∃ p P, vs = [.ref p, .int P] ∧ Dice H p ∧ 2 ≤ P ∧ P ≤ 1000 ∧ ∀ r x y H', Ch p H H' → Dice H' p → SqT K H' r [.int x, .int y] → okE P x y → Q (.ref r) H'
theorem mod_ne {P a r : Int} (h0 : 0 ≤ a) (h1 : a < P) (h2 : 0 ≤ r) (h3 : r < P - 1) : (a + 1 + r) % P ≠ a ∧ 0 ≤ (a + 1 + r) % P ∧ (a + 1 + r) % P < P := by
  refine ⟨?_, Int.emod_nonneg _ (by omega), Int.emod_lt_of_pos _ (by omega)⟩
  by_cases h : a + 1 + r < P
  · rw [Int.emod_eq_of_lt (by omega) h]
    omega
  · have e : (a + 1 + r) % P = a + 1 + r - P := by
      rw [← Int.sub_emod_right, Int.emod_eq_of_lt (by omega) (by omega)]
    rw [e]
    omega
theorem b__law_exchange {X : Cx} {C_Row : Addr} (B : Bd X N__law_exchange (defScope S__law_exchange) 1) (F : ∀ x, X.fn x = true) (G : X.A.guards = some []) (T : Tx X.K X.mg C_Row) {vs : List V} {H : Hp} {Q : VK} {E : XK} (h : sp__law_exchange X.K C_Row vs H Q E) :
    wB X (defBody S__law_exchange) { nx := fun _ H' => Q .non H', rt := Q } (start N__law_exchange vs) H := by
  have n_dice : X.N[0]? = some ("dice" : Str) := B.slot 0 rfl
  have l_dice : X.env.scope.names.lookup ("dice" : Str) = some NameKind.local := B.loc rfl
  have n_places : X.N[1]? = some ("places" : Str) := B.slot 1 rfl
  have l_places : X.env.scope.names.lookup ("places" : Str) = some NameKind.local := B.loc rfl
  have n_one : X.N[2]? = some ("one" : Str) := B.slot 2 rfl
  have l_one : X.env.scope.names.lookup ("one" : Str) = some NameKind.local := B.loc rfl
  have n_other : X.N[3]? = some ("other" : Str) := B.slot 3 rfl
  have l_other : X.env.scope.names.lookup ("other" : Str) = some NameKind.local := B.loc rfl
  have g__law_roll : Gl X "_law_roll" := B.gl rfl
  have g_min : Gl X "min" := B.gl rfl
  have z_min := T.z_min
  have v_min := bb_min
  have g_max : Gl X "max" := B.gl rfl
  have z_max := T.z_max
  have v_max := bb_max
  obtain ⟨p, P, rfl, hd, h0, h1, q⟩ := h
  walk_at "wz"
  refine ⟨p, _, rfl, hd, by omega, by omega, fun a H1 a0 a1 c1 d1 => ?_⟩
  walk_at "wz"
  refine ⟨p, _, rfl, d1, by omega, by omega, fun b H2 b0 b1 c2 d2 => ?_⟩
  walk_at "wz"
  obtain ⟨m1, m2, m3⟩ := mod_ne a0 a1 b0 b1
  generalize (a + 1 + b) % P = c at m1 m2 m3
  refine ⟨by show 2 ≤ sizeLine; decide, fun r hr => ?_⟩
  refine q r _ _ _ ((c1.trans c2).new hr) (d2.new hr) (SqT.of upd_same) ?_
  refine ⟨?_, ?_, ?_⟩
  · split <;> omega
  · split <;> split <;> omega
  · split <;> omega
theorem len__law_exchange {K : PySem.W.Frag} {C_Row : Addr} : ∀ vs H Q E, sp__law_exchange K C_Row vs H Q E → vs.length = 2 := by
  intro vs H Q E h
  obtain ⟨_, _, e, _⟩ := h
  rw [e]; rfl
theorem D__law_exchange {P : Program} {w : World} {K : PySem.W.Frag} {mg : Str → Option Value} {base : Heap} {C_Row : Addr} (T : Tx K mg C_Row) : Df P w K mg base "_law_exchange" 2 ["dice", "places"] (sp__law_exchange K C_Row) :=
  df_of T.d__law_exchange sc__law_exchange (fun _ _ _ _ _ _ us hl => match us, hl with | [_, _], _ => rfl) len__law_exchange (fun X e1 e2 e3 e4 e5 B F G vs H Q E h => by subst e1 e2 e3 e4 e5; exact b__law_exchange B F G T h)
local macro_rules | `(tactic| walk_at "cl") => `(tactic| (refine' e_call (D__law_exchange ‹Tx _ _ _›) (by assumption) ?rm ?gl ?_; (case rm => exact ‹Bd _ _ _ _›.room.mono (by decide)); (case gl => with_reducible assumption)))
/-- letters that can be owners -/
def okZ (z : Str) : Prop := 0 < z.length ∧ z.length ≤ 1000 ∧ ∀ c ∈ z.cps.toList, okO ⟨#[c]⟩
theorem noTup_dice {H : Hp} {p : Addr} (d : Dice H p) : NoTup H p := d.noTup
def sp__law_drawn_steps (K : PySem.W.Frag) (C_Row : Addr) : Sp := fun vs H Q _ => ∃ p P, ∃ m : Nat, ∃ z, vs = [.ref p, .int P, .int (m : Int), .str z] ∧ Dice H p ∧ 2 ≤ P ∧ P ≤ 1000 ∧ m ≤ 1000 ∧ okZ z ∧ ∀ l xs, ∀ ss : List (Int × Int × Str), ∀ H', Ch p H H' → Dice H' p → H' l = some (.lst xs) → l ≠ p → H l = none → DpAll K H' xs (ss.map stp) → (∀ s ∈ ss, okS P s) → ss.length = m → Q (.ref l) H'
theorem b__law_drawn_steps {X : Cx} {C_Row : Addr} (B : Bd X N__law_drawn_steps (defScope S__law_drawn_steps) 2) (F : ∀ x, X.fn x = true) (G : X.A.guards = some []) (T : Tx X.K X.mg C_Row) {vs : List V} {H : Hp} {Q : VK} {E : XK} (h : sp__law_drawn_steps X.K C_Row vs H Q E) :
    wB X (defBody S__law_drawn_steps) { nx := fun _ H' => Q .non H', rt := Q } (start N__law_drawn_steps vs) H := by
  have n_dice : X.N[0]? = some ("dice" : Str) := B.slot 0 rfl
  have l_dice : X.env.scope.names.lookup ("dice" : Str) = some NameKind.local := B.loc rfl
  have n_places : X.N[1]? = some ("places" : Str) := B.slot 1 rfl
  have l_places : X.env.scope.names.lookup ("places" : Str) = some NameKind.local := B.loc rfl
  have n_many : X.N[2]? = some ("many" : Str) := B.slot 2 rfl
  have l_many : X.env.scope.names.lookup ("many" : Str) = some NameKind.local := B.loc rfl
  have n_owners : X.N[3]? = some ("owners" : Str) := B.slot 3 rfl
  have l_owners : X.env.scope.names.lookup ("owners" : Str) = some NameKind.local := B.loc rfl
  have n_found : X.N[4]? = some ("found" : Str) := B.slot 4 rfl
  have l_found : X.env.scope.names.lookup ("found" : Str) = some NameKind.local := B.loc rfl
  have n_turn : X.N[5]? = some ("turn" : Str) := B.slot 5 rfl
  have l_turn : X.env.scope.names.lookup ("turn" : Str) = some NameKind.local := B.loc rfl
  have n_one : X.N[6]? = some ("one" : Str) := B.slot 6 rfl
  have l_one : X.env.scope.names.lookup ("one" : Str) = some NameKind.local := B.loc rfl
  have n_other : X.N[7]? = some ("other" : Str) := B.slot 7 rfl
  have l_other : X.env.scope.names.lookup ("other" : Str) = some NameKind.local := B.loc rfl
  have g_range : Gl X "range" := B.gl rfl
  have z_range := T.z_range
  have v_range := bb_range
  have g__law_exchange : Gl X "_law_exchange" := B.gl rfl
  have g__law_pick : Gl X "_law_pick" := B.gl rfl
  obtain ⟨p, P, m, z, rfl, hd, h0, h1, hm, ⟨z0, z1, z2⟩, q⟩ := h
  walk_at "wz"
  refine ⟨by show 0 ≤ sizeLine; decide, fun l hl => ?_⟩
  walk_at "wz"
  have lp : l ≠ p := hd.off hl
  refine s_forR1 5 B.ps B.calm g_range z_range B.nd n_turn (Or.inl l_turn) ?_ (hf := .inr l_turn)
  walk_at "wz"
  refine ⟨by omega, fun k σ H1 => ∃ y5 y6 y7, σ = [some (.ref p), some (.int P), some (.int (m : Int)), some (.str z), some (.ref l), y5, y6, y7] ∧ Ch p H H1 ∧ Dice H1 p ∧ ∃ xs, ∃ ss : List (Int × Int × Str), H1 l = some (.lst xs) ∧ DpAll X.K H1 xs (ss.map stp) ∧ (∀ s ∈ ss, okS P s) ∧ ss.length = k, ?_, ?_, ?_⟩
  · exact ⟨_, _, _, rfl, Ch.refl.new hl, hd.new hl, [], [], upd_same, .nil, fun s hs => by simp at hs, rfl⟩
  · rintro k σ H1 hk ⟨y5, y6, y7, rfl, c1, d1, xs, ss, hx, da, ok, hlen⟩
    walk_at "st"
    refine s_unp2 6 7 B.calm B.nd n_one n_other l_one l_other ?_
    walk_at "wz"
    refine ⟨p, P, rfl, d1, h0, h1, fun r x y H2 c2 d2 hr hxy => ?_⟩
    refine ⟨r, _, _, rfl, hr, ?_⟩
    walk_at "st"
    walk_at "st"
    refine e_app ?_
    walk_at "wz"
    have hx2 := c2 l _ lp hx
    refine ⟨Or.inl ⟨rfl, _, SqL.of hx2⟩, ?_⟩
    walk_at "wz"
    refine ⟨p, _, rfl, d2, Or.inr ⟨z, rfl, z0, z1, fun c H3 hc c3 d3 => ?_⟩⟩
    walk_at "wz"
    refine ⟨by show 3 ≤ sizeLine; decide, fun t ht => ?_⟩
    have hx3 := c3 l _ lp hx2
    have hx4 := upd_keep (o := .tup [.int x, .int y, .str ⟨#[c]⟩]) ht hx3
    have hln : xs.length = k := by rw [dp_len da, List.length_map, hlen]
    refine ⟨l, xs, rfl, hx4, by have : (1001 : Nat) ≤ sizeLine := (by decide); omega, ?_⟩
    refine ⟨_, _, _, rfl, (((c1.trans c2).trans c3).new ht).at hl, (d3.new ht).at lp, _, ss ++ [(x, y, ⟨#[c]⟩)], upd_same, ?_, ?_, by rw [List.length_append, hlen]; rfl⟩
    · rw [List.map_append]
      refine dpa_app ?_ (.cons (.tup (ds := [.int x, .int y, .str ⟨#[c]⟩]) (xs := [.int x, .int y, .str ⟨#[c]⟩]) (SqT.of (upd_keep2 (Ne.symm (ne_of_none hx3 ht)) upd_same)) (.cons (.int _) (.cons (.int _) (.cons (.str _) .nil)))) .nil)
      have n := noLst_steps ss
      refine dpa_ch (H := upd H3 t _) Ch.refl.put (noTup_lst hx4) n ?_
      refine dpa_same ((Same.refl H3).new ht) ?_
      exact dpa_ch c3 d2.noTup n (dpa_ch c2 d1.noTup n da)
    · intro s hs
      rcases List.mem_append.mp hs with hs | hs
      · exact ok s hs
      · simp only [List.mem_singleton] at hs
        subst hs
        exact ⟨hxy, z2 c hc⟩
  · rintro σ H1 ⟨y5, y6, y7, rfl, c1, d1, xs, ss, hx, da, ok, hlen⟩
    walk_at "wz"
    exact q l xs ss H1 c1 d1 hx lp hl da ok hlen
theorem len__law_drawn_steps {K : PySem.W.Frag} {C_Row : Addr} : ∀ vs H Q E, sp__law_drawn_steps K C_Row vs H Q E → vs.length = 4 := by
  intro vs H Q E h
  obtain ⟨_, _, _, _, e, _⟩ := h
  rw [e]; rfl
theorem D__law_drawn_steps {P : Program} {w : World} {K : PySem.W.Frag} {mg : Str → Option Value} {base : Heap} {C_Row : Addr} (T : Tx K mg C_Row) : Df P w K mg base "_law_drawn_steps" 3 ["dice", "places", "many", "owners"] (sp__law_drawn_steps K C_Row) :=
  df_of T.d__law_drawn_steps sc__law_drawn_steps (fun _ _ _ _ _ _ us hl => match us, hl with | [_, _, _, _], _ => rfl) len__law_drawn_steps (fun X e1 e2 e3 e4 e5 B F G vs H Q E h => by subst e1 e2 e3 e4 e5; exact b__law_drawn_steps B F G T h)
local macro_rules | `(tactic| walk_at "cl") => `(tactic| (refine' e_call (D__law_drawn_steps ‹Tx _ _ _›) (by assumption) ?rm ?gl ?_; (case rm => exact ‹Bd _ _ _ _›.room.mono (by decide)); (case gl => with_reducible assumption)))

/-- a drawn row: its places, and the list of its steps -/
def Drawn (K : PySem.W.Frag) (H H' : Hp) (p r : Addr) (M : Int) (m : Nat) : Prop := Ch p H H' ∧ Dice H' p ∧ ∃ l P xs, ∃ ss : List (Int × Int × Str), SqT K H' r [.int P, .ref l] ∧ H' l = some (.lst xs) ∧ l ≠ p ∧ H l = none ∧ DpAll K H' xs (ss.map stp) ∧ (∀ s ∈ ss, okS P s) ∧ 2 ≤ P ∧ P ≤ M ∧ ss.length ≤ m
theorem Drawn.mono {K : PySem.W.Frag} {H H1 H' : Hp} {p r : Addr} {M M' : Int} {m m' : Nat} (h : Drawn K H1 H' p r M m) (c : Ch p H H1) (d : Dice H p) (a : M ≤ M') (b : m ≤ m') : Drawn K H H' p r M' m' := by
  obtain ⟨c1, d1, l, P, xs, ss, h1, h2, h3, h4, h5, h6, h7, h8, h9⟩ := h
  refine ⟨c.trans c1, d1, l, P, xs, ss, h1, h2, h3, ?_, h5, h6, h7, by omega, by omega⟩
  cases e : H l with
  | none => rfl
  | some o =>
    rw [c l o h3 e] at h4
    cases h4
theorem okZ_a : okZ "a" := ⟨by decide, by decide, by unfold okO; decide +kernel⟩
theorem okZ_ab : okZ "ab" := ⟨by decide, by decide, by unfold okO; decide +kernel⟩
theorem okZ_abz : okZ "abz" := ⟨by decide, by decide, by unfold okO; decide +kernel⟩
theorem okZ_kmk : okZ "kmk" := ⟨by decide, by decide, by unfold okO; decide +kernel⟩
theorem okZ_abc : okZ "abc" := ⟨by decide, by decide, by unfold okO; decide +kernel⟩
theorem okZ_xyzq : okZ "xyzq" := ⟨by decide, by decide, by unfold okO; decide +kernel⟩
def sp__law_small (K : PySem.W.Frag) (C_Row : Addr) : Sp := fun vs H Q _ => ∃ p M, ∃ m : Nat, vs = [.ref p, .int M, .int (m : Int)] ∧ Dice H p ∧ 2 ≤ M ∧ M ≤ 12 ∧ m ≤ 24 ∧ ∀ r H', Drawn K H H' p r M m → Q (.ref r) H'
theorem b__law_small {X : Cx} {C_Row : Addr} (B : Bd X N__law_small (defScope S__law_small) 3) (F : ∀ x, X.fn x = true) (G : X.A.guards = some []) (T : Tx X.K X.mg C_Row) {vs : List V} {H : Hp} {Q : VK} {E : XK} (h : sp__law_small X.K C_Row vs H Q E) :
    wB X (defBody S__law_small) { nx := fun _ H' => Q .non H', rt := Q } (start N__law_small vs) H := by
  have n_dice : X.N[0]? = some ("dice" : Str) := B.slot 0 rfl
  have l_dice : X.env.scope.names.lookup ("dice" : Str) = some NameKind.local := B.loc rfl
  have n_most : X.N[1]? = some ("most" : Str) := B.slot 1 rfl
  have l_most : X.env.scope.names.lookup ("most" : Str) = some NameKind.local := B.loc rfl
  have n_many : X.N[2]? = some ("many" : Str) := B.slot 2 rfl
  have l_many : X.env.scope.names.lookup ("many" : Str) = some NameKind.local := B.loc rfl
  have n_places : X.N[3]? = some ("places" : Str) := B.slot 3 rfl
  have l_places : X.env.scope.names.lookup ("places" : Str) = some NameKind.local := B.loc rfl
  have n_owners : X.N[4]? = some ("owners" : Str) := B.slot 4 rfl
  have l_owners : X.env.scope.names.lookup ("owners" : Str) = some NameKind.local := B.loc rfl
  have g__law_roll : Gl X "_law_roll" := B.gl rfl
  have g__law_pick : Gl X "_law_pick" := B.gl rfl
  have g__law_drawn_steps : Gl X "_law_drawn_steps" := B.gl rfl
  obtain ⟨p, M, m, rfl, hd, h0, h1, hm, q⟩ := h
  walk_at "wz"
  refine ⟨p, _, rfl, hd, by omega, by omega, fun a H1 a0 a1 c1 d1 => ?_⟩
  walk_at "wz"
  refine ⟨by show 5 ≤ sizeLine; decide, fun l1 hl1 => ?_⟩
  walk_at "wz"
  refine ⟨p, _, rfl, d1.new hl1, Or.inl ⟨l1, _, rfl, upd_same, d1.off hl1, by show 0 < 5; decide, by show 5 < _; decide, fun i v H2 hi c2 d2 => ?_⟩⟩
  have hv : ∃ z, v = .str z ∧ okZ z := by
    have hm := List.mem_of_getElem? hi
    simp only [List.mem_cons, List.not_mem_nil, or_false] at hm
    rcases hm with e | e | e | e | e
    · exact ⟨_, e, okZ_a⟩
    · exact ⟨_, e, okZ_ab⟩
    · exact ⟨_, e, okZ_ab⟩
    · exact ⟨_, e, okZ_abz⟩
    · exact ⟨_, e, okZ_kmk⟩
  obtain ⟨z, rfl, hz⟩ := hv
  walk_at "wz"
  refine ⟨p, _, rfl, d2, by omega, by omega, fun b H3 b0 b1 c3 d3 => ?_⟩
  walk_at "wz"
  obtain ⟨k, rfl⟩ : ∃ k : Nat, b = (k : Int) := ⟨b.toNat, by omega⟩
  have c03 : Ch p H H3 := ((c1.new hl1).trans c2).trans c3
  refine ⟨p, _, k, z, rfl, d3, by omega, by omega, by omega, hz, fun l xs ss H4 c4 d4 hx lp hl da ok hlen => ?_⟩
  walk_at "wz"
  refine ⟨by show 2 ≤ sizeLine; decide, fun r hr => ?_⟩
  refine q r _ (Drawn.mono (H1 := H3) ⟨c4.new hr, d4.new hr, l, _, xs, ss, SqT.of upd_same, upd_keep hr hx, lp, hl, dpa_same ((Same.refl H4).new hr) da, ok, by omega, by omega, (by omega : ss.length ≤ m)⟩ c03 hd (Int.le_refl _) (Nat.le_refl _))
theorem len__law_small {K : PySem.W.Frag} {C_Row : Addr} : ∀ vs H Q E, sp__law_small K C_Row vs H Q E → vs.length = 3 := by
  intro vs H Q E h
  obtain ⟨_, _, _, e, _⟩ := h
  rw [e]; rfl
theorem D__law_small {P : Program} {w : World} {K : PySem.W.Frag} {mg : Str → Option Value} {base : Heap} {C_Row : Addr} (T : Tx K mg C_Row) : Df P w K mg base "_law_small" 4 ["dice", "most", "many"] (sp__law_small K C_Row) :=
  df_of T.d__law_small sc__law_small (fun _ _ _ _ _ _ us hl => match us, hl with | [_, _, _], _ => rfl) len__law_small (fun X e1 e2 e3 e4 e5 B F G vs H Q E h => by subst e1 e2 e3 e4 e5; exact b__law_small B F G T h)
local macro_rules | `(tactic| walk_at "cl") => `(tactic| (refine' e_call (D__law_small ‹Tx _ _ _›) (by assumption) ?rm ?gl ?_; (case rm => exact ‹Bd _ _ _ _›.room.mono (by decide)); (case gl => with_reducible assumption)))
theorem okS_mono {P R : Int} {s : Int × Int × Str} (h : okS P s) (e : P ≤ R) : okS R s := ⟨⟨h.1.1, h.1.2.1, by have := h.1.2.2; omega⟩, h.2⟩
def sp__law_great (K : PySem.W.Frag) (C_Row : Addr) : Sp := fun vs H Q _ => ∃ p, vs = [.ref p] ∧ Dice H p ∧ ∀ r H', Drawn K H H' p r 12 24 → Q (.ref r) H'
theorem b__law_great {X : Cx} {C_Row : Addr} (B : Bd X N__law_great (defScope S__law_great) 2) (F : ∀ x, X.fn x = true) (G : X.A.guards = some []) (T : Tx X.K X.mg C_Row) {vs : List V} {H : Hp} {Q : VK} {E : XK} (h : sp__law_great X.K C_Row vs H Q E) :
    wB X (defBody S__law_great) { nx := fun _ H' => Q .non H', rt := Q } (start N__law_great vs) H := by
  have n_dice : X.N[0]? = some ("dice" : Str) := B.slot 0 rfl
  have l_dice : X.env.scope.names.lookup ("dice" : Str) = some NameKind.local := B.loc rfl
  have n_places : X.N[1]? = some ("places" : Str) := B.slot 1 rfl
  have l_places : X.env.scope.names.lookup ("places" : Str) = some NameKind.local := B.loc rfl
  have n_many : X.N[2]? = some ("many" : Str) := B.slot 2 rfl
  have l_many : X.env.scope.names.lookup ("many" : Str) = some NameKind.local := B.loc rfl
  have n_owners : X.N[3]? = some ("owners" : Str) := B.slot 3 rfl
  have l_owners : X.env.scope.names.lookup ("owners" : Str) = some NameKind.local := B.loc rfl
  have n_found : X.N[4]? = some ("found" : Str) := B.slot 4 rfl
  have l_found : X.env.scope.names.lookup ("found" : Str) = some NameKind.local := B.loc rfl
  have n_cut : X.N[5]? = some ("cut" : Str) := B.slot 5 rfl
  have l_cut : X.env.scope.names.lookup ("cut" : Str) = some NameKind.local := B.loc rfl
  have n_turn : X.N[6]? = some ("turn" : Str) := B.slot 6 rfl
  have l_turn : X.env.scope.names.lookup ("turn" : Str) = some NameKind.local := B.loc rfl
  have n_low : X.N[7]? = some ("low" : Str) := B.slot 7 rfl
  have l_low : X.env.scope.names.lookup ("low" : Str) = some NameKind.local := B.loc rfl
  have n_one : X.N[8]? = some ("one" : Str) := B.slot 8 rfl
  have l_one : X.env.scope.names.lookup ("one" : Str) = some NameKind.local := B.loc rfl
  have n_other : X.N[9]? = some ("other" : Str) := B.slot 9 rfl
  have l_other : X.env.scope.names.lookup ("other" : Str) = some NameKind.local := B.loc rfl
  have g__law_roll : Gl X "_law_roll" := B.gl rfl
  have g__law_pick : Gl X "_law_pick" := B.gl rfl
  have g_range : Gl X "range" := B.gl rfl
  have z_range := T.z_range
  have v_range := bb_range
  have g__law_exchange : Gl X "_law_exchange" := B.gl rfl
  obtain ⟨p, rfl, hd, q⟩ := h
  walk_at "wz"
  refine ⟨p, _, rfl, hd, by omega, by omega, fun a H1 a0 a1 c1 d1 => ?_⟩
  walk_at "wz"
  refine s_par3 2 3 4 B.calm B.nd n_many n_owners n_found (by decide) (by decide) (by decide) l_many l_owners l_found (by rw [env_eta B.sc]; rfl) ?_
  walk_at "wz"
  refine ⟨p, _, rfl, d1, by omega, by omega, fun b H2 b0 b1 c2 d2 => ?_⟩
  walk_at "wz"
  refine ⟨by show 4 ≤ sizeLine; decide, fun l1 hl1 => ?_⟩
  walk_at "wz"
  refine ⟨p, _, rfl, d2.new hl1, Or.inl ⟨l1, _, rfl, upd_same, d2.off hl1, by show 0 < 4; decide, by show 4 < _; decide, fun i v H3 hi c3 d3 => ?_⟩⟩
  have hv : ∃ z, v = .str z ∧ okZ z := by
    have hm := List.mem_of_getElem? hi
    simp only [List.mem_cons, List.not_mem_nil, or_false] at hm
    rcases hm with e | e | e | e
    · exact ⟨_, e, okZ_a⟩
    · exact ⟨_, e, okZ_ab⟩
    · exact ⟨_, e, okZ_abc⟩
    · exact ⟨_, e, okZ_xyzq⟩
  obtain ⟨z, rfl, hz⟩ := hv
  obtain ⟨z0, z1, z2⟩ := id hz
  walk_at "wz"
  refine ⟨by show 0 ≤ sizeLine; decide, fun l hl => ?_⟩
  walk_at "wz"
  refine ⟨_, _, _, rfl, ?_⟩
  have c03 : Ch p H H3 := ((c1.trans c2).new hl1).trans c3
  have lp : l ≠ p := d3.off hl
  have hl0 : H l = none := by
    cases e : H l with
    | none => rfl
    | some o =>
      rw [c03 l o lp e] at hl
      cases hl
  walk_at "wz"
  refine ⟨p, _, rfl, d3.new hl, by omega, by omega, fun c H4 e0 e1 c4 d4 => ?_⟩
  walk_at "wz"
  obtain ⟨m, rfl⟩ : ∃ m : Nat, b = (m : Int) := ⟨b.toNat, by omega⟩
  refine s_forR1 6 B.ps B.calm g_range z_range B.nd n_turn (Or.inl l_turn) ?_ (hf := .inr l_turn)
  walk_at "wz"
  refine ⟨by omega, fun k σ H5 => ∃ y6 y7 y8 y9, σ = [some (.ref p), some (.int (2 + a)), some (.int (m : Int)), some (.str z), some (.ref l), some (.int (1 + c)), y6, y7, y8, y9] ∧ Ch p H H5 ∧ Dice H5 p ∧ ∃ xs, ∃ ss : List (Int × Int × Str), H5 l = some (.lst xs) ∧ DpAll X.K H5 xs (ss.map stp) ∧ (∀ s ∈ ss, okS (2 + a) s) ∧ ss.length ≤ k, ?_, ?_, ?_⟩
  · exact ⟨_, _, _, _, rfl, (c03.new hl).trans c4, d4, [], [], c4 l _ lp upd_same, .nil, fun s hs => by simp at hs, Nat.le_refl _⟩
  · rintro k σ H5 hk ⟨y6, y7, y8, y9, rfl, c5, d5, xs, ss, hx, da, ok, hlen⟩
    have hln : xs.length = ss.length := by rw [dp_len da, List.length_map]
    have nls := noLst_steps ss
    walk_at "wz"
    refine ⟨by show 4 ≤ sizeLine; decide, fun l2 hl2 => ?_⟩
    walk_at "wz"
    refine ⟨p, _, rfl, d5.new hl2, Or.inl ⟨l2, _, rfl, upd_same, d5.off hl2, by show 0 < 4; decide, by show 4 < _; decide, fun i v H6 hi c6 d6 => ?_⟩⟩
    have hv : ∃ u : Int, v = .int u := by
      have hm := List.mem_of_getElem? hi
      simp only [List.mem_cons, List.not_mem_nil, or_false] at hm
      rcases hm with e | e | e | e <;> exact ⟨_, e⟩
    obtain ⟨u, rfl⟩ := hv
    have c56 : Ch p H5 H6 := (Ch.refl.new hl2).trans c6
    have hx6 := c56 l _ lp hx
    have da6 := dpa_ch c56 d5.noTup nls da
    have c06 : Ch p H H6 := c5.trans c56
    -- one step more
    have more : ∀ (x y : Int) (H7 : Hp) (w : Nat) (t : Addr), Ch p H6 H7 → Dice H7 p → okE (2 + a) x y → w ∈ z.cps.toList → H7 t = none → ∀ (y6 y7 y8 y9 : Option V) (σ : L2.St), σ = [some (.ref p), some (.int (2 + a)), some (.int (m : Int)), some (.str z), some (.ref l), some (.int (1 + c)), y6, y7, y8, y9] → upd H7 t (.tup [.int x, .int y, .str ⟨#[w]⟩]) l = some (.lst xs) ∧ xs.length < sizeLine ∧
        (∃ y6 y7 y8 y9, σ = [some (.ref p), some (.int (2 + a)), some (.int (m : Int)), some (.str z), some (.ref l), some (.int (1 + c)), y6, y7, y8, y9] ∧ Ch p H (upd (upd H7 t (.tup [.int x, .int y, .str ⟨#[w]⟩])) l (.lst (xs ++ [.ref t]))) ∧ Dice (upd (upd H7 t (.tup [.int x, .int y, .str ⟨#[w]⟩])) l (.lst (xs ++ [.ref t]))) p ∧
          ∃ xs2, ∃ ss2 : List (Int × Int × Str), upd (upd H7 t (.tup [.int x, .int y, .str ⟨#[w]⟩])) l (.lst (xs ++ [.ref t])) l = some (.lst xs2) ∧ DpAll X.K (upd (upd H7 t (.tup [.int x, .int y, .str ⟨#[w]⟩])) l (.lst (xs ++ [.ref t]))) xs2 (ss2.map stp) ∧ (∀ s ∈ ss2, okS (2 + a) s) ∧ ss2.length ≤ k + 1) := by
      intro x y H7 w t c7 d7 hxy hw ht y6 y7 y8 y9 σ hσ
      have hx7 := c7 l _ lp hx6
      have hx8 := upd_keep (o := .tup [.int x, .int y, .str ⟨#[w]⟩]) ht hx7
      refine ⟨hx8, by have : (1001 : Nat) ≤ sizeLine := (by decide); omega, y6, y7, y8, y9, hσ, ((c06.trans c7).new ht).at hl0, (d7.new ht).at lp, _, ss ++ [(x, y, ⟨#[w]⟩)], upd_same, ?_, ?_, by rw [List.length_append]; show ss.length + 1 ≤ _; omega⟩
      · rw [List.map_append]
        refine dpa_app ?_ (.cons (.tup (ds := [.int x, .int y, .str ⟨#[w]⟩]) (xs := [.int x, .int y, .str ⟨#[w]⟩]) (SqT.of (upd_keep2 (Ne.symm (ne_of_none hx7 ht)) upd_same)) (.cons (.int _) (.cons (.int _) (.cons (.str _) .nil)))) .nil)
        refine dpa_ch (H := upd H7 t _) Ch.refl.put (noTup_lst hx8) nls ?_
        refine dpa_same ((Same.refl H7).new ht) ?_
        exact dpa_ch c7 d6.noTup nls da6
      · intro s hs
        rcases List.mem_append.mp hs with hs | hs
        · exact ok s hs
        · simp only [List.mem_singleton] at hs
          subst hs
          exact ⟨hxy, z2 w hw⟩
    have skip : ∃ s6 s7 s8 s9, [some (.ref p), some (.int (2 + a)), some (.int (m : Int)), some (.str z), some (.ref l), some (.int (1 + c)), some (.int (k : Int)), some (.int u), y8, y9] = [some (.ref p), some (.int (2 + a)), some (.int (m : Int)), some (.str z), some (.ref l), some (V.int (1 + c)), s6, s7, s8, s9] ∧ Ch p H H6 ∧ Dice H6 p ∧ ∃ xs, ∃ ss : List (Int × Int × Str), H6 l = some (.lst xs) ∧ DpAll X.K H6 xs (ss.map stp) ∧ (∀ s ∈ ss, okS (2 + a) s) ∧ ss.length ≤ k + 1 := ⟨_, _, _, _, rfl, c06, d6, xs, ss, hx6, da6, ok, by omega⟩
    walk_at "wz"
    refine iteD (fun hu => ?_) (fun hu => ?_)
    · walk_at "wz"
      refine iteD (fun h1 => ?_) (fun h1 => ?_)
      · walk_at "wz"
        refine s_unp2 8 9 B.calm B.nd n_one n_other l_one l_other ?_
        walk_at "wz"
        refine ⟨p, _, rfl, d6, by omega, by omega, fun r x y H7 c7 d7 hr hxy => ?_⟩
        refine ⟨r, _, _, rfl, hr, ?_⟩
        walk_at "st"
        walk_at "st"
        refine e_app ?_
        walk_at "wz"
        refine ⟨Or.inl ⟨rfl, _, SqL.of (c7 l _ lp hx6)⟩, ?_⟩
        walk_at "wz"
        refine ⟨p, _, rfl, d7, Or.inr ⟨z, rfl, z0, z1, fun w H8 hw c8 d8 => ?_⟩⟩
        walk_at "wz"
        refine ⟨by show 3 ≤ sizeLine; decide, fun t ht => ?_⟩
        obtain ⟨m1, m2, m3⟩ := more x y H8 w t (c7.trans c8) d8 ⟨hxy.1, hxy.2.1, by have := hxy.2.2; omega⟩ hw ht _ _ _ _ _ rfl
        exact ⟨l, xs, rfl, m1, m2, m3⟩
      · walk_at "wz"
        refine iteD (fun h2 => ?_) (fun h2 => ?_)
        · walk_at "wz"
          refine s_unp2 8 9 B.calm B.nd n_one n_other l_one l_other ?_
          walk_at "wz"
          refine ⟨p, _, rfl, d6, by omega, by omega, fun r x y H7 c7 d7 hr hxy => ?_⟩
          refine ⟨r, _, _, rfl, hr, ?_⟩
          walk_at "st"
          walk_at "st"
          refine e_app ?_
          walk_at "wz"
          refine ⟨Or.inl ⟨rfl, _, SqL.of (c7 l _ lp hx6)⟩, ?_⟩
          walk_at "wz"
          refine ⟨p, _, rfl, d7, Or.inr ⟨z, rfl, z0, z1, fun w H8 hw c8 d8 => ?_⟩⟩
          walk_at "wz"
          refine ⟨by show 3 ≤ sizeLine; decide, fun t ht => ?_⟩
          obtain ⟨m1, m2, m3⟩ := more (1 + c + x) (1 + c + y) H8 w t (c7.trans c8) d8 ⟨by have := hxy.1; omega, by have := hxy.2.1; omega, by have := hxy.2.2; omega⟩ hw ht _ _ _ _ _ rfl
          exact ⟨l, xs, rfl, m1, m2, m3⟩
        · walk_at "wz"
          exact skip
    · walk_at "wz"
      refine iteD (fun h2 => ?_) (fun h2 => ?_)
      · walk_at "wz"
        refine s_unp2 8 9 B.calm B.nd n_one n_other l_one l_other ?_
        walk_at "wz"
        refine ⟨p, _, rfl, d6, by omega, by omega, fun r x y H7 c7 d7 hr hxy => ?_⟩
        refine ⟨r, _, _, rfl, hr, ?_⟩
        walk_at "st"
        walk_at "st"
        refine e_app ?_
        walk_at "wz"
        refine ⟨Or.inl ⟨rfl, _, SqL.of (c7 l _ lp hx6)⟩, ?_⟩
        walk_at "wz"
        refine ⟨p, _, rfl, d7, Or.inr ⟨z, rfl, z0, z1, fun w H8 hw c8 d8 => ?_⟩⟩
        walk_at "wz"
        refine ⟨by show 3 ≤ sizeLine; decide, fun t ht => ?_⟩
        obtain ⟨m1, m2, m3⟩ := more (1 + c + x) (1 + c + y) H8 w t (c7.trans c8) d8 ⟨by have := hxy.1; omega, by have := hxy.2.1; omega, by have := hxy.2.2; omega⟩ hw ht _ _ _ _ _ rfl
        exact ⟨l, xs, rfl, m1, m2, m3⟩
      · walk_at "wz"
        exact skip
  · rintro σ H5 ⟨y6, y7, y8, y9, rfl, c5, d5, xs, ss, hx, da, ok, hlen⟩
    walk_at "wz"
    refine ⟨by show 2 ≤ sizeLine; decide, fun r hr => ?_⟩
    exact q r _ ⟨c5.new hr, d5.new hr, l, _, xs, ss, SqT.of upd_same, upd_keep hr hx, lp, hl0, dpa_same ((Same.refl H5).new hr) da, ok, by omega, by omega, by omega⟩
theorem len__law_great {K : PySem.W.Frag} {C_Row : Addr} : ∀ vs H Q E, sp__law_great K C_Row vs H Q E → vs.length = 1 := by
  intro vs H Q E h
  obtain ⟨_, e, _⟩ := h
  rw [e]; rfl
theorem D__law_great {P : Program} {w : World} {K : PySem.W.Frag} {mg : Str → Option Value} {base : Heap} {C_Row : Addr} (T : Tx K mg C_Row) : Df P w K mg base "_law_great" 3 ["dice"] (sp__law_great K C_Row) :=
  df_of T.d__law_great sc__law_great (fun _ _ _ _ _ _ us hl => match us, hl with | [_], _ => rfl) len__law_great (fun X e1 e2 e3 e4 e5 B F G vs H Q E h => by subst e1 e2 e3 e4 e5; exact b__law_great B F G T h)
local macro_rules | `(tactic| walk_at "cl") => `(tactic| (refine' e_call (D__law_great ‹Tx _ _ _›) (by assumption) ?rm ?gl ?_; (case rm => exact ‹Bd _ _ _ _›.room.mono (by decide)); (case gl => with_reducible assumption)))

def sp__law_made_row (K : PySem.W.Frag) (C_Row : Addr) : Sp := fun vs H Q _ => ∃ P l xs, ∃ ss : List (Int × Int × Str), vs = [.int P, .ref l] ∧ SqL K H l xs ∧ DpAll K H xs (ss.map stp) ∧ (∀ s ∈ ss, okS P s) ∧ 1 ≤ P ∧ P ≤ 12 ∧ ss.length ≤ 24 ∧ ∀ r H', Same H H' → RowAt K H' C_Row r P ss → Q (.ref r) H'
theorem b__law_made_row {X : Cx} {C_Row : Addr} (B : Bd X N__law_made_row (defScope S__law_made_row) 9) (F : ∀ x, X.fn x = true) (G : X.A.guards = some []) (T : Tx X.K X.mg C_Row) {vs : List V} {H : Hp} {Q : VK} {E : XK} (h : sp__law_made_row X.K C_Row vs H Q E) :
    wB X (defBody S__law_made_row) { nx := fun _ H' => Q .non H', rt := Q } (start N__law_made_row vs) H := by
  have n_places : X.N[0]? = some ("places" : Str) := B.slot 0 rfl
  have l_places : X.env.scope.names.lookup ("places" : Str) = some NameKind.local := B.loc rfl
  have n_steps : X.N[1]? = some ("steps" : Str) := B.slot 1 rfl
  have l_steps : X.env.scope.names.lookup ("steps" : Str) = some NameKind.local := B.loc rfl
  have g_Row : Gl X "Row" := B.gl rfl
  have g_tuple : Gl X "tuple" := B.gl rfl
  have z_tuple := T.z_tuple
  have v_tuple := bb_tuple
  obtain ⟨P, l, xs, ss, rfl, hx, da, ok, h1, h2, h3, q⟩ := h
  walk_at "wz"
  walk_at "rw"
  walk_at "wz"
  refine c_tupL hx fun t ht => ?_
  refine ⟨P, ss, rfl, h1, h2, .tup (SqT.of upd_same) (dpa_same ((Same.refl H).new ht) da), h3, ok, fun a H' _ sm R => q a H' (((Same.refl H).new ht).trans sm) R⟩
theorem len__law_made_row {K : PySem.W.Frag} {C_Row : Addr} : ∀ vs H Q E, sp__law_made_row K C_Row vs H Q E → vs.length = 2 := by
  intro vs H Q E h
  obtain ⟨_, _, _, _, e, _⟩ := h
  rw [e]; rfl
theorem D__law_made_row {P : Program} {w : World} {K : PySem.W.Frag} {mg : Str → Option Value} {base : Heap} {C_Row : Addr} (T : Tx K mg C_Row) : Df P w K mg base "_law_made_row" 10 ["places", "steps"] (sp__law_made_row K C_Row) :=
  df_of T.d__law_made_row sc__law_made_row (fun _ _ _ _ _ _ us hl => match us, hl with | [_, _], _ => rfl) len__law_made_row (fun X e1 e2 e3 e4 e5 B F G vs H Q E h => by subst e1 e2 e3 e4 e5; exact b__law_made_row B F G T h)
local macro_rules | `(tactic| walk_at "cl") => `(tactic| (refine' e_call (D__law_made_row ‹Tx _ _ _›) (by assumption) ?rm ?gl ?_; (case rm => exact ‹Bd _ _ _ _›.room.mono (by decide)); (case gl => with_reducible assumption)))
def sp__law_row_here (K : PySem.W.Frag) (C_Row : Addr) : Sp := fun vs H Q _ => ∃ p, vs = [.ref p] ∧ Dice H p ∧ ∀ r H', Drawn K H H' p r 12 24 → Q (.ref r) H'
theorem b__law_row_here {X : Cx} {C_Row : Addr} (B : Bd X N__law_row_here (defScope S__law_row_here) 4) (F : ∀ x, X.fn x = true) (G : X.A.guards = some []) (T : Tx X.K X.mg C_Row) {vs : List V} {H : Hp} {Q : VK} {E : XK} (h : sp__law_row_here X.K C_Row vs H Q E) :
    wB X (defBody S__law_row_here) { nx := fun _ H' => Q .non H', rt := Q } (start N__law_row_here vs) H := by
  have n_dice : X.N[0]? = some ("dice" : Str) := B.slot 0 rfl
  have l_dice : X.env.scope.names.lookup ("dice" : Str) = some NameKind.local := B.loc rfl
  have g__law_roll : Gl X "_law_roll" := B.gl rfl
  have g__law_small : Gl X "_law_small" := B.gl rfl
  have g__law_great : Gl X "_law_great" := B.gl rfl
  obtain ⟨p, rfl, hd, q⟩ := h
  walk_at "wz"
  refine ⟨p, _, rfl, hd, by omega, by omega, fun a H1 a0 a1 c1 d1 => ?_⟩
  walk_at "wz"
  refine iteD (fun _ => ?_) (fun _ => ?_)
  · walk_at "wz"
    refine ⟨p, 6, 8, rfl, d1, by omega, by omega, by omega, fun r H' D => q r H' (D.mono c1 hd (by omega) (by omega))⟩
  · walk_at "wz"
    exact ⟨p, rfl, d1, fun r H' D => q r H' (D.mono c1 hd (by omega) (by omega))⟩
theorem len__law_row_here {K : PySem.W.Frag} {C_Row : Addr} : ∀ vs H Q E, sp__law_row_here K C_Row vs H Q E → vs.length = 1 := by
  intro vs H Q E h
  obtain ⟨_, e, _⟩ := h
  rw [e]; rfl
theorem D__law_row_here {P : Program} {w : World} {K : PySem.W.Frag} {mg : Str → Option Value} {base : Heap} {C_Row : Addr} (T : Tx K mg C_Row) : Df P w K mg base "_law_row_here" 5 ["dice"] (sp__law_row_here K C_Row) :=
  df_of T.d__law_row_here sc__law_row_here (fun _ _ _ _ _ _ us hl => match us, hl with | [_], _ => rfl) len__law_row_here (fun X e1 e2 e3 e4 e5 B F G vs H Q E h => by subst e1 e2 e3 e4 e5; exact b__law_row_here B F G T h)
local macro_rules | `(tactic| walk_at "cl") => `(tactic| (refine' e_call (D__law_row_here ‹Tx _ _ _›) (by assumption) ?rm ?gl ?_; (case rm => exact ‹Bd _ _ _ _›.room.mono (by decide)); (case gl => with_reducible assumption)))
def nextL (s : Int × Int × Str) (l : List Int) : List Int := (l.set s.1.toNat (l.getD s.2.1.toNat 0)).set s.2.1.toNat (l.getD s.1.toNat 0)
def lie0 (P : Int) : List Int := (List.range P.toNat).map fun (i : Nat) => (i : Int)
def lieAt (P : Int) (ss : List (Int × Int × Str)) : List Int := ss.foldl (fun l s => nextL s l) (lie0 P)
theorem lieAt_snoc (P : Int) (ss : List (Int × Int × Str)) (s : Int × Int × Str) : lieAt P (ss ++ [s]) = nextL s (lieAt P ss) := by unfold lieAt; rw [List.foldl_append]; rfl
theorem lie_len (P : Int) (ss : List (Int × Int × Str)) : (lieAt P ss).length = P.toNat := by
  have : ∀ (ss : List (Int × Int × Str)) (l : List Int), (ss.foldl (fun l s => nextL s l) l).length = l.length := by
    intro ss
    induction ss with
    | nil => intro l; rfl
    | cons s ss ih => intro l; show (ss.foldl _ (nextL s l)).length = _; rw [ih]; unfold nextL; rw [List.length_set, List.length_set]
  unfold lieAt
  rw [this]
  unfold lie0
  rw [List.length_map, List.length_range]
theorem ixN_in {n : Nat} {i : Int} (h0 : 0 ≤ i) (h1 : i < (n : Int)) : ixN n i = some i.toNat := by
  obtain ⟨j, rfl⟩ : ∃ j : Nat, i = (j : Int) := ⟨i.toNat, by omega⟩
  unfold ixN
  simp
  omega
theorem at_map {L : List Int} {i : Int} (h0 : 0 ≤ i) (h1 : i < (L.length : Int)) : atI (L.map V.int) i = some (.int (L.getD i.toNat 0)) := by
  unfold atI
  rw [ixN_in h0 (by rw [List.length_map]; exact h1)]
  show (L.map V.int)[i.toNat]? = _
  rw [List.getElem?_map, List.getD_eq_getElem?_getD]
  have h2 : i.toNat < L.length := by omega
  rw [List.getElem?_eq_getElem h2]; rfl
def sp__law_lies (K : PySem.W.Frag) (C_Row : Addr) : Sp := fun vs H Q _ => ∃ P l xs, ∃ ss : List (Int × Int × Str), vs = [.int P, .ref l] ∧ SqL K H l xs ∧ DpAll K H xs (ss.map stp) ∧ (∀ s ∈ ss, okS P s) ∧ 1 ≤ P ∧ P ≤ 12 ∧ ss.length ≤ 24 ∧ ∀ f fs H', Same H H' → H' f = some (.lst fs) → fs.length = ss.length + 1 → (∀ k v, fs[k]? = some v → ∃ b, v = .ref b ∧ H' b = some (.lst ((lieAt P (ss.take k)).map V.int))) → Q (.ref f) H'
theorem b__law_lies {X : Cx} {C_Row : Addr} (B : Bd X N__law_lies (defScope S__law_lies) 0) (F : ∀ x, X.fn x = true) (G : X.A.guards = some []) (T : Tx X.K X.mg C_Row) {vs : List V} {H : Hp} {Q : VK} {E : XK} (h : sp__law_lies X.K C_Row vs H Q E) :
    wB X (defBody S__law_lies) { nx := fun _ H' => Q .non H', rt := Q } (start N__law_lies vs) H := by
  have n_places : X.N[0]? = some ("places" : Str) := B.slot 0 rfl
  have l_places : X.env.scope.names.lookup ("places" : Str) = some NameKind.local := B.loc rfl
  have n_steps : X.N[1]? = some ("steps" : Str) := B.slot 1 rfl
  have l_steps : X.env.scope.names.lookup ("steps" : Str) = some NameKind.local := B.loc rfl
  have n_found : X.N[2]? = some ("found" : Str) := B.slot 2 rfl
  have l_found : X.env.scope.names.lookup ("found" : Str) = some NameKind.local := B.loc rfl
  have n_one : X.N[3]? = some ("one" : Str) := B.slot 3 rfl
  have l_one : X.env.scope.names.lookup ("one" : Str) = some NameKind.local := B.loc rfl
  have n_other : X.N[4]? = some ("other" : Str) := B.slot 4 rfl
  have l_other : X.env.scope.names.lookup ("other" : Str) = some NameKind.local := B.loc rfl
  have n_owner : X.N[5]? = some ("owner" : Str) := B.slot 5 rfl
  have l_owner : X.env.scope.names.lookup ("owner" : Str) = some NameKind.local := B.loc rfl
  have n_lies : X.N[6]? = some ("lies" : Str) := B.slot 6 rfl
  have l_lies : X.env.scope.names.lookup ("lies" : Str) = some NameKind.local := B.loc rfl
  have g_list : Gl X "list" := B.gl rfl
  have z_list := T.z_list
  have v_list := bb_list
  have g_range : Gl X "range" := B.gl rfl
  have z_range := T.z_range
  have v_range := bb_range
  obtain ⟨P, l, xs, ss, rfl, hx, da, ok, h1, h2, h3, q⟩ := h
  have hln : xs.length = ss.length := by rw [dp_len da, List.length_map]
  walk_at "st"
  walk_at "st"
  walk_at "ex"
  refine a_cons (e_lstR1 B.calm g_list z_list g_range z_range ?_)
  walk_at "wz"
  refine ⟨P.toNat, by rw [Int.toNat_of_nonneg (by omega)], by omega, fun b hb => ?_⟩
  walk_at "wz"
  refine ⟨by show 1 ≤ sizeLine; decide, fun f hf => ?_⟩
  walk_at "wz"
  have sm0 : Same H (upd (upd H b (.lst ((List.range P.toNat).map fun (i : Nat) => V.int (i : Int)))) f (.lst [.ref b])) := ((Same.refl H).new hb).new hf
  have f0 : H f = none := by
    cases e : H f with
    | none => rfl
    | some o =>
      rw [(Same.refl H).new hb f o e] at hf
      cases hf
  have bf : b ≠ f := by
    rintro rfl
    rw [upd_same] at hf
    cases hf
  refine s_forLg (pg_t3 3 4 5 B.calm B.nd n_one n_other n_owner l_one l_other l_owner) B.ps B.calm ?_
  walk_at "wz"
  refine ⟨l, xs, rfl, sm0.seq hx, fun k σ H1 => ∃ y3 y4 y5 y6 fs, σ = [some (.int P), some (.ref l), some (.ref f), y3, y4, y5, y6] ∧ Same H H1 ∧ H1 f = some (.lst fs) ∧ fs.length = k + 1 ∧ ∀ i v, fs[i]? = some v → ∃ b, v = .ref b ∧ b ≠ f ∧ H1 b = some (.lst ((lieAt P (ss.take i)).map V.int)), ?_, ?_, ?_, ?_⟩
  · refine ⟨_, _, _, _, _, rfl, sm0, upd_same, rfl, ?_⟩
    intro i v hi
    rcases i with _ | i
    · cases hi
      refine ⟨b, rfl, bf, ?_⟩
      rw [upd_keep2 bf upd_same]
      show _ = some (HO.lst ((lie0 P).map V.int))
      unfold lie0
      rw [List.map_map]; rfl
    · simp at hi
  · rintro k σ H1 hk ⟨y3, y4, y5, y6, fs, rfl, sm, _⟩
    exact sm.seq hx
  · rintro k v σ H1 hk ⟨y3, y4, y5, y6, fs, rfl, sm, hff, hfl, hall⟩
    obtain ⟨s, e1, e2⟩ := dp_step da hk
    obtain ⟨c, rfl, hc⟩ := dp_stp e2
    have hk2 : k < ss.length := (List.getElem?_eq_some_iff.mp e1).1
    obtain ⟨⟨x0, xy, yP⟩, oo⟩ := ok s (List.mem_of_getElem? e1)
    have hlast : fs[k]? = some (fs[k]'(by omega)) := List.getElem?_eq_getElem (by omega)
    obtain ⟨b0, eb, b0f, hb0⟩ := hall k _ hlast
    rw [eb] at hlast
    have L1 := lie_len P (ss.take k)
    refine g3 (same_tup sm hc) ?_
    walk_at "wz"
    refine x_lst (SqL.of hff) (atI_last hfl hlast) ?_
    walk_at "wz"
    refine c_lstL (Or.inl (SqL.of hb0)) fun d hd => ?_
    have b0d : b0 ≠ d := ne_of_none hb0 hd
    have fd : f ≠ d := ne_of_none hff hd
    walk_at "wz"
    refine x_lst (SqL.of (upd_keep hd hff)) (atI_last hfl hlast) ?_
    walk_at "wz"
    refine x_lst (SqL.of (upd_keep hd hb0)) (at_map (by omega) (by rw [L1]; omega)) ?_
    walk_at "wz"
    refine ps_set_list ⟨d, _, s.1, s.1.toNat, rfl, rfl, upd_same, ixN_in x0 (by rw [List.length_map, L1]; omega), ?_⟩
    rw [upd_upd]
    walk_at "wz"
    refine x_lst (SqL.of (upd_keep hd hff)) (atI_last hfl hlast) ?_
    walk_at "wz"
    refine x_lst (SqL.of (upd_keep hd hb0)) (at_map (by omega) (by rw [L1]; omega)) ?_
    walk_at "wz"
    refine ps_set_list ⟨d, _, s.2.1, s.2.1.toNat, rfl, rfl, upd_same, ixN_in (by omega) (by rw [List.length_set, List.length_map, L1]; omega), ?_⟩
    rw [upd_upd]
    walk_at "st"
    walk_at "st"
    refine e_app ?_
    walk_at "wz"
    refine ⟨Or.inl ⟨rfl, _, SqL.of (upd_keep hd hff)⟩, ?_⟩
    walk_at "wz"
    have enext : (((lieAt P (ss.take k)).map V.int).set s.1.toNat (.int ((lieAt P (ss.take k)).getD s.2.1.toNat 0))).set s.2.1.toNat (.int ((lieAt P (ss.take k)).getD s.1.toNat 0)) = (lieAt P (ss.take (k + 1))).map V.int := by
      rw [tk_snoc e1, lieAt_snoc]
      unfold nextL
      rw [List.map_set, List.map_set]
    rw [enext]
    refine ⟨f, fs, rfl, upd_keep hd hff, by have : (100 : Nat) ≤ sizeLine := (by decide); omega, ?_⟩
    refine ⟨_, _, _, _, _, rfl, (sm.new hd).ch f0 Ch.refl.put, upd_same, by rw [List.length_append, hfl]; rfl, ?_⟩
    intro i v hi
    rw [List.getElem?_append] at hi
    split at hi
    · obtain ⟨b1, e3, e4, e5⟩ := hall i v hi
      exact ⟨b1, e3, e4, upd_keep2 e4 (upd_keep hd e5)⟩
    · rename_i hge
      have ei : i = k + 1 := by
        have := (List.getElem?_eq_some_iff.mp hi).1
        simp at this
        omega
      subst ei
      rw [hfl, Nat.sub_self] at hi
      cases hi
      exact ⟨d, rfl, Ne.symm fd, upd_keep2 (Ne.symm fd) upd_same⟩
  · rintro σ H1 ⟨y3, y4, y5, y6, fs, rfl, sm, hff, hfl, hall⟩
    walk_at "wz"
    refine q f fs H1 sm hff (by rw [hfl, hln]) fun k v hv => ?_
    obtain ⟨b1, e3, _, e5⟩ := hall k v hv
    exact ⟨b1, e3, e5⟩
theorem len__law_lies {K : PySem.W.Frag} {C_Row : Addr} : ∀ vs H Q E, sp__law_lies K C_Row vs H Q E → vs.length = 2 := by
  intro vs H Q E h
  obtain ⟨_, _, _, _, e, _⟩ := h
  rw [e]; rfl
theorem D__law_lies {P : Program} {w : World} {K : PySem.W.Frag} {mg : Str → Option Value} {base : Heap} {C_Row : Addr} (T : Tx K mg C_Row) : Df P w K mg base "_law_lies" 1 ["places", "steps"] (sp__law_lies K C_Row) :=
  df_of T.d__law_lies sc__law_lies (fun _ _ _ _ _ _ us hl => match us, hl with | [_, _], _ => rfl) len__law_lies (fun X e1 e2 e3 e4 e5 B F G vs H Q E h => by subst e1 e2 e3 e4 e5; exact b__law_lies B F G T h)
local macro_rules | `(tactic| walk_at "cl") => `(tactic| (refine' e_call (D__law_lies ‹Tx _ _ _›) (by assumption) ?rm ?gl ?_; (case rm => exact ‹Bd _ _ _ _›.room.mono (by decide)); (case gl => with_reducible assumption)))

theorem pb_pb (x y p : Int) : pb x y (pb x y p) = p := by
  unfold pb
  split
  · split
    · omega
    · split <;> omega
  · split
    · split <;> omega
    · rfl
theorem last_rev : ∀ (ss : List (Int × Int × Str)) (p : Int), lastP ss.reverse (lastP ss p) = p
  | [], _ => rfl
  | s :: ss, p => by
    show lastP (s :: ss).reverse (lastP ss (pb s.1 s.2.1 p)) = p
    rw [List.reverse_cons, lastP_app, last_rev ss]
    exact pb_pb _ _ _
theorem back_last (ss : List (Int × Int × Str)) (p : Int) : backP ss (lastP ss p) = p := last_rev ss p
theorem last_back (ss : List (Int × Int × Str)) (p : Int) : lastP ss (backP ss p) = p := by
  have := last_rev ss.reverse p
  rw [List.reverse_reverse] at this
  exact this
theorem lie_get {P : Int} {ss : List (Int × Int × Str)} (ok : ∀ s ∈ ss, okS P s) : ∀ k, k ≤ ss.length → ∀ i : Nat, i < P.toNat → (lieAt P (ss.take k))[i]? = some (backP (ss.take k) (i : Int))
  | 0, _, i, hi => by
    show (lie0 P)[i]? = some (i : Int)
    unfold lie0
    rw [List.getElem?_map, List.getElem?_range hi]; rfl
  | k + 1, hk, i, hi => by
    have ih := lie_get ok k (by omega)
    have e1 : ss[k]? = some ss[k] := List.getElem?_eq_getElem (by omega)
    obtain ⟨⟨x0, xy, yP⟩, _⟩ := ok _ (List.mem_of_getElem? e1)
    rw [tk_snoc e1, lieAt_snoc]
    generalize ss[k] = s at *
    have hl := lie_len P (ss.take k)
    have eb : backP (ss.take k ++ [s]) (i : Int) = backP (ss.take k) (pb s.1 s.2.1 (i : Int)) := by
      unfold backP
      rw [List.reverse_append]; rfl
    rw [eb]
    have gx : (lieAt P (ss.take k)).getD s.1.toNat 0 = backP (ss.take k) s.1 := by
      rw [List.getD_eq_getElem?_getD, ih s.1.toNat (by omega), Int.toNat_of_nonneg x0]; rfl
    have gy : (lieAt P (ss.take k)).getD s.2.1.toNat 0 = backP (ss.take k) s.2.1 := by
      rw [List.getD_eq_getElem?_getD, ih s.2.1.toNat (by omega), Int.toNat_of_nonneg (by omega)]; rfl
    unfold nextL
    rw [gx, gy, List.getElem?_set, List.getElem?_set]
    unfold pb
    split
    · rename_i e
      rw [List.length_set, hl, if_pos (show s.2.1.toNat < P.toNat by omega), if_neg (show ¬ (i : Int) = s.1 by omega), if_pos (show (i : Int) = s.2.1 by omega)]
    · split
      · rename_i e
        rw [hl, if_pos (show s.1.toNat < P.toNat by omega), if_pos (show (i : Int) = s.1 by omega)]
      · rw [if_neg (show ¬ (i : Int) = s.1 by omega), if_neg (show ¬ (i : Int) = s.2.1 by omega)]
        exact ih i hi
theorem trail_eq (ss : List (Int × Int × Str)) (p : Int) : (trail ss p).map V.int = (List.range (ss.length + 1)).map fun k => V.int (lastP (ss.take k) p) := by
  refine List.ext_getElem? fun i => ?_
  rw [List.getElem?_map, List.getElem?_map]
  by_cases hi : i ≤ ss.length
  · rw [trail_at ss p i hi, List.getElem?_range (by omega)]; rfl
  · rw [List.getElem?_eq_none (by rw [trail_len]; omega), List.getElem?_eq_none (by rw [List.length_range]; omega)]; rfl
theorem trail_cat (as bs : List (Int × Int × Str)) (p : Int) : trail (as ++ bs) p = (trail as p).take as.length ++ trail bs (lastP as p) := by
  induction as generalizing p with
  | nil => rfl
  | cons s as ih =>
    show p :: trail (as ++ bs) _ = p :: ((trail as _).take as.length ++ _)
    rw [ih]; rfl
theorem deed_at {P t : Int} {ss : List (Int × Int × Str)} (h0 : 0 ≤ t) (h1 : t < P) : atI ((deedL P ss).map V.int) t = some (.int (lastP ss t)) := by
  have hl : (deedL P ss).length = P.toNat := by unfold deedL; rw [List.length_map, List.length_range]
  rw [at_map h0 (by rw [hl]; omega)]
  congr 2
  unfold deedL
  rw [List.getD_eq_getElem?_getD, List.getElem?_map, List.getElem?_range (by omega)]
  show lastP ss ((t.toNat : Nat) : Int) = _
  rw [Int.toNat_of_nonneg h0]
theorem back_in {P : Int} {ss : List (Int × Int × Str)} {p : Int} (ok : ∀ s ∈ ss, okS P s) (h0 : 0 ≤ p) (h1 : p < P) : 0 ≤ backP ss p ∧ backP ss p < P := lastP_in (fun s hs => ok s (List.mem_reverse.mp hs)) h0 h1
def sp__law_right (K : PySem.W.Frag) (C_Row : Addr) : Sp := fun vs H Q _ => ∃ p, vs = [.ref p] ∧ Dice H p ∧ ∀ H', Ch p H H' → Dice H' p → Q (.bl true) H'
theorem b__law_right {X : Cx} {C_Row : Addr} (B : Bd X N__law_right (defScope S__law_right) 10) (F : ∀ x, X.fn x = true) (G : X.A.guards = some []) (T : Tx X.K X.mg C_Row) {vs : List V} {H : Hp} {Q : VK} {E : XK} (h : sp__law_right X.K C_Row vs H Q E) :
    wB X (defBody S__law_right) { nx := fun _ H' => Q .non H', rt := Q } (start N__law_right vs) H := by
  have n_dice : X.N[0]? = some ("dice" : Str) := B.slot 0 rfl
  have l_dice : X.env.scope.names.lookup ("dice" : Str) = some NameKind.local := B.loc rfl
  have n_places : X.N[1]? = some ("places" : Str) := B.slot 1 rfl
  have l_places : X.env.scope.names.lookup ("places" : Str) = some NameKind.local := B.loc rfl
  have n_steps : X.N[2]? = some ("steps" : Str) := B.slot 2 rfl
  have l_steps : X.env.scope.names.lookup ("steps" : Str) = some NameKind.local := B.loc rfl
  have n_row : X.N[3]? = some ("row" : Str) := B.slot 3 rfl
  have l_row : X.env.scope.names.lookup ("row" : Str) = some NameKind.cell := B.cel rfl
  have n_lies : X.N[4]? = some ("lies" : Str) := B.slot 4 rfl
  have l_lies : X.env.scope.names.lookup ("lies" : Str) = some NameKind.local := B.loc rfl
  have n_thing : X.N[5]? = some ("thing" : Str) := B.slot 5 rfl
  have l_thing : X.env.scope.names.lookup ("thing" : Str) = some NameKind.cell := B.cel rfl
  have n_path : X.N[6]? = some ("path" : Str) := B.slot 6 rfl
  have l_path : X.env.scope.names.lookup ("path" : Str) = some NameKind.local := B.loc rfl
  have n_now : X.N[7]? = some ("now" : Str) := B.slot 7 rfl
  have l_now : X.env.scope.names.lookup ("now" : Str) = some NameKind.local := B.loc rfl
  have n_index : X.N[8]? = some ("index" : Str) := B.slot 8 rfl
  have l_index : X.env.scope.names.lookup ("index" : Str) = some NameKind.cell := B.cel rfl
  have n_cut : X.N[9]? = some ("cut" : Str) := B.slot 9 rfl
  have l_cut : X.env.scope.names.lookup ("cut" : Str) = some NameKind.local := B.loc rfl
  have n_head : X.N[10]? = some ("head" : Str) := B.slot 10 rfl
  have l_head : X.env.scope.names.lookup ("head" : Str) = some NameKind.local := B.loc rfl
  have n_tail : X.N[11]? = some ("tail" : Str) := B.slot 11 rfl
  have l_tail : X.env.scope.names.lookup ("tail" : Str) = some NameKind.local := B.loc rfl
  have n_place : X.N[12]? = some ("place" : Str) := B.slot 12 rfl
  have g__law_row_here : Gl X "_law_row_here" := B.gl rfl
  have g__law_made_row : Gl X "_law_made_row" := B.gl rfl
  have g__law_lies : Gl X "_law_lies" := B.gl rfl
  have g_range : Gl X "range" := B.gl rfl
  have z_range := T.z_range
  have v_range := bb_range
  have g_tuple : Gl X "tuple" := B.gl rfl
  have z_tuple := T.z_tuple
  have v_tuple := bb_tuple
  have g_enumerate : Gl X "enumerate" := B.gl rfl
  have z_enumerate := T.z_enumerate
  have g__law_roll : Gl X "_law_roll" := B.gl rfl
  have g_len : Gl X "len" := B.gl rfl
  have z_len := T.z_len
  have v_len := bb_len
  obtain ⟨p, rfl, hd, q⟩ := h
  walk_at "st"
  refine s_unp2 1 2 B.calm B.nd n_places n_steps l_places l_steps ?_
  walk_at "wz"
  refine ⟨p, rfl, hd, fun r1 H1 D1 => ?_⟩
  obtain ⟨c1, d1, l, P, xs, ss, hr1, hl, lp, _, da, ok, P2, P12, s24⟩ := D1
  refine ⟨r1, _, _, rfl, hr1, ?_⟩
  walk_at "st"
  refine s_unp2g 3 4 B.calm B.nd n_row n_lies F (Or.inr l_row) (Or.inl l_lies) (by rw [env_eta B.sc]; rfl) ?_
  walk_at "wz"
  refine ⟨P, l, xs, ss, rfl, SqL.of hl, da, ok, by omega, by omega, s24, fun a H2 s2 R2 => ?_⟩
  walk_at "wz"
  refine ⟨P, l, xs, ss, rfl, s2.seq (SqL.of hl), dpa_same s2 da, ok, by omega, by omega, s24, fun f fs H3 s3 hf hfl hall => ?_⟩
  walk_at "wz"
  refine ⟨by show 2 ≤ sizeLine; decide, fun t0 ht0 => ?_⟩
  refine ⟨t0, _, _, rfl, SqT.of upd_same, ?_⟩
  have sb : Same H1 (upd H3 t0 (.tup [.ref a, .ref f])) := (s2.trans s3).new ht0
  have Rb : RowAt X.K (upd H3 t0 (.tup [.ref a, .ref f])) C_Row a P ss := R2.same (s3.new ht0)
  have fb : upd H3 t0 (.tup [.ref a, .ref f]) f = some (.lst fs) := upd_keep ht0 hf
  have allb : ∀ k v, fs[k]? = some v → ∃ b, v = .ref b ∧ upd H3 t0 (.tup [.ref a, .ref f]) b = some (.lst ((lieAt P (ss.take k)).map V.int)) := fun k v hv => by
    obtain ⟨b, e1, e2⟩ := hall k v hv
    exact ⟨b, e1, upd_keep ht0 e2⟩
  have db : Dice (upd H3 t0 (.tup [.ref a, .ref f])) p := by
    obtain ⟨x, y, z, e⟩ := d1
    exact ⟨x, y, z, sb _ _ e⟩
  have cb : Ch p H (upd H3 t0 (.tup [.ref a, .ref f])) := c1.trans (Ch.of sb)
  have lb : upd H3 t0 (.tup [.ref a, .ref f]) l = some (.lst xs) := sb _ _ hl
  generalize upd H3 t0 (.tup [.ref a, .ref f]) = Hb at sb Rb fb allb db cb lb
  have hPn : ((P.toNat : Nat) : Int) = P := Int.toNat_of_nonneg (by omega)
  walk_at "st"
  refine s_forR1 5 B.ps B.calm g_range z_range B.nd n_thing (Or.inr l_thing) ?_ (hf := .inl (F _))
  walk_at "wz"
  refine ⟨P.toNat, by rw [hPn], by omega, fun k σ H1 => ∃ y5 y6 y7 y8 y9 y10 y11 y12, σ = [some (.ref p), some (.int P), some (.ref l), some (.ref a), some (.ref f), y5, y6, y7, y8, y9, y10, y11, y12] ∧ Same Hb H1, ?_, ?_, ?_⟩
  · exact ⟨_, _, _, _, _, _, _, _, rfl, Same.refl _⟩
  · rintro t σ H4 ht ⟨y5, y6, y7, y8, y9, y10, y11, y12, rfl, sm⟩
    have t0 : (0 : Int) ≤ (t : Int) := by omega
    have t1 : (t : Int) < P := by omega
    have R4 := Rb.same sm
    obtain ⟨⟨dx, v, ha, hv⟩, _⟩ := id R4
    walk_at "st"
    walk_at "st"
    refine e_meth (D_Row_path T) T.cl_Row (B.room.mono (by decide)) ?_
    walk_at "wz"
    refine ⟨a, dx, _, rfl, ha, rfl, ?_⟩
    walk_at "wz"
    refine ⟨a, (t : Int), P, ss, rfl, R4, t0, t1, fun r H5 s5 hr => ?_⟩
    walk_at "wz"
    refine e_lcL 7 B (blkOk_by (by decide +kernel)) rfl rfl (lcL_same ?_)
    walk_at "wz"
    refine ⟨f, fs, fun i y _ => y = .int (lastP (ss.take i) (t : Int)), rfl, SqL.of (s5 _ _ (sm _ _ fb)), by have : (100 : Nat) ≤ sizeLine := (by decide); omega, stays_eq _, ?_, ?_⟩
    · intro i v H6 hv sm6 X' bk
      have B' := bk.bd B
      have n_now : X'.N[7]? = some ("now" : Str) := B'.slot 7 rfl
      have l_now : X'.env.scope.names.lookup ("now" : Str) = some NameKind.local := B'.loc rfl
      have n_thing : X'.N[5]? = some ("thing" : Str) := B'.slot 5 rfl
      have l_thing : X'.env.scope.names.lookup ("thing" : Str) = some NameKind.cell := B'.cel rfl
      have T' : Tx X'.K X'.mg C_Row := by rw [bk.K, bk.mg]; exact T
      obtain ⟨b, rfl, hb⟩ := allb i v hv
      have hb6 := sm6 _ _ (s5 _ _ (sm _ _ hb))
      have hi : i ≤ ss.length := by
        have := (List.getElem?_eq_some_iff.mp hv).1
        omega
      refine e_index ?_
      walk_at "wz"
      refine ⟨Or.inl ⟨rfl, _, by rw [bk.K]; exact SqL.of hb6⟩, ?_⟩
      walk_at "wz"
      have okT : ∀ s ∈ ss.take i, okS P s := fun s hs => ok s (List.mem_of_mem_take hs)
      obtain ⟨j0, j1⟩ := lastP_in okT t0 t1
      refine ⟨b, _, (lastP (ss.take i) (t : Int)).toNat, .int (t : Int), rfl, by rw [bk.K]; exact SqL.of hb6, rfl, ?_, ?_, ?_, ?_, ?_⟩
      · rw [List.all_map, List.all_eq_true]; intro x _; rfl
      · rw [List.getElem?_map, lie_get ok i hi _ (by omega), Int.toNat_of_nonneg j0, back_last]; rfl
      · show ((t : Int) == (t : Int)) = true
        exact beq_self_eq_true _
      · intro m z' hm hz
        rw [List.getElem?_map, lie_get ok i hi m (by omega)] at hz
        cases hz
        show (backP (ss.take i) (m : Int) == (t : Int)) = false
        refine beq_eq_false_iff_ne.mpr fun e => ?_
        have := last_back (ss.take i) (m : Int)
        rw [e] at this
        omega
      · exact ⟨Same.refl _, by rw [Int.toNat_of_nonneg j0]⟩
    · intro D H6 ys h0 s6 hD hyl hy
      walk_at "wz"
      refine c_tupL (SqL.of hD) fun r2 hr2 => ?_
      have ey : ys = (trail ss (t : Int)).map V.int := by
        rw [trail_eq]
        exact ys_eq (by rw [hyl, hfl]) hy
      have s7 : Same H5 (upd H6 r2 (.tup ys)) := s6.new hr2
      refine o_neT B.room.units (ns := trail ss (t : Int)) (ms := trail ss (t : Int)) (same_tup s7 hr) (by rw [← ey]; exact SqT.of upd_same) ?_
      walk_at "wz"
      refine iteND (fun z => absurd rfl z) (fun _ => ?_)
      walk_at "wz"
      refine x_tup (same_tup s7 hr) (atI_last (n := ss.length) (by rw [List.length_map, trail_len]) (trail_last ss _)) ?_
      walk_at "wz"
      refine e_prop (D_Row_deed T) T.cl_Row (B.room.mono (by decide)) ?_
      walk_at "wz"
      have R7 := R4.same (s5.trans s7)
      obtain ⟨⟨dx7, v7, ha7, hv7⟩, _⟩ := id R7
      refine ⟨a, dx7, _, rfl, ha7, ?_⟩
      refine ⟨a, P, ss, rfl, R7, fun r3 H8 s8 hr3 => ?_⟩
      walk_at "wz"
      refine x_tup hr3 (deed_at t0 t1) ?_
      walk_at "wz"
      refine iteND (fun z => absurd rfl z) (fun _ => ?_)
      walk_at "wz"
      exact ⟨_, _, _, _, _, _, _, _, rfl, ((sm.trans s5).trans s7).trans s8⟩
  · rintro σ H4 ⟨y5, y6, y7, y8, y9, y10, y11, y12, rfl, sm⟩
    walk_at "st"
    refine s_forEn 8 7 g_enumerate z_enumerate B.ps B.calm B.nd n_index n_now F (Or.inr l_index) (Or.inl l_now) ?_
    walk_at "wz"
    refine ⟨f, fs, rfl, SqL.of (sm _ _ fb), fun k σ H1 => ∃ y5 y6 y7 y8 y9 y10 y11 y12, σ = [some (.ref p), some (.int P), some (.ref l), some (.ref a), some (.ref f), y5, y6, y7, y8, y9, y10, y11, y12] ∧ Same Hb H1, ?_, ?_, ?_, ?_⟩
    · exact ⟨_, _, _, _, _, _, _, _, rfl, sm⟩
    · rintro k σ H5 hk ⟨y5, y6, y7, y8, y9, y10, y11, y12, rfl, sm5⟩
      exact SqL.of (sm5 _ _ fb)
    · rintro k v σ H5 T0 hv ⟨y5, y6, y7, y8, y9, y10, y11, y12, rfl, sm5⟩ hT
      obtain ⟨b, rfl, hb⟩ := allb k v hv
      have hk : k ≤ ss.length := by
        have := (List.getElem?_eq_some_iff.mp hv).1
        omega
      have s6 : Same Hb (upd H5 T0 (.tup [.int (k : Int), .ref b])) := sm5.new hT
      generalize upd H5 T0 (.tup [.int (k : Int), .ref b]) = H6 at s6
      walk_at "wz"
      refine e_lcR 12 B (blkOk_by (by decide +kernel)) g_range z_range rfl rfl (lcR_same ?_)
      walk_at "wz"
      refine ⟨P.toNat, fun i y _ => y = .int (backP (ss.take k) (i : Int)), by rw [hPn], by omega, stays_eq _, ?_, ?_⟩
      · intro i H7 hi sm7 X' bk
        have B' := bk.bd B
        have n_place : X'.N[12]? = some ("place" : Str) := B'.slot 12 rfl
        have l_place : X'.env.scope.names.lookup ("place" : Str) = some NameKind.local := B'.loc rfl
        have n_row : X'.N[3]? = some ("row" : Str) := B'.slot 3 rfl
        have l_row : X'.env.scope.names.lookup ("row" : Str) = some NameKind.cell := B'.cel rfl
        have n_index : X'.N[8]? = some ("index" : Str) := B'.slot 8 rfl
        have l_index : X'.env.scope.names.lookup ("index" : Str) = some NameKind.cell := B'.cel rfl
        have T' : Tx X'.K X'.mg C_Row := by rw [bk.K, bk.mg]; exact T
        have R7 := Rb.same (s6.trans sm7)
        obtain ⟨⟨dx, v, ha, hv⟩, _⟩ := id R7
        refine e_meth (D_Row_thing_at T') T'.cl_Row (B'.room.mono (by decide)) ?_
        walk_at "wz"
        refine ⟨a, dx, _, rfl, ha, rfl, ?_⟩
        walk_at "wz"
        exact ⟨a, (i : Int), P, k, ss, rfl, (by rw [bk.K]; exact R7), by omega, by omega, hk, fun H8 s8 => ⟨s8, rfl⟩⟩
      · intro D H7 ys h0 s7 hD hyl hy
        walk_at "wz"
        have ey : ys = (lieAt P (ss.take k)).map V.int := by
          rw [ys_eq hyl hy]
          refine List.ext_getElem? fun i => ?_
          rw [List.getElem?_map, List.getElem?_map]
          by_cases hi : i < P.toNat
          · rw [lie_get ok k hk i hi, List.getElem?_range hi]; rfl
          · rw [List.getElem?_eq_none (by rw [List.length_range]; omega), List.getElem?_eq_none (by rw [lie_len]; omega)]; rfl
        rw [ey] at hD
        refine o_neL B.room.units (ns := lieAt P (ss.take k)) (ms := lieAt P (ss.take k)) (SqL.of hD) (SqL.of (s7 _ _ (s6 _ _ hb))) ?_
        walk_at "wz"
        refine iteND (fun z => absurd rfl z) (fun _ => ?_)
        walk_at "wz"
        exact ⟨_, _, _, _, _, _, _, _, rfl, s6.trans s7⟩
    · rintro σ H5 ⟨y5, y6, y7, y8, y9, y10, y11, y12, rfl, sm5⟩
      have hln : xs.length = ss.length := by rw [dp_len da, List.length_map]
      walk_at "wz"
      refine c_lenL (SqL.of (sm5 _ _ lb)) ?_
      walk_at "wz"
      have d5 : Dice H5 p := by
        obtain ⟨x, y, z, e⟩ := db
        exact ⟨x, y, z, sm5 _ _ e⟩
      refine ⟨p, _, rfl, d5, by omega, by omega, fun c H6 g0 g1 c6 d6 => ?_⟩
      obtain ⟨c, rfl⟩ : ∃ n : Nat, c = (n : Int) := ⟨c.toNat, by omega⟩
      have hc : c ≤ ss.length := by omega
      obtain ⟨dz1, dz2, dz3, dze⟩ := id d5
      have R6 := (Rb.same sm5).ch c6 dze
      have l6 := c6 l _ lp (sm5 _ _ lb)
      obtain ⟨⟨dx, v, ha, hv⟩, _⟩ := id R6
      walk_at "wz"
      refine s_par 10 11 B.calm B.nd n_head n_tail (by decide) l_head l_tail (by rw [env_eta B.sc]; rfl) ?_
      refine e_meth (D_Row_part T) T.cl_Row (B.room.mono (by decide)) ?_
      walk_at "wz"
      refine ⟨a, dx, _, rfl, ha, rfl, ?_⟩
      walk_at "wz"
      refine ⟨a, P, 0, c, ss, rfl, R6, by omega, hc, fun h7 H7 s7 R7h => ?_⟩
      refine e_meth (D_Row_part T) T.cl_Row (B.room.mono (by decide)) ?_
      walk_at "wz"
      refine ⟨a, dx, _, rfl, s7 _ _ ha, rfl, ?_⟩
      walk_at "wz"
      refine c_lenL (SqL.of (s7 _ _ l6)) ?_
      walk_at "wz"
      rw [hln]
      refine ⟨a, P, c, ss.length, ss, rfl, R6.same s7, hc, by omega, fun h8 H8 s8 R8t => ?_⟩
      rw [List.drop_zero, Nat.sub_zero] at R7h
      rw [List.take_of_length_le (by rw [List.length_drop]; omega)] at R8t
      have R8 := R6.same (s7.trans s8)
      have R8h := R7h.same s8
      have c8 : Ch p H H8 := ((cb.trans (Ch.of sm5)).trans c6).trans (Ch.of (s7.trans s8))
      have d8 : Dice H8 p := by
        obtain ⟨x, y, z, e⟩ := d6
        exact ⟨x, y, z, (s7.trans s8) _ _ e⟩
      walk_at "st"
      refine s_forR1 5 B.ps B.calm g_range z_range B.nd n_thing (Or.inr l_thing) ?_ (hf := .inl (F _))
      walk_at "wz"
      refine ⟨P.toNat, by rw [hPn], by omega, fun k σ H1 => ∃ y5 y6 y7 y8 y9 y12, σ = [some (.ref p), some (.int P), some (.ref l), some (.ref a), some (.ref f), y5, y6, y7, y8, y9, some (.ref h7), some (.ref h8), y12] ∧ Same H8 H1, ?_, ?_, ?_⟩
      · exact ⟨_, _, _, _, _, _, rfl, Same.refl _⟩
      · rintro t σ H9 ht ⟨y5, y6, y7, y8, y9, y12, rfl, sm⟩
        have t0 : (0 : Int) ≤ (t : Int) := by omega
        have t1 : (t : Int) < P := by omega
        have R9 := R8.same sm
        obtain ⟨⟨dx9, v9, ha9, hv9⟩, _⟩ := id R9
        walk_at "wz"
        refine e_meth (D_Row_path T) T.cl_Row (B.room.mono (by decide)) ?_
        walk_at "wz"
        refine ⟨a, dx9, _, rfl, ha9, rfl, ?_⟩
        walk_at "wz"
        refine ⟨a, (t : Int), P, ss, rfl, R9, t0, t1, fun r2 H10 s10 hr2 => ?_⟩
        walk_at "wz"
        have R10h := (R8h.same sm).same s10
        obtain ⟨⟨dxh, vh, hah, hvh⟩, _⟩ := id R10h
        refine e_slNS ?_
        refine e_meth (D_Row_path T) T.cl_Row (B.room.mono (by decide)) ?_
        walk_at "wz"
        refine ⟨h7, dxh, _, rfl, hah, rfl, ?_⟩
        walk_at "wz"
        refine ⟨h7, (t : Int), P, ss.take c, rfl, R10h, t0, t1, fun r3 H11 s11 hr3 => ?_⟩
        walk_at "wz"
        refine ⟨r3, _, rfl, hr3, fun r4 H12 s12 hr4 => ?_⟩
        rw [cut_m1, List.length_map, trail_len, Nat.add_sub_cancel] at hr4
        have R12t := ((R8t.same sm).same s10).same (s11.trans s12)
        have R12h := R10h.same (s11.trans s12)
        obtain ⟨⟨dxt, vt, hat, hvt⟩, _⟩ := id R12t
        obtain ⟨⟨dxj, vj, haj, hvj⟩, _⟩ := id R12h
        refine e_meth (D_Row_path T) T.cl_Row (B.room.mono (by decide)) ?_
        walk_at "wz"
        refine ⟨h8, dxt, _, rfl, hat, rfl, ?_⟩
        walk_at "wz"
        refine e_prop (D_Row_deed T) T.cl_Row (B.room.mono (by decide)) ?_
        walk_at "wz"
        refine ⟨h7, dxj, _, rfl, haj, ?_⟩
        refine ⟨h7, P, ss.take c, rfl, R12h, fun r5 H13 s13 hr5 => ?_⟩
        walk_at "wz"
        refine x_tup hr5 (deed_at t0 t1) ?_
        walk_at "wz"
        obtain ⟨j0, j1⟩ := lastP_in (ss := ss.take c) (fun s hs => ok s (List.mem_of_mem_take hs)) t0 t1
        refine ⟨h8, lastP (ss.take c) (t : Int), P, ss.drop c, rfl, R12t.same s13, j0, j1, fun r6 H14 s14 hr6 => ?_⟩
        have s1214 := s13.trans s14
        refine o_cat (same_tup s1214 hr4) hr6 (by rw [List.length_take, List.length_map, List.length_map, trail_len, trail_len, List.length_drop]; have : (200 : Nat) ≤ sizeLine := (by decide); omega) fun r7 H15 s15 hr7 => ?_
        have ecat : ((trail (ss.take c) (t : Int)).map V.int).take (ss.take c).length ++ (trail (ss.drop c) (lastP (ss.take c) (t : Int))).map V.int = (trail ss (t : Int)).map V.int := by
          rw [← List.map_take, ← List.map_append, ← trail_cat, List.take_append_drop]
        rw [ecat] at hr7
        refine o_neT B.room.units (ns := trail ss (t : Int)) (ms := trail ss (t : Int)) (same_tup (((s11.trans s12).trans s1214).trans s15) hr2) hr7 ?_
        walk_at "wz"
        refine iteND (fun z => absurd rfl z) (fun _ => ?_)
        walk_at "wz"
        exact ⟨_, _, _, _, _, _, rfl, ((((sm.trans s10).trans (s11.trans s12)).trans s1214)).trans s15⟩
      · rintro σ H9 ⟨y5, y6, y7, y8, y9, y12, rfl, sm⟩
        walk_at "wz"
        have R9h := R8h.same sm
        have R9t := R8t.same sm
        obtain ⟨⟨dxh, vh, hah, hvh⟩, _⟩ := id R9h
        obtain ⟨⟨dxt, vt, hat, hvt⟩, _⟩ := id R9t
        refine o_own (D_Row___add__ T) T.sf_Row (B.room.mono (by decide)) hah hat ?_
        refine ⟨h7, h8, P, ss.take c, ss.drop c, rfl, R9h, R9t, by rw [List.length_take, List.length_drop]; omega, fun r H10 s10 R10 => ⟨⟨r, rfl⟩, ?_⟩⟩
        walk_at "wz"
        have R10a := (R8.same sm).same s10
        obtain ⟨⟨dxr, vr, har, hvr⟩, _⟩ := id R10
        obtain ⟨⟨dxa, va, haa, hva⟩, _⟩ := id R10a
        refine o_eqOwn (D_Row___eq__ T) (B.room.mono (by decide)) har haa ?_
        refine ⟨r, a, P, P, _, ss, rfl, R10, R10a, ⟨_, rfl⟩, ?_⟩
        rw [List.take_append_drop, decide_eq_true rfl, decide_eq_true rfl]
        refine q _ (c8.trans (Ch.of (sm.trans s10))) ?_
        obtain ⟨x, y, z, e⟩ := d8
        exact ⟨x, y, z, (sm.trans s10) _ _ e⟩
theorem len__law_right {K : PySem.W.Frag} {C_Row : Addr} : ∀ vs H Q E, sp__law_right K C_Row vs H Q E → vs.length = 1 := by
  intro vs H Q E h
  obtain ⟨_, e, _⟩ := h
  rw [e]; rfl
theorem D__law_right {P : Program} {w : World} {K : PySem.W.Frag} {mg : Str → Option Value} {base : Heap} {C_Row : Addr} (T : Tx K mg C_Row) : Df P w K mg base "_law_right" 11 ["dice"] (sp__law_right K C_Row) :=
  df_of T.d__law_right sc__law_right (fun _ _ _ _ _ _ us hl => match us, hl with | [_], _ => rfl) len__law_right (fun X e1 e2 e3 e4 e5 B F G vs H Q E h => by subst e1 e2 e3 e4 e5; exact b__law_right B F G T h)
local macro_rules | `(tactic| walk_at "cl") => `(tactic| (refine' e_call (D__law_right ‹Tx _ _ _›) (by assumption) ?rm ?gl ?_; (case rm => exact ‹Bd _ _ _ _›.room.mono (by decide)); (case gl => with_reducible assumption)))

theorem e_row1 {X : Cx} {C_Row : Addr} (T : Tx X.K X.mg C_Row) {σ : L2.St} {H : Hp} {Q : VK} {e1 : Expr} {pos p : Pos} (hr : Room 8 X.A) (hg : Gl X "Row")
    (h : wE X e1 σ H fun x H2 => ∃ P, x = .int P ∧ 1 ≤ P ∧ P ≤ 12 ∧ ∀ a H', H2 a = none → Same H2 H' → RowAt X.K H' C_Row a P [] → Q (.ref a) H')
    (n1 : starEach [e1] X.env = (false, eval e1 X.env) :: starEach [] X.env := by rfl)
    (n3 : (backTo pos (starEach [] X.env)).any (·.1) = false := by rfl) : wE X (.Call (.Name "Row" p) [e1] [] pos) σ H Q := by
  obtain ⟨t0, ht, F⟩ := (D_Row___init__ (P := X.prog) (w := X.w) (base := X.base) T).2
  refine e_make F hr hg ?_ (by decide) n1 n3
  refine a_cons (wE_mono h ?_) n1
  rintro x H2 ⟨P, rfl, h1, h2, q⟩
  refine a_nil ?_
  intro a dx ha hdx hne
  have s1 : Same H2 (upd H2 dx (.own a)) := (Same.refl H2).new hdx
  have f1 : upd H2 dx (.own a) a = none := by rw [upd_ne (Ne.symm hne)]; exact ha
  have s2 : Same H2 (upd (upd H2 dx (.own a)) a (.ins C_Row dx [])) := s1.new f1
  refine ⟨a, dx, P, .ref t0, [], rfl, upd_same, h1, h2, .tup (same_tup (fun b o e => by cases e) ht) .nil, by decide, fun s hs => by simp at hs, fun H' c r => ⟨rfl, q a H' ha (s2.ch ha c) r⟩⟩
def sp_law0 (K : PySem.W.Frag) : Sp := fun vs H Q _ => ∃ a, vs = [.ref a] ∧ ∃ ns : List Int, SqL K H a (ns.map V.int) ∧ ns.length ≤ 63 ∧ ∀ H', Q (.bl true) H'
def sp_law (K : PySem.W.Frag) (C_Row : Addr) : Sp := sp_law0 K
theorem b_law {X : Cx} {C_Row : Addr} (B : Bd X N_law (defScope S_law) 11) (F : ∀ x, X.fn x = true) (G : X.A.guards = some []) (T : Tx X.K X.mg C_Row) {vs : List V} {H : Hp} {Q : VK} {E : XK} (h : sp_law X.K C_Row vs H Q E) :
    wB X (defBody S_law) { nx := fun _ H' => Q .non H', rt := Q } (start N_law vs) H := by
  have n_script : X.N[0]? = some ("script" : Str) := B.slot 0 rfl
  have l_script : X.env.scope.names.lookup ("script" : Str) = some NameKind.local := B.loc rfl
  have n_spot : X.N[1]? = some ("spot" : Str) := B.slot 1 rfl
  have l_spot : X.env.scope.names.lookup ("spot" : Str) = some NameKind.local := B.loc rfl
  have n_dice : X.N[2]? = some ("dice" : Str) := B.slot 2 rfl
  have l_dice : X.env.scope.names.lookup ("dice" : Str) = some NameKind.local := B.loc rfl
  have n_turn : X.N[3]? = some ("turn" : Str) := B.slot 3 rfl
  have l_turn : X.env.scope.names.lookup ("turn" : Str) = some NameKind.local := B.loc rfl
  have n_trio : X.N[4]? = some ("trio" : Str) := B.slot 4 rfl
  have l_trio : X.env.scope.names.lookup ("trio" : Str) = some NameKind.local := B.loc rfl
  have g_range : Gl X "range" := B.gl rfl
  have z_range := T.z_range
  have v_range := bb_range
  have g_max : Gl X "max" := B.gl rfl
  have z_max := T.z_max
  have v_max := bb_max
  have g_min : Gl X "min" := B.gl rfl
  have z_min := T.z_min
  have v_min := bb_min
  have g_len : Gl X "len" := B.gl rfl
  have z_len := T.z_len
  have v_len := bb_len
  have g__law_dice : Gl X "_law_dice" := B.gl rfl
  have g__law_right : Gl X "_law_right" := B.gl rfl
  have g_Row : Gl X "Row" := B.gl rfl
  obtain ⟨a, rfl, ns, hs, hn, q⟩ := h
  walk_at "wz"
  refine s_forR1 1 B.ps B.calm g_range z_range B.nd n_spot (Or.inl l_spot) ?_ (hf := .inr l_spot)
  walk_at "wz"
  refine c_lenL hs ?_
  walk_at "wz"
  rw [List.length_map]
  refine ⟨(max 1 (min 5 ns.length)), ?_, by omega, fun k σ H1 => ∃ y1 y2 y3 y4, σ = [some (.ref a), y1, y2, y3, y4] ∧ Same H H1, ?_, ?_, ?_⟩
  · congr 1
    split <;> split <;> omega
  · exact ⟨_, _, _, _, rfl, Same.refl H⟩
  · rintro k σ H1 hk ⟨y1, y2, y3, y4, rfl, sm⟩
    walk_at "wz"
    refine ⟨a, (k : Int), rfl, ⟨ns, sm.seq hs⟩, rfl, by omega, fun p x y hp => ?_⟩
    walk_at "wz"
    have p0 : H p = none := sm.free hp
    refine s_forR1 3 B.ps B.calm g_range z_range B.nd n_turn (Or.inl l_turn) ?_ (hf := .inr l_turn)
    walk_at "wz"
    refine ⟨by decide, fun k2 σ H2 => ∃ y3 y4, σ = [some (.ref a), some (.int (k : Int)), some (.ref p), y3, y4] ∧ Same H H2 ∧ Dice H2 p, ?_, ?_, ?_⟩
    · exact ⟨_, _, rfl, sm.new hp, x, y, 0, upd_same⟩
    · rintro k2 σ H2 hk2 ⟨y3, y4, rfl, sm2, d2⟩
      walk_at "wz"
      refine ⟨p, rfl, d2, fun H3 c3 d3 => ?_⟩
      walk_at "wz"
      exact ⟨_, _, rfl, sm2.ch p0 c3, d3⟩
    · rintro σ H2 ⟨y3, y4, rfl, sm2, d2⟩
      exact ⟨_, _, _, _, rfl, sm2⟩
  · rintro σ H1 ⟨y1, y2, y3, y4, rfl, sm⟩
    walk_at "st"
    walk_at "st"
    walk_at "rw"
    walk_at "wz"
    refine ⟨by show 3 ≤ sizeLine; decide, fun t1 ht1 => ?_⟩
    walk_at "wz"
    refine ⟨by show 3 ≤ sizeLine; decide, fun t2 ht2 => ?_⟩
    walk_at "wz"
    refine ⟨by show 2 ≤ sizeLine; decide, fun t3 ht3 => ?_⟩
    have g1 : upd (upd (upd H1 t1 (.tup [.int 0, .int 1, .str "a"])) t2 (.tup [.int 1, .int 2, .str "b"])) t3 (.tup [.ref t1, .ref t2]) t1 = some (.tup [.int 0, .int 1, .str "a"]) := upd_keep ht3 (upd_keep ht2 upd_same)
    have g2 : upd (upd (upd H1 t1 (.tup [.int 0, .int 1, .str "a"])) t2 (.tup [.int 1, .int 2, .str "b"])) t3 (.tup [.ref t1, .ref t2]) t2 = some (.tup [.int 1, .int 2, .str "b"]) := upd_keep ht3 upd_same
    refine ⟨3, [(0, 1, "a"), (1, 2, "b")], rfl, by decide, by decide, ?_, by decide, ?_, fun tr H4 ht4 s4 R4 => ?_⟩
    · exact .tup (SqT.of upd_same) (.cons (.tup (SqT.of g1) (.cons (.int _) (.cons (.int _) (.cons (.str _) .nil)))) (.cons (.tup (SqT.of g2) (.cons (.int _) (.cons (.int _) (.cons (.str _) .nil)))) .nil))
    · intro s hs
      simp only [List.mem_cons, List.not_mem_nil, or_false] at hs
      rcases hs with rfl | rfl
      · exact ⟨⟨by decide, by decide, by decide⟩, by unfold okO; decide +kernel⟩
      · exact ⟨⟨by decide, by decide, by decide⟩, by unfold okO; decide +kernel⟩
    obtain ⟨⟨dx, v, ha, hv⟩, _⟩ := id R4
    walk_at "wz"
    refine e_meth (D_Row_path T) T.cl_Row (B.room.mono (by decide)) ?_
    walk_at "wz"
    refine ⟨tr, dx, _, rfl, ha, rfl, ?_⟩
    walk_at "wz"
    refine ⟨tr, 0, 3, _, rfl, R4, by decide, by decide, fun r5 H5 s5 hr5 => ?_⟩
    walk_at "wz"
    refine e_meth (D_Row_thing_at T) T.cl_Row (B.room.mono (by decide)) ?_
    walk_at "wz"
    refine ⟨tr, dx, _, rfl, s5 _ _ ha, rfl, ?_⟩
    walk_at "wz"
    refine ⟨tr, 0, 3, 1, _, rfl, R4.same s5, by decide, by decide, by decide, fun H6 s6 => ?_⟩
    walk_at "wz"
    refine e_meth (D_Row_thing_at T) T.cl_Row (B.room.mono (by decide)) ?_
    walk_at "wz"
    refine ⟨tr, dx, _, rfl, (s5.trans s6) _ _ ha, rfl, ?_⟩
    walk_at "wz"
    refine ⟨tr, 1, 3, 2, _, rfl, R4.same (s5.trans s6), by decide, by decide, by decide, fun H7 s7 => ?_⟩
    walk_at "wz"
    refine e_meth (D_Row_path T) T.cl_Row (B.room.mono (by decide)) ?_
    refine e_row1 T (B.room.mono (by decide)) g_Row ?_
    walk_at "wz"
    refine ⟨by decide, by decide, fun u H8 hu s8 R8 => ?_⟩
    obtain ⟨⟨dy, w, hb, hw⟩, _⟩ := id R8
    refine ⟨u, dy, _, rfl, hb, rfl, ?_⟩
    walk_at "wz"
    refine ⟨u, 0, 1, _, rfl, R8, by decide, by decide, fun r9 H9 s9 hr9 => ?_⟩
    walk_at "wz"
    refine ⟨by show 4 ≤ sizeLine; decide, fun l1 hl1 => ?_⟩
    walk_at "wz"
    refine ⟨by show 3 ≤ sizeLine; decide, fun t5 ht5 => ?_⟩
    walk_at "wz"
    refine ⟨by show 1 ≤ sizeLine; decide, fun t6 ht6 => ?_⟩
    walk_at "wz"
    refine ⟨by show 4 ≤ sizeLine; decide, fun l2 hl2 => ?_⟩
    have s59 : Same H5 H9 := ((s6.trans s7).trans s8).trans s9
    have sAll : ∀ (b : Addr) (o : HO), H9 b = some o → _ := fun b o e => upd_keep (o := .lst [.ref t5, .int 1, .int 2, .ref t6]) hl2 (upd_keep (o := .tup [.int 0]) ht6 (upd_keep (o := .tup [.int 0, .int 1, .int 2]) ht5 (upd_keep (o := .lst [.ref r5, .int 1, .int 2, .ref r9]) hl1 e)))
    refine o_eqD B.room.units (d := .list [.tuple [.int 0, .int 1, .int 2], .int 1, .int 2, .tuple [.int 0]]) (e := .list [.tuple [.int 0, .int 1, .int 2], .int 1, .int 2, .tuple [.int 0]])
      (.lst (SqL.of (upd_keep hl2 (upd_keep ht6 (upd_keep ht5 upd_same)))) (.cons (.tup (same_tup (H := H9) sAll (same_tup s59 hr5)) (.cons (.int _) (.cons (.int _) (.cons (.int _) .nil)))) (.cons (.int _) (.cons (.int _) (.cons (.tup (same_tup (H := H9) sAll hr9) (.cons (.int _) .nil)) .nil)))))
      (.lst (SqL.of upd_same) (.cons (.tup (SqT.of (upd_keep hl2 (upd_keep ht6 upd_same))) (.cons (.int _) (.cons (.int _) (.cons (.int _) .nil)))) (.cons (.int _) (.cons (.int _) (.cons (.tup (SqT.of (upd_keep hl2 upd_same)) (.cons (.int _) .nil)) .nil)))))
      (by decide +kernel) (by decide +kernel) ?_
    rw [show PyData.eqv (.list [.tuple [.int 0, .int 1, .int 2], .int 1, .int 2, .tuple [.int 0]]) (.list [.tuple [.int 0, .int 1, .int 2], .int 1, .int 2, .tuple [.int 0]]) = true by decide +kernel]
    exact q _

theorem len_law {K : PySem.W.Frag} : ∀ vs H Q E, sp_law0 K vs H Q E → vs.length = 1 := by
  intro vs H Q E h
  obtain ⟨_, e, _⟩ := h
  rw [e]; rfl
theorem all_mk {l : PySem.W.OpenLaw} {w : World} {K : PySem.W.Frag} {h : Heap} {mg : Str → Option Value} {fa : Addr} (X : K.In h) (G : h.Ns mainGlobals mg) (hfa : mg "law" = some (.ref fa))
    {C_Row : Addr}
    (z_abs : PySem.W.nsIn K mainGlobals "abs" = some none)
    (z_all : PySem.W.nsIn K mainGlobals "all" = some none)
    (z_bool : PySem.W.nsIn K mainGlobals "bool" = some none)
    (z_enumerate : PySem.W.nsIn K mainGlobals "enumerate" = some none)
    (z_int : PySem.W.nsIn K mainGlobals "int" = some none)
    (z_isinstance : PySem.W.nsIn K mainGlobals "isinstance" = some none)
    (z_len : PySem.W.nsIn K mainGlobals "len" = some none)
    (z_list : PySem.W.nsIn K mainGlobals "list" = some none)
    (z_max : PySem.W.nsIn K mainGlobals "max" = some none)
    (z_min : PySem.W.nsIn K mainGlobals "min" = some none)
    (z_range : PySem.W.nsIn K mainGlobals "range" = some none)
    (z_str : PySem.W.nsIn K mainGlobals "str" = some none)
    (z_tuple : PySem.W.nsIn K mainGlobals "tuple" = some none)
    {t_MAX_PLACES : Tok} (c_MAX_PLACES : PySem.W.nsIn K mainGlobals "MAX_PLACES" = some (some (Value.int 12 t_MAX_PLACES)))
    {t_MAX_STEPS : Tok} (c_MAX_STEPS : PySem.W.nsIn K mainGlobals "MAX_STEPS" = some (some (Value.int 24 t_MAX_STEPS)))
    {t__TOO_LONG : Tok} (c__TOO_LONG : PySem.W.nsIn K mainGlobals "_TOO_LONG" = some (some (Value.int 100000000000000000000000000000000000000000000000000000000000000000000000000000000000000000000000000000000000000000000000000000000000000000000000000000000000000000000000000000000000000000000000000000000 t__TOO_LONG)))
    (k_Row : PySem.W.nsIn K mainGlobals "Row" = some (some (.ref C_Row))) (pg_Row : PySem.W.plainGet K C_Row Str.empty = true) (hd_Row : PySem.W.hasDictIn K C_Row = true) (po_Row : PySem.W.plainOver K C_Row = true) (sa_Row : PySem.W.findIn K (.ref C_Row) "__setattr__" = some (some (.builtin "object.__setattr__")))
    (na_Row__places : PySem.W.findIn K (.ref C_Row) "_places" = some none)
    (na_Row__steps : PySem.W.findIn K (.ref C_Row) "_steps" = some none)
    (ia_Row : PySem.W.findIn K (.ref C_Row) "__class__" = some (some (.builtin "object.__class__"))) (ib_Row : PySem.W.specialIn K (.builtin "object.__class__") "__get__" = some (some (.builtin "getset_descriptor.__get__"))) (id_Row : PySem.W.takesIn K (.builtin "object.__class__") = some true) (im_Row : PySem.W.mroIn K C_Row (.type "object") = some true)
    (sf_Row : PySem.W.selfFirst K C_Row = true)
    {f_is_integer : Addr} (a_is_integer : PySem.W.nsIn K mainGlobals "is_integer" = some (some (.ref f_is_integer)))
    {od_is_integer an_is_integer : Option Addr} {sl_is_integer : Array (Option Value)} {oc_is_integer kV_is_integer dc_is_integer pm_is_integer cd_is_integer ct_is_integer : Value} (l_is_integer : K.lookup f_is_integer = some ⟨oc_is_integer, od_is_integer, .func (PySem.W.fnOf "is_integer" "is_integer" (defArgs S_is_integer) (defBody S_is_integer) (defScope S_is_integer) .none kV_is_integer dc_is_integer pm_is_integer an_is_integer cd_is_integer ct_is_integer), sl_is_integer⟩) (i_is_integer : PySem.W.codeIn K cd_is_integer "is_integer" = true) (k_is_integer : PySem.W.keepIn K (.ref f_is_integer) = true)
    {f_is_owner : Addr} (a_is_owner : PySem.W.nsIn K mainGlobals "is_owner" = some (some (.ref f_is_owner)))
    {od_is_owner an_is_owner : Option Addr} {sl_is_owner : Array (Option Value)} {oc_is_owner kV_is_owner dc_is_owner pm_is_owner cd_is_owner ct_is_owner : Value} (l_is_owner : K.lookup f_is_owner = some ⟨oc_is_owner, od_is_owner, .func (PySem.W.fnOf "is_owner" "is_owner" (defArgs S_is_owner) (defBody S_is_owner) (defScope S_is_owner) .none kV_is_owner dc_is_owner pm_is_owner an_is_owner cd_is_owner ct_is_owner), sl_is_owner⟩) (i_is_owner : PySem.W.codeIn K cd_is_owner "is_owner" = true) (k_is_owner : PySem.W.keepIn K (.ref f_is_owner) = true)
    {f_is_below : Addr} (a_is_below : PySem.W.nsIn K mainGlobals "is_below" = some (some (.ref f_is_below)))
    {od_is_below an_is_below : Option Addr} {sl_is_below : Array (Option Value)} {oc_is_below kV_is_below dc_is_below pm_is_below cd_is_below ct_is_below : Value} (l_is_below : K.lookup f_is_below = some ⟨oc_is_below, od_is_below, .func (PySem.W.fnOf "is_below" "is_below" (defArgs S_is_below) (defBody S_is_below) (defScope S_is_below) .none kV_is_below dc_is_below pm_is_below an_is_below cd_is_below ct_is_below), sl_is_below⟩) (i_is_below : PySem.W.codeIn K cd_is_below "is_below" = true) (k_is_below : PySem.W.keepIn K (.ref f_is_below) = true)
    {f_check_number : Addr} (a_check_number : PySem.W.nsIn K mainGlobals "check_number" = some (some (.ref f_check_number)))
    {od_check_number an_check_number : Option Addr} {sl_check_number : Array (Option Value)} {oc_check_number kV_check_number dc_check_number pm_check_number cd_check_number ct_check_number : Value} (l_check_number : K.lookup f_check_number = some ⟨oc_check_number, od_check_number, .func (PySem.W.fnOf "check_number" "check_number" (defArgs S_check_number) (defBody S_check_number) (defScope S_check_number) .none kV_check_number dc_check_number pm_check_number an_check_number cd_check_number ct_check_number), sl_check_number⟩) (i_check_number : PySem.W.codeIn K cd_check_number "check_number" = true) (k_check_number : PySem.W.keepIn K (.ref f_check_number) = true)
    {f_check_places : Addr} (a_check_places : PySem.W.nsIn K mainGlobals "check_places" = some (some (.ref f_check_places)))
    {od_check_places an_check_places : Option Addr} {sl_check_places : Array (Option Value)} {oc_check_places kV_check_places dc_check_places pm_check_places cd_check_places ct_check_places : Value} (l_check_places : K.lookup f_check_places = some ⟨oc_check_places, od_check_places, .func (PySem.W.fnOf "check_places" "check_places" (defArgs S_check_places) (defBody S_check_places) (defScope S_check_places) .none kV_check_places dc_check_places pm_check_places an_check_places cd_check_places ct_check_places), sl_check_places⟩) (i_check_places : PySem.W.codeIn K cd_check_places "check_places" = true) (k_check_places : PySem.W.keepIn K (.ref f_check_places) = true)
    {f_is_exchange : Addr} (a_is_exchange : PySem.W.nsIn K mainGlobals "is_exchange" = some (some (.ref f_is_exchange)))
    {od_is_exchange an_is_exchange : Option Addr} {sl_is_exchange : Array (Option Value)} {oc_is_exchange kV_is_exchange dc_is_exchange pm_is_exchange cd_is_exchange ct_is_exchange : Value} (l_is_exchange : K.lookup f_is_exchange = some ⟨oc_is_exchange, od_is_exchange, .func (PySem.W.fnOf "is_exchange" "is_exchange" (defArgs S_is_exchange) (defBody S_is_exchange) (defScope S_is_exchange) .none kV_is_exchange dc_is_exchange pm_is_exchange an_is_exchange cd_is_exchange ct_is_exchange), sl_is_exchange⟩) (i_is_exchange : PySem.W.codeIn K cd_is_exchange "is_exchange" = true) (k_is_exchange : PySem.W.keepIn K (.ref f_is_exchange) = true)
    {f_is_step : Addr} (a_is_step : PySem.W.nsIn K mainGlobals "is_step" = some (some (.ref f_is_step)))
    {od_is_step an_is_step : Option Addr} {sl_is_step : Array (Option Value)} {oc_is_step kV_is_step dc_is_step pm_is_step cd_is_step ct_is_step : Value} (l_is_step : K.lookup f_is_step = some ⟨oc_is_step, od_is_step, .func (PySem.W.fnOf "is_step" "is_step" (defArgs S_is_step) (defBody S_is_step) (defScope S_is_step) .none kV_is_step dc_is_step pm_is_step an_is_step cd_is_step ct_is_step), sl_is_step⟩) (i_is_step : PySem.W.codeIn K cd_is_step "is_step" = true) (k_is_step : PySem.W.keepIn K (.ref f_is_step) = true)
    {f_place_behind : Addr} (a_place_behind : PySem.W.nsIn K mainGlobals "place_behind" = some (some (.ref f_place_behind)))
    {od_place_behind an_place_behind : Option Addr} {sl_place_behind : Array (Option Value)} {oc_place_behind kV_place_behind dc_place_behind pm_place_behind cd_place_behind ct_place_behind : Value} (l_place_behind : K.lookup f_place_behind = some ⟨oc_place_behind, od_place_behind, .func (PySem.W.fnOf "place_behind" "place_behind" (defArgs S_place_behind) (defBody S_place_behind) (defScope S_place_behind) .none kV_place_behind dc_place_behind pm_place_behind an_place_behind cd_place_behind ct_place_behind), sl_place_behind⟩) (i_place_behind : PySem.W.codeIn K cd_place_behind "place_behind" = true) (k_place_behind : PySem.W.keepIn K (.ref f_place_behind) = true)
    {f__are_steps : Addr} (a__are_steps : PySem.W.nsIn K mainGlobals "_are_steps" = some (some (.ref f__are_steps)))
    {od__are_steps an__are_steps : Option Addr} {sl__are_steps : Array (Option Value)} {oc__are_steps kV__are_steps dc__are_steps pm__are_steps cd__are_steps ct__are_steps : Value} (l__are_steps : K.lookup f__are_steps = some ⟨oc__are_steps, od__are_steps, .func (PySem.W.fnOf "_are_steps" "_are_steps" (defArgs S__are_steps) (defBody S__are_steps) (defScope S__are_steps) .none kV__are_steps dc__are_steps pm__are_steps an__are_steps cd__are_steps ct__are_steps), sl__are_steps⟩) (i__are_steps : PySem.W.codeIn K cd__are_steps "_are_steps" = true) (k__are_steps : PySem.W.keepIn K (.ref f__are_steps) = true)
    {f__law_dice : Addr} (a__law_dice : PySem.W.nsIn K mainGlobals "_law_dice" = some (some (.ref f__law_dice)))
    {od__law_dice an__law_dice : Option Addr} {sl__law_dice : Array (Option Value)} {oc__law_dice kV__law_dice dc__law_dice pm__law_dice cd__law_dice ct__law_dice : Value} (l__law_dice : K.lookup f__law_dice = some ⟨oc__law_dice, od__law_dice, .func (PySem.W.fnOf "_law_dice" "_law_dice" (defArgs S__law_dice) (defBody S__law_dice) (defScope S__law_dice) .none kV__law_dice dc__law_dice pm__law_dice an__law_dice cd__law_dice ct__law_dice), sl__law_dice⟩) (i__law_dice : PySem.W.codeIn K cd__law_dice "_law_dice" = true) (k__law_dice : PySem.W.keepIn K (.ref f__law_dice) = true)
    {f__law_roll : Addr} (a__law_roll : PySem.W.nsIn K mainGlobals "_law_roll" = some (some (.ref f__law_roll)))
    {od__law_roll an__law_roll : Option Addr} {sl__law_roll : Array (Option Value)} {oc__law_roll kV__law_roll dc__law_roll pm__law_roll cd__law_roll ct__law_roll : Value} (l__law_roll : K.lookup f__law_roll = some ⟨oc__law_roll, od__law_roll, .func (PySem.W.fnOf "_law_roll" "_law_roll" (defArgs S__law_roll) (defBody S__law_roll) (defScope S__law_roll) .none kV__law_roll dc__law_roll pm__law_roll an__law_roll cd__law_roll ct__law_roll), sl__law_roll⟩) (i__law_roll : PySem.W.codeIn K cd__law_roll "_law_roll" = true) (k__law_roll : PySem.W.keepIn K (.ref f__law_roll) = true)
    {f__law_pick : Addr} (a__law_pick : PySem.W.nsIn K mainGlobals "_law_pick" = some (some (.ref f__law_pick)))
    {od__law_pick an__law_pick : Option Addr} {sl__law_pick : Array (Option Value)} {oc__law_pick kV__law_pick dc__law_pick pm__law_pick cd__law_pick ct__law_pick : Value} (l__law_pick : K.lookup f__law_pick = some ⟨oc__law_pick, od__law_pick, .func (PySem.W.fnOf "_law_pick" "_law_pick" (defArgs S__law_pick) (defBody S__law_pick) (defScope S__law_pick) .none kV__law_pick dc__law_pick pm__law_pick an__law_pick cd__law_pick ct__law_pick), sl__law_pick⟩) (i__law_pick : PySem.W.codeIn K cd__law_pick "_law_pick" = true) (k__law_pick : PySem.W.keepIn K (.ref f__law_pick) = true)
    {f__law_exchange : Addr} (a__law_exchange : PySem.W.nsIn K mainGlobals "_law_exchange" = some (some (.ref f__law_exchange)))
    {od__law_exchange an__law_exchange : Option Addr} {sl__law_exchange : Array (Option Value)} {oc__law_exchange kV__law_exchange dc__law_exchange pm__law_exchange cd__law_exchange ct__law_exchange : Value} (l__law_exchange : K.lookup f__law_exchange = some ⟨oc__law_exchange, od__law_exchange, .func (PySem.W.fnOf "_law_exchange" "_law_exchange" (defArgs S__law_exchange) (defBody S__law_exchange) (defScope S__law_exchange) .none kV__law_exchange dc__law_exchange pm__law_exchange an__law_exchange cd__law_exchange ct__law_exchange), sl__law_exchange⟩) (i__law_exchange : PySem.W.codeIn K cd__law_exchange "_law_exchange" = true) (k__law_exchange : PySem.W.keepIn K (.ref f__law_exchange) = true)
    {f__law_drawn_steps : Addr} (a__law_drawn_steps : PySem.W.nsIn K mainGlobals "_law_drawn_steps" = some (some (.ref f__law_drawn_steps)))
    {od__law_drawn_steps an__law_drawn_steps : Option Addr} {sl__law_drawn_steps : Array (Option Value)} {oc__law_drawn_steps kV__law_drawn_steps dc__law_drawn_steps pm__law_drawn_steps cd__law_drawn_steps ct__law_drawn_steps : Value} (l__law_drawn_steps : K.lookup f__law_drawn_steps = some ⟨oc__law_drawn_steps, od__law_drawn_steps, .func (PySem.W.fnOf "_law_drawn_steps" "_law_drawn_steps" (defArgs S__law_drawn_steps) (defBody S__law_drawn_steps) (defScope S__law_drawn_steps) .none kV__law_drawn_steps dc__law_drawn_steps pm__law_drawn_steps an__law_drawn_steps cd__law_drawn_steps ct__law_drawn_steps), sl__law_drawn_steps⟩) (i__law_drawn_steps : PySem.W.codeIn K cd__law_drawn_steps "_law_drawn_steps" = true) (k__law_drawn_steps : PySem.W.keepIn K (.ref f__law_drawn_steps) = true)
    {f__law_small : Addr} (a__law_small : PySem.W.nsIn K mainGlobals "_law_small" = some (some (.ref f__law_small)))
    {od__law_small an__law_small : Option Addr} {sl__law_small : Array (Option Value)} {oc__law_small kV__law_small dc__law_small pm__law_small cd__law_small ct__law_small : Value} (l__law_small : K.lookup f__law_small = some ⟨oc__law_small, od__law_small, .func (PySem.W.fnOf "_law_small" "_law_small" (defArgs S__law_small) (defBody S__law_small) (defScope S__law_small) .none kV__law_small dc__law_small pm__law_small an__law_small cd__law_small ct__law_small), sl__law_small⟩) (i__law_small : PySem.W.codeIn K cd__law_small "_law_small" = true) (k__law_small : PySem.W.keepIn K (.ref f__law_small) = true)
    {f__law_great : Addr} (a__law_great : PySem.W.nsIn K mainGlobals "_law_great" = some (some (.ref f__law_great)))
    {od__law_great an__law_great : Option Addr} {sl__law_great : Array (Option Value)} {oc__law_great kV__law_great dc__law_great pm__law_great cd__law_great ct__law_great : Value} (l__law_great : K.lookup f__law_great = some ⟨oc__law_great, od__law_great, .func (PySem.W.fnOf "_law_great" "_law_great" (defArgs S__law_great) (defBody S__law_great) (defScope S__law_great) .none kV__law_great dc__law_great pm__law_great an__law_great cd__law_great ct__law_great), sl__law_great⟩) (i__law_great : PySem.W.codeIn K cd__law_great "_law_great" = true) (k__law_great : PySem.W.keepIn K (.ref f__law_great) = true)
    {f__law_made_row : Addr} (a__law_made_row : PySem.W.nsIn K mainGlobals "_law_made_row" = some (some (.ref f__law_made_row)))
    {od__law_made_row an__law_made_row : Option Addr} {sl__law_made_row : Array (Option Value)} {oc__law_made_row kV__law_made_row dc__law_made_row pm__law_made_row cd__law_made_row ct__law_made_row : Value} (l__law_made_row : K.lookup f__law_made_row = some ⟨oc__law_made_row, od__law_made_row, .func (PySem.W.fnOf "_law_made_row" "_law_made_row" (defArgs S__law_made_row) (defBody S__law_made_row) (defScope S__law_made_row) .none kV__law_made_row dc__law_made_row pm__law_made_row an__law_made_row cd__law_made_row ct__law_made_row), sl__law_made_row⟩) (i__law_made_row : PySem.W.codeIn K cd__law_made_row "_law_made_row" = true) (k__law_made_row : PySem.W.keepIn K (.ref f__law_made_row) = true)
    {f__law_row_here : Addr} (a__law_row_here : PySem.W.nsIn K mainGlobals "_law_row_here" = some (some (.ref f__law_row_here)))
    {od__law_row_here an__law_row_here : Option Addr} {sl__law_row_here : Array (Option Value)} {oc__law_row_here kV__law_row_here dc__law_row_here pm__law_row_here cd__law_row_here ct__law_row_here : Value} (l__law_row_here : K.lookup f__law_row_here = some ⟨oc__law_row_here, od__law_row_here, .func (PySem.W.fnOf "_law_row_here" "_law_row_here" (defArgs S__law_row_here) (defBody S__law_row_here) (defScope S__law_row_here) .none kV__law_row_here dc__law_row_here pm__law_row_here an__law_row_here cd__law_row_here ct__law_row_here), sl__law_row_here⟩) (i__law_row_here : PySem.W.codeIn K cd__law_row_here "_law_row_here" = true) (k__law_row_here : PySem.W.keepIn K (.ref f__law_row_here) = true)
    {f__law_lies : Addr} (a__law_lies : PySem.W.nsIn K mainGlobals "_law_lies" = some (some (.ref f__law_lies)))
    {od__law_lies an__law_lies : Option Addr} {sl__law_lies : Array (Option Value)} {oc__law_lies kV__law_lies dc__law_lies pm__law_lies cd__law_lies ct__law_lies : Value} (l__law_lies : K.lookup f__law_lies = some ⟨oc__law_lies, od__law_lies, .func (PySem.W.fnOf "_law_lies" "_law_lies" (defArgs S__law_lies) (defBody S__law_lies) (defScope S__law_lies) .none kV__law_lies dc__law_lies pm__law_lies an__law_lies cd__law_lies ct__law_lies), sl__law_lies⟩) (i__law_lies : PySem.W.codeIn K cd__law_lies "_law_lies" = true) (k__law_lies : PySem.W.keepIn K (.ref f__law_lies) = true)
    {f__law_right : Addr} (a__law_right : PySem.W.nsIn K mainGlobals "_law_right" = some (some (.ref f__law_right)))
    {od__law_right an__law_right : Option Addr} {sl__law_right : Array (Option Value)} {oc__law_right kV__law_right dc__law_right pm__law_right cd__law_right ct__law_right : Value} (l__law_right : K.lookup f__law_right = some ⟨oc__law_right, od__law_right, .func (PySem.W.fnOf "_law_right" "_law_right" (defArgs S__law_right) (defBody S__law_right) (defScope S__law_right) .none kV__law_right dc__law_right pm__law_right an__law_right cd__law_right ct__law_right), sl__law_right⟩) (i__law_right : PySem.W.codeIn K cd__law_right "_law_right" = true) (k__law_right : PySem.W.keepIn K (.ref f__law_right) = true)
    {f_law : Addr} (a_law : PySem.W.nsIn K mainGlobals "law" = some (some (.ref f_law)))
    {od_law an_law : Option Addr} {sl_law : Array (Option Value)} {oc_law kV_law dc_law pm_law cd_law ct_law : Value} (l_law : K.lookup f_law = some ⟨oc_law, od_law, .func (PySem.W.fnOf "law" "law" (defArgs S_law) (defBody S_law) (defScope S_law) .none kV_law dc_law pm_law an_law cd_law ct_law), sl_law⟩) (i_law : PySem.W.codeIn K cd_law "law" = true) (k_law : PySem.W.keepIn K (.ref f_law) = true)
    {f_Row___init__ t0_Row___init__ tt_Row___init__ : Addr} {dd_Row___init__ dt_Row___init__ : Option Addr} {ct_Row___init__2 : Value} {sl0_Row___init__ slt_Row___init__ : Array (Option Value)} {n0_Row___init__ nt_Row___init__ : Nat} (a_Row___init__ : PySem.W.findIn K (.ref C_Row) "__init__" = some (some (.ref f_Row___init__))) (y_Row___init__ : PySem.W.isFn K (.ref f_Row___init__) = true) (mk_Row___init__ : PySem.W.makesIn K C_Row = true) (kc_Row___init__ : PySem.W.keepIn K (.ref C_Row) = true)
    {od_Row___init__ an_Row___init__ : Option Addr} {sl_Row___init__ : Array (Option Value)} {oc_Row___init__ kV_Row___init__ dc_Row___init__ pm_Row___init__ cd_Row___init__ ct_Row___init__ : Value} (l_Row___init__ : K.lookup f_Row___init__ = some ⟨oc_Row___init__, od_Row___init__, .func (PySem.W.fnOf "__init__" "Row.__init__" (defArgs S_Row___init__) (defBody S_Row___init__) (defScope S_Row___init__) (.ref tt_Row___init__) kV_Row___init__ dc_Row___init__ pm_Row___init__ an_Row___init__ cd_Row___init__ ct_Row___init__), sl_Row___init__⟩) (i_Row___init__ : PySem.W.codeIn K cd_Row___init__ "Row.__init__" = true) (k_Row___init__ : PySem.W.keepIn K (.ref f_Row___init__) = true)
    (u_Row___init__ : K.lookup tt_Row___init__ = some ⟨ct_Row___init__2, dt_Row___init__, .seq #[.ref t0_Row___init__] nt_Row___init__, slt_Row___init__⟩) (t_Row___init__ : K.lookup t0_Row___init__ = some ⟨.type "tuple", dd_Row___init__, .seq #[] n0_Row___init__, sl0_Row___init__⟩)
    {f_Row_deed p_Row_deed : Addr} {rest_Row_deed : List Value} (a_Row_deed : PySem.W.findIn K (.ref C_Row) "deed" = some (some (.ref p_Row_deed))) (gg_Row_deed : PySem.W.specialIn K (.ref p_Row_deed) "__get__" = some (some (.builtin "property.__get__"))) (tk_Row_deed : PySem.W.takesIn K (.ref p_Row_deed) = some true) (rc_Row_deed : PySem.W.recIn K p_Row_deed "property" = some (.ref f_Row_deed :: rest_Row_deed))
    {od_Row_deed an_Row_deed : Option Addr} {sl_Row_deed : Array (Option Value)} {oc_Row_deed kV_Row_deed dc_Row_deed pm_Row_deed cd_Row_deed ct_Row_deed : Value} (l_Row_deed : K.lookup f_Row_deed = some ⟨oc_Row_deed, od_Row_deed, .func (PySem.W.fnOf "deed" "Row.deed" (defArgs S_Row_deed) (defBody S_Row_deed) (defScope S_Row_deed) .none kV_Row_deed dc_Row_deed pm_Row_deed an_Row_deed cd_Row_deed ct_Row_deed), sl_Row_deed⟩) (i_Row_deed : PySem.W.codeIn K cd_Row_deed "Row.deed" = true) (k_Row_deed : PySem.W.keepIn K (.ref f_Row_deed) = true)
    {f_Row_path : Addr} (a_Row_path : PySem.W.findIn K (.ref C_Row) "path" = some (some (.ref f_Row_path))) (y_Row_path : PySem.W.isFn K (.ref f_Row_path) = true)
    {od_Row_path an_Row_path : Option Addr} {sl_Row_path : Array (Option Value)} {oc_Row_path kV_Row_path dc_Row_path pm_Row_path cd_Row_path ct_Row_path : Value} (l_Row_path : K.lookup f_Row_path = some ⟨oc_Row_path, od_Row_path, .func (PySem.W.fnOf "path" "Row.path" (defArgs S_Row_path) (defBody S_Row_path) (defScope S_Row_path) .none kV_Row_path dc_Row_path pm_Row_path an_Row_path cd_Row_path ct_Row_path), sl_Row_path⟩) (i_Row_path : PySem.W.codeIn K cd_Row_path "Row.path" = true) (k_Row_path : PySem.W.keepIn K (.ref f_Row_path) = true)
    {f_Row_thing_at : Addr} (a_Row_thing_at : PySem.W.findIn K (.ref C_Row) "thing_at" = some (some (.ref f_Row_thing_at))) (y_Row_thing_at : PySem.W.isFn K (.ref f_Row_thing_at) = true)
    {od_Row_thing_at an_Row_thing_at : Option Addr} {sl_Row_thing_at : Array (Option Value)} {oc_Row_thing_at kV_Row_thing_at dc_Row_thing_at pm_Row_thing_at cd_Row_thing_at ct_Row_thing_at : Value} (l_Row_thing_at : K.lookup f_Row_thing_at = some ⟨oc_Row_thing_at, od_Row_thing_at, .func (PySem.W.fnOf "thing_at" "Row.thing_at" (defArgs S_Row_thing_at) (defBody S_Row_thing_at) (defScope S_Row_thing_at) .none kV_Row_thing_at dc_Row_thing_at pm_Row_thing_at an_Row_thing_at cd_Row_thing_at ct_Row_thing_at), sl_Row_thing_at⟩) (i_Row_thing_at : PySem.W.codeIn K cd_Row_thing_at "Row.thing_at" = true) (k_Row_thing_at : PySem.W.keepIn K (.ref f_Row_thing_at) = true)
    {f_Row_part : Addr} (a_Row_part : PySem.W.findIn K (.ref C_Row) "part" = some (some (.ref f_Row_part))) (y_Row_part : PySem.W.isFn K (.ref f_Row_part) = true)
    {od_Row_part an_Row_part : Option Addr} {sl_Row_part : Array (Option Value)} {oc_Row_part kV_Row_part dc_Row_part pm_Row_part cd_Row_part ct_Row_part : Value} (l_Row_part : K.lookup f_Row_part = some ⟨oc_Row_part, od_Row_part, .func (PySem.W.fnOf "part" "Row.part" (defArgs S_Row_part) (defBody S_Row_part) (defScope S_Row_part) .none kV_Row_part dc_Row_part pm_Row_part an_Row_part cd_Row_part ct_Row_part), sl_Row_part⟩) (i_Row_part : PySem.W.codeIn K cd_Row_part "Row.part" = true) (k_Row_part : PySem.W.keepIn K (.ref f_Row_part) = true)
    {f_Row___add__ : Addr} (a_Row___add__ : PySem.W.findIn K (.ref C_Row) "__add__" = some (some (.ref f_Row___add__))) (y_Row___add__ : PySem.W.isFn K (.ref f_Row___add__) = true)
    {od_Row___add__ an_Row___add__ : Option Addr} {sl_Row___add__ : Array (Option Value)} {oc_Row___add__ kV_Row___add__ dc_Row___add__ pm_Row___add__ cd_Row___add__ ct_Row___add__ : Value} (l_Row___add__ : K.lookup f_Row___add__ = some ⟨oc_Row___add__, od_Row___add__, .func (PySem.W.fnOf "__add__" "Row.__add__" (defArgs S_Row___add__) (defBody S_Row___add__) (defScope S_Row___add__) .none kV_Row___add__ dc_Row___add__ pm_Row___add__ an_Row___add__ cd_Row___add__ ct_Row___add__), sl_Row___add__⟩) (i_Row___add__ : PySem.W.codeIn K cd_Row___add__ "Row.__add__" = true) (k_Row___add__ : PySem.W.keepIn K (.ref f_Row___add__) = true)
    {f_Row___eq__ : Addr} (a_Row___eq__ : PySem.W.findIn K (.ref C_Row) "__eq__" = some (some (.ref f_Row___eq__))) (y_Row___eq__ : PySem.W.isFn K (.ref f_Row___eq__) = true)
    {od_Row___eq__ an_Row___eq__ : Option Addr} {sl_Row___eq__ : Array (Option Value)} {oc_Row___eq__ kV_Row___eq__ dc_Row___eq__ pm_Row___eq__ cd_Row___eq__ ct_Row___eq__ : Value} (l_Row___eq__ : K.lookup f_Row___eq__ = some ⟨oc_Row___eq__, od_Row___eq__, .func (PySem.W.fnOf "__eq__" "Row.__eq__" (defArgs S_Row___eq__) (defBody S_Row___eq__) (defScope S_Row___eq__) .none kV_Row___eq__ dc_Row___eq__ pm_Row___eq__ an_Row___eq__ cd_Row___eq__ ct_Row___eq__), sl_Row___eq__⟩) (i_Row___eq__ : PySem.W.codeIn K cd_Row___eq__ "Row.__eq__" = true) (k_Row___eq__ : PySem.W.keepIn K (.ref f_Row___eq__) = true) :
    ∃ fd : FuncData, (∀ (s : Shared) (v : Value), BindsTo s fd ⟨[v], []⟩ [("script", v)]) ∧ ∀ base : Heap, K.In base → base.Ns mainGlobals mg → FnG l.prog w K mg base CX0 12 fa fd ["script"] (sp_law0 K) := by
  have e := hfa.symm.trans (PySem.W.mg_of X G a_law)
  cases e
  have T : Tx K mg C_Row := ⟨PySem.W.mg_none_of X G z_abs, PySem.W.mg_none_of X G z_all, PySem.W.mg_none_of X G z_bool, PySem.W.mg_none_of X G z_enumerate, PySem.W.mg_none_of X G z_int, PySem.W.mg_none_of X G z_isinstance, PySem.W.mg_none_of X G z_len, PySem.W.mg_none_of X G z_list, PySem.W.mg_none_of X G z_max, PySem.W.mg_none_of X G z_min, PySem.W.mg_none_of X G z_range, PySem.W.mg_none_of X G z_str, PySem.W.mg_none_of X G z_tuple, ⟨_, PySem.W.mg_of X G c_MAX_PLACES⟩, ⟨_, PySem.W.mg_of X G c_MAX_STEPS⟩, ⟨_, PySem.W.mg_of X G c__TOO_LONG⟩, PySem.W.mg_of X G k_Row, ⟨pg_Row, hd_Row, po_Row, sa_Row⟩, na_Row__places, na_Row__steps, ⟨ia_Row, ib_Row, id_Row, im_Row⟩, sf_Row, ⟨_, _, fun_mk (st := S_is_integer) l_is_integer i_is_integer k_is_integer, PySem.W.mg_of X G a_is_integer⟩, ⟨_, _, fun_mk (st := S_is_owner) l_is_owner i_is_owner k_is_owner, PySem.W.mg_of X G a_is_owner⟩, ⟨_, _, fun_mk (st := S_is_below) l_is_below i_is_below k_is_below, PySem.W.mg_of X G a_is_below⟩, ⟨_, _, fun_mk (st := S_check_number) l_check_number i_check_number k_check_number, PySem.W.mg_of X G a_check_number⟩, ⟨_, _, fun_mk (st := S_check_places) l_check_places i_check_places k_check_places, PySem.W.mg_of X G a_check_places⟩, ⟨_, _, fun_mk (st := S_is_exchange) l_is_exchange i_is_exchange k_is_exchange, PySem.W.mg_of X G a_is_exchange⟩, ⟨_, _, fun_mk (st := S_is_step) l_is_step i_is_step k_is_step, PySem.W.mg_of X G a_is_step⟩, ⟨_, _, fun_mk (st := S_place_behind) l_place_behind i_place_behind k_place_behind, PySem.W.mg_of X G a_place_behind⟩, ⟨_, _, fun_mk (st := S__are_steps) l__are_steps i__are_steps k__are_steps, PySem.W.mg_of X G a__are_steps⟩, ⟨_, _, fun_mk (st := S__law_dice) l__law_dice i__law_dice k__law_dice, PySem.W.mg_of X G a__law_dice⟩, ⟨_, _, fun_mk (st := S__law_roll) l__law_roll i__law_roll k__law_roll, PySem.W.mg_of X G a__law_roll⟩, ⟨_, _, fun_mk (st := S__law_pick) l__law_pick i__law_pick k__law_pick, PySem.W.mg_of X G a__law_pick⟩, ⟨_, _, fun_mk (st := S__law_exchange) l__law_exchange i__law_exchange k__law_exchange, PySem.W.mg_of X G a__law_exchange⟩, ⟨_, _, fun_mk (st := S__law_drawn_steps) l__law_drawn_steps i__law_drawn_steps k__law_drawn_steps, PySem.W.mg_of X G a__law_drawn_steps⟩, ⟨_, _, fun_mk (st := S__law_small) l__law_small i__law_small k__law_small, PySem.W.mg_of X G a__law_small⟩, ⟨_, _, fun_mk (st := S__law_great) l__law_great i__law_great k__law_great, PySem.W.mg_of X G a__law_great⟩, ⟨_, _, fun_mk (st := S__law_made_row) l__law_made_row i__law_made_row k__law_made_row, PySem.W.mg_of X G a__law_made_row⟩, ⟨_, _, fun_mk (st := S__law_row_here) l__law_row_here i__law_row_here k__law_row_here, PySem.W.mg_of X G a__law_row_here⟩, ⟨_, _, fun_mk (st := S__law_lies) l__law_lies i__law_lies k__law_lies, PySem.W.mg_of X G a__law_lies⟩, ⟨_, _, fun_mk (st := S__law_right) l__law_right i__law_right k__law_right, PySem.W.mg_of X G a__law_right⟩, ⟨_, _, t0_Row___init__, ⟨⟨_, _, _, _, _, _, _, _, _, _, rfl, l_Row___init__, i_Row___init__, Or.inr ⟨by simp, tt_Row___init__, _, [.ref t0_Row___init__], _, rfl, u_Row___init__, rfl, .cons (show RelV (.ref t0_Row___init__) (.ref t0_Row___init__) from rfl) .nil⟩, Or.inl rfl⟩, k_Row___init__⟩, ⟨mk_Row___init__, a_Row___init__, y_Row___init__, kc_Row___init__⟩, _, _, _, t_Row___init__⟩, ⟨_, _, _, fun_mk (st := S_Row_deed) l_Row_deed i_Row_deed k_Row_deed, a_Row_deed, gg_Row_deed, tk_Row_deed, _, rc_Row_deed⟩, ⟨_, _, fun_mk (st := S_Row_path) l_Row_path i_Row_path k_Row_path, a_Row_path, y_Row_path, k_Row_path⟩, ⟨_, _, fun_mk (st := S_Row_thing_at) l_Row_thing_at i_Row_thing_at k_Row_thing_at, a_Row_thing_at, y_Row_thing_at, k_Row_thing_at⟩, ⟨_, _, fun_mk (st := S_Row_part) l_Row_part i_Row_part k_Row_part, a_Row_part, y_Row_part, k_Row_part⟩, ⟨_, _, fun_mk (st := S_Row___add__) l_Row___add__ i_Row___add__ k_Row___add__, a_Row___add__, y_Row___add__, k_Row___add__⟩, ⟨_, _, fun_mk (st := S_Row___eq__) l_Row___eq__ i_Row___eq__ k_Row___eq__, a_Row___eq__, y_Row___eq__, k_Row___eq__⟩⟩
  exact ⟨PySem.W.fnOf "law" "law" (defArgs S_law) (defBody S_law) (defScope S_law) .none kV_law dc_law pm_law an_law cd_law ct_law, fun s v => .of_eq rfl, fun base _ _ => fnG_of (fun_mk (st := S_law) l_law i_law k_law) sc_law len_law (fun cd B l s H vs Q E hg hr h => wB_nox (b_law ⟨rfl, sc_law.nd, rfl, rfl, hr, PassesOwn.never⟩ (fun _ => rfl) hg T h))⟩

end K10
open PySem PySem.W PyProof.Rows
set_option maxRecDepth 100000 in
set_option maxHeartbeats 0 in
theorem PySem.Challenge.cw_renamedown_k10_whole_paths_of_things_holds : PySem.Challenge.rw_renamedown_k10_whole_paths_of_things.Holds := by
  w_on; o_law; k_head; (case hw => w_witness2)
  k_fill
  refine WX.walkG (l := PySem.Challenge.rw_renamedown_k10_whole_paths_of_things) (n := 63) (k := 12) (x := "script") (sp := fun K => K10.sp_law0 K) rfl (by decide) rfl ⟨rfl, by decide, by decide⟩ (fun w h Y => PySem.W.kIn_of Y) ?F (fun _ _ a ns hl hS => ⟨a, rfl, ns, hS, hl, fun _ => rfl⟩)
  case F =>
    intro w mg fa h KX G hmg
    refine' K10.all_mk KX G hmg ?z_abs ?z_all ?z_bool ?z_enumerate ?z_int ?z_isinstance ?z_len ?z_list ?z_max ?z_min ?z_range ?z_str ?z_tuple ?c_MAX_PLACES ?c_MAX_STEPS ?c__TOO_LONG ?k_Row ?pg_Row ?hd_Row ?po_Row ?sa_Row ?na_Row__places ?na_Row__steps ?ia_Row ?ib_Row ?id_Row ?im_Row ?sf_Row ?a_is_integer ?l_is_integer ?i_is_integer ?k_is_integer ?a_is_owner ?l_is_owner ?i_is_owner ?k_is_owner ?a_is_below ?l_is_below ?i_is_below ?k_is_below ?a_check_number ?l_check_number ?i_check_number ?k_check_number ?a_check_places ?l_check_places ?i_check_places ?k_check_places ?a_is_exchange ?l_is_exchange ?i_is_exchange ?k_is_exchange ?a_is_step ?l_is_step ?i_is_step ?k_is_step ?a_place_behind ?l_place_behind ?i_place_behind ?k_place_behind ?a__are_steps ?l__are_steps ?i__are_steps ?k__are_steps ?a__law_dice ?l__law_dice ?i__law_dice ?k__law_dice ?a__law_roll ?l__law_roll ?i__law_roll ?k__law_roll ?a__law_pick ?l__law_pick ?i__law_pick ?k__law_pick ?a__law_exchange ?l__law_exchange ?i__law_exchange ?k__law_exchange ?a__law_drawn_steps ?l__law_drawn_steps ?i__law_drawn_steps ?k__law_drawn_steps ?a__law_small ?l__law_small ?i__law_small ?k__law_small ?a__law_great ?l__law_great ?i__law_great ?k__law_great ?a__law_made_row ?l__law_made_row ?i__law_made_row ?k__law_made_row ?a__law_row_here ?l__law_row_here ?i__law_row_here ?k__law_row_here ?a__law_lies ?l__law_lies ?i__law_lies ?k__law_lies ?a__law_right ?l__law_right ?i__law_right ?k__law_right ?a_law ?l_law ?i_law ?k_law ?a_Row___init__ ?y_Row___init__ ?mk_Row___init__ ?kc_Row___init__ ?l_Row___init__ ?i_Row___init__ ?k_Row___init__ ?u_Row___init__ ?t_Row___init__ ?a_Row_deed ?gg_Row_deed ?tk_Row_deed ?rc_Row_deed ?l_Row_deed ?i_Row_deed ?k_Row_deed ?a_Row_path ?y_Row_path ?l_Row_path ?i_Row_path ?k_Row_path ?a_Row_thing_at ?y_Row_thing_at ?l_Row_thing_at ?i_Row_thing_at ?k_Row_thing_at ?a_Row_part ?y_Row_part ?l_Row_part ?i_Row_part ?k_Row_part ?a_Row___add__ ?y_Row___add__ ?l_Row___add__ ?i_Row___add__ ?k_Row___add__ ?a_Row___eq__ ?y_Row___eq__ ?l_Row___eq__ ?i_Row___eq__ ?k_Row___eq__
    (case z_abs => k_is); (case z_all => k_is); (case z_bool => k_is); (case z_enumerate => k_is); (case z_int => k_is); (case z_isinstance => k_is); (case z_len => k_is); (case z_list => k_is); (case z_max => k_is); (case z_min => k_is); (case z_range => k_is); (case z_str => k_is); (case z_tuple => k_is); (case c_MAX_PLACES => k_is); (case c_MAX_STEPS => k_is); (case c__TOO_LONG => k_is); (case k_Row => k_is); (case pg_Row => k_is); (case hd_Row => k_is); (case po_Row => k_is); (case sa_Row => k_is); (case na_Row__places => k_is); (case na_Row__steps => k_is); (case ia_Row => k_is); (case ib_Row => k_is); (case id_Row => k_is); (case im_Row => k_is); (case sf_Row => k_is); (case a_is_integer => k_is); (case l_is_integer => k_is); (case i_is_integer => k_is); (case k_is_integer => k_is); (case a_is_owner => k_is); (case l_is_owner => k_is); (case i_is_owner => k_is); (case k_is_owner => k_is); (case a_is_below => k_is); (case l_is_below => k_is); (case i_is_below => k_is); (case k_is_below => k_is); (case a_check_number => k_is); (case l_check_number => k_is); (case i_check_number => k_is); (case k_check_number => k_is); (case a_check_places => k_is); (case l_check_places => k_is); (case i_check_places => k_is); (case k_check_places => k_is); (case a_is_exchange => k_is); (case l_is_exchange => k_is); (case i_is_exchange => k_is); (case k_is_exchange => k_is); (case a_is_step => k_is); (case l_is_step => k_is); (case i_is_step => k_is); (case k_is_step => k_is); (case a_place_behind => k_is); (case l_place_behind => k_is); (case i_place_behind => k_is); (case k_place_behind => k_is); (case a__are_steps => k_is); (case l__are_steps => k_is); (case i__are_steps => k_is); (case k__are_steps => k_is); (case a__law_dice => k_is); (case l__law_dice => k_is); (case i__law_dice => k_is); (case k__law_dice => k_is); (case a__law_roll => k_is); (case l__law_roll => k_is); (case i__law_roll => k_is); (case k__law_roll => k_is); (case a__law_pick => k_is); (case l__law_pick => k_is); (case i__law_pick => k_is); (case k__law_pick => k_is); (case a__law_exchange => k_is); (case l__law_exchange => k_is); (case i__law_exchange => k_is); (case k__law_exchange => k_is); (case a__law_drawn_steps => k_is); (case l__law_drawn_steps => k_is); (case i__law_drawn_steps => k_is); (case k__law_drawn_steps => k_is); (case a__law_small => k_is); (case l__law_small => k_is); (case i__law_small => k_is); (case k__law_small => k_is); (case a__law_great => k_is); (case l__law_great => k_is); (case i__law_great => k_is); (case k__law_great => k_is); (case a__law_made_row => k_is); (case l__law_made_row => k_is); (case i__law_made_row => k_is); (case k__law_made_row => k_is); (case a__law_row_here => k_is); (case l__law_row_here => k_is); (case i__law_row_here => k_is); (case k__law_row_here => k_is); (case a__law_lies => k_is); (case l__law_lies => k_is); (case i__law_lies => k_is); (case k__law_lies => k_is); (case a__law_right => k_is); (case l__law_right => k_is); (case i__law_right => k_is); (case k__law_right => k_is); (case a_law => k_is); (case l_law => k_is); (case i_law => k_is); (case k_law => k_is); (case a_Row___init__ => k_is); (case y_Row___init__ => k_is); (case mk_Row___init__ => k_is); (case kc_Row___init__ => k_is); (case l_Row___init__ => k_is); (case i_Row___init__ => k_is); (case k_Row___init__ => k_is); (case u_Row___init__ => k_is); (case t_Row___init__ => k_is); (case a_Row_deed => k_is); (case gg_Row_deed => k_is); (case tk_Row_deed => k_is); (case rc_Row_deed => k_is); (case l_Row_deed => k_is); (case i_Row_deed => k_is); (case k_Row_deed => k_is); (case a_Row_path => k_is); (case y_Row_path => k_is); (case l_Row_path => k_is); (case i_Row_path => k_is); (case k_Row_path => k_is); (case a_Row_thing_at => k_is); (case y_Row_thing_at => k_is); (case l_Row_thing_at => k_is); (case i_Row_thing_at => k_is); (case k_Row_thing_at => k_is); (case a_Row_part => k_is); (case y_Row_part => k_is); (case l_Row_part => k_is); (case i_Row_part => k_is); (case k_Row_part => k_is); (case a_Row___add__ => k_is); (case y_Row___add__ => k_is); (case l_Row___add__ => k_is); (case i_Row___add__ => k_is); (case k_Row___add__ => k_is); (case a_Row___eq__ => k_is); (case y_Row___eq__ => k_is); (case l_Row___eq__ => k_is); (case i_Row___eq__ => k_is); (case k_Row___eq__ => k_is)
