import PyProof.Rows.All
import Wide.All
import OpenK.AllK
import Wide.FinOn
import HandS.ForMost
import HandS.IsInst
import HandS.Wide
import HandS.Flow
import HandS.Defaults
import HandS.Property
import HandS.TupAny
import HandS.Conv
import HandS.Style
import HandS.OwnEq
import HandS.Walk
import HandS.SortInts
import HandS.TupMul
import HandS.TupLe
import HandS.Gcd
import KE.KMathGC
import KE.KIndexWalk
import PySem.Challenge.RW_renamedown_k69_whole_codes_judged
set_option Elab.async false
set_option linter.all false
set_option maxRecDepth 100000
set_option maxHeartbeats 4000000
/-! WX: readings run forwards: each rule takes the syntax at hand and asks for what follows it. -/
namespace WX
open PySem PySem.Spec PyProof.Rows L2
section
variable {X : Cx} {σ : L2.St} {H : Hp} {Q : VK} {D : Ends} {pos : Pos}
/-! ### the readings as they are -/
structure wE (X : Cx) (e : Expr) (σ : L2.St) (H : Hp) (Q : VK) : Prop where
  run : ∀ (pins : List (Addr × Obj)) (s : Shared), Inv X pins σ H s → wpAny (model X.prog X.w) X.A (eval e X.env) (EP X pins σ Q) X.xe s
structure wT (X : Cx) (e : Expr) (σ : L2.St) (H : Hp) (Q : Bool → Hp → Prop) : Prop where
  run : ∀ (pins : List (Addr × Obj)) (s : Shared), Inv X pins σ H s → wpAny (model X.prog X.w) X.A (isTrue e X.env (eval e X.env)) (TP X pins σ Q) X.xe s
structure wW (X : Cx) (e : Expr) (σ : L2.St) (H : Hp) (Q : Bool → Hp → Prop) : Prop where
  run : ∀ (whole : Sem Value) (pins : List (Addr × Obj)) (s : Shared), Inv X pins σ H s → wpAny (model X.prog X.w) X.A (isTrue e X.env whole) (TP X pins σ Q) X.xe s
structure wA (X : Cx) (es : List Expr) (σ : L2.St) (H : Hp) (Q : List V → Hp → Prop) : Prop where
  run : ∀ (pos : Pos) (pins : List (Addr × Obj)) (s : Shared), Inv X pins σ H s → wpAny (model X.prog X.w) X.A (spliced (backTo pos (starEach es X.env))) (AP X pins σ Q) X.xe s
structure wS (X : Cx) (st : Stmt) (D : Ends) (σ : L2.St) (H : Hp) : Prop where
  run : ∀ (pins : List (Addr × Obj)) (s : Shared), Inv X pins σ H s → wpAny (model X.prog X.w) X.A (exec st X.env) (SP X pins D) X.xe s
structure wB (X : Cx) (st : List Stmt) (D : Ends) (σ : L2.St) (H : Hp) : Prop where
  run : ∀ (pins : List (Addr × Obj)) (s : Shared), Inv X pins σ H s → wpAny (model X.prog X.w) X.A (execs st X.env) (SP X pins D) X.xe s
structure wO (X : Cx) (f : Value → Value → Sem Value) (x y : V) (H : Hp) (Q : VK) : Prop where
  run : ∀ (pins : List (Addr × Obj)) (s : Shared) (σ : L2.St) (v u : Value), Inv X pins σ H s → RelV x v → RelV y u → wpAny (model X.prog X.w) X.A (f v u) (EP X pins σ Q) X.xe s
structure wU (X : Cx) (f : Value → Sem Value) (x : V) (H : Hp) (Q : VK) : Prop where
  run : ∀ (pins : List (Addr × Obj)) (s : Shared) (σ : L2.St) (v : Value), Inv X pins σ H s → RelV x v → wpAny (model X.prog X.w) X.A (f v) (EP X pins σ Q) X.xe s
structure wC (X : Cx) (f : Value) (xs : List V) (H : Hp) (Q : VK) : Prop where
  run : ∀ (pins : List (Addr × Obj)) (s : Shared) (σ : L2.St) (us : List Value), Inv X pins σ H s → Vals xs us → wpAny (model X.prog X.w) X.A (call f us) (EP X pins σ Q) X.xe s
structure wX (X : Cx) (x y : V) (H : Hp) (Q : VK) : Prop where
  run : ∀ (value slice : Expr) (pins : List (Addr × Obj)) (s : Shared) (σ : L2.St) (v u : Value), Inv X pins σ H s → RelV x v → RelV y u →
    subscripted slice false v u = operate [v, u] (getItem v u) → wpAny (model X.prog X.w) X.A (subscriptTail value slice v u) (EP X pins σ Q) X.xe s
structure wM (X : Cx) (id : String) (x : V) (xs : List V) (H : Hp) (Q : VK) : Prop where
  run : ∀ (pins : List (Addr × Obj)) (s : Shared) (σ : L2.St) (v : Value) (us : List Value), Inv X pins σ H s → RelV x v → Vals xs us → wpAny (model X.prog X.w) X.A (call (.builtin id) (v :: us)) (EP X pins σ Q) X.xe s
structure wPS (X : Cx) (o i v : V) (H : Hp) (Q : Hp → Prop) : Prop where
  run : ∀ (pins : List (Addr × Obj)) (s : Shared) (σ : L2.St) (ov iv u : Value), Inv X pins σ H s → RelV o ov → RelV i iv → RelV v u → wpAny (model X.prog X.w) X.A (setItem ov iv u) (fun _ s' => ∃ H', Inv X pins σ H' s' ∧ Q H') X.xe s

variable {e a b c : Expr} {es rest : List Expr} {st : Stmt} {sts : List Stmt}
theorem pe_self : PE X e (wE X e) := ⟨fun pins s _ _ _ I h => h.run pins s I⟩
theorem pt_self : PT X e (wT X e) := ⟨fun pins s _ _ _ I h => h.run pins s I⟩
theorem pw_self : PW X e (wW X e) := ⟨fun wh pins s _ _ _ I h => h.run wh pins s I⟩
theorem pa_self : PA X es (wA X es) := ⟨fun p pins s _ _ _ I h => h.run p pins s I⟩
theorem ps_self : PS X st (wS X st) := ⟨fun pins s _ _ _ I h => h.run pins s I⟩
theorem pss_self : PSs X sts (wB X sts) := ⟨fun pins s _ _ _ I h => h.run pins s I⟩
theorem op_self {f : Value → Value → Sem Value} : OpR X f (wO X f) := fun pins s σ _ _ _ v u _ I rx ry h => h.run pins s σ v u I rx ry
theorem un_self {f : Value → Sem Value} : UnR X f (wU X f) := fun pins s σ _ _ v _ I rx h => h.run pins s σ v I rx
theorem call_self {f : Value} : CallR X f (wC X f) := fun pins s σ _ _ us _ I r h => h.run pins s σ us I r
theorem ix_self : IxR X (wX X) := fun value slice pins s σ _ _ _ v u _ I rx ry h hs => h.run value slice pins s σ v u I rx ry hs
theorem mt_self {id : String} : MtR X id (wM X id) := fun pins s σ _ _ _ v us _ I rx r h => h.run pins s σ v us I rx r
theorem set_self : PSet X (wPS X) := fun pins s σ _ _ _ _ ov iv u _ I ro ri rv h => h.run pins s σ ov iv u I ro ri rv
theorem toE {t : TE} (p : PE X e t) (h : t σ H Q) : wE X e σ H Q := ⟨fun pins s I => p.run pins s σ H Q I h⟩
theorem toT {t : TT} {Q : Bool → Hp → Prop} (p : PT X e t) (h : t σ H Q) : wT X e σ H Q := ⟨fun pins s I => p.run pins s σ H Q I h⟩
theorem toW {t : TT} {Q : Bool → Hp → Prop} (p : PW X e t) (h : t σ H Q) : wW X e σ H Q := ⟨fun wh pins s I => p.run wh pins s σ H Q I h⟩
theorem toA {t : TA} {Q : List V → Hp → Prop} (p : PA X es t) (h : t σ H Q) : wA X es σ H Q := ⟨fun ps pins s I => p.run ps pins s σ H Q I h⟩
theorem toS {t : TS} (p : PS X st t) (h : t D σ H) : wS X st D σ H := ⟨fun pins s I => p.run pins s σ H D I h⟩
theorem toB {t : TS} (p : PSs X sts t) (h : t D σ H) : wB X sts D σ H := ⟨fun pins s I => p.run pins s σ H D I h⟩
theorem toO {f : Value → Value → Sem Value} {r : R2} {x y : V} (p : OpR X f r) (h : r x y H Q) : wO X f x y H Q := ⟨fun pins s σ v u I rx ry => p pins s σ H x y v u Q I rx ry h⟩
theorem toU {f : Value → Sem Value} {r : V → Hp → VK → Prop} {x : V} (p : UnR X f r) (h : r x H Q) : wU X f x H Q := ⟨fun pins s σ v I rx => p pins s σ H x v Q I rx h⟩
theorem toC {f : Value} {r : List V → Hp → VK → Prop} {xs : List V} (p : CallR X f r) (h : r xs H Q) : wC X f xs H Q := ⟨fun pins s σ us I rv => p pins s σ H xs us Q I rv h⟩
theorem toX {r : R2} {x y : V} (p : IxR X r) (h : r x y H Q) : wX X x y H Q := ⟨fun value slice pins s σ v u I rx ry hs => p value slice pins s σ H x y v u Q I rx ry h hs⟩
theorem toM {id : String} {r : V → List V → Hp → VK → Prop} {x : V} {xs : List V} (p : MtR X id r) (h : r x xs H Q) : wM X id x xs H Q := ⟨fun pins s σ v us I rx rv => p pins s σ H x xs v us Q I rx rv h⟩

/-! ### what is known of the def at work -/
structure Bd (X : Cx) (N : List Str) (sc : Scope) (k : Nat) : Prop where
  hN : X.N = N
  nd : X.N.Nodup
  sc : X.env.scope = sc
  calm : X.calm = true
  room : Room k X.A
  ps : PassesOwn (model X.prog X.w) X.A X.env X.xe
theorem Bd.slot {N : List Str} {sc : Scope} {k : Nat} (B : Bd X N sc k) (i : Nat) {x : Str} (h : N[i]? = some x) : X.N[i]? = some x := by rw [B.hN]; exact h
theorem Bd.gl {N : List Str} {sc : Scope} {k : Nat} (B : Bd X N sc k) {x : Str} (h : sc.names.lookup x = some .globalImplicit) : Gl X x := by
  have e := B.sc
  subst e
  exact h
theorem Bd.loc {N : List Str} {sc : Scope} {k : Nat} (B : Bd X N sc k) {x : Str} (h : sc.names.lookup x = some .local) : X.env.scope.names.lookup x = some .local := by rw [B.sc]; exact h
theorem Bd.cel {N : List Str} {sc : Scope} {k : Nat} (B : Bd X N sc k) {x : Str} (h : sc.names.lookup x = some .cell) : X.env.scope.names.lookup x = some .cell := by rw [B.sc]; exact h
/-! ### expressions -/
theorem e_int {i : Int} {j} (h : Q (.int i) H) : wE X (.Constant (.int i) j pos) σ H Q := toE pe_int h
theorem e_bl {i : Bool} {j} (h : Q (.bl i) H) : wE X (.Constant (.bool i) j pos) σ H Q := toE pe_bl h
theorem e_non {j} (h : Q .non H) : wE X (.Constant .none j pos) σ H Q := toE pe_non h
theorem e_str {i : Str} {j} (h : Q (.str i) H) : wE X (.Constant (.str i) j pos) σ H Q := toE pe_str h
theorem e_loc (i : Nat) {x : Str} {v : V} (hN : X.N[i]? = some x) (hv : Vis X.env.scope x) (hs : σ[i]? = some (some v)) (h : Q v H) (hd : (x == ("__debug__" : Str)) = false := by decide) (hcd : (x == ("__classdict__" : Str)) = false := by decide) :
    wE X (.Name x pos) σ H Q := toE (pe_var hN hv hd hcd) ⟨v, hs, h⟩
theorem e_glob {x : Str} {v : V} {u : Value} (hg : Gl X x) (hm : X.mg x = some u) (r : RelV v u) (h : Q v H) (hd : (x == ("__debug__" : Str)) = false := by decide) : wE X (.Name x pos) σ H Q := toE (pe_glob hg hm r hd) h
theorem e_blt {x : Str} {v : V} {u : Value} (hg : Gl X x) (hm : X.mg x = none) (hv : bootBuiltins x = some u) (r : RelV v u) (h : Q v H) (hn : x ≠ "__name__" := by decide) (hd : (x == ("__debug__" : Str)) = false := by decide) : wE X (.Name x pos) σ H Q := toE (pe_bltn hg hm hv r hn hd) h
theorem e_bin {op : Operator} (h : wE X a σ H fun x H1 => wE X b σ H1 fun y H2 => wO X (binaryOp op) x y H2 Q) : wE X (.BinOp a op b pos) σ H Q := toE (pe_op op_self pe_self pe_self) h
theorem e_un {op : UnaryOp} (h : wE X a σ H fun x H1 => wU X (unaryOp op) x H1 Q) : wE X (.UnaryOp op a pos) σ H Q := toE (pe_un un_self pe_self) h
theorem e_not (h : wE X a σ H fun x H1 => ∃ c, x = .bl c ∧ Q (.bl (!c)) H1) : wE X (.UnaryOp .Not a pos) σ H Q := toE (pe_not pe_self) h
theorem e_cmp {op : CmpOp} (hm : behindInMarks op b = false) (h : wE X a σ H fun x H1 => wE X b σ H1 fun y H2 => wO X (compareOp op) x y H2 Q) : wE X (.Compare a [op] [b] pos) σ H Q := toE (pe_cmpR op_self pe_self pe_self hm) h
theorem e_chain {op op' : CmpOp} (h : wE X a σ H fun x H1 => wE X b σ H1 fun y H2 => wO X (compareOp op) x y H2 fun z H3 => ∃ k, z = .bl k ∧
    (if k = true then wE X c σ H3 fun w' H4 => wO X (compareOp op') y w' H4 Q else Q (.bl false) H3)) (hm : lastMarks [op, op'] [b, c] = false := by with_unfolding_all rfl) : wE X (.Compare a [op, op'] [b, c] pos) σ H Q :=
  toE (pe_chain op_self op_self pe_self pe_self pe_self hm) h
theorem e_one {op} (h : wE X a σ H Q) : wE X (.BoolOp op [a] pos) σ H Q := toE (pe_one pe_self) h
theorem e_and (h : wE X a σ H fun x H1 => ∃ c, x = .bl c ∧ if c = true then wE X (.BoolOp .And (b :: rest) pos) σ H1 Q else Q (.bl false) H1) : wE X (.BoolOp .And (a :: b :: rest) pos) σ H Q := toE (pe_and pe_self pe_self) h
theorem e_or (h : wE X a σ H fun x H1 => ∃ c, x = .bl c ∧ if c = true then Q (.bl true) H1 else wE X (.BoolOp .Or (b :: rest) pos) σ H1 Q) : wE X (.BoolOp .Or (a :: b :: rest) pos) σ H Q := toE (pe_or pe_self pe_self) h
theorem e_if (h : wT X c σ H fun k H1 => if k = true then wE X a σ H1 Q else wE X b σ H1 Q) : wE X (.IfExp c a b pos) σ H Q := toE (pe_ifExp pt_self pe_self pe_self) h
theorem e_ix (hs : PlainIx b) (h : wE X a σ H fun x H1 => wE X b σ H1 fun y H2 => wX X x y H2 Q) : wE X (.Subscript a b pos) σ H Q := toE (pe_ix ix_self pe_self pe_self hs) h
theorem e_tup {x1} (h : wA X es σ H fun xs H1 => xs.length ≤ sizeLine ∧ ∀ p, H1 p = none → Q (.ref p) (upd H1 p (.tup xs))) : wE X (.Tuple es x1 pos) σ H Q := toE (pe_tup pa_self) h
theorem e_lst (h : wA X es σ H fun xs H1 => xs.length ≤ sizeLine ∧ ∀ p, H1 p = none → Q (.ref p) (upd H1 p (.lst xs))) : wE X (.List es pos) σ H Q := toE (pe_lst pa_self) h
theorem a_nil {Q : List V → Hp → Prop} (h : Q [] H) : wA X [] σ H Q := toA pa_nil h
theorem a_cons {Q : List V → Hp → Prop} (h : wE X e σ H fun x H1 => wA X es σ H1 fun xs H2 => Q (x :: xs) H2) (hs : starEach (e :: es) X.env = (false, eval e X.env) :: starEach es X.env := by rfl) : wA X (e :: es) σ H Q := toA (pa_cons pe_self pa_self hs) h
/-- a built-in function, a built-in type -/
theorem e_callB {id : String} {x : Str} {p : Pos} (hg : Gl X x) (hm : X.mg x = none) (hv : bootBuiltins x = some (.builtin id)) (h : wA X (e :: es) σ H fun vs H1 => wC X (.builtin id) vs H1 Q) (hn : x ≠ "__name__" := by decide) (hdb : (x == ("__debug__" : Str)) = false := by decide)
    (he : starEach (e :: es) X.env = (false, eval e X.env) :: starEach es X.env := by rfl) (hpl : (backTo pos (starEach es X.env)).any (·.1) = false := by rfl) : wE X (.Call (.Name x p) (e :: es) [] pos) σ H Q := toE (pe_callB call_self hg hm hv pa_self hn hdb he hpl) h
theorem e_callT {T : String} {x : Str} {p : Pos} (hg : Gl X x) (hm : X.mg x = none) (hv : bootBuiltins x = some (.type T)) (h : wA X (e :: es) σ H fun vs H1 => wC X (.type T) vs H1 Q) (hn : x ≠ "__name__" := by decide) (hdb : (x == ("__debug__" : Str)) = false := by decide)
    (he : starEach (e :: es) X.env = (false, eval e X.env) :: starEach es X.env := by rfl) (hpl : (backTo pos (starEach es X.env)).any (·.1) = false := by rfl) : wE X (.Call (.Name x p) (e :: es) [] pos) σ H Q := toE (pe_callTy call_self hg hm hv pa_self hn hdb he hpl) h

/-! ### promises of defs that are called while no repr runs -/
structure FnG (P : Program) (w : World) (K : PySem.W.Frag) (mg : Str → Option Value) (base : Heap) (CX : CXT) (k : Nat) (f : Addr) (fd : FuncData) (ps : List Str) (sp : Sp) : Prop where
  cnt : ∀ vs H Q E, sp vs H Q E → vs.length = ps.length
  go : ∀ (B : Around) (l : List Env) (s : Shared) (H : Hp) (gs : Args) (us : List Value) (vs : List V) (Q : VK) (E : XK),
    B.guards = some [] → Room k B → Env0 P w K mg base B l s H → BindsTo s fd gs (ps.zip us) → Vals vs us → sp vs H Q E → codeAny (model P w) B (.call (.ref f) gs) (CR CX l P w H s Q E) s
/-- from a def's body -/
theorem fnG_of {CX : CXT} {P : Program} {w : World} {K : PySem.W.Frag} {mg : Str → Option Value} {base : Heap} {x qual : Str} {st : Stmt} {f : Addr} {fd : FuncData} {N ps : List Str} {k : Nat} {sp : Sp}
    (F : L2.Fun K x qual st f fd) (S : FnScope N ps (defScope st)) (len : ∀ vs H Q E, sp vs H Q E → vs.length = ps.length)
    (body : ∀ (cd : Value) (B : Around) (l : List Env) (s : Shared) (H : Hp) (vs : List V) (Q : VK) (E : XK), (B.deeper (envOfC qual (defScope st) s.heap.objs.size f cd)).guards = some [] → Room k (B.deeper (envOfC qual (defScope st) s.heap.objs.size f cd)) → sp vs H Q E →
      wB (cxOf CX P w K mg base N qual (defScope st) f cd B l s H E) (defBody st) { nx := fun _ H' => Q .non H', rt := Q } (start N vs) H) : FnG P w K mg base CX (k + 1) f fd ps sp := by
  obtain ⟨oc, od, kV, doc, pm, an, cd, ct, sl, efd, look, isCode⟩ := F.ex
  constructor
  · exact len
  · intro B l s H gs us vs Q E noG room en bind rel want
    have keepB : ∀ b o, base.get? b = some o → s.heap.get? b = some o := fun b o q => (en.bs b o q).1
    have inK := en.mod.kin.keeps keepB
    subst efd
    refine codeAny_call_function (Room.depth room) (inK _ _ look) rfl S.co S.gen rfl (PySem.W.codeRec_of inK isCode) (bind _ _ _ _ ?_)
    refine wpAny_newFunctionEnv_cells S.kind ?_ ?_
    · rintro ⟨n, v⟩ mem
      exact (S.par n (List.of_mem_zip mem).1).imp id fun q => ⟨q, PySem.W.cellsFrom_some _ _ _ (Or.inl q)⟩
    · intro env eenv s1 x1
      subst eenv
      refine ⟨(en.mod.nolimit.keeps keepB).keeps x1.toInCall.keep, codeAny_func ?_⟩
      have I0 := inv_start (CX := CX) (E := E) (qual := qual) (mg := mg) (cd := cd) (f := f) S (Room.hd room) en (len vs H Q E want) rel x1
      refine wpAny_mono ((body cd B l s H vs Q E noG (Room.deeper room _) want).run [] s1 I0) ?_ fun e s2 q => q
      intro fl s2 q
      match fl, q with
      | .ret u, ⟨v, σ2, H2, J, rv, q2⟩ => exact ⟨v, H2, J.os, J.bare, J.base, J.hok, rv, q2⟩
      | .next, ⟨σ2, H2, J, q2⟩ => exact ⟨V.non, H2, J.os, J.bare, J.base, J.hok, rfl, q2⟩
      | .brk, ⟨_, _, _, q2⟩ => exact q2.elim
      | .cont, ⟨_, _, _, q2⟩ => exact q2.elim
/-- the call -/
theorem fnG_run {X : Cx} {CX : CXT} {k : Nat} {f : Addr} {fd : FuncData} {ps : List Str} {sp : Sp} {E : XK} {pins : List (Addr × Obj)} {σ : L2.St} {H : Hp} {s : Shared} {Q : VK} {us : List Value} {vs : List V} (F : FnG X.prog X.w X.K X.mg X.base CX k f fd ps sp)
    (hg : X.A.guards = some []) (hr : Room k X.A) (hb : Binds X.K fd ps []) (hx : Passes CX X E) (I : Inv X pins σ H s) (r : Vals vs us) (h : sp vs H Q E) : wpAny (model X.prog X.w) X.A (call (.ref f) us) (EP X pins σ Q) X.xe s := by
  have n1 : us.length = ps.length := r.length.symm.trans (F.cnt vs H Q E h)
  have bt := hb s us I.kIn (by rw [List.append_nil]; exact n1)
  rw [List.append_nil] at bt
  refine wpAny_call (codeAny_mono (F.go X.A X.stack s H ⟨us, []⟩ us vs Q E hg hr I.env0 bt r h) ?_)
  intro res s2 q
  match res, q with
  | .error e, q => exact hx pins σ H s e s2 I q
  | .ok (.ret u), q => exact I.after q
  | .ok .next, q => exact q.elim
  | .ok .brk, q => exact q.elim
  | .ok .cont, q => exact q.elim
/-- a def of the text, by its promise -/
structure Df (P : Program) (w : World) (K : PySem.W.Frag) (mg : Str → Option Value) (base : Heap) (x : Str) (k : Nat) (ps : List Str) (sp : Sp) : Prop where
  ex : ∃ (f : Addr) (fd : FuncData), FnG P w K mg base CX0 k f fd ps sp ∧ mg x = some (.ref f) ∧ PySem.W.keepIn K (.ref f) = true ∧ Binds K fd ps []
theorem e_call {x : Str} {p : Pos} {k : Nat} {ps : List Str} {sp : Sp} (F : Df X.prog X.w X.K X.mg X.base x k ps sp) (hG : X.A.guards = some []) (hr : Room k X.A) (hg : Gl X x) (h : wA X (e :: es) σ H fun vs H1 => sp vs H1 Q E0) (hdb : (x == ("__debug__" : Str)) = false := by decide)
    (he : starEach (e :: es) X.env = (false, eval e X.env) :: starEach es X.env := by rfl) (hpl : (backTo pos (starEach es X.env)).any (·.1) = false := by rfl) : wE X (.Call (.Name x p) (e :: es) [] pos) σ H Q := by
  obtain ⟨f, fd, G, hm, hk, hb⟩ := F.ex
  constructor
  intro pins s I
  refine wpAny_Call_Name_kw (ld_glob I hg hm (PySem.W.callWith_K (h₀ := X.base) I.ok.mod.kin hk ?_ he hpl) hdb)
  refine thn (h.run pos pins s I) ?_
  rintro us s1 ⟨vs, H1, I1, r, q⟩
  exact ⟨I1.kIn, fnG_run G hG hr hb pass0 I1 r q⟩
theorem e_call0 {x : Str} {p : Pos} {k : Nat} {ps : List Str} {sp : Sp} (F : Df X.prog X.w X.K X.mg X.base x k ps sp) (hG : X.A.guards = some []) (hr : Room k X.A) (hg : Gl X x) (h : sp [] H Q E0) (hdb : (x == ("__debug__" : Str)) = false := by decide) : wE X (.Call (.Name x p) [] [] pos) σ H Q := by
  obtain ⟨f, fd, G, hm, hk, hb⟩ := F.ex
  constructor
  intro pins s I
  exact wpAny_Call_Name_kw (ld_glob I hg hm (PySem.W.callWith_K0 I.kIn hk (fnG_run (us := []) G hG hr hb pass0 I .nil h)) hdb)
/-- a method of a built-in type -/
theorem e_bm0 {o : Expr} {name : Str} {apos cpos : Pos} {T id : String} (pa : PlainAttrs T) (slot : Slot T name id) (hty : typeOf (.builtin id) = pure (.type "method_descriptor")) (h : wE X o σ H fun x H1 => tyV X.K T x H1 ∧ wM X id x [] H1 Q)
    (hbase : attributeBase o name X.env (eval o X.env) = eval o X.env := by rfl) (hline : (apos.endLine == cpos.line) = true := by rfl) : wE X (.Call (.Attribute o name apos) [] [] cpos) σ H Q := toE (pe_bm0 pa slot hty mt_self pe_self hbase hline) h

/-! ### tests -/
theorem t_cmp {Q : Bool → Hp → Prop} {op : CmpOp} (hm : behindInMarks op b = false) (h : wE X a σ H fun x H1 => wE X b σ H1 fun y H2 => wO X (compareOp op) x y H2 fun z H3 => ∃ k, z = .bl k ∧ Q k H3) : wT X (.Compare a [op] [b] pos) σ H Q :=
  toT (pt_cmpR op_self pe_self pe_self hm) h
theorem t_chain {Q : Bool → Hp → Prop} {op op' : CmpOp} (h : wE X a σ H fun x H1 => wE X b σ H1 fun y H2 => wO X (compareOp op) x y H2 fun z H3 => ∃ k, z = .bl k ∧
    (if k = true then wE X c σ H3 fun w' H4 => wO X (compareOp op') y w' H4 fun z H5 => ∃ k, z = .bl k ∧ Q k H5 else ∃ k, V.bl false = .bl k ∧ Q k H3)) (hm : lastMarks [op, op'] [b, c] = false := by with_unfolding_all rfl) : wT X (.Compare a [op, op'] [b, c] pos) σ H Q :=
  toT (pt_chain op_self op_self pe_self pe_self pe_self hm) h
theorem t_val {Q : Bool → Hp → Prop} (he : ∀ whole, isTrue e X.env whole = (do let v ← whole; standAt e.pos; holding [v] (truthy v))) (h : wE X e σ H fun x H1 => ∃ c, x = .bl c ∧ Q c H1) : wT X e σ H Q := toT (pt_val pe_self he) h
theorem t_tru {Q : Bool → Hp → Prop} (he : ∀ whole, isTrue e X.env whole = (do let v ← whole; standAt e.pos; holding [v] (truthy v))) (h : wE X e σ H fun x H' => ∃ k, TruV X.K x H' k ∧ Q k H') : wT X e σ H Q := toT (pt_truth pe_self he) h
theorem t_not {Q : Bool → Hp → Prop} (h : wT X a σ H fun c H1 => Q (!c) H1) : wT X (.UnaryOp .Not a pos) σ H Q := toT (pt_not pt_self) h
theorem t_w {Q : Bool → Hp → Prop} (h : wW X e σ H Q) : wT X e σ H Q := toT pw_self.pt h
theorem w_and1 {Q : Bool → Hp → Prop} (h : wT X a σ H Q) : wW X (.BoolOp .And [a] pos) σ H Q := toW (pw_and1 pt_self) h
theorem w_or1 {Q : Bool → Hp → Prop} (h : wT X a σ H Q) : wW X (.BoolOp .Or [a] pos) σ H Q := toW (pw_or1 pt_self) h
theorem w_and {Q : Bool → Hp → Prop} (h : wT X a σ H fun c H1 => if c = true then wW X (.BoolOp .And (b :: rest) pos) σ H1 Q else Q false H1) : wW X (.BoolOp .And (a :: b :: rest) pos) σ H Q := toW (pw_and pt_self pw_self) h
theorem w_or {Q : Bool → Hp → Prop} (h : wT X a σ H fun c H1 => if c = true then Q true H1 else wW X (.BoolOp .Or (b :: rest) pos) σ H1 Q) : wW X (.BoolOp .Or (a :: b :: rest) pos) σ H Q := toW (pw_or pt_self pw_self) h

/-! ### statements -/
theorem b_nil (h : D.nx σ H) : wB X [] D σ H := toB pss_nil h
theorem b_one (h : wS X st D σ H) : wB X [st] D σ H := toB (pss_one ps_self) h
theorem b_cons (h : wS X st { D with nx := fun σ' H' => wB X sts D σ' H' } σ H) : wB X (st :: sts) D σ H := toB (pss_cons ps_self pss_self) h
theorem s_ret (h : wE X e σ H D.rt) : wS X (.Return (some e) pos) D σ H := toS (ps_ret pe_self) h
theorem s_expr (h : wE X e σ H fun _ H1 => D.nx σ H1) (hs : swapsWith e none pos.line X.env = pure false := by rfl) : wS X (.Expr e pos) D σ H := toS (ps_expr pe_self hs) h
theorem s_doc {x j pos'} (h : D.nx σ H) : wS X (.Expr (.Constant (.str x) j pos) pos') D σ H := toS ps_doc h
theorem s_pass (h : D.nx σ H) : wS X (.Pass pos) D σ H := toS ps_pass h
theorem s_if {sa sb : List Stmt} (h : wT X c σ H fun k H1 => if k = true then wB X sa D σ H1 else wB X sb D σ H1) : wS X (.If c sa sb pos) D σ H := toS (ps_if pt_self pss_self pss_self) h
theorem s_set (i : Nat) {x : Str} {pos' : Pos} (hN : X.N.Nodup) (hi : X.N[i]? = some x) (hx : Loc X.env.scope x) (h : wE X e σ H fun y H1 => D.nx (σ.set i (some y)) H1) (hs : swapsWith e (some (.Name x pos')) pos.line X.env = pure false := by rfl)
    (hf : X.fn x = true ∨ X.env.scope.names.lookup x = some .local := by first | exact .inl rfl | exact .inr rfl | assumption) : wS X (.Assign [.Name x pos'] e pos) D σ H := toS (ps_set hN hi hx pe_self hs hf) h
/-- a, b = x, y of plain locals -/
theorem s_par (i j : Nat) {x y : Str} {px py pt : Pos} {kt k2 pt2} (hc : X.calm = true) (hN : X.N.Nodup) (hi : X.N[i]? = some x) (hj : X.N[j]? = some y) (hij : i ≠ j) (hx : X.env.scope.names.lookup x = some .local) (hy : X.env.scope.names.lookup y = some .local)
    (hw : swappedStores [.Tuple [.Name x px, .Name y py] kt pt] (.Tuple [a, b] k2 pt2) X.env = pure (some [x, y])) (h : wE X a σ H fun u H1 => wE X b σ H1 fun v H2 => D.nx ((σ.set j (some v)).set i (some u)) H2)
    (hs : swapsWithSole [.Tuple [.Name x px, .Name y py] kt pt] (.Tuple [a, b] k2 pt2) pos.line X.env = pure false := by rfl) (h1 : starEach [a, b] X.env = (false, eval a X.env) :: starEach [b] X.env := by rfl) (h2 : starEach [b] X.env = (false, eval b X.env) :: starEach [] X.env := by rfl) :
    wS X (.Assign [.Tuple [.Name x px, .Name y py] kt pt] (.Tuple [a, b] k2 pt2) pos) D σ H := by
  refine toS (ps_par hc hN hi hj hij hx hy pa_self hw hs) ?_
  refine a_cons ⟨fun pins s I => ?_⟩ h1
  refine thn (h.run pins s I) fun v s1 ⟨x1, H1, I1, r1, q1⟩ => ⟨x1, H1, I1, r1, ?_⟩
  refine a_cons ⟨fun pins2 s2 I2 => ?_⟩ h2
  refine thn (q1.run pins2 s2 I2) fun v2 s3 ⟨x3, H3, I3, r3, q3⟩ => ⟨x3, H3, I3, r3, ?_⟩
  refine a_nil ?_
  refine ⟨x1, x3, rfl, ?_⟩
  rw [List.set_comm _ _ hij]
  exact q3
/-- o[i] = e -/
theorem s_sub {o i : Expr} {pos' : Pos} (h : wE X e σ H fun v H1 => wE X o σ H1 fun ov H2 => wE X i σ H2 fun iv H3 => wPS X ov iv v H3 fun H4 => D.nx σ H4)
    (ha : ∀ v, assign (.Subscript o i pos') X.env v = (do
      let ov ← holding [v] (eval o X.env)
      let iv ← holding [v, ov] (eval i X.env)
      standAt pos'
      holding [v, ov, iv] (setItem ov iv v)
      release [v, ov, iv] []) := by intro _; rfl)
    (hs : swapsWithSole [.Subscript o i pos'] e pos.line X.env = pure false := by rfl) (hw : swappedStores [.Subscript o i pos'] e X.env = pure none := by rfl) (h1 : (assignEach [.Subscript o i pos'] X.env).map (·.2) = [assign (.Subscript o i pos') X.env] := by rfl) :
    wS X (.Assign [.Subscript o i pos'] e pos) D σ H := toS (ps_asg pe_self (pg_sub pe_self pe_self set_self ha) hs hw h1) h
theorem ps_set_list {o i v : V} {H : Hp} {Q : Hp → Prop} (h : rSetL o i v H Q) : wPS X o i v H Q := ⟨fun pins s σ ov iv u I ro ri rv => set_list pins s σ H o i v ov iv u Q I ro ri rv h⟩
/-- for x in range(a) -/
theorem s_forR1 (i : Nat) {x : Str} {px p1 p2 : Pos} {body : List Stmt} (hp : PassesOwn (model X.prog X.w) X.A X.env X.xe) (hc : X.calm = true) (hg : Gl X "range") (hm : X.mg "range" = none) (hN : X.N.Nodup) (hi : X.N[i]? = some x) (hx : Loc X.env.scope x)
    (h : wE X a σ H fun v H1 => ∃ n : Nat, v = .int (n : Int) ∧ n < 2 ^ 62 ∧ ∃ Pv : Nat → L2.St → Hp → Prop, Pv 0 σ H1 ∧
      (∀ k σ H, k < n → Pv k σ H → wB X body { D with nx := Pv (k + 1), ct := Pv (k + 1), bk := D.nx } (σ.set i (some (.int (k : Int)))) H) ∧ ∀ σ H, Pv n σ H → D.nx σ H)
    (hs : ∀ x, foldedSetIterable (.Call (.Name "range" p1) [a] [] p2) X.env x = pure x := by intro _; rfl) (hst : starEach [a] X.env = [(false, eval a X.env)] := by rfl)
    (hf : X.fn x = true ∨ X.env.scope.names.lookup x = some .local := by first | exact .inl rfl | exact .inr rfl | assumption) :
    wS X (.For (.Name x px) (.Call (.Name "range" p1) [a] [] p2) body [] pos) D σ H := by
  refine toS (ps_for hp hc (pi_range1 hg hm pa_self hst) (pg_name hN hi hx hf) pss_self hs) ?_
  show wA X [a] σ H _
  refine a_cons ⟨fun pins s I => ?_⟩ hst
  refine thn (h.run pins s I) fun v s1 ⟨x1, H1, I1, r1, q1⟩ => ⟨x1, H1, I1, r1, ?_⟩
  obtain ⟨n, rfl, hn, Pv, h0, ht, he⟩ := q1
  refine a_nil ?_
  refine ⟨(n : Int), rfl, by omega, by omega, ?_⟩
  have e1 : (n : Int).toNat = n := by omega
  rw [e1]
  refine for_range Pv h0 (fun k σ2 H2 hk hP => ?_) he
  have e2 : (0 : Int) + (k : Int) = (k : Int) := Int.zero_add _
  rw [e2]
  exact ht k σ2 H2 hk hP

/-! ### operations by values -/
theorem o_add {i j : Int} (h : Q (.int (i + j)) H) : wO X (binaryOp .Add) (.int i) (.int j) H Q := toO op_add ⟨i, j, rfl, rfl, h⟩
theorem o_sub {i j : Int} (h : Q (.int (i - j)) H) : wO X (binaryOp .Sub) (.int i) (.int j) H Q := toO op_sub ⟨i, j, rfl, rfl, h⟩
theorem o_mul {i j : Int} (hc : CMul i j) (h : Q (.int (i * j)) H) : wO X (binaryOp .Mult) (.int i) (.int j) H Q := toO op_mul ⟨i, j, rfl, rfl, hc, h⟩
theorem o_mulW {i j : Int} (hc : CMulW i j) (h : Q (.int (i * j)) H) : wO X (binaryOp .Mult) (.int i) (.int j) H Q := toO op_mulW ⟨i, j, rfl, rfl, hc, h⟩
theorem o_mod {i j : Int} (hc : 0 < j) (h : Q (.int (i % j)) H) : wO X (binaryOp .Mod) (.int i) (.int j) H Q := toO op_mod ⟨i, j, rfl, rfl, hc, h⟩
theorem o_fdiv {i j : Int} (hc : CDiv i j) (h : Q (.int (i / j)) H) : wO X (binaryOp .FloorDiv) (.int i) (.int j) H Q := toO op_fdiv ⟨i, j, rfl, rfl, hc, h⟩
theorem o_pow {i j : Int} (hc : CPow i j) (h : Q (.int (i ^ j.toNat)) H) : wO X (binaryOp .Pow) (.int i) (.int j) H Q := toO op_pow ⟨i, j, rfl, rfl, hc, h⟩
theorem o_adds {i j : Str} (hc : i.length + j.length ≤ sizeLine) (h : Q (.str (i ++ j)) H) : wO X (binaryOp .Add) (.str i) (.str j) H Q := toO op_add_str ⟨i, j, rfl, rfl, hc, h⟩
theorem o_neg {i : Int} (h : Q (.int (-i)) H) : wU X (unaryOp .USub) (.int i) H Q := toU un_neg ⟨i, rfl, h⟩
theorem o_eq {x y : V} (hs : scal x y = true) (h : Q (.bl (decide (x = y))) H) : wO X (compareOp .Eq) x y H Q := toO op_eq ⟨hs, h⟩
theorem o_ne {x y : V} (hs : scal x y = true) (h : Q (.bl (!decide (x = y))) H) : wO X (compareOp .NotEq) x y H Q := toO op_ne ⟨hs, h⟩
theorem o_lt {i j : Int} (h : Q (.bl (decide (i < j))) H) : wO X (compareOp .Lt) (.int i) (.int j) H Q := toO op_lt ⟨i, j, rfl, rfl, h⟩
theorem o_le {i j : Int} (h : Q (.bl (decide (i ≤ j))) H) : wO X (compareOp .LtE) (.int i) (.int j) H Q := toO op_le ⟨i, j, rfl, rfl, h⟩
theorem o_gt {i j : Int} (h : Q (.bl (decide (j < i))) H) : wO X (compareOp .Gt) (.int i) (.int j) H Q := toO op_gt ⟨i, j, rfl, rfl, h⟩
theorem o_ge {i j : Int} (h : Q (.bl (decide (j ≤ i))) H) : wO X (compareOp .GtE) (.int i) (.int j) H Q := toO op_ge ⟨i, j, rfl, rfl, h⟩
theorem x_lst {p : Addr} {xs : List V} {i : Int} {v : V} (hp : SqL X.K H p xs) (ha : atI xs i = some v) (h : Q v H) : wX X (.ref p) (.int i) H Q := toX ix_list ⟨p, xs, i, v, rfl, rfl, hp, ha, h⟩
theorem x_tup {p : Addr} {xs : List V} {i : Int} {v : V} (hp : SqT X.K H p xs) (ha : atI xs i = some v) (h : Q v H) : wX X (.ref p) (.int i) H Q := toX ix_tup ⟨p, xs, i, v, rfl, rfl, hp, ha, h⟩
theorem x_str {z : Str} {i : Int} {c : Nat} (hz : z.length ≤ sizeLine) (ha : atI z.cps.toList i = some c) (h : Q (.str ⟨#[c]⟩) H) : wX X (.str z) (.int i) H Q := toX ix_str ⟨z, i, c, rfl, rfl, hz, ha, h⟩
theorem c_abs {i : Int} (h : Q (.int (if i < 0 then -i else i)) H) : wC X (.builtin "abs") [.int i] H Q := toC call_abs ⟨i, rfl, h⟩
theorem c_max {i j : Int} (hc : X.calm = true) (h : Q (.int (if j > i then j else i)) H) : wC X (.builtin "max") [.int i, .int j] H Q := toC (call_max2 hc) ⟨i, j, rfl, h⟩
theorem c_min {i j : Int} (hc : X.calm = true) (h : Q (.int (if j < i then j else i)) H) : wC X (.builtin "min") [.int i, .int j] H Q := toC (call_min2 hc) ⟨i, j, rfl, h⟩
theorem c_int {i : Int} (h : Q (.int i) H) : wC X (.type "int") [.int i] H Q := toC call_int1 (.inl ⟨i, rfl, h⟩)
theorem c_intb {i : Bool} (h : Q (.int (if i then 1 else 0)) H) : wC X (.type "int") [.bl i] H Q := toC call_int1 (.inr ⟨i, rfl, h⟩)
theorem c_str {i : Int} (hc : i.natAbs.log2 < 1920) (h : Q (.str (toString i)) H) : wC X (.type "str") [.int i] H Q := toC call_str_int ⟨i, rfl, hc, h⟩
theorem c_lenL {p : Addr} {xs : List V} (hp : SqL X.K H p xs) (h : Q (.int xs.length) H) : wC X (.builtin "len") [.ref p] H Q := toC call_len_seq ⟨p, xs, rfl, .inl hp, h⟩
theorem c_lenT {p : Addr} {xs : List V} (hp : SqT X.K H p xs) (h : Q (.int xs.length) H) : wC X (.builtin "len") [.ref p] H Q := toC call_len_seq ⟨p, xs, rfl, .inr hp, h⟩
theorem c_lenS {z : Str} (hz : z.length ≤ sizeLine) (h : Q (.int z.length) H) : wC X (.builtin "len") [.str z] H Q := toC call_len_str ⟨z, rfl, hz, h⟩
theorem c_isi {x : V} {n : String} {t : Value} {k : Bool} (ty : TyX X.K H x t) (e : PySem.W.kitOne X.K t (.type n) = some k) (h : Q (.bl k) H) : wC X (.builtin "isinstance") [x, .ty n] H Q := toC call_isi ⟨x, .ty n, t, .type n, k, rfl, .ty n, ty, e, h⟩
end
end WX
namespace WX
open PySem PySem.Spec PyProof.Rows L2
theorem wB_nox {X : Cx} {sts : List Stmt} {D : Ends} {σ : L2.St} {H : Hp} (h : wB X.nox sts D σ H) : wB X sts D σ H := toB (PSs.nox pss_self) h
theorem df_of {P : Program} {w : World} {K : PySem.W.Frag} {mg : Str → Option Value} {base : Heap} {x qual : Str} {st : Stmt} {N ps : List Str} {k : Nat} {sp : Sp} (hx : ∃ f fd, L2.Fun K x qual st f fd ∧ mg x = some (.ref f)) (S : FnScope N ps (defScope st))
    (hb : ∀ (kV doc pm : Value) (an : Option Addr) (cdv ct : Value) (us : List Value), us.length = ps.length → bindArgs (PySem.W.fnOf x qual (defArgs st) (defBody st) (defScope st) .none kV doc pm an cdv ct) ⟨us, []⟩ = pure (ps.zip us))
    (len : ∀ vs H Q E, sp vs H Q E → vs.length = ps.length)
    (body : ∀ X : Cx, X.prog = P → X.w = w → X.K = K → X.mg = mg → X.base = base → Bd X N (defScope st) k → (∀ x, X.fn x = true) → X.A.guards = some [] → ∀ vs H Q E, sp vs H Q E → wB X (defBody st) { nx := fun _ H' => Q .non H', rt := Q } (start N vs) H) : Df P w K mg base x (k + 1) ps sp := by
  obtain ⟨f, fd, F, hm⟩ := hx
  refine ⟨f, fd, fnG_of F S len ?_, hm, F.kp, F.binds hb⟩
  intro cd B l s H vs Q E hg hr h
  refine wB_nox ?_
  exact body _ rfl rfl rfl rfl rfl ⟨rfl, S.nd, rfl, rfl, hr, PassesOwn.never⟩ (fun _ => rfl) hg vs H Q E h
/-- a fact about a place stands over a new place -/
theorem upd_keep {H : Hp} {a b : Addr} {o x : HO} (hn : H a = none) (h : H b = some x) : upd H a o b = some x := by
  rw [upd_ne (ne_of_none h hn)]
  exact h
theorem upd_keep2 {H : Hp} {a b : Addr} {o : HO} {x : Option HO} (hne : b ≠ a) (h : H b = x) : upd H a o b = x := by
  rw [upd_ne hne]
  exact h
end WX
namespace WX
open PySem PySem.Spec PyProof.Rows L2
section
variable {X : Cx} {σ : L2.St} {H : Hp} {Q : VK} {D : Ends} {pos : Pos}
theorem e_lo {x : Str} {v : V} (i : Nat) (hN : X.N[i]? = some x) (hv : X.env.scope.names.lookup x = some .local) (hs : σ[i]? = some (some v)) (h : Q v H) (hd : (x == ("__debug__" : Str)) = false := by decide) (hcd : (x == ("__classdict__" : Str)) = false := by decide) :
    wE X (.Name x pos) σ H Q := e_loc i hN (Or.inl hv) hs h hd hcd
theorem e_ce {x : Str} {v : V} (i : Nat) (hN : X.N[i]? = some x) (hv : X.env.scope.names.lookup x = some .cell) (hs : σ[i]? = some (some v)) (h : Q v H) (hd : (x == ("__debug__" : Str)) = false := by decide) (hcd : (x == ("__classdict__" : Str)) = false := by decide) :
    wE X (.Name x pos) σ H Q := e_loc i hN (Or.inr (Or.inl hv)) hs h hd hcd
theorem e_gi {x : Str} {i : Int} {t : Tok} (hg : Gl X x) (hm : X.mg x = some (Value.int i t)) (h : Q (.int i) H) (hd : (x == ("__debug__" : Str)) = false := by decide) : wE X (.Name x pos) σ H Q := e_glob hg hm (show RelV (.int i) (Value.int i t) from ⟨t, rfl⟩) h hd
theorem e_ty {x : Str} {n : String} (hg : Gl X x) (hm : X.mg x = none) (hv : bootBuiltins x = some (.type n)) (h : Q (.ty n) H) (hn : x ≠ "__name__" := by decide) (hd : (x == ("__debug__" : Str)) = false := by decide) : wE X (.Name x pos) σ H Q :=
  e_blt hg hm hv (show RelV (.ty n) (Value.type n) from rfl) h hn hd
theorem s_lo {e : Expr} (i : Nat) {x : Str} {pos' : Pos} {N : List Str} {sc : Scope} {k : Nat} (B : Bd X N sc k) (hi : X.N[i]? = some x) (hx : X.env.scope.names.lookup x = some .local) (h : wE X e σ H fun y H1 => D.nx (σ.set i (some y)) H1) (hs : swapsWith e (some (.Name x pos')) pos.line X.env = pure false := by rfl) :
    wS X (.Assign [.Name x pos'] e pos) D σ H := s_set i B.nd hi (Or.inl hx) h hs (.inr hx)
theorem s_ce {e : Expr} (i : Nat) {x : Str} {pos' : Pos} {N : List Str} {sc : Scope} {k : Nat} (B : Bd X N sc k) (hf : ∀ x, X.fn x = true) (hi : X.N[i]? = some x) (hx : X.env.scope.names.lookup x = some .cell) (h : wE X e σ H fun y H1 => D.nx (σ.set i (some y)) H1) (hs : swapsWith e (some (.Name x pos')) pos.line X.env = pure false := by rfl) :
    wS X (.Assign [.Name x pos'] e pos) D σ H := s_set i B.nd hi (Or.inr hx) h hs (.inl (hf x))
theorem e_ixp {a b : Expr} (h : wE X a σ H fun x H1 => wE X b σ H1 fun y H2 => wX X x y H2 Q) (hs : PlainIx b := by exact fun _ _ => rfl) : wE X (.Subscript a b pos) σ H Q := e_ix hs h
theorem e_cmpn {a b : Expr} {op : CmpOp} (h : wE X a σ H fun x H1 => wE X b σ H1 fun y H2 => wO X (compareOp op) x y H2 Q) (h1 : op ≠ .In := by decide) (h2 : op ≠ .NotIn := by decide) : wE X (.Compare a [op] [b] pos) σ H Q := e_cmp (nomark b h1 h2) h
theorem t_cmpn {a b : Expr} {Q : Bool → Hp → Prop} {op : CmpOp} (h : wE X a σ H fun x H1 => wE X b σ H1 fun y H2 => wO X (compareOp op) x y H2 fun z H3 => ∃ k, z = .bl k ∧ Q k H3) (h1 : op ≠ .In := by decide) (h2 : op ≠ .NotIn := by decide) : wT X (.Compare a [op] [b] pos) σ H Q := t_cmp (nomark b h1 h2) h
end
theorem bb_len : bootBuiltins "len" = some (.builtin "len") := by decide +kernel
theorem bb_isinstance : bootBuiltins "isinstance" = some (.builtin "isinstance") := by decide +kernel
theorem bb_abs : bootBuiltins "abs" = some (.builtin "abs") := by decide +kernel
theorem bb_max : bootBuiltins "max" = some (.builtin "max") := by decide +kernel
theorem bb_min : bootBuiltins "min" = some (.builtin "min") := by decide +kernel
theorem bb_repr : bootBuiltins "repr" = some (.builtin "repr") := by decide +kernel
theorem bb_all : bootBuiltins "all" = some (.builtin "all") := by decide +kernel
theorem bb_any : bootBuiltins "any" = some (.builtin "any") := by decide +kernel
theorem bb_sorted : bootBuiltins "sorted" = some (.builtin "sorted") := by decide +kernel
theorem bb_sum : bootBuiltins "sum" = some (.builtin "sum") := by decide +kernel
theorem bb_divmod : bootBuiltins "divmod" = some (.builtin "divmod") := by decide +kernel
theorem bb_range : bootBuiltins "range" = some (.type "range") := by decide +kernel
theorem bb_int : bootBuiltins "int" = some (.type "int") := by decide +kernel
theorem bb_bool : bootBuiltins "bool" = some (.type "bool") := by decide +kernel
theorem bb_str : bootBuiltins "str" = some (.type "str") := by decide +kernel
theorem bb_list : bootBuiltins "list" = some (.type "list") := by decide +kernel
theorem bb_tuple : bootBuiltins "tuple" = some (.type "tuple") := by decide +kernel
theorem bb_dict : bootBuiltins "dict" = some (.type "dict") := by decide +kernel
theorem bb_set : bootBuiltins "set" = some (.type "set") := by decide +kernel
end WX
namespace WX
open PySem PySem.Spec PyProof.Rows L2
section
variable {K : PySem.W.Frag}
theorem kit_NoneType_int : PySem.W.kitOne K (.type "NoneType") (.type "int") = some false := rfl
theorem kit_NoneType_bool : PySem.W.kitOne K (.type "NoneType") (.type "bool") = some false := rfl
theorem kit_NoneType_str : PySem.W.kitOne K (.type "NoneType") (.type "str") = some false := rfl
theorem kit_NoneType_tuple : PySem.W.kitOne K (.type "NoneType") (.type "tuple") = some false := rfl
theorem kit_NoneType_list : PySem.W.kitOne K (.type "NoneType") (.type "list") = some false := rfl
theorem kit_NoneType_dict : PySem.W.kitOne K (.type "NoneType") (.type "dict") = some false := rfl
theorem kit_bool_int : PySem.W.kitOne K (.type "bool") (.type "int") = some true := rfl
theorem kit_bool_bool : PySem.W.kitOne K (.type "bool") (.type "bool") = some true := rfl
theorem kit_bool_str : PySem.W.kitOne K (.type "bool") (.type "str") = some false := rfl
theorem kit_bool_tuple : PySem.W.kitOne K (.type "bool") (.type "tuple") = some false := rfl
theorem kit_bool_list : PySem.W.kitOne K (.type "bool") (.type "list") = some false := rfl
theorem kit_bool_dict : PySem.W.kitOne K (.type "bool") (.type "dict") = some false := rfl
theorem kit_int_int : PySem.W.kitOne K (.type "int") (.type "int") = some true := rfl
theorem kit_int_bool : PySem.W.kitOne K (.type "int") (.type "bool") = some false := rfl
theorem kit_int_str : PySem.W.kitOne K (.type "int") (.type "str") = some false := rfl
theorem kit_int_tuple : PySem.W.kitOne K (.type "int") (.type "tuple") = some false := rfl
theorem kit_int_list : PySem.W.kitOne K (.type "int") (.type "list") = some false := rfl
theorem kit_int_dict : PySem.W.kitOne K (.type "int") (.type "dict") = some false := rfl
theorem kit_str_int : PySem.W.kitOne K (.type "str") (.type "int") = some false := rfl
theorem kit_str_bool : PySem.W.kitOne K (.type "str") (.type "bool") = some false := rfl
theorem kit_str_str : PySem.W.kitOne K (.type "str") (.type "str") = some true := rfl
theorem kit_str_tuple : PySem.W.kitOne K (.type "str") (.type "tuple") = some false := rfl
theorem kit_str_list : PySem.W.kitOne K (.type "str") (.type "list") = some false := rfl
theorem kit_str_dict : PySem.W.kitOne K (.type "str") (.type "dict") = some false := rfl
theorem kit_list_int : PySem.W.kitOne K (.type "list") (.type "int") = some false := rfl
theorem kit_list_bool : PySem.W.kitOne K (.type "list") (.type "bool") = some false := rfl
theorem kit_list_str : PySem.W.kitOne K (.type "list") (.type "str") = some false := rfl
theorem kit_list_tuple : PySem.W.kitOne K (.type "list") (.type "tuple") = some false := rfl
theorem kit_list_list : PySem.W.kitOne K (.type "list") (.type "list") = some true := rfl
theorem kit_list_dict : PySem.W.kitOne K (.type "list") (.type "dict") = some false := rfl
theorem kit_tuple_int : PySem.W.kitOne K (.type "tuple") (.type "int") = some false := rfl
theorem kit_tuple_bool : PySem.W.kitOne K (.type "tuple") (.type "bool") = some false := rfl
theorem kit_tuple_str : PySem.W.kitOne K (.type "tuple") (.type "str") = some false := rfl
theorem kit_tuple_tuple : PySem.W.kitOne K (.type "tuple") (.type "tuple") = some true := rfl
theorem kit_tuple_list : PySem.W.kitOne K (.type "tuple") (.type "list") = some false := rfl
theorem kit_tuple_dict : PySem.W.kitOne K (.type "tuple") (.type "dict") = some false := rfl
theorem kit_dict_int : PySem.W.kitOne K (.type "dict") (.type "int") = some false := rfl
theorem kit_dict_bool : PySem.W.kitOne K (.type "dict") (.type "bool") = some false := rfl
theorem kit_dict_str : PySem.W.kitOne K (.type "dict") (.type "str") = some false := rfl
theorem kit_dict_tuple : PySem.W.kitOne K (.type "dict") (.type "tuple") = some false := rfl
theorem kit_dict_list : PySem.W.kitOne K (.type "dict") (.type "list") = some false := rfl
theorem kit_dict_dict : PySem.W.kitOne K (.type "dict") (.type "dict") = some true := rfl
end
end WX
namespace WX
theorem iteNF {A B : Prop} (h : A) : if (!false) = true then A else B := by
  rw [if_pos (by rfl)]
  exact h
theorem iteNT {A B : Prop} (h : B) : if (!true) = true then A else B := by
  rw [if_neg (by decide)]
  exact h
theorem iteD {c A B : Prop} [Decidable c] (h1 : c → A) (h2 : ¬ c → B) : if decide c = true then A else B := by
  by_cases h : c
  · rw [if_pos (decide_eq_true h)]
    exact h1 h
  · rw [if_neg (by rw [decide_eq_false h]; exact Bool.false_ne_true)]
    exact h2 h
theorem iteND {c A B : Prop} [Decidable c] (h1 : ¬ c → A) (h2 : c → B) : if (!decide c) = true then A else B := by
  by_cases h : c
  · rw [decide_eq_true h, if_neg (by decide)]
    exact h2 h
  · rw [decide_eq_false h, if_pos (by rfl)]
    exact h1 h
theorem iteB {b : Bool} {A B : Prop} (h1 : b = true → A) (h2 : b = false → B) : if b = true then A else B := by
  cases b with
  | true => rw [if_pos rfl]; exact h1 rfl
  | false => rw [if_neg Bool.false_ne_true]; exact h2 rfl
end WX
namespace WX
open PySem PySem.Spec PyProof.Rows L2
/-- nothing is tracked, or the script alone -/
def scH (a : Addr) (t : Option HO) : Hp := fun b => if b = a then t else none
theorem scH_at {a : Addr} {t : Option HO} : scH a t a = t := if_pos rfl
theorem scH_off {a b : Addr} {t : Option HO} (h : b ≠ a) : scH a t b = none := if_neg h
section
variable {P : Program} {w : World} {K : PySem.W.Frag} {mg mb : Str → Option Value} {k : Nat} {fa a : Addr} {fd : FuncData} {x : Str} {sp : Sp} {s1 : Shared} {vs : List Value} {ns : List Int}
/-- the law's own call, by its promise: t is what is tracked of the script -/
theorem law_core (t : Option HO) (inK : K.In s1.heap) (gl : s1.heap.Ns mainGlobals mg) (bl : s1.heap.Ns builtinsNs mb) (bb : ∀ x : Str, x ≠ "__name__" → mb x = bootBuiltins x) (lim : s1.heap.NoLimit) (gens : s1.gens = #[])
    (ob : s1.heap.get? a = some { cls := .type "list", data := .seq vs.toArray }) (ht : t = none ∨ ∃ xs, t = some (.frz { cls := .type "list", data := .seq vs.toArray } (.lst xs))) (hk : t ≠ none → K.lookup a = none) (hok : HOk P w (scH a t) s1.heap) (room : Room k callerA)
    (F : ∀ base : Heap, K.In base → base.Ns mainGlobals mg → FnG P w K mg base CX0 k fa fd [x] sp) (bd : ∀ (s : Shared) (u : Value), BindsTo s fd ⟨[u], []⟩ [(x, u)]) (want : sp [.ref a] (scH a t) (fun v _ => v = .bl true) fun _ _ _ => False) :
    codeAny (model P w) callerA (.call (.ref fa) ⟨[.ref a], []⟩) (fun r s' => r = .ok (.ret (.bool true)) ∧ OldK s1.heap s'.heap ∧ s'.os = s1.os ∧ AllBare s'.gens) s1 := by
  have off : ∀ b, scH a t b ≠ none → b = a := fun b n => Classical.byContradiction fun z => n (scH_off z)
  -- a namespace is not the script
  have dic : ∀ {b : Addr} {m : Str → Option Value}, s1.heap.Ns b m → (hidT s1.heap (scH a t)).Ns b m := by
    rintro b m ⟨o, es, ep, q, dq, rest⟩
    have free : scH a t b = none := by
      by_cases z : b = a
      · rw [z, ob] at q
        cases q
        cases dq
      · exact scH_off z
    exact ⟨o, es, ep, hidT_get q free, dq, rest⟩
  have Kb : K.In (hidT s1.heap (scH a t)) := by
    intro b o q
    refine hidT_get (inK b o q) ?_
    by_cases z : scH a t b = none
    · exact z
    · have e := off b z
      subst e
      rw [hk (by rw [← scH_at (a := b) (t := t)]; exact z)] at q
      cases q
  have md : Mod K mg (hidT s1.heap (scH a t)) := ⟨Kb, dic gl, ⟨mb, dic bl, bb⟩, lim.elim fun mc h => ⟨mc, dic h.1, h.2⟩⟩
  have en : Env0 P w K mg (hidT s1.heap (scH a t)) callerA [] s1 (scH a t) := by
    refine ⟨rfl, md, fun b o q => of_hidT q, Nat.le_of_eq (hidT_size _ _), trivial, ?_, hok, .of_eq gens⟩
    intro b m
    cases m
  refine codeAny_mono ((F _ Kb (dic gl)).go callerA [] s1 (scH a t) ⟨[.ref a], []⟩ [.ref a] [.ref a] _ _ rfl room en (bd s1 (.ref a)) (.cons rfl .nil) want) ?_
  intro r s2 q
  match r, q with
  | .error e, q => exact q.elim
  | .ok .next, q => exact q.elim
  | .ok .brk, q => exact q.elim
  | .ok .cont, q => exact q.elim
  | .ok (.ret u), ⟨v, H2, os, bare, un, ok2, rv, ev⟩ =>
    have ev' : v = .bl true := ev
    subst ev'
    have eu : u = Value.bool true := rv
    subst eu
    refine ⟨rfl, OldK.of_keep ?_, os, bare⟩
    intro b o old
    by_cases z : scH a t b = none
    · exact un.keep b o old z (fun m => nomatch m) (fun m => nomatch m)
    · have e := off b z
      subst e
      rcases ht with h0 | ⟨xs, h0⟩
      · exact absurd (scH_at.trans h0) z
      · rw [ob] at old
        cases old
        exact (ok2 b _ (un.frzs b _ _ (scH_at.trans h0))).1
end
/-- the goal that k_head leaves, from the law's promise -/
theorem walkG {l : PySem.W.OpenLaw} {n k : Nat} {q : Program} {loose : List Str} {XP : (Str → Option Value) → Heap → Prop} {YP : World → Heap → Prop} {d : DefRec} {K : Params → PySem.W.Frag} {sp : PySem.W.Frag → Sp} {x : Str}
    (most : l.most = some n) (small : n ≤ sizeLine) (nodef : d.params.defaults = []) (room : Room k callerA) (hY : ∀ (w : World) (h : Heap), YP w h → (K w.params).In h)
    (F : ∀ (w : World) (mg : Str → Option Value) (fa : Addr) (h : Heap), (K w.params).In h → h.Ns mainGlobals mg → mg d.name = some (.ref fa) →
      ∃ fd : FuncData, (∀ (s : Shared) (u : Value), BindsTo s fd ⟨[u], []⟩ [(x, u)]) ∧ ∀ base : Heap, (K w.params).In base → base.Ns mainGlobals mg → FnG l.prog w (K w.params) mg base CX0 k fa fd [x] (sp (K w.params)))
    (want : ∀ (K : PySem.W.Frag) (H : Hp) (a : Addr) (ns : List Int), ns.length ≤ n → SqL K H a (ns.map V.int) → sp K [.ref a] H (fun v _ => v = .bl true) fun _ _ _ => False) :
    PySem.W.WalkO q loose XP YP l.row.toRowW d [] (fun f vs => PySem.call f vs) := by
  refine Att.attach_call most nodef ?_
  intro w s0 s1 mg mb fa o pm cd doc a vs ns G Y _ _ _ hmg ob hin len gens
  have inK := hY w _ Y
  obtain ⟨fd, bd, hF⟩ := F w mg fa _ inK G.T.g hmg
  have rv := vals_ints hin
  have lv := rv.length
  rw [List.length_map] at lv
  have sz : (ns.map V.int).length ≤ sizeLine := by rw [List.length_map]; exact Nat.le_trans len small
  cases hk : (K w.params).lookup a with
  | some ok =>
    have e := inK a ok hk
    rw [ob] at e
    cases e
    refine law_core none inK G.T.g G.T.b G.T.builtins G.T.nolimit gens ob (Or.inl rfl) (fun z => absurd rfl z) ?_ room hF bd (want _ _ a ns len (Or.inr ⟨_, vs.toArray, _, hk, rfl, rfl, rfl, ?_, ?_⟩))
    · intro b u z
      unfold scH at z
      split at z <;> cases z
    · rw [List.size_toArray, ← lv]
      exact Nat.le_trans len small
    · exact rv
  | none =>
    refine law_core (some (.frz { cls := .type "list", data := .seq vs.toArray } (.lst (ns.map V.int)))) inK G.T.g G.T.b G.T.builtins G.T.nolimit gens ob (Or.inr ⟨_, rfl⟩) (fun _ => hk) ?_ room hF bd (want _ _ a ns len (Or.inl (Or.inr ⟨_, scH_at⟩)))
    intro b u z
    by_cases hb : b = a
    · subst hb
      rw [scH_at] at z
      cases z
      exact ⟨ob, sz, vs, _, rv, ob⟩
    · rw [scH_off hb] at z
      cases z
end WX
namespace WX
open PySem PySem.Spec PyProof.Rows L2
section
variable {X : Cx} {σ : L2.St} {H : Hp} {Q : VK}
theorem o_les {i j : Str} (h : Q (.bl (!decide (j.cps.toList < i.cps.toList))) H) : wO X (compareOp .LtE) (.str i) (.str j) H Q := by
  constructor
  intro pins s σ v u I rx ry
  obtain ⟨t, rfl⟩ := rx
  obtain ⟨t', rfl⟩ := ry
  exact PySem.P.le_str ⟨.bl _, H, I, rfl, h⟩
/-- repr of data -/
theorem c_repr {x : V} {d : PyData} (hG : X.A.guards = some []) (hu : X.A.units + (d.depth + 1) < cLine) (hd : Dp X.K H x d) (hs : d.showable = true) (hn : d.hasDict = false) (hz : d.shown.length ≤ sizeLine) (h : Q (.str d.shown) H) : wC X (.builtin "repr") [x] H Q := by
  constructor
  intro pins s σ us I r
  obtain ⟨u, rfl, rx⟩ := vals1 r
  cases hd with
  | non =>
    cases (show u = Value.none from rx)
    simp only [PyData.shown] at h
    exact PySem.P.repr_of_none ⟨.str _, H, I.tok _, ⟨_, rfl⟩, h⟩
  | bl b =>
    cases (show u = Value.bool b from rx)
    simp only [PyData.shown] at h
    refine PySem.P.repr_of_bool ⟨.str _, H, I.tok _, ⟨_, rfl⟩, ?_⟩
    cases b <;> exact h
  | int i =>
    obtain ⟨t, rfl⟩ := rx
    simp only [PyData.shown] at h
    simp only [PyData.showable, decide_eq_true_eq] at hs
    exact PySem.P.repr_of_int hs ⟨.str _, H, I.tok _, ⟨_, rfl⟩, h⟩
  | str y =>
    obtain ⟨t, rfl⟩ := rx
    simp only [PyData.shown] at h hz
    exact PySem.P.repr_of_str ⟨.str _, H, I.tok _, ⟨_, rfl⟩, h⟩ hz
  | lst h1 h2 =>
    cases (show u = Value.ref _ from rx)
    obtain ⟨as, rd⟩ := Dp.reads I _ _ _ (Dp.lst h1 h2) rfl
    exact repr_of_reads' rd hs (fun z => absurd (hn.symm.trans z) Bool.false_ne_true) hG hu (fun _ _ q => q) (fun h' u tk hk => ⟨.str _, H, I.kept hk, ⟨_, rfl⟩, h⟩) hz
  | tup h1 h2 =>
    cases (show u = Value.ref _ from rx)
    obtain ⟨as, rd⟩ := Dp.reads I _ _ _ (Dp.tup h1 h2) rfl
    exact repr_of_reads' rd hs (fun z => absurd (hn.symm.trans z) Bool.false_ne_true) hG hu (fun _ _ q => q) (fun h' u tk hk => ⟨.str _, H, I.kept hk, ⟨_, rfl⟩, h⟩) hz
end
end WX
namespace WX
open PySem PySem.Spec PyProof.Rows L2
section
variable {X : Cx} {σ : L2.St} {H : Hp} {Q : VK}
theorem o_powW {i j : Int} (h0 : 0 ≤ j) (hz : (Builtin.Int.intBits i : Int) * j ≤ 2 ^ 27) (h : Q (.int (i ^ j.toNat)) H) : wO X (binaryOp .Pow) (.int i) (.int j) H Q := by
  constructor
  intro pins s σ v u I rx ry
  obtain ⟨t, rfl⟩ := rx
  obtain ⟨t', rfl⟩ := ry
  exact pow_int h0 hz ⟨.int _, H, I.tok _, ⟨_, rfl⟩, h⟩
theorem o_fdivW {i j : Int} (hc : CDivW i j) (h : Q (.int (i / j)) H) : wO X (binaryOp .FloorDiv) (.int i) (.int j) H Q := toO op_fdivW ⟨i, j, rfl, rfl, hc, h⟩
end
/-! ### what changes -/
/-- all but p stands -/
def Ch (p : Addr) (H H' : Hp) : Prop := ∀ b o, b ≠ p → H b = some o → H' b = some o
theorem Ch.refl {p : Addr} {H : Hp} : Ch p H H := fun _ _ _ h => h
theorem Ch.trans {p : Addr} {H H1 H2 : Hp} (a : Ch p H H1) (b : Ch p H1 H2) : Ch p H H2 := fun x o hx h => b x o hx (a x o hx h)
theorem Ch.new {p q : Addr} {H H1 : Hp} {o : HO} (a : Ch p H H1) (hq : H1 q = none) : Ch p H (upd H1 q o) := fun x u hx h => upd_keep hq (a x u hx h)
theorem Ch.put {p : Addr} {H H1 : Hp} {o : HO} (a : Ch p H H1) : Ch p H (upd H1 p o) := fun x u hx h => by
  rw [upd_ne hx]
  exact a x u hx h
theorem Ch.of {p : Addr} {H H1 : Hp} (a : Same H H1) : Ch p H H1 := fun x o _ h => a x o h
theorem _root_.L2.Same.new {q : Addr} {H H1 : Hp} {o : HO} (a : Same H H1) (hq : H1 q = none) : Same H (upd H1 q o) := fun x u h => upd_keep hq (a x u h)
theorem _root_.L2.Same.ch {p : Addr} {H H1 H2 : Hp} (a : Same H H1) (h0 : H p = none) (c : Ch p H1 H2) : Same H H2 := fun x u h => c x u (ne_of_none h h0) (a x u h)
/-- the dice: a list of three ints -/
def Dice (H : Hp) (p : Addr) : Prop := ∃ x y z : Int, H p = some (.lst [.int x, .int y, .int z])
theorem Dice.new {H : Hp} {p q : Addr} {o : HO} (d : Dice H p) (hq : H q = none) : Dice (upd H q o) p := by
  obtain ⟨x, y, z, h⟩ := d
  exact ⟨x, y, z, upd_keep hq h⟩
theorem Dice.ne {H : Hp} {p q : Addr} {xs : List V} (d : Dice H p) (h : H q = some (.lst xs)) (hx : xs.length ≠ 3) : q ≠ p := by
  obtain ⟨x, y, z, e⟩ := d
  rintro rfl
  rw [e] at h
  cases h
  exact hx rfl
end WX
namespace WX
open PySem PySem.Spec PyProof.Rows L2
section
variable {X : Cx} {σ : L2.St} {H : Hp} {Q R : VK} {e : Expr}
theorem wE_mono (h : wE X e σ H R) (k : ∀ v H', R v H' → Q v H') : wE X e σ H Q := ⟨fun pins s I => thn (h.run pins s I) fun _ _ ⟨v, H', I', r, q⟩ => ⟨v, H', I', r, k v H' q⟩⟩
theorem wT_mono {Q R : Bool → Hp → Prop} (h : wT X e σ H R) (k : ∀ v H', R v H' → Q v H') : wT X e σ H Q := ⟨fun pins s I => thn (h.run pins s I) fun _ _ ⟨H', I', q⟩ => ⟨H', I', k _ H' q⟩⟩
end
theorem at_ints {xs : List Int} {i : Int} (h0 : 0 ≤ i) (h : i < ((xs.map V.int).length : Int)) : ∃ c : Int, atI (xs.map V.int) i = some (.int c) := by
  rw [List.length_map] at h
  obtain ⟨n, rfl⟩ : ∃ n : Nat, i = (n : Int) := ⟨i.toNat, by omega⟩
  have h2 : n < xs.length := by omega
  refine ⟨xs[n], atI_nat ?_⟩
  rw [List.getElem?_map, List.getElem?_eq_getElem h2]
  rfl
theorem at_vs {xs : List V} {r : Int} (h0 : 0 ≤ r) (h : r < (xs.length : Int)) : ∃ (n : Nat) (v : V), xs[n]? = some v ∧ atI xs r = some v := by
  obtain ⟨n, rfl⟩ : ∃ n : Nat, r = (n : Int) := ⟨r.toNat, by omega⟩
  have h2 : n < xs.length := by omega
  exact ⟨n, xs[n], List.getElem?_eq_getElem h2, atI_nat (List.getElem?_eq_getElem h2)⟩
end WX
namespace WX
open PySem PySem.Spec PyProof.Rows L2
/-! ### comprehensions -/
structure Blk (X X' : Cx) (scope : Scope) : Prop where
  prog : X'.prog = X.prog
  w : X'.w = X.w
  K : X'.K = X.K
  mg : X'.mg = X.mg
  base : X'.base = X.base
  A : X'.A = X.A
  N : X'.N = X.N
  sc : X'.env.scope = relS scope X.env.scope
  calm : X'.calm = X.calm
  xe : X'.xe = fun _ _ => False
section
variable {X : Cx} {σ : L2.St} {H : Hp} {Q : VK} {pos : Pos} {elt iter : Expr} {scope : Scope} {x : Str} {j : Nat} {px : Pos}
theorem blk_mk (s : Shared) (H : Hp) (C : Addr) (cl : List (Str × Addr)) (fp : List Addr) : Blk X (X.blk s H scope (compEnvC scope cl C X.env) fp) scope := ⟨rfl, rfl, rfl, rfl, rfl, rfl, rfl, rfl, rfl, rfl⟩
theorem Blk.bd {X' : Cx} {N : List Str} {sc : Scope} {k : Nat} (b : Blk X X' scope) (B : Bd X N sc k) : Bd X' N (relS scope sc) k := by
  obtain ⟨e1, e2, e3, e4, e5, e6, e7, e8, e9, e10⟩ := b
  obtain ⟨b1, b2, b3, b4, b5, b6⟩ := B
  refine ⟨e7.trans b1, by rw [e7]; exact b2, by rw [e8, b3], e9.trans b4, by rw [e6]; exact b5, ?_⟩
  rw [e10]
  exact PassesOwn.never
/-- what the element gives, in whatever block -/
def wEb (X : Cx) (scope : Scope) (e : Expr) : TE := fun σ H Q => ∀ X', Blk X X' scope → wE X' e σ H Q
theorem peb_self {e : Expr} (s : Shared) (H : Hp) (C : Addr) (cl : List (Str × Addr)) (fp : List Addr) : PE (X.blk s H scope (compEnvC scope cl C X.env) fp) e (wEb X scope e) := ⟨fun pins s1 σ H1 Q I h => (h _ (blk_mk s H C cl fp)).run pins s1 I⟩
def wTb (X : Cx) (scope : Scope) (e : Expr) : TT := fun σ H Q => ∀ X', Blk X X' scope → wT X' e σ H Q
theorem ptb_self {e : Expr} (s : Shared) (H : Hp) (C : Addr) (cl : List (Str × Addr)) (fp : List Addr) : PT (X.blk s H scope (compEnvC scope cl C X.env) fp) e (wTb X scope e) := ⟨fun pins s1 σ H1 Q I h => (h _ (blk_mk s H C cl fp)).run pins s1 I⟩
theorem pgb_name {pos : Pos} (nd : X.N.Nodup) (hj : X.N[j]? = some x) (hx : scope.names.lookup x = some .local) (s : Shared) (H : Hp) (C : Addr) (cl : List (Str × Addr)) (fp : List Addr) : PG (X.blk s H scope (compEnvC scope cl C X.env) fp) (.Name x pos) (gName j) := by
  have hl : (relS scope X.env.scope).names.lookup x = some .local := lookup_relS_keep (by decide) hx
  exact pg_name nd hj (Or.inl hl) (.inr hl)
theorem wipe_one {σ : L2.St} {v : V} : wipe ((wipe σ [j]).set j (some v)) [j] = wipe σ [j] ∧ (wipe σ [j]).set j (some v) = σ.set j (some v) := by
  show (((σ.set j none).set j (some v)).set j none) = σ.set j none ∧ (σ.set j none).set j (some v) = σ.set j (some v)
  rw [List.set_set, List.set_set]
  exact ⟨rfl, List.set_set ..⟩
/-- over a tuple, every item kept -/
theorem lcT_read (h : wE X iter σ H fun v H1 => ∃ a xs, v = .ref a ∧ SqT X.K H1 a xs ∧ ∀ D, H1 D = none → ∃ Pv : Nat → Hp → Prop, Pv 0 (upd H1 D (.lst [])) ∧ (∀ i H, i ≤ xs.length → Pv i H → SqT X.K H a xs) ∧
    (∀ (i : Nat) (v : V) (H : Hp), xs[i]? = some v → Pv i H → wEb X scope elt (σ.set j (some v)) H fun y H4 => ∃ acc, H4 D = some (.lst acc) ∧ acc.length < sizeLine ∧ Pv (i + 1) (upd H4 D (.lst (acc ++ [y])))) ∧ ∀ H, Pv xs.length H → Q (.ref D) H) :
    tLc (iTup X.K (wE X iter)) (gName j) tYes (wEb X scope elt) [j] σ H Q := by
  refine wE_mono h ?_
  rintro v H1 ⟨a, xs, rfl, hs, k⟩
  refine ⟨a, rfl, ⟨xs, hs⟩, fun D hD => ?_⟩
  obtain ⟨Pv, p0, pk, pt, pe⟩ := k D hD
  refine lc_tup Pv p0 pk (fun i v H hi hp => ?_) pe
  obtain ⟨e1, e2⟩ := wipe_one (σ := σ) (v := v) (j := j)
  refine ⟨e1, ?_⟩
  rw [e2]
  exact pt i v H hi hp
theorem lcL_read (h : wE X iter σ H fun v H1 => ∃ a xs, v = .ref a ∧ SqL X.K H1 a xs ∧ ∀ D, H1 D = none → ∃ Pv : Nat → Hp → Prop, Pv 0 (upd H1 D (.lst [])) ∧ (∀ i H, i ≤ xs.length → Pv i H → SqL X.K H a xs) ∧
    (∀ (i : Nat) (v : V) (H : Hp), xs[i]? = some v → Pv i H → wEb X scope elt (σ.set j (some v)) H fun y H4 => ∃ acc, H4 D = some (.lst acc) ∧ acc.length < sizeLine ∧ Pv (i + 1) (upd H4 D (.lst (acc ++ [y])))) ∧ ∀ H, Pv xs.length H → Q (.ref D) H) :
    tLc (iList X.K (wE X iter)) (gName j) tYes (wEb X scope elt) [j] σ H Q := by
  refine wE_mono h ?_
  rintro v H1 ⟨a, xs, rfl, hs, k⟩
  refine ⟨a, rfl, ⟨xs, hs⟩, fun D hD => ?_⟩
  obtain ⟨Pv, p0, pk, pt, pe⟩ := k D hD
  refine lc_list Pv p0 pk (fun i v H hi hp => ?_) pe
  obtain ⟨e1, e2⟩ := wipe_one (σ := σ) (v := v) (j := j)
  refine ⟨e1, ?_⟩
  rw [e2]
  exact pt i v H hi hp
/-- the elements make nothing: the list of their values -/
theorem lcT_map (h : wE X iter σ H fun v H1 => ∃ a xs ys, v = .ref a ∧ SqT X.K H1 a xs ∧ ys.length = xs.length ∧ xs.length < sizeLine ∧ ∀ D, H1 D = none →
    (∀ (i : Nat) (v : V) (H : Hp), xs[i]? = some v → (∀ b o, H1 b = some o → H b = some o) → wEb X scope elt (σ.set j (some v)) H fun y H4 => H4 = H ∧ ys[i]? = some y) ∧ Q (.ref D) (upd H1 D (.lst ys))) :
    tLc (iTup X.K (wE X iter)) (gName j) tYes (wEb X scope elt) [j] σ H Q := by
  refine lcT_read (wE_mono h ?_)
  rintro v H1 ⟨a, xs, ys, rfl, hs, hl, hz, k⟩
  refine ⟨a, xs, rfl, hs, fun D hD => ?_⟩
  obtain ⟨k1, k2⟩ := k D hD
  have keep : ∀ zs, Same H1 (upd H1 D (.lst zs)) := fun zs b o e => upd_keep hD e
  refine ⟨fun i H => H = upd H1 D (.lst (ys.take i)), rfl, fun i H _ e => ?_, fun i v H hv e X' bk => ?_, fun H e => ?_⟩
  · rw [e]
    rcases hs with (hs | ⟨o, hs⟩) | hs
    · exact Or.inl (Or.inl (keep _ _ _ hs))
    · exact Or.inl (Or.inr ⟨o, keep _ _ _ hs⟩)
    · exact Or.inr hs
  · subst e
    refine wE_mono (k1 i v _ hv (keep _) X' bk) ?_
    rintro y H4 ⟨rfl, hy⟩
    refine ⟨ys.take i, upd_same, ?_, ?_⟩
    · rw [List.length_take]; omega
    · show upd (upd H1 D (.lst (ys.take i))) D (.lst (ys.take i ++ [y])) = upd H1 D (.lst (ys.take (i + 1)))
      rw [upd_upd, List.take_add_one, hy]; rfl
  · rw [e, show xs.length = ys.length from hl.symm, List.take_length]
    exact k2
theorem lcL_map (h : wE X iter σ H fun v H1 => ∃ a xs ys, v = .ref a ∧ SqL X.K H1 a xs ∧ ys.length = xs.length ∧ xs.length < sizeLine ∧ ∀ D, H1 D = none →
    (∀ (i : Nat) (v : V) (H : Hp), xs[i]? = some v → (∀ b o, H1 b = some o → H b = some o) → wEb X scope elt (σ.set j (some v)) H fun y H4 => H4 = H ∧ ys[i]? = some y) ∧ Q (.ref D) (upd H1 D (.lst ys))) :
    tLc (iList X.K (wE X iter)) (gName j) tYes (wEb X scope elt) [j] σ H Q := by
  refine lcL_read (wE_mono h ?_)
  rintro v H1 ⟨a, xs, ys, rfl, hs, hl, hz, k⟩
  refine ⟨a, xs, rfl, hs, fun D hD => ?_⟩
  obtain ⟨k1, k2⟩ := k D hD
  have keep : ∀ zs, Same H1 (upd H1 D (.lst zs)) := fun zs b o e => upd_keep hD e
  refine ⟨fun i H => H = upd H1 D (.lst (ys.take i)), rfl, fun i H _ e => ?_, fun i v H hv e X' bk => ?_, fun H e => ?_⟩
  · rw [e]
    exact (keep _).seq hs
  · subst e
    refine wE_mono (k1 i v _ hv (keep _) X' bk) ?_
    rintro y H4 ⟨rfl, hy⟩
    refine ⟨ys.take i, upd_same, ?_, ?_⟩
    · rw [List.length_take]; omega
    · show upd (upd H1 D (.lst (ys.take i))) D (.lst (ys.take i ++ [y])) = upd H1 D (.lst (ys.take (i + 1)))
      rw [upd_upd, List.take_add_one, hy]; rfl
  · rw [e, show xs.length = ys.length from hl.symm, List.take_length]
    exact k2
variable {N : List Str} {sc : Scope} {k : Nat}
theorem e_lcT (j : Nat) (B : Bd X N sc k) (ok : BlkOk N sc scope [(x, j)]) (hj : N[j]? = some x) (hx : scope.names.lookup x = some .local) (h : tLc (iTup X.K (wE X iter)) (gName j) tYes (wEb X scope elt) [j] σ H Q) (hs : ∀ x, foldedSetIterable iter X.env x = pure x := by intro _; rfl) :
    wE X (.ListComp elt [⟨.Name x px, iter, [], 0⟩] scope pos) σ H Q :=
  toE (pe_lc (own := [(x, j)]) B.calm B.nd (pi_tup pe_self) (by rw [B.hN, B.sc]; exact ok) (pgb_name B.nd (B.slot j hj) hx) (fun _ _ _ _ _ => pts_nil) peb_self hs) h
theorem e_lcL (j : Nat) (B : Bd X N sc k) (ok : BlkOk N sc scope [(x, j)]) (hj : N[j]? = some x) (hx : scope.names.lookup x = some .local) (h : tLc (iList X.K (wE X iter)) (gName j) tYes (wEb X scope elt) [j] σ H Q) (hs : ∀ x, foldedSetIterable iter X.env x = pure x := by intro _; rfl) :
    wE X (.ListComp elt [⟨.Name x px, iter, [], 0⟩] scope pos) σ H Q :=
  toE (pe_lc (own := [(x, j)]) B.calm B.nd (pi_list pe_self) (by rw [B.hN, B.sc]; exact ok) (pgb_name B.nd (B.slot j hj) hx) (fun _ _ _ _ _ => pts_nil) peb_self hs) h
/-- name = [..] on one row -/
theorem s_lcT (j : Nat) {D : Ends} {y : Str} {py spos : Pos} (i : Nat) (B : Bd X N sc k) (ok : BlkOk N sc scope [(x, j)]) (hj : N[j]? = some x) (hx : scope.names.lookup x = some .local) (hy : X.N[i]? = some y) (hyl : X.env.scope.names.lookup y = some .local)
    (hsw : swapsWith (.ListComp elt [⟨.Name x px, iter, [], 0⟩] scope pos) (some (.Name y py)) spos.line X.env = pure true)
    (h : tLc (iTup X.K (wE X iter)) (gName j) tYes (wEb X scope elt) [j] σ H fun v H1 => D.nx (σ.set i (some v)) H1) (hs : ∀ x, foldedSetIterable iter X.env x = pure x := by intro _; rfl) : wS X (.Assign [.Name y py] (.ListComp elt [⟨.Name x px, iter, [], 0⟩] scope pos) spos) D σ H :=
  toS (ps_setLc (own := [(x, j)]) B.calm B.nd hy hyl hsw (pi_tup pe_self) (by rw [B.hN, B.sc]; exact ok) (pgb_name B.nd (B.slot j hj) hx) (fun _ _ _ _ _ => pts_nil) peb_self hs) h
theorem s_lcL (j : Nat) {D : Ends} {y : Str} {py spos : Pos} (i : Nat) (B : Bd X N sc k) (ok : BlkOk N sc scope [(x, j)]) (hj : N[j]? = some x) (hx : scope.names.lookup x = some .local) (hy : X.N[i]? = some y) (hyl : X.env.scope.names.lookup y = some .local)
    (hsw : swapsWith (.ListComp elt [⟨.Name x px, iter, [], 0⟩] scope pos) (some (.Name y py)) spos.line X.env = pure true)
    (h : tLc (iList X.K (wE X iter)) (gName j) tYes (wEb X scope elt) [j] σ H fun v H1 => D.nx (σ.set i (some v)) H1) (hs : ∀ x, foldedSetIterable iter X.env x = pure x := by intro _; rfl) : wS X (.Assign [.Name y py] (.ListComp elt [⟨.Name x px, iter, [], 0⟩] scope pos) spos) D σ H :=
  toS (ps_setLc (own := [(x, j)]) B.calm B.nd hy hyl hsw (pi_list pe_self) (by rw [B.hN, B.sc]; exact ok) (pgb_name B.nd (B.slot j hj) hx) (fun _ _ _ _ _ => pts_nil) peb_self hs) h
/-- {k: v}, one written key -/
theorem e_dict1 {ek ev : Expr} {dpos : Pos} (h : ∀ p, H p = none → wE X ek σ (upd H p (.dK [])) fun a H1 => wE X ev σ H1 fun b H2 => H2 p = some (.dK []) ∧ ∃ q : L2.Key, a = kV q ∧ Q (.ref p) (upd H2 p (.dK [(q, b)]))) : wE X (.Dict [some ek] [ev] dpos) σ H Q := by
  refine toE (pe_disp (pps_cons pe_self pe_self pps_nil) (by rfl) (by rfl) (by simp) (by show 1 ≤ 15; decide)) ?_
  intro p hp
  refine wE_mono (h p hp) ?_
  intro a H1 h1
  refine wE_mono h1 ?_
  rintro b H2 ⟨e, q, rfl, k⟩
  exact ⟨e, [(q, b)], rfl, (by show 1 ≤ 15; decide), k⟩
theorem o_rep {l : Addr} {xs : List V} {k : Int} (h1 : H l = some (.lst xs)) (h2 : -(2 ^ 63) ≤ k) (h3 : k < 2 ^ 63) (h4 : xs.length * k.toNat ≤ sizeLine) (h : ∀ p, H p = none → Q (.ref p) (upd H p (.lst (List.replicate k.toNat xs).flatten))) : wO X (binaryOp .Mult) (.ref l) (.int k) H Q :=
  toO op_rep ⟨l, k, xs, rfl, rfl, h1, h2, h3, h4, h⟩
theorem o_eqD {a b : V} {d e : PyData} (hu : X.A.units + 64 < cLine) (h1 : Dp X.K H a d) (h2 : Dp X.K H b e) (s1 : SeqAt.shaped d = true) (s2 : SeqAt.shaped e = true) (h : Q (.bl (PyData.eqv d e)) H) : wO X (compareOp .Eq) a b H Q := toO (op_eqD hu) ⟨d, e, h1, h2, s1, s2, h⟩
theorem o_neD {a b : V} {d e : PyData} (hu : X.A.units + 64 < cLine) (h1 : Dp X.K H a d) (h2 : Dp X.K H b e) (s1 : SeqAt.shaped d = true) (s2 : SeqAt.shaped e = true) (h : Q (.bl (!PyData.eqv d e)) H) : wO X (compareOp .NotEq) a b H Q := toO (op_neD hu) ⟨d, e, h1, h2, s1, s2, h⟩
end
end WX
namespace WX
open PySem PySem.Spec PyProof.Rows L2
theorem env_eta {env : Env} {sc : Scope} (h : env.scope = sc) : env = { env with scope := sc } := by
  cases env
  cases h
  rfl
end WX
namespace WX
open PySem PySem.Spec PyProof.Rows L2
section
variable {X : Cx} {σ : L2.St} {H : Hp} {Q : VK}
theorem e_dict_i {i : Int} {a2 : Nat} {a3 : Pos} {ev : Expr} {dpos : Pos} (h : ∀ p, H p = none → wE X ev σ (upd H p (.dK [])) fun b H2 => H2 = upd H p (.dK []) ∧ Q (.ref p) (upd H p (.dK [(Sum.inl i, b)]))) : wE X (.Dict [some (.Constant (.int i) a2 a3)] [ev] dpos) σ H Q := by
  refine e_dict1 fun p hp => e_int (wE_mono (h p hp) ?_)
  rintro v H' ⟨rfl, k⟩
  exact ⟨upd_same, Sum.inl i, rfl, by rw [upd_upd]; exact k⟩
theorem e_dict_s {i : Str} {a2 : Nat} {a3 : Pos} {ev : Expr} {dpos : Pos} (h : ∀ p, H p = none → wE X ev σ (upd H p (.dK [])) fun b H2 => H2 = upd H p (.dK []) ∧ Q (.ref p) (upd H p (.dK [(Sum.inr i, b)]))) : wE X (.Dict [some (.Constant (.str i) a2 a3)] [ev] dpos) σ H Q := by
  refine e_dict1 fun p hp => e_str (wE_mono (h p hp) ?_)
  rintro v H' ⟨rfl, k⟩
  exact ⟨upd_same, Sum.inr i, rfl, by rw [upd_upd]; exact k⟩
end
end WX

namespace WX
open PySem PySem.Spec PyProof.Rows L2
/-! ### defs of the program: whatever runs around them -/
structure Dk (P : Program) (w : World) (K : PySem.W.Frag) (mg : Str → Option Value) (base : Heap) (x : Str) (k : Nat) (ps : List Str) (sp : Sp) : Prop where
  ex : ∃ (f : Addr) (fd : FuncData), FnOk P w K mg base CX0 k f fd ps sp ∧ mg x = some (.ref f) ∧ PySem.W.keepIn K (.ref f) = true ∧ Binds K fd ps []
section
variable {X : Cx} {σ : L2.St} {H : Hp} {Q : VK} {pos : Pos} {e : Expr} {es : List Expr}
theorem e_callk {x : Str} {p : Pos} {k : Nat} {ps : List Str} {sp : Sp} (F : Dk X.prog X.w X.K X.mg X.base x k ps sp) (hr : Room k X.A) (hg : Gl X x) (h : wA X (e :: es) σ H fun vs H1 => sp vs H1 Q E0) (hdb : (x == ("__debug__" : Str)) = false := by decide)
    (he : starEach (e :: es) X.env = (false, eval e X.env) :: starEach es X.env := by rfl) (hpl : (backTo pos (starEach es X.env)).any (·.1) = false := by rfl) : wE X (.Call (.Name x p) (e :: es) [] pos) σ H Q := by
  obtain ⟨f, fd, G, hm, hk, hb⟩ := F.ex
  refine toE (pe_call G hr hg hm hk hb .nil pass0 pa_self hdb he hpl) ?_
  have e1 : (fun vs (H1 : Hp) => sp (vs ++ []) H1 Q E0) = fun vs H1 => sp vs H1 Q E0 := by
    funext vs H1
    rw [List.append_nil]
  show wA X (e :: es) σ H (fun vs H1 => sp (vs ++ []) H1 Q E0)
  rw [e1]
  exact h
theorem e_callk0 {x : Str} {p : Pos} {k : Nat} {ps : List Str} {sp : Sp} (F : Dk X.prog X.w X.K X.mg X.base x k ps sp) (hr : Room k X.A) (hg : Gl X x) (h : sp [] H Q E0) (hdb : (x == ("__debug__" : Str)) = false := by decide) : wE X (.Call (.Name x p) [] [] pos) σ H Q := by
  obtain ⟨f, fd, G, hm, hk, hb⟩ := F.ex
  exact toE (pe_call0 G hr hg hm hk hb .nil pass0 hdb) h
end
/-- a body's promise in whatever surroundings -/
theorem fnk_of {P : Program} {w : World} {K : PySem.W.Frag} {mg : Str → Option Value} {base : Heap} {x qual : Str} {st : Stmt} {f : Addr} {fd : FuncData} {N ps : List Str} {k : Nat} {sp : Sp} (F : L2.Fun K x qual st f fd) (S : FnScope N ps (defScope st)) (len : ∀ vs H Q E, sp vs H Q E → vs.length = ps.length)
    (body : ∀ X : Cx, X.prog = P → X.w = w → X.K = K → X.mg = mg → X.base = base → Bd X N (defScope st) k → (∀ x, X.fn x = true) → ∀ vs H Q E, sp vs H Q E → wB X (defBody st) { nx := fun _ H' => Q .non H', rt := Q } (start N vs) H) : FnOk P w K mg base CX0 (k + 1) f fd ps sp :=
  F.ok S len fun cdv A outer s H vs Q E hr h => ⟨_, pss_self, body _ rfl rfl rfl rfl rfl ⟨rfl, S.nd, rfl, rfl, hr, PassesOwn.never⟩ (fun _ => rfl) vs H Q E h⟩
theorem dk_of {P : Program} {w : World} {K : PySem.W.Frag} {mg : Str → Option Value} {base : Heap} {x qual : Str} {st : Stmt} {N ps : List Str} {k : Nat} {sp : Sp} (hx : ∃ f fd, L2.Fun K x qual st f fd ∧ mg x = some (.ref f)) (S : FnScope N ps (defScope st))
    (hb : ∀ (kV doc pm : Value) (an : Option Addr) (cdv ct : Value) (us : List Value), us.length = ps.length → bindArgs (PySem.W.fnOf x qual (defArgs st) (defBody st) (defScope st) .none kV doc pm an cdv ct) ⟨us, []⟩ = pure (ps.zip us))
    (len : ∀ vs H Q E, sp vs H Q E → vs.length = ps.length)
    (body : ∀ X : Cx, X.prog = P → X.w = w → X.K = K → X.mg = mg → X.base = base → Bd X N (defScope st) k → (∀ x, X.fn x = true) → ∀ vs H Q E, sp vs H Q E → wB X (defBody st) { nx := fun _ H' => Q .non H', rt := Q } (start N vs) H) : Dk P w K mg base x (k + 1) ps sp := by
  obtain ⟨f, fd, F, hm⟩ := hx
  exact ⟨f, fd, fnk_of F S len body, hm, F.kp, F.binds hb⟩
end WX

set_option Elab.async false
set_option linter.all false
set_option maxRecDepth 100000
set_option maxHeartbeats 4000000
namespace WX
open PySem PySem.Spec PyProof.Rows L2
/-! ### data that stand -/
theorem same_tup {K : PySem.W.Frag} {H H' : Hp} {a : Addr} {xs : List V} (e : Same H H') (h : SqT K H a xs) : SqT K H' a xs := by
  rcases h with (h | ⟨o, h⟩) | h
  · exact .inl (.inl (e _ _ h))
  · exact .inl (.inr ⟨o, e _ _ h⟩)
  · exact .inr h
mutual
theorem dp_same {K : PySem.W.Frag} {H H' : Hp} (e : Same H H') : ∀ {v : V} {d : PyData}, Dp K H v d → Dp K H' v d
  | _, _, .non => .non
  | _, _, .bl b => .bl b
  | _, _, .int i => .int i
  | _, _, .str x => .str x
  | _, _, .lst h a => .lst (Same.seq e h) (dpa_same e a)
  | _, _, .tup h a => .tup (same_tup e h) (dpa_same e a)
theorem dpa_same {K : PySem.W.Frag} {H H' : Hp} (e : Same H H') : ∀ {vs : List V} {ds : List PyData}, DpAll K H vs ds → DpAll K H' vs ds
  | _, _, .nil => .nil
  | _, _, .cons h a => .cons (dp_same e h) (dpa_same e a)
end
/-- p is no tuple -/
def NoTup (H : Hp) (p : Addr) : Prop := ∀ xs, H p ≠ some (.tup xs) ∧ ∀ o, H p ≠ some (.frz o (.tup xs))
theorem tup_ch {K : PySem.W.Frag} {H H' : Hp} {p a : Addr} {xs : List V} (c : Ch p H H') (np : NoTup H p) (h : SqT K H a xs) : SqT K H' a xs := by
  rcases h with (h | ⟨o, h⟩) | h
  · exact .inl (.inl (c _ _ (fun e => (np xs).1 (e ▸ h)) h))
  · exact .inl (.inr ⟨o, c _ _ (fun e => (np xs).2 o (e ▸ h)) h⟩)
  · exact .inr h
mutual
def noLst : PyData → Bool
  | .tuple ds => noLstAll ds
  | .list _ => false
  | .dict _ => false
  | _ => true
def noLstAll : List PyData → Bool
  | [] => true
  | d :: ds => noLst d && noLstAll ds
end
mutual
theorem dp_ch {K : PySem.W.Frag} {H H' : Hp} {p : Addr} (c : Ch p H H') (np : NoTup H p) : ∀ {v : V} {d : PyData}, noLst d = true → Dp K H v d → Dp K H' v d
  | _, _, _, .non => .non
  | _, _, _, .bl b => .bl b
  | _, _, _, .int i => .int i
  | _, _, _, .str x => .str x
  | _, _, n, .lst h a => by simp [noLst] at n
  | _, _, n, .tup h a => .tup (tup_ch c np h) (dpa_ch c np (by simpa [noLst] using n) a)
theorem dpa_ch {K : PySem.W.Frag} {H H' : Hp} {p : Addr} (c : Ch p H H') (np : NoTup H p) : ∀ {vs : List V} {ds : List PyData}, noLstAll ds = true → DpAll K H vs ds → DpAll K H' vs ds
  | _, _, _, .nil => .nil
  | _, _, n, .cons h a => by
    simp only [noLstAll, Bool.and_eq_true] at n
    exact .cons (dp_ch c np n.1 h) (dpa_ch c np n.2 a)
end
theorem Dice.noTup {H : Hp} {p : Addr} (d : Dice H p) : NoTup H p := by
  obtain ⟨x, y, z, e⟩ := d
  intro xs
  rw [e]
  refine ⟨?_, ?_⟩
  · intro h
    cases h
  · intro o h
    cases h
theorem dp_get {K : PySem.W.Frag} {H : Hp} : ∀ {vs : List V} {ds : List PyData} {i : Nat} {d : PyData}, DpAll K H vs ds → ds[i]? = some d → ∃ v, vs[i]? = some v ∧ Dp K H v d
  | _, _, _, _, .nil, h => by simp at h
  | _, _, 0, _, .cons a _, h => by simp at h; subst h; exact ⟨_, rfl, a⟩
  | _, _, i + 1, _, .cons _ t, h => by
    obtain ⟨v, h1, h2⟩ := dp_get (i := i) t (by simpa using h)
    exact ⟨v, by simpa using h1, h2⟩
theorem dp_len {K : PySem.W.Frag} {H : Hp} : ∀ {vs : List V} {ds : List PyData}, DpAll K H vs ds → vs.length = ds.length
  | _, _, .nil => rfl
  | _, _, .cons _ t => congrArg (· + 1) (dp_len t)
theorem dp_ints {K : PySem.W.Frag} {H : Hp} : ∀ (ns : List Int), DpAll K H (ns.map V.int) (ns.map PyData.int)
  | [] => .nil
  | n :: ns => .cons (.int n) (dp_ints ns)
theorem dp_of_ints {K : PySem.W.Frag} {H : Hp} : ∀ {vs : List V} (ns : List Int), DpAll K H vs (ns.map PyData.int) → vs = ns.map V.int
  | _, [], h => by cases h; rfl
  | _, n :: ns, h => by
    cases h with
    | cons a t =>
      cases a
      rw [dp_of_ints ns t]
      rfl
/-! ### fields, methods, properties -/
section
variable {X : Cx} {σ : L2.St} {H : Hp} {Q : VK} {D : Ends} {pos : Pos} {e o : Expr} {es : List Expr} {C a dx : Addr} {fs : List (Str × V)} {v : V}
theorem e_fld {f : Str} (h : wE X e σ H fun x H1 => ∃ a C dx fs v, x = .ref a ∧ H1 a = some (.ins C dx fs) ∧ Cls X.K C ∧ NoAttr X.K C f ∧ fs.lookup f = some v ∧ Q v H1) (hb : attributeBase e f X.env (eval e X.env) = eval e X.env := by rfl) : wE X (.Attribute e f pos) σ H Q := toE (pe_fld pe_self hb) h
theorem s_fld {f : Str} {value : Expr} {pos' : Pos} (h : wE X value σ H fun y H1 => wE X o σ H1 fun x H2 => ∃ a C dx fs, x = .ref a ∧ H2 a = some (.ins C dx fs) ∧ Cls X.K C ∧ NoAttr X.K C f ∧ fs.length < 1000 ∧ D.nx σ (upd H2 a (.ins C dx (putF f y fs))))
    (hs : swapsWith value (some (.Attribute o f pos')) pos.line X.env = pure false := by rfl) : wS X (.Assign [.Attribute o f pos'] value pos) D σ H := toS (ps_fld pe_self pe_self hs) h
/-- a method of the class at C -/
structure Md (P : Program) (w : World) (K : PySem.W.Frag) (mg : Str → Option Value) (base : Heap) (C : Addr) (m : Str) (k : Nat) (ps : List Str) (sp : Sp) : Prop where
  ex : ∃ (f : Addr) (fd : FuncData), FnOk P w K mg base CX0 k f fd ps sp ∧ Meth K C m f ∧ Binds K fd ps []
theorem e_meth {m : Str} {pl : Sem Bool} {apos : Pos} {k : Nat} {ps : List Str} {sp : Sp} (F : Md X.prog X.w X.K X.mg X.base C m k ps sp) (c : Cls X.K C) (hr : Room k X.A) (h : wE X o σ H fun x H1 => ∃ a dx fs, x = .ref a ∧ H1 a = some (.ins C dx fs) ∧ fs.lookup m = none ∧ wA X (e :: es) σ H1 fun vs H2 => sp (x :: vs) H2 Q E0)
    (hst : starEach (e :: es) X.env = (false, eval e X.env) :: starEach es X.env := by rfl) (hpl : (backTo pos (starEach es X.env)).any (·.1) = false := by rfl)
    (ht : eval (.Call (.Attribute o m apos) (e :: es) [] pos) X.env = (do
      let ov ← eval o X.env
      standAt apos.atName
      let (f, first) ← holding [ov] (getMethod ov m pl)
      callWith pos f first (backTo pos (starEach (e :: es) X.env)) (backToKw pos (keywordEach [] X.env))) := by rfl) : wE X (.Call (.Attribute o m apos) (e :: es) [] pos) σ H Q := by
  obtain ⟨f, fd, G, hm, hb⟩ := F.ex
  refine toE (pe_meth (pl := pl) pe_self c hm G hr hb .nil pass0 pa_self hst hpl ht) ?_
  refine wE_mono h ?_
  rintro x H1 ⟨a, dx, fs, rfl, ha, hl, k⟩
  refine ⟨a, dx, fs, rfl, ha, hl, ?_⟩
  have e1 : (fun vs (H2 : Hp) => sp (V.ref a :: (vs ++ [])) H2 Q E0) = fun vs H2 => sp (V.ref a :: vs) H2 Q E0 := by
    funext vs H2
    rw [List.append_nil]
  show wA X (e :: es) σ H1 (fun vs (H2 : Hp) => sp (V.ref a :: (vs ++ [])) H2 Q E0)
  rw [e1]
  exact k
/-- a property -/
structure Pd (P : Program) (w : World) (K : PySem.W.Frag) (mg : Str → Option Value) (base : Heap) (C : Addr) (m : Str) (k : Nat) (sp : Sp) : Prop where
  ex : ∃ (p f : Addr) (fd : FuncData), FnOk P w K mg base CX0 k f fd ["self"] sp ∧ PropOf K C m p f ∧ Binds K fd ["self"] []
theorem e_prop {m : Str} {k : Nat} {sp : Sp} (F : Pd X.prog X.w X.K X.mg X.base C m k sp) (c : Cls X.K C) (hr : Room (k + 1) X.A) (h : wE X e σ H fun x H1 => ∃ a dx fs, x = .ref a ∧ H1 a = some (.ins C dx fs) ∧ sp [.ref a] H1 Q E0)
    (hab : attributeBase e m X.env (eval e X.env) = eval e X.env := by rfl) : wE X (.Attribute e m pos) σ H Q := by
  obtain ⟨p, f, fd, G, hp, hb⟩ := F.ex
  exact toE (pe_prop pe_self c hp G hr hb .nil (fun _ _ _ _ _ _ _ h => h.elim) hab) h
/-- a class of the text, made -/
structure Ckd (P : Program) (w : World) (K : PySem.W.Frag) (mg : Str → Option Value) (base : Heap) (C : Addr) (x : Str) (k : Nat) (ps : List Str) (dvs : List V) (sp : Sp) : Prop where
  ex : ∃ (f : Addr) (fd : FuncData) (ds : List Value), FnOk P w K mg base CX0 k f fd ps sp ∧ mg x = some (.ref C) ∧ Mk K C f ∧ Vals dvs ds ∧ Binds K fd ps ds
theorem e_make {x : Str} {p : Pos} {k : Nat} {ps : List Str} {dvs : List V} {sp : Sp} (F : Ckd X.prog X.w X.K X.mg X.base C x k ps dvs sp) (hr : Room (k + 1) X.A) (hg : Gl X x)
    (h : wA X (e :: es) σ H fun vs H1 => ∀ x dx, H1 x = none → H1 dx = none → dx ≠ x → sp (.ref x :: (vs ++ dvs)) (upd (upd H1 dx (.own x)) x (.ins C dx [])) (fun v H2 => v = .non ∧ Q (.ref x) H2) E0) (hdb : (x == ("__debug__" : Str)) = false := by decide)
    (he : starEach (e :: es) X.env = (false, eval e X.env) :: starEach es X.env := by rfl) (hpl : (backTo pos (starEach es X.env)).any (·.1) = false := by rfl) : wE X (.Call (.Name x p) (e :: es) [] pos) σ H Q := by
  obtain ⟨f, fd, ds, G, hm, M, hd, hb⟩ := F.ex
  exact toE (pe_make M G hr hg hm hb hd pass0 pa_self hdb he hpl) h
/-! ### own operators -/
theorem ins_at {pins : List (Addr × Obj)} {s : Shared} (I : Inv X pins σ H s) (h : H a = some (.ins C dx fs)) : ∃ od, PySem.W.InstAt s.heap a (PySem.W.instObj C dx) C (some od) := by
  obtain ⟨mA, J, _⟩ := ins_get I.hok h
  obtain ⟨od, J, _⟩ := J.look
  exact ⟨od, J⟩
theorem md_run {m : Str} {k : Nat} {ps : List Str} {sp : Sp} {b : V} {pins : List (Addr × Obj)} {s : Shared} {us : List Value} {vs : List V} {f : Addr} {fd : FuncData} (G : FnOk X.prog X.w X.K X.mg X.base CX0 k f fd ps sp) (hb : Binds X.K fd ps []) (hr : Room k X.A) (I : Inv X pins σ H s) (r : Vals vs us) (h : sp vs H Q E0) :
    wpAny (model X.prog X.w) X.A (call (.ref f) us) (EP X pins σ Q) X.xe s := by
  have e1 : sp (vs ++ []) H Q E0 := by rw [List.append_nil]; exact h
  exact run_fn G hr hb .nil pass0 I r e1
/-- a op b, op a def of the class of both -/
theorem o_own {op : Operator} {b dy : Addr} {gs : List (Str × V)} {k : Nat} {ps : List Str} {sp : Sp} (F : Md X.prog X.w X.K X.mg X.base C (PySem.dunder op.info.2) k ps sp) (hc : PySem.W.selfFirst X.K C = true) (hr : Room k X.A) (ha : H a = some (.ins C dx fs)) (hb : H b = some (.ins C dy gs))
    (h : sp [.ref a, .ref b] H (fun v H' => (∃ c, v = .ref c) ∧ Q v H') E0) : wO X (binaryOp op) (.ref a) (.ref b) H Q := by
  obtain ⟨f, fd, G, hm, bd⟩ := F.ex
  constructor
  intro pins s σ v u I rx ry
  cases rx
  cases ry
  obtain ⟨od, J⟩ := ins_at I ha
  obtain ⟨od', J'⟩ := ins_at I hb
  obtain ⟨m, hF⟩ := I.fr
  refine PySem.W.binop_K hF I.ok.mod.kin J J'.type hc hm.at_ hm.fn ?_
  refine thn (md_run (m := PySem.dunder op.info.2) (b := .ref b) G bd hr I (vs := [.ref a, .ref b]) (.cons (show RelV (.ref a) (.ref a) from rfl) (.cons (show RelV (.ref b) (.ref b) from rfl) .nil)) h) ?_
  rintro z s' ⟨y, H', I', ry, ⟨c, rfl⟩, q⟩
  cases ry
  exact ⟨.ref c, H', I', rfl, q⟩
/-- a == b -/
theorem o_eqOwn {b dy : Addr} {gs : List (Str × V)} {k : Nat} {ps : List Str} {sp : Sp} (F : Md X.prog X.w X.K X.mg X.base C "__eq__" k ps sp) (hr : Room k X.A) (ha : H a = some (.ins C dx fs)) (hb : H b = some (.ins C dy gs))
    (h : sp [.ref a, .ref b] H (fun v H' => (∃ c, v = .bl c) ∧ Q v H') E0) : wO X (compareOp .Eq) (.ref a) (.ref b) H Q := by
  obtain ⟨f, fd, G, hm, bd⟩ := F.ex
  constructor
  intro pins s σ v u I rx ry
  cases rx
  cases ry
  obtain ⟨od, J⟩ := ins_at I ha
  obtain ⟨od', J'⟩ := ins_at I hb
  obtain ⟨m, hF⟩ := I.fr
  show wpAny _ _ (richCompare .Eq _ _) _ _ _
  refine PySem.W.cmp_K (op := .Eq) (tb := .ref C) hr.units0 hF I.ok.mod.kin J J'.type (by simp [PySem.W.notFirst]) hm.at_ hm.fn ?_
  refine thn (md_run (m := "__eq__") (b := .ref b) G bd hr I (vs := [.ref a, .ref b]) (.cons (show RelV (.ref a) (.ref a) from rfl) (.cons (show RelV (.ref b) (.ref b) from rfl) .nil)) h) ?_
  rintro z s' ⟨y, H', I', ry, ⟨c, rfl⟩, q⟩
  cases ry
  exact ⟨.bl c, H', I', rfl, q⟩
end
end WX
namespace WX
open PySem PySem.Spec PyProof.Rows L2
theorem wB_run {X : Cx} {sts : List Stmt} {D : Ends} {σ : L2.St} {H : Hp} (h : wB X sts D σ H) : wB X sts D σ H := h
end WX
namespace WX
open PySem PySem.Spec PyProof.Rows L2
theorem ty_tup {K : PySem.W.Frag} {H : Hp} {a : Addr} {xs : List V} (h : SqT K H a xs) : TyX K H (.ref a) (.type "tuple") := by
  rcases h with (h | ⟨o, h⟩) | ⟨o, its, n, h, c, _⟩
  · exact .base (.tup h)
  · exact .fTuple h
  · exact .kTuple h c
theorem ty_lst {K : PySem.W.Frag} {H : Hp} {a : Addr} {xs : List V} (h : SqL K H a xs) : TyX K H (.ref a) (.type "list") := by
  rcases h with (h | ⟨o, h⟩) | ⟨o, its, n, h, c, _⟩
  · exact .base (.lst h)
  · exact .base (.frz h)
  · exact .kList h c
section
variable {X : Cx} {σ : L2.St} {H : Hp} {Q : VK} {pos p2 : Pos} {e b c : Expr}
/-- t[i:j] of a tuple: the whole of it, or a new one -/
def kSl (K : PySem.W.Frag) (x : V) (lo hi : Option Int) (H : Hp) (Q : VK) : Prop := ∃ a xs, x = .ref a ∧ SqT K H a xs ∧ ∀ p H', Same H H' → SqT K H' p (cutV xs lo hi) → Q (.ref p) H'
theorem rSl_of {x : V} {lo hi : Option Int} (h : kSl X.K x lo hi H Q) : rSlA X.K x lo hi H Q := by
  obtain ⟨a, xs, rfl, hs, k⟩ := h
  refine ⟨a, xs, rfl, hs, ?_, ?_⟩
  · rintro ⟨e1, e2⟩
    refine k a H (Same.refl H) ?_
    have e3 : cutV xs lo hi = xs := by
      show (xs.drop (HT.sIx xs.length 0 lo)).take (HT.sIx xs.length xs.length hi - HT.sIx xs.length 0 lo) = xs
      rw [e1, e2, List.drop_zero, Nat.sub_zero, List.take_length]
    rw [e3]
    exact hs
  · intro _ p hp
    exact k p _ (fun b o q => upd_keep hp q) (Or.inl (Or.inl upd_same))
theorem e_slNS (h : wE X e σ H fun x H1 => wE X b σ H1 fun y H2 => ∃ i, y = .int i ∧ kSl X.K x none (some i) H2 Q) : wE X (.Subscript e (.Slice none (some b) none p2) pos) σ H Q :=
  toE (pe_slice sl_tupA pe_self po_none (po_some pe_self)) (wE_mono h fun _ _ k => wE_mono k fun _ _ ⟨i, e1, k2⟩ => ⟨i, e1, rSl_of k2⟩)
theorem e_slSN (h : wE X e σ H fun x H1 => wE X b σ H1 fun y H2 => ∃ i, y = .int i ∧ kSl X.K x (some i) none H2 Q) : wE X (.Subscript e (.Slice (some b) none none p2) pos) σ H Q :=
  toE (pe_slice sl_tupA pe_self (po_some pe_self) po_none) (wE_mono h fun _ _ k => wE_mono k fun _ _ ⟨i, e1, k2⟩ => ⟨i, e1, rSl_of k2⟩)
theorem e_slSS (h : wE X e σ H fun x H1 => wE X b σ H1 fun y H2 => ∃ i, y = .int i ∧ wE X c σ H2 fun z H3 => ∃ j, z = .int j ∧ kSl X.K x (some i) (some j) H3 Q) : wE X (.Subscript e (.Slice (some b) (some c) none p2) pos) σ H Q :=
  toE (pe_slice sl_tupA pe_self (po_some pe_self) (po_some pe_self)) (wE_mono h fun _ _ k => wE_mono k fun _ _ ⟨i, e1, k2⟩ => ⟨i, e1, wE_mono k2 fun _ _ ⟨j, e2, k3⟩ => ⟨j, e2, rSl_of k3⟩⟩)
theorem c_all {a : Addr} {bs : List Bool} (hc : X.calm = true) (h1 : SqL X.K H a (bs.map V.bl)) (h : Q (.bl (bs.all id)) H) : wC X (.builtin "all") [.ref a] H Q := toC (cr_all hc) ⟨a, bs, rfl, h1, h⟩
theorem c_tupL {a : Addr} {xs : List V} (h1 : SqL X.K H a xs) (h : ∀ p, H p = none → Q (.ref p) (upd H p (.tup xs))) : wC X (.type "tuple") [.ref a] H Q := toC call_tuple_of ⟨a, xs, rfl, Or.inl ⟨h1, h⟩⟩
theorem c_lstL {a : Addr} {xs : List V} (h1 : SqL X.K H a xs ∨ SqT X.K H a xs) (h : ∀ p, H p = none → Q (.ref p) (upd H p (.lst xs))) : wC X (.type "list") [.ref a] H Q := toC call_list_of ⟨a, xs, rfl, h1, h⟩
/-- list(range(a)), tuple(range(a)) -/
theorem e_lstR1 {p p3 p4 : Pos} (hc : X.calm = true) (hg : Gl X "list") (hm : X.mg "list" = none) (hg2 : Gl X "range") (hm2 : X.mg "range" = none) (h : wE X b σ H fun y H1 => ∃ n : Nat, y = .int (n : Int) ∧ n ≤ 10000 ∧ ∀ q, H1 q = none → Q (.ref q) (upd H1 q (.lst ((List.range n).map fun (i : Nat) => V.int (i : Int)))))
    (n1 : starEach [b] X.env = (false, eval b X.env) :: starEach [] X.env := by rfl) (n2 : starEach [.Call (.Name "range" p3) [b] [] p4] X.env = (false, eval (.Call (.Name "range" p3) [b] [] p4) X.env) :: starEach [] X.env := by rfl) :
    wE X (.Call (.Name "list" p) [.Call (.Name "range" p3) [b] [] p4] [] pos) σ H Q := by
  refine toE (pe_listRg hc hg hm (prg_1 hg2 hm2 pe_self n1) n2) (wE_mono h ?_)
  rintro y H1 ⟨n, rfl, hn, k⟩
  refine ⟨(n : Int), rfl, RgOk.of_le (by omega) (by omega) (by omega) (by omega), fun q hq => ?_⟩
  have e1 : rgV 0 (n : Int) = (List.range n).map fun (i : Nat) => V.int (i : Int) := by
    unfold rgV
    rw [show ((n : Int) - 0).toNat = n by omega]
    congr 1
    funext i
    rw [Int.zero_add]
  rw [e1]
  exact k q hq
/-- o.append(e) -/
theorem e_app {o : Expr} {apos cpos : Pos} (h : wE X o σ H fun x H1 => tyV X.K "list" x H1 ∧ wE X e σ H1 fun y H2 => ∃ l xs, x = .ref l ∧ H2 l = some (.lst xs) ∧ xs.length < sizeLine ∧ Q .non (upd H2 l (.lst (xs ++ [y]))))
    (n1 : starEach [e] X.env = (false, eval e X.env) :: starEach [] X.env := by rfl) (n2 : attributeBase o "append" X.env (eval o X.env) = eval o X.env := by rfl) (n3 : ((((backTo cpos (starEach [e] X.env)).all fun x => !x.fst) && (backToKw cpos (keywordEach [] X.env)).all fun x => x.fst.isSome) && decide (([e].length + ([] : List Keyword).length + if ([] : List Keyword).isEmpty = true then 0 else 1) < 30)) = true := by rfl) (n4 : (apos.endLine == cpos.line) = true := by rfl) (n5 : ((backTo cpos (starEach [] X.env)).any fun x => x.fst) = false := by rfl) : wE X (.Call (.Attribute o "append" apos) [e] [] cpos) σ H Q := by
  refine toE (pe_bm PySem.F.plainAttrs_list PySem.F.slot_list_append PySem.F.type_list_append mt_append pe_self (pa_cons pe_self pa_nil n1) n2 n3 n4 n1 n5) ?_
  refine wE_mono h ?_
  rintro x H1 ⟨t, k⟩
  refine ⟨t, wE_mono k ?_⟩
  rintro y H2 ⟨l, xs, rfl, hl, hz, q⟩
  exact ⟨l, xs, y, rfl, rfl, hl, hz, q⟩
end
end WX

set_option Elab.async false
set_option linter.all false
set_option maxRecDepth 100000
set_option maxHeartbeats 4000000
namespace WX
open PySem PySem.Spec PyProof.Rows L2
section
variable {X : Cx} {σ : L2.St} {H : Hp} {Q : VK} {D : Ends} {pos : Pos} {e elt iter : Expr} {scope : Scope} {x : Str} {j : Nat} {px : Pos}
theorem noTup_lst {H : Hp} {p : Addr} {xs : List V} (h : H p = some (.lst xs)) : NoTup H p := by
  intro ys
  rw [h]
  refine ⟨?_, ?_⟩
  · intro z
    cases z
  · intro o z
    cases z
/-- for x in a tuple -/
theorem s_forT (i : Nat) {body : List Stmt} (hp : PassesOwn (model X.prog X.w) X.A X.env X.xe) (hc : X.calm = true) (hN : X.N.Nodup) (hi : X.N[i]? = some x) (hx : Loc X.env.scope x)
    (h : wE X e σ H fun v H1 => ∃ a xs, v = .ref a ∧ SqT X.K H1 a xs ∧ ∃ Pv : Nat → L2.St → Hp → Prop, Pv 0 σ H1 ∧ (∀ k σ H, k ≤ xs.length → Pv k σ H → SqT X.K H a xs) ∧
      (∀ k v σ H, xs[k]? = some v → Pv k σ H → wB X body { D with nx := Pv (k + 1), ct := Pv (k + 1), bk := D.nx } (σ.set i (some v)) H) ∧ ∀ σ H, Pv xs.length σ H → D.nx σ H)
    (hs : ∀ x, foldedSetIterable e X.env x = pure x := by intro _; rfl)
    (hf : X.fn x = true ∨ X.env.scope.names.lookup x = some .local := by first | exact .inl rfl | exact .inr rfl | assumption) : wS X (.For (.Name x px) e body [] pos) D σ H := by
  refine toS (ps_for hp hc (pi_tup pe_self) (pg_name hN hi hx hf) pss_self hs) ?_
  refine wE_mono h ?_
  rintro v H1 ⟨a, xs, rfl, hs, Pv, h0, hl, ht, he⟩
  exact ⟨a, rfl, ⟨xs, hs⟩, for_tup Pv h0 hl ht he⟩
/-- for x in a list -/
theorem s_forL (i : Nat) {body : List Stmt} (hp : PassesOwn (model X.prog X.w) X.A X.env X.xe) (hc : X.calm = true) (hN : X.N.Nodup) (hi : X.N[i]? = some x) (hx : Loc X.env.scope x)
    (h : wE X e σ H fun v H1 => ∃ a xs, v = .ref a ∧ SqL X.K H1 a xs ∧ ∃ Pv : Nat → L2.St → Hp → Prop, Pv 0 σ H1 ∧ (∀ k σ H, k ≤ xs.length → Pv k σ H → SqL X.K H a xs) ∧
      (∀ k v σ H, xs[k]? = some v → Pv k σ H → wB X body { D with nx := Pv (k + 1), ct := Pv (k + 1), bk := D.nx } (σ.set i (some v)) H) ∧ ∀ σ H, Pv xs.length σ H → D.nx σ H)
    (hs : ∀ x, foldedSetIterable e X.env x = pure x := by intro _; rfl)
    (hf : X.fn x = true ∨ X.env.scope.names.lookup x = some .local := by first | exact .inl rfl | exact .inr rfl | assumption) : wS X (.For (.Name x px) e body [] pos) D σ H := by
  refine toS (ps_for hp hc (pi_list pe_self) (pg_name hN hi hx hf) pss_self hs) ?_
  refine wE_mono h ?_
  rintro v H1 ⟨a, xs, rfl, hs, Pv, h0, hl, ht, he⟩
  exact ⟨a, rfl, ⟨xs, hs⟩, for_list Pv h0 hl ht he⟩
/-- what is told of the elements, and stands -/
def Stays (R : Nat → V → Hp → Prop) : Prop := ∀ i y p H4 H5, R i y H4 → NoTup H4 p → Ch p H4 H5 → R i y H5
/-- the list under way -/
def Way (R : Nat → V → Hp → Prop) (H1 : Hp) (D : Addr) (i : Nat) (H : Hp) : Prop := Same H1 H ∧ ∃ acc, H D = some (.lst acc) ∧ acc.length = i ∧ ∀ k y, acc[k]? = some y → R k y H
theorem way_0 {R : Nat → V → Hp → Prop} {H1 : Hp} {D : Addr} (h : H1 D = none) : Way R H1 D 0 (upd H1 D (.lst [])) := ⟨(Same.refl H1).new h, [], upd_same, rfl, fun k y z => by simp at z⟩
theorem way_s {R : Nat → V → Hp → Prop} (st : Stays R) {H1 H H4 : Hp} {D : Addr} {i : Nat} {y : V} (h0 : H1 D = none) (hz : i < sizeLine) (w : Way R H1 D i H) (s : Same H H4) (r : R i y H4) :
    ∃ acc, H4 D = some (.lst acc) ∧ acc.length < sizeLine ∧ Way R H1 D (i + 1) (upd H4 D (.lst (acc ++ [y]))) := by
  obtain ⟨sm, acc, hd, hl, ha⟩ := w
  have d4 := s _ _ hd
  refine ⟨acc, d4, by omega, (sm.trans s).ch h0 Ch.refl.put, acc ++ [y], upd_same, by simp [hl], fun k z hk => ?_⟩
  rw [List.getElem?_append] at hk
  split at hk
  · exact st _ _ D _ _ (st _ _ D _ _ (ha k z hk) (noTup_lst hd) (Ch.of s)) (noTup_lst d4) Ch.refl.put
  · rename_i h
    have e1 : k = i := by
      have := (List.getElem?_eq_some_iff.mp hk).1
      simp at this
      omega
    subst e1
    rw [hl, Nat.sub_self] at hk
    simp at hk
    subst hk
    exact st _ _ D _ _ r (noTup_lst d4) Ch.refl.put
theorem lcT_same (h : wE X iter σ H fun v H1 => ∃ a xs, ∃ R : Nat → V → Hp → Prop, v = .ref a ∧ SqT X.K H1 a xs ∧ xs.length < sizeLine ∧ Stays R ∧
      (∀ (i : Nat) (v : V) (H2 : Hp), xs[i]? = some v → Same H1 H2 → wEb X scope elt (σ.set j (some v)) H2 fun y H4 => Same H2 H4 ∧ R i y H4) ∧
      ∀ D H' ys, H1 D = none → Same H1 H' → H' D = some (.lst ys) → ys.length = xs.length → (∀ i y, ys[i]? = some y → R i y H') → Q (.ref D) H') :
    tLc (iTup X.K (wE X iter)) (gName j) tYes (wEb X scope elt) [j] σ H Q := by
  refine lcT_read (wE_mono h ?_)
  rintro v H1 ⟨a, xs, R, rfl, hs, hz, st, k1, k2⟩
  refine ⟨a, xs, rfl, hs, fun D hD => ⟨Way R H1 D, way_0 hD, fun i H _ w => same_tup w.1 hs, fun i v H hv w X' bk => ?_, fun H w => ?_⟩⟩
  · refine wE_mono (k1 i v H hv w.1 X' bk) ?_
    rintro y H4 ⟨s, r⟩
    have := (List.getElem?_eq_some_iff.mp hv).1
    exact way_s st hD (by omega) w s r
  · obtain ⟨sm, acc, hd, hl, ha⟩ := w
    exact k2 D H acc hD sm hd hl ha
theorem lcL_same (h : wE X iter σ H fun v H1 => ∃ a xs, ∃ R : Nat → V → Hp → Prop, v = .ref a ∧ SqL X.K H1 a xs ∧ xs.length < sizeLine ∧ Stays R ∧
      (∀ (i : Nat) (v : V) (H2 : Hp), xs[i]? = some v → Same H1 H2 → wEb X scope elt (σ.set j (some v)) H2 fun y H4 => Same H2 H4 ∧ R i y H4) ∧
      ∀ D H' ys, H1 D = none → Same H1 H' → H' D = some (.lst ys) → ys.length = xs.length → (∀ i y, ys[i]? = some y → R i y H') → Q (.ref D) H') :
    tLc (iList X.K (wE X iter)) (gName j) tYes (wEb X scope elt) [j] σ H Q := by
  refine lcL_read (wE_mono h ?_)
  rintro v H1 ⟨a, xs, R, rfl, hs, hz, st, k1, k2⟩
  refine ⟨a, xs, rfl, hs, fun D hD => ⟨Way R H1 D, way_0 hD, fun i H _ w => w.1.seq hs, fun i v H hv w X' bk => ?_, fun H w => ?_⟩⟩
  · refine wE_mono (k1 i v H hv w.1 X' bk) ?_
    rintro y H4 ⟨s, r⟩
    have := (List.getElem?_eq_some_iff.mp hv).1
    exact way_s st hD (by omega) w s r
  · obtain ⟨sm, acc, hd, hl, ha⟩ := w
    exact k2 D H acc hD sm hd hl ha
/-- [elt for x in range(a)] -/
theorem lcR_same {a : Expr} (h : wE X a σ H fun v H1 => ∃ n : Nat, ∃ R : Nat → V → Hp → Prop, v = .int (n : Int) ∧ n < 10000 ∧ Stays R ∧
      (∀ (i : Nat) (H2 : Hp), i < n → Same H1 H2 → wEb X scope elt (σ.set j (some (.int (i : Int)))) H2 fun y H4 => Same H2 H4 ∧ R i y H4) ∧
      ∀ D H' ys, H1 D = none → Same H1 H' → H' D = some (.lst ys) → ys.length = n → (∀ i y, ys[i]? = some y → R i y H') → Q (.ref D) H')
    (hst : starEach [a] X.env = [(false, eval a X.env)] := by rfl) :
    tLc (iRng1 (wA X [a])) (gName j) tYes (wEb X scope elt) [j] σ H Q := by
  show wA X [a] σ H _
  refine a_cons (wE_mono h ?_) hst
  rintro v H1 ⟨n, R, rfl, hn, st, k1, k2⟩
  refine a_nil ⟨(n : Int), rfl, by omega, by omega, fun D hD => ?_⟩
  have e1 : (n : Int).toNat = n := by omega
  rw [e1]
  refine lc_range (Way R H1 D) (way_0 hD) (fun i H hi w => ?_) (fun H w => ?_)
  · obtain ⟨e2, e3⟩ := wipe_one (σ := σ) (v := .int (i : Int)) (j := j)
    have e4 : (0 : Int) + (i : Int) = (i : Int) := Int.zero_add _
    rw [e4]
    refine ⟨e2, ?_⟩
    rw [e3]
    intro X' bk
    refine wE_mono (k1 i H hi w.1 X' bk) ?_
    rintro y H4 ⟨s, r⟩
    exact way_s st hD (by have : (10000 : Nat) ≤ sizeLine := by decide
                          omega) w s r
  · obtain ⟨sm, acc, hd, hl, ha⟩ := w
    exact k2 D H acc hD sm hd hl ha
variable {N : List Str} {sc : Scope} {k : Nat}
theorem e_lcR {a : Expr} {p1 p2 : Pos} (j : Nat) (B : Bd X N sc k) (ok : BlkOk N sc scope [(x, j)]) (hg : Gl X "range") (hm : X.mg "range" = none) (hj : N[j]? = some x) (hx : scope.names.lookup x = some .local) (h : tLc (iRng1 (wA X [a])) (gName j) tYes (wEb X scope elt) [j] σ H Q) (hst : starEach [a] X.env = [(false, eval a X.env)] := by rfl) (hs : ∀ x, foldedSetIterable (.Call (.Name "range" p1) [a] [] p2) X.env x = pure x := by intro _; rfl) :
    wE X (.ListComp elt [⟨.Name x px, .Call (.Name "range" p1) [a] [] p2, [], 0⟩] scope pos) σ H Q :=
  toE (pe_lc (own := [(x, j)]) B.calm B.nd (pi_range1 hg hm pa_self hst) (by rw [B.hN, B.sc]; exact ok) (pgb_name B.nd (B.slot j hj) hx) (fun _ _ _ _ _ => pts_nil) peb_self hs) h
theorem s_lcR {a : Expr} {p1 p2 : Pos} (j : Nat) {D : Ends} {y : Str} {py spos : Pos} (i : Nat) (B : Bd X N sc k) (ok : BlkOk N sc scope [(x, j)]) (hg : Gl X "range") (hm : X.mg "range" = none) (hj : N[j]? = some x) (hx : scope.names.lookup x = some .local) (hy : X.N[i]? = some y) (hyl : X.env.scope.names.lookup y = some .local)
    (hsw : swapsWith (.ListComp elt [⟨.Name x px, .Call (.Name "range" p1) [a] [] p2, [], 0⟩] scope pos) (some (.Name y py)) spos.line X.env = pure true)
    (h : tLc (iRng1 (wA X [a])) (gName j) tYes (wEb X scope elt) [j] σ H fun v H1 => D.nx (σ.set i (some v)) H1) (hst : starEach [a] X.env = [(false, eval a X.env)] := by rfl) (hs : ∀ x, foldedSetIterable (.Call (.Name "range" p1) [a] [] p2) X.env x = pure x := by intro _; rfl) : wS X (.Assign [.Name y py] (.ListComp elt [⟨.Name x px, .Call (.Name "range" p1) [a] [] p2, [], 0⟩] scope pos) spos) D σ H :=
  toS (ps_setLc (own := [(x, j)]) B.calm B.nd hy hyl hsw (pi_range1 hg hm pa_self hst) (by rw [B.hN, B.sc]; exact ok) (pgb_name B.nd (B.slot j hj) hx) (fun _ _ _ _ _ => pts_nil) peb_self hs) h
end
end WX

set_option Elab.async false
set_option linter.all false
set_option maxRecDepth 100000
set_option maxHeartbeats 4000000
namespace WX
open PySem PySem.Spec PyProof.Rows L2 HT
section
variable {prog : Program} {w : World} {A : Around} {E : Value → Shared → Prop} {s : Shared}
theorem sliceApplied_rev {sl : Addr} {vs : Value} {n : Nat} {Q : Int × Int × Nat → Shared → Prop} (hs : s.heap.IsSliceOf sl .none .none vs) (ps : IsPart vs (some (-1)))
    (h : Q ((n : Int) - 1, -1, n) s) : wpAny (model prog w) A (Builtin.Slice.sliceApplied (.ref sl) (pure (n : Int))) Q E s := by
  obtain ⟨os, hos, hcs, hds⟩ := id hs
  unfold Builtin.Slice.sliceApplied Builtin.Slice.sliceFields
  refine wpAny_bind (wpAny_bind (wpAny_field hos hds (x := .none) rfl (wpAny_bind (wpAny_field hos hds (x := .none) rfl (wpAny_bind (wpAny_field hos hds (x := vs) rfl (wpAny_pure ?_)))))))
  refine wpAny_bind (slicePart_ ps ?_)
  show wpAny _ _ (if ((-1 : Int) == 0) = true then _ else _) _ _ s
  rw [if_neg (by decide)]
  refine wpAny_bind (slicePart_none (wpAny_bind (slicePart_none (wpAny_bind (wpAny_pure ?_)))))
  show wpAny _ _ (match Builtin.Slice.sliceAdjust none none (-1) (n : Int) with | (lo, hi) => pure (lo, (-1 : Int), Builtin.Slice.slicePlaces lo hi (-1))) _ _ s
  have e1 : Builtin.Slice.sliceAdjust none none (-1) (n : Int) = ((n : Int) - 1, -1) := by
    unfold Builtin.Slice.sliceAdjust
    simp
  rw [e1]
  show wpAny _ _ (pure ((n : Int) - 1, (-1 : Int), Builtin.Slice.slicePlaces ((n : Int) - 1) (-1) (-1))) _ _ s
  have e2 : Builtin.Slice.slicePlaces ((n : Int) - 1) (-1) (-1) = n := by
    unfold Builtin.Slice.slicePlaces
    simp
    omega
  rw [e2]
  exact wpAny_pure h
theorem fm_congr {α β : Type} {f g : α → Option β} : ∀ {l : List α}, (∀ m ∈ l, f m = g m) → l.filterMap f = l.filterMap g
  | [], _ => rfl
  | a :: l, h => by
    rw [List.filterMap_cons, List.filterMap_cons, h a (List.mem_cons_self ..), fm_congr (l := l) fun m hm => h m (List.mem_cons_of_mem _ hm)]
theorem fm_all {α : Type} : ∀ (ys : List α), (List.range ys.length).filterMap (fun m => ys[m]?) = ys
  | [] => rfl
  | y :: ys => by
    rw [List.length_cons, List.range_succ_eq_map, List.filterMap_cons, List.filterMap_map]
    show y :: List.filterMap (fun m => ys[m]?) (List.range ys.length) = _
    rw [fm_all ys]
theorem pick_rev (xs : Array Value) : ((List.range xs.size).filterMap fun (m : Nat) => xs[((xs.size : Int) - 1 + (m : Int) * -1).toNat]?).toArray = xs.toList.reverse.toArray := by
  congr 1
  have e1 : ∀ m ∈ List.range xs.size, xs[((xs.size : Int) - 1 + (m : Int) * -1).toNat]? = xs.toList.reverse[m]? := by
    intro m hm
    have hm := List.mem_range.mp hm
    have e2 : ((xs.size : Int) - 1 + (m : Int) * -1).toNat = xs.size - 1 - m := by omega
    rw [e2, List.getElem?_reverse (by simpa using hm), Array.length_toList]
    simp
  rw [fm_congr e1]
  have e3 : xs.size = xs.toList.reverse.length := by simp
  rw [e3]
  exact fm_all _
theorem getItem_tuple_rev {t sl : Addr} {items : Array Value} {vs : Value} {Q : Value → Shared → Prop} (ht : IsTup s.heap t items) (hs : s.heap.IsSliceOf sl .none .none vs) (ps : IsPart vs (some (-1)))
    (h : Q (.ref s.heap.objs.size) { s with heap := s.heap.push { cls := .type "tuple", data := .seq items.toList.reverse.toArray } })
    (hsz : items.size ≤ sizeLine) : wpAny (model prog w) A (getItem (.ref t) (.ref sl)) Q E s := by
  have htake : sizeOk (.seq items.toList.reverse.toArray) := by
    show items.toList.reverse.toArray.size ≤ sizeLine
    rw [List.size_toArray, List.length_reverse, Array.length_toList]
    exact hsz
  obtain ⟨os, hos, hcs, hds⟩ := id hs
  have hTs : s.TypeIs (.ref sl) "slice" := ⟨os, hos, hcs⟩
  unfold getItem
  try with_reducible refine wpAny_holding ?_
  first | refine wpAny_bind (wpAny_pure ?_) | skip
  refine wpAny_bind (wpAny_sequenceKey ht.typeIs (by decide) ?_)
  refine wpAny_bind (wpAny_callSpecial?_slot (name := Str.ofString "__getitem__") ht.typeIs PyProof.Rows.slot_tuple_getitem
    (wpAny_call_entry PyProof.Rows.slot_tuple_getitem ht.typeIs entry_tuple_getitem ?_ (args_tuple_getitem _ _)))
  show wpAny _ _ (Builtin.Tuple.tupleItemsOf (.ref t) >>= _) _ _ s
  refine wpAny_bind (tupleItemsOf_ ht ?_)
  refine wpAny_bind (wpAny_typeOf hTs ?_)
  rw [if_pos (by decide)]
  refine wpAny_bind (sliceApplied_rev hs ps ?_)
  have hno : ¬ ((((items.size : Int) - 1) == 0 && (-1 : Int) == 1 && items.size == items.size) = true) := by
    intro q
    rw [Bool.and_eq_true, Bool.and_eq_true] at q
    exact absurd q.1.2 (by decide)
  show wpAny _ _ (if (((items.size : Int) - 1) == 0 && (-1 : Int) == 1 && items.size == items.size) = true then _ else _) _ _ s
  rw [if_neg hno, pick_rev]
  first
    | exact wpAny_bind (m := Builtin.Tuple.tupleExact _) (wpAny_newObj_type (wpAny_pure ⟨_, rfl, wpAny_pure h⟩) htake)
    | exact wpAny_bind (m := Builtin.Tuple.tupleExact _) (wpAny_newObj_type (wpAny_bind (wpAny_pure (wpAny_pure ⟨_, rfl, wpAny_pure h⟩))) htake)
end
section
variable {X : Cx} {σ : L2.St} {H : Hp} {Q : VK}
/-- t[::-1] -/
theorem e_revT {e : Expr} {k : Nat} {p1 p2 p3 pos : Pos} (h0 : wE X e σ H fun x H1 => ∃ a xs, x = .ref a ∧ SqT X.K H1 a xs ∧ ∀ p, H1 p = none → Q (.ref p) (upd H1 p (.tup xs.reverse))) : wE X (.Subscript e (.Slice none none (some (.UnaryOp .USub (.Constant (.int 1) k p1) p2)) p3) pos) σ H Q := by
  refine ⟨fun pins s I => ?_⟩
  refine Subscript_ (thn (h0.run pins s I) fun v s1 ⟨x, H1, I1, r1, q1⟩ => ?_)
  obtain ⟨a, xs, ex, hx, q⟩ := q1
  subst ex
  cases r1
  have hst : PO X (some (.UnaryOp .USub (.Constant (.int 1) k p1) p2)) (tPart (tUn (rU fun i => .int (-i)) (tC (.int 1)))) := po_some (pe_un un_neg pe_int)
  refine wpAny_Slice (thn (po_none.run pins s1 σ H1 (fun o H2 => o = none ∧ H2 = H1) I1 ⟨rfl, rfl⟩) fun vl s2 ⟨l, H2, I2, pl, el, e2⟩ => ?_)
  subst el e2
  refine thn (po_none.run pins s2 σ H2 (fun o H3 => o = none ∧ H3 = H2) I2 ⟨rfl, rfl⟩) fun vu s3 ⟨u, H3, I3, pu, eu, e3⟩ => ?_
  subst eu e3
  refine thn (hst.run pins s3 σ H3 (fun o H4 => o = some (-1) ∧ H4 = H3) I3 ⟨1, rfl, -1, rfl, rfl, rfl⟩) fun vs s4 ⟨o, H4, I4, ps, eo, e4⟩ => ?_
  subst eo e4
  have I5 : Inv X pins σ H4 { s4 with heap := s4.heap.push { cls := .type "slice", data := .fields #[vl, vu, vs] } } := I4.kept (t' := s4.toks) fun b ob q => Heap.get?_push_of_some _ q
  obtain ⟨its, r, ht, hz⟩ := I5.tuple hx
  have hlen := r.length
  cases pl
  cases pu
  show wpAny (model X.prog X.w) X.A (subscriptTail e (.Slice none none (some (.UnaryOp .USub (.Constant (.int 1) k p1) p2)) p3) (.ref a) (.ref s4.heap.objs.size)) (EP X pins σ Q) X.xe { s4 with heap := s4.heap.push { cls := .type "slice", data := .fields #[.none, .none, vs] } }
  refine tail_any (ops := [.ref a, .ref s4.heap.objs.size]) ht.typeIs (PyProof.Rows.slot_tuple_getitem.lookup) ?_ (by with_unfolding_all rfl)
  refine getItem_tuple_rev ht (Heap.IsSliceOf.new _ .none .none vs) ps ?_ (by rw [List.size_toArray]; omega)
  refine ⟨.ref _, _, I5.laid (t' := s4.toks) (o := .tup xs.reverse) (fun b ob q => Heap.get?_push_of_some _ q) (Nat.le_refl _) ?_, rfl, q _ (I5.hok.fresh (Nat.le_refl _))⟩
  exact ⟨by rw [List.length_reverse]; exact hz, _, r.reverse, IsTup.new _ _⟩
end
end WX
namespace WX
open PySem PySem.Spec PyProof.Rows L2 HT
/-- isinstance of the instances of C -/
structure IsiC (K : PySem.W.Frag) (C : Addr) : Prop where
  cl : PySem.W.findIn K (.ref C) "__class__" = some (some (.builtin "object.__class__"))
  gt : PySem.W.specialIn K (.builtin "object.__class__") "__get__" = some (some (.builtin "getset_descriptor.__get__"))
  tk : PySem.W.takesIn K (.builtin "object.__class__") = some true
  mr : PySem.W.mroIn K C (.type "object") = some true
section
variable {X : Cx} {σ : L2.St} {H : Hp} {Q : VK} {pos : Pos}
theorem ty_ins {K : PySem.W.Frag} {H : Hp} {a C dx : Addr} {fs : List (Str × V)} (c : Cls K C) (i : IsiC K C) (h : H a = some (.ins C dx fs)) : TyX K H (.ref a) (.ref C) := .base (.ins h c i.cl i.gt i.tk i.mr)
theorem kit_own {K : PySem.W.Frag} {C : Addr} : PySem.W.kitOne K (.ref C) (.ref C) = some true := by
  unfold PySem.W.kitOne
  rw [if_pos (beq_self_eq_true _)]
/-- isinstance(x, C) of an instance of C -/
theorem c_isC {a C dx : Addr} {fs : List (Str × V)} (c : Cls X.K C) (i : IsiC X.K C) (h : H a = some (.ins C dx fs)) (q : Q (.bl true) H) : wC X (.builtin "isinstance") [.ref a, .ref C] H Q := toC call_isi ⟨_, _, _, _, true, rfl, .own C, ty_ins c i h, kit_own, q⟩
/-- a name of the top that is a place -/
theorem e_gref {x : Str} {a : Addr} (hg : Gl X x) (hm : X.mg x = some (.ref a)) (h : Q (.ref a) H) (hd : (x == ("__debug__" : Str)) = false := by decide) : wE X (.Name x pos) σ H Q := e_glob hg hm (show RelV (.ref a) (Value.ref a) from rfl) h hd
/-! ### slices with places of the list -/
theorem cut_ij (xs : List V) {i j : Nat} (hi : i ≤ j) (hj : j ≤ xs.length) : cutV xs (some (i : Int)) (some (j : Int)) = (xs.drop i).take (j - i) := by
  unfold cutV
  rw [sIx_nat, sIx_nat, Nat.min_eq_left hj, Nat.min_eq_left (Nat.le_trans hi hj)]
theorem cut_j (xs : List V) {j : Nat} (hj : j ≤ xs.length) : cutV xs none (some (j : Int)) = xs.take j := by
  unfold cutV
  rw [sIx_nat, sIx_none, Nat.min_eq_left hj, List.drop_zero, Nat.sub_zero]
theorem cut_i (xs : List V) {i : Nat} (hi : i ≤ xs.length) : cutV xs (some (i : Int)) none = xs.drop i := by
  unfold cutV
  rw [sIx_nat, sIx_none, Nat.min_eq_left hi, List.take_of_length_le]
  rw [List.length_drop]; omega
/-- t + u -/
theorem o_cat {a b : Addr} {xs ys : List V} (h1 : SqT X.K H a xs) (h2 : SqT X.K H b ys) (hz : xs.length + ys.length ≤ sizeLine) (h : ∀ p H', Same H H' → SqT X.K H' p (xs ++ ys) → Q (.ref p) H') : wO X (binaryOp .Add) (.ref a) (.ref b) H Q := by
  refine toO op_catA ⟨a, b, xs, ys, rfl, rfl, h1, h2, hz, ?_, ?_, ?_⟩
  · rintro rfl
    exact h b H (Same.refl H) h2
  · rintro _ rfl
    exact h a H (Same.refl H) (by rw [List.append_nil]; exact h1)
  · intro _ _ p hp
    exact h p _ ((Same.refl H).new hp) (Or.inl (Or.inl upd_same))
/-! ### equality of data -/
theorem dpa_drop {K : PySem.W.Frag} {H : Hp} : ∀ {xs : List V} {ds : List PyData} (i : Nat), DpAll K H xs ds → DpAll K H (xs.drop i) (ds.drop i)
  | _, _, 0, h => h
  | _, _, i + 1, .nil => .nil
  | _, _, i + 1, .cons _ t => dpa_drop i t
theorem dpa_take {K : PySem.W.Frag} {H : Hp} : ∀ {xs : List V} {ds : List PyData} (i : Nat), DpAll K H xs ds → DpAll K H (xs.take i) (ds.take i)
  | _, _, 0, _ => .nil
  | _, _, i + 1, .nil => .nil
  | _, _, i + 1, .cons a t => .cons a (dpa_take i t)
theorem dpa_app {K : PySem.W.Frag} {H : Hp} : ∀ {xs ys : List V} {ds es : List PyData}, DpAll K H xs ds → DpAll K H ys es → DpAll K H (xs ++ ys) (ds ++ es)
  | _, _, _, _, .nil, h => h
  | _, _, _, _, .cons a t, h => .cons a (dpa_app t h)
end
end WX

set_option Elab.async false
set_option linter.all false
set_option maxRecDepth 100000
set_option maxHeartbeats 4000000
namespace WX
open PySem PySem.Spec PyProof.Rows L2
section
variable {X : Cx} {σ : L2.St} {H : Hp} {Q : VK} {D : Ends} {pos : Pos} {e : Expr} {x y z : Str} {px py pz pt : Pos} {kt : Nat}
theorem pg_t2 (i j : Nat) (hc : X.calm = true) (hN : X.N.Nodup) (hi : X.N[i]? = some x) (hj : X.N[j]? = some y) (hx : X.env.scope.names.lookup x = some .local) (hy : X.env.scope.names.lookup y = some .local) :
    PG X (.Tuple [.Name x px, .Name y py] kt pt) (gTup X.K 2 (gCons (gName i) (gCons (gName j) gNil))) :=
  pg_tup hc (pgs_cons (pg_name hN hi (Or.inl hx) (.inr hx)) (pgs_cons (pg_name hN hj (Or.inl hy) (.inr hy)) pgs_nil))
theorem pg_t3 (i j l : Nat) (hc : X.calm = true) (hN : X.N.Nodup) (hi : X.N[i]? = some x) (hj : X.N[j]? = some y) (hl : X.N[l]? = some z) (hx : X.env.scope.names.lookup x = some .local) (hy : X.env.scope.names.lookup y = some .local) (hz : X.env.scope.names.lookup z = some .local) :
    PG X (.Tuple [.Name x px, .Name y py, .Name z pz] kt pt) (gTup X.K 3 (gCons (gName i) (gCons (gName j) (gCons (gName l) gNil)))) :=
  pg_tup hc (pgs_cons (pg_name hN hi (Or.inl hx) (.inr hx)) (pgs_cons (pg_name hN hj (Or.inl hy) (.inr hy)) (pgs_cons (pg_name hN hl (Or.inl hz) (.inr hz)) pgs_nil)))
theorem pg_t2g (i j : Nat) (hc : X.calm = true) (hN : X.N.Nodup) (hi : X.N[i]? = some x) (hj : X.N[j]? = some y) (F : ∀ x, X.fn x = true) (hx : L2.Loc X.env.scope x) (hy : L2.Loc X.env.scope y) :
    PG X (.Tuple [.Name x px, .Name y py] kt pt) (gTup X.K 2 (gCons (gName i) (gCons (gName j) gNil))) :=
  pg_tup hc (pgs_cons (pg_name hN hi hx (.inl (F x))) (pgs_cons (pg_name hN hj hy (.inl (F y))) pgs_nil))
theorem g2 {i j : Nat} {a : Addr} {u v : V} {R : L2.St → Hp → Prop} (h : SqT X.K H a [u, v]) (q : R ((σ.set i (some u)).set j (some v)) H) : gTup X.K 2 (gCons (gName i) (gCons (gName j) gNil)) (.ref a) σ H R :=
  ⟨a, [u, v], rfl, h, rfl, u, [v], rfl, v, [], rfl, rfl, q⟩
theorem g3 {i j l : Nat} {a : Addr} {u v w : V} {R : L2.St → Hp → Prop} (h : SqT X.K H a [u, v, w]) (q : R (((σ.set i (some u)).set j (some v)).set l (some w)) H) : gTup X.K 3 (gCons (gName i) (gCons (gName j) (gCons (gName l) gNil))) (.ref a) σ H R :=
  ⟨a, [u, v, w], rfl, h, rfl, u, [v, w], rfl, v, [w], rfl, w, [], rfl, rfl, q⟩
/-- x, y = e -/
theorem s_unp2 (i j : Nat) (hc : X.calm = true) (hN : X.N.Nodup) (hi : X.N[i]? = some x) (hj : X.N[j]? = some y) (hx : X.env.scope.names.lookup x = some .local) (hy : X.env.scope.names.lookup y = some .local)
    (h : wE X e σ H fun v H1 => ∃ a u w, v = .ref a ∧ SqT X.K H1 a [u, w] ∧ D.nx ((σ.set i (some u)).set j (some w)) H1)
    (hw : swappedStores [.Tuple [.Name x px, .Name y py] kt pt] e X.env = pure none := by rfl) (hs : swapsWithSole [.Tuple [.Name x px, .Name y py] kt pt] e pos.line X.env = pure false := by rfl) : wS X (.Assign [.Tuple [.Name x px, .Name y py] kt pt] e pos) D σ H := by
  refine toS (ps_asg pe_self (pg_t2 i j hc hN hi hj hx hy) hs hw) ?_
  refine wE_mono h ?_
  rintro v H1 ⟨a, u, w, rfl, h1, h2⟩
  exact g2 h1 h2
/-- x, y, z = a, b, c -/
theorem s_par3 (i j l : Nat) {a b c : Expr} {k2 : Nat} {pt2 : Pos} (hc : X.calm = true) (hN : X.N.Nodup) (hi : X.N[i]? = some x) (hj : X.N[j]? = some y) (hl : X.N[l]? = some z) (hij : i ≠ j) (hil : i ≠ l) (hjl : j ≠ l) (hx : X.env.scope.names.lookup x = some .local) (hy : X.env.scope.names.lookup y = some .local) (hz : X.env.scope.names.lookup z = some .local)
    (hw : swappedStores [.Tuple [.Name x px, .Name y py, .Name z pz] kt pt] (.Tuple [a, b, c] k2 pt2) X.env = pure (some [x, y, z]))
    (h : wA X [a, b, c] σ H fun vs H1 => ∃ u v w, vs = [u, v, w] ∧ D.nx (((σ.set i (some u)).set j (some v)).set l (some w)) H1)
    (hs : swapsWithSole [.Tuple [.Name x px, .Name y py, .Name z pz] kt pt] (.Tuple [a, b, c] k2 pt2) pos.line X.env = pure false := by rfl) : wS X (.Assign [.Tuple [.Name x px, .Name y py, .Name z pz] kt pt] (.Tuple [a, b, c] k2 pt2) pos) D σ H :=
  toS (ps_par3 hc hN hi hj hl hij hil hjl hx hy hz pa_self hw hs) h
/-- for (tg) in a list -/
theorem s_forLg {tg : Expr} {g : TG} {body : List Stmt} (pg : PG X tg g) (hp : PassesOwn (model X.prog X.w) X.A X.env X.xe) (hc : X.calm = true)
    (h : wE X e σ H fun v H1 => ∃ a xs, v = .ref a ∧ SqL X.K H1 a xs ∧ ∃ Pv : Nat → L2.St → Hp → Prop, Pv 0 σ H1 ∧ (∀ k σ H, k ≤ xs.length → Pv k σ H → SqL X.K H a xs) ∧
      (∀ k v σ H, xs[k]? = some v → Pv k σ H → g v σ H fun σ2 H2 => wB X body { D with nx := Pv (k + 1), ct := Pv (k + 1), bk := D.nx } σ2 H2) ∧ ∀ σ H, Pv xs.length σ H → D.nx σ H)
    (hs : ∀ x, foldedSetIterable e X.env x = pure x := by intro _; rfl) : wS X (.For tg e body [] pos) D σ H := by
  refine toS (ps_for hp hc (pi_list pe_self) pg pss_self hs) ?_
  refine wE_mono h ?_
  rintro v H1 ⟨a, xs, rfl, hs, Pv, h0, hl, ht, he⟩
  exact ⟨a, rfl, ⟨xs, hs⟩, for_list Pv h0 hl ht he⟩
theorem s_forTg {tg : Expr} {g : TG} {body : List Stmt} (pg : PG X tg g) (hp : PassesOwn (model X.prog X.w) X.A X.env X.xe) (hc : X.calm = true)
    (h : wE X e σ H fun v H1 => ∃ a xs, v = .ref a ∧ SqT X.K H1 a xs ∧ ∃ Pv : Nat → L2.St → Hp → Prop, Pv 0 σ H1 ∧ (∀ k σ H, k ≤ xs.length → Pv k σ H → SqT X.K H a xs) ∧
      (∀ k v σ H, xs[k]? = some v → Pv k σ H → g v σ H fun σ2 H2 => wB X body { D with nx := Pv (k + 1), ct := Pv (k + 1), bk := D.nx } σ2 H2) ∧ ∀ σ H, Pv xs.length σ H → D.nx σ H)
    (hs : ∀ x, foldedSetIterable e X.env x = pure x := by intro _; rfl) : wS X (.For tg e body [] pos) D σ H := by
  refine toS (ps_for hp hc (pi_tup pe_self) pg pss_self hs) ?_
  refine wE_mono h ?_
  rintro v H1 ⟨a, xs, rfl, hs, Pv, h0, hl, ht, he⟩
  exact ⟨a, rfl, ⟨xs, hs⟩, for_tup Pv h0 hl ht he⟩
/-- for i, x in enumerate(list) -/
theorem s_forEn (i j : Nat) {p2 p3 : Pos} {body : List Stmt} (hg : Gl X "enumerate") (hm : X.mg "enumerate" = none) (hp : PassesOwn (model X.prog X.w) X.A X.env X.xe) (hc : X.calm = true) (hN : X.N.Nodup) (hi : X.N[i]? = some x) (hj : X.N[j]? = some y) (F : ∀ x, X.fn x = true) (hx : L2.Loc X.env.scope x) (hy : L2.Loc X.env.scope y)
    (h : wE X e σ H fun v H1 => ∃ a xs, v = .ref a ∧ SqL X.K H1 a xs ∧ ∃ Pv : Nat → L2.St → Hp → Prop, Pv 0 σ H1 ∧ (∀ k σ H, k ≤ xs.length → Pv k σ H → SqL X.K H a xs) ∧
      (∀ k v σ H T, xs[k]? = some v → Pv k σ H → H T = none → wB X body { D with nx := Pv (k + 1), ct := Pv (k + 1), bk := D.nx } ((σ.set i (some (.int (k : Int)))).set j (some v)) (upd H T (.tup [.int (k : Int), v]))) ∧ ∀ σ H, Pv xs.length σ H → D.nx σ H)
    (hst : starEach [e] X.env = [(false, eval e X.env)] := by rfl)
    (hs : ∀ z, foldedSetIterable (.Call (.Name "enumerate" p2) [e] [] p3) X.env z = pure z := by intro _; rfl) : wS X (.For (.Tuple [.Name x px, .Name y py] kt pt) (.Call (.Name "enumerate" p2) [e] [] p3) body [] pos) D σ H := by
  refine toS (ps_for hp hc (pi_enum hg hm pa_self hst) (pg_t2g i j hc hN hi hj F hx hy) pss_self hs) ?_
  show wA X [e] σ H _
  refine a_cons (wE_mono h ?_) hst
  rintro v H1 ⟨a, xs, rfl, hs, Pv, h0, hl, ht, he⟩
  refine a_nil ⟨a, xs, rfl, hs, for_it walk_enum Pv h0 hl ?_ he⟩
  rintro k v σ H H' hk hP ⟨T, u, w, rfl, hT, rfl, hu, hw⟩
  cases hu
  exact g2 (SqT.of upd_same) (ht k w σ H T hw hP hT)
/-- x, y = e, names of cells among them -/
theorem s_unp2g (i j : Nat) (hc : X.calm = true) (hN : X.N.Nodup) (hi : X.N[i]? = some x) (hj : X.N[j]? = some y) (F : ∀ x, X.fn x = true) (hx : L2.Loc X.env.scope x) (hy : L2.Loc X.env.scope y)
    (hw : swappedStores [.Tuple [.Name x px, .Name y py] kt pt] e X.env = pure none)
    (h : wE X e σ H fun v H1 => ∃ a u w, v = .ref a ∧ SqT X.K H1 a [u, w] ∧ D.nx ((σ.set i (some u)).set j (some w)) H1)
    (hs : swapsWithSole [.Tuple [.Name x px, .Name y py] kt pt] e pos.line X.env = pure false := by rfl) : wS X (.Assign [.Tuple [.Name x px, .Name y py] kt pt] e pos) D σ H := by
  refine toS (ps_asg pe_self (pg_t2g i j hc hN hi hj F hx hy) hs hw) ?_
  refine wE_mono h ?_
  rintro v H1 ⟨a, u, w, rfl, h1, h2⟩
  exact g2 h1 h2
/-- xs.index(e) -/
theorem e_index {o : Expr} {apos cpos : Pos} (h : wE X o σ H fun x H1 => tyV X.K "list" x H1 ∧ wE X e σ H1 fun y H2 => ∃ (a : Addr) (ys : List V) (j : Nat) (z : V), x = .ref a ∧ SqL X.K H2 a ys ∧ flatV y = true ∧ ys.all flatV = true ∧ ys[j]? = some z ∧ eqV z y = true ∧ (∀ (m : Nat) (z' : V), m < j → ys[m]? = some z' → eqV z' y = false) ∧ Q (.int (j : Int)) H2)
    (n1 : starEach [e] X.env = (false, eval e X.env) :: starEach [] X.env := by rfl) (n2 : attributeBase o "index" X.env (eval o X.env) = eval o X.env := by rfl) (n3 : ((((backTo cpos (starEach [e] X.env)).all fun x => !x.fst) && (backToKw cpos (keywordEach [] X.env)).all fun x => x.fst.isSome) && decide (([e].length + ([] : List Keyword).length + if ([] : List Keyword).isEmpty = true then 0 else 1) < 30)) = true := by rfl) (n4 : (apos.endLine == cpos.line) = true := by rfl) (n5 : ((backTo cpos (starEach [] X.env)).any fun x => x.fst) = false := by rfl) : wE X (.Call (.Attribute o "index" apos) [e] [] cpos) σ H Q := by
  refine toE (pe_bm PySem.F.plainAttrs_list PySem.F.slot_list_index PySem.F.type_list_index mt_index pe_self (pa_cons pe_self pa_nil n1) n2 n3 n4 n1 n5) ?_
  refine wE_mono h ?_
  rintro x H1 ⟨t, k⟩
  refine ⟨t, wE_mono k ?_⟩
  rintro y H2 ⟨a, ys, j, z, rfl, h1, h2, h3, h4, h5, h6, q⟩
  exact ⟨a, ys, y, j, z, rfl, rfl, h1, h2, h3, h4, h5, h6, q⟩
/-- xs[:-1] -/
theorem cut_m1 (xs : List V) : cutV xs none (some (-1)) = xs.take (xs.length - 1) := by
  unfold cutV
  have e : HT.sIx xs.length xs.length (some (-1)) = xs.length - 1 := by
    show (if (-1 : Int) < 0 then ((-1 : Int) + (xs.length : Int)).toNat else min (-1 : Int).toNat xs.length) = _
    rw [if_pos (by decide)]
    omega
  rw [e, HT.sIx_none, List.drop_zero, Nat.sub_zero]
theorem eqv_ints : ∀ ns ms : List Int, PyData.eqvAll (ns.map PyData.int) (ms.map PyData.int) = decide (ns = ms)
  | [], [] => by rfl
  | [], t :: ts => by rfl
  | s :: ss, [] => by rfl
  | s :: ss, t :: ts => by
    show ((s == t) && PyData.eqvAll (ss.map PyData.int) (ts.map PyData.int)) = _
    rw [eqv_ints ss ts, Bool.eq_iff_iff]
    simp
theorem lay_ints : ∀ ns : List Int, PyData.canLayAll0 (ns.map PyData.int) = true
  | [] => rfl
  | s :: ss => by
    show (true && PyData.canLayAll0 (ss.map PyData.int)) = true
    rw [lay_ints ss]; rfl
theorem depth_ints : ∀ ns : List Int, PyData.depthAll (ns.map PyData.int) ≤ 10
  | [] => by decide
  | s :: ss => by
    have := depth_ints ss
    have e : PyData.depth (PyData.int s) ≤ 10 := by simp [PyData.depth]
    simp only [List.map_cons, PyData.depthAll]
    omega
theorem shaped_intsT (ns : List Int) : SeqAt.shaped (.tuple (ns.map PyData.int)) = true := by
  unfold SeqAt.shaped
  rw [show PyData.canLay0 (.tuple (ns.map PyData.int)) = true by show PyData.canLayAll0 _ = true; exact lay_ints ns, Bool.true_and]
  have := depth_ints ns
  exact decide_eq_true (by simp only [PyData.depth]; omega)
theorem shaped_intsL (ns : List Int) : SeqAt.shaped (.list (ns.map PyData.int)) = true := by
  unfold SeqAt.shaped
  rw [show PyData.canLay0 (.list (ns.map PyData.int)) = true by show PyData.canLayAll0 _ = true; exact lay_ints ns, Bool.true_and]
  have := depth_ints ns
  exact decide_eq_true (by simp only [PyData.depth]; omega)
/-- tuples and lists of integers, one against the other -/
theorem o_neT {a b : Addr} {ns ms : List Int} (hu : X.A.units + 64 < cLine) (h1 : SqT X.K H a (ns.map V.int)) (h2 : SqT X.K H b (ms.map V.int)) (h : Q (.bl (!decide (ns = ms))) H) : wO X (compareOp .NotEq) (.ref a) (.ref b) H Q := by
  refine o_neD hu (.tup h1 (dp_ints ns)) (.tup h2 (dp_ints ms)) (shaped_intsT ns) (shaped_intsT ms) ?_
  rw [show PyData.eqv (.tuple (ns.map PyData.int)) (.tuple (ms.map PyData.int)) = decide (ns = ms) from eqv_ints ns ms]
  exact h
theorem o_neL {a b : Addr} {ns ms : List Int} (hu : X.A.units + 64 < cLine) (h1 : SqL X.K H a (ns.map V.int)) (h2 : SqL X.K H b (ms.map V.int)) (h : Q (.bl (!decide (ns = ms))) H) : wO X (compareOp .NotEq) (.ref a) (.ref b) H Q := by
  refine o_neD hu (.lst h1 (dp_ints ns)) (.lst h2 (dp_ints ms)) (shaped_intsL ns) (shaped_intsL ms) ?_
  rw [show PyData.eqv (.list (ns.map PyData.int)) (.list (ms.map PyData.int)) = decide (ns = ms) from eqv_ints ns ms]
  exact h
end
end WX

set_option Elab.async false
set_option linter.all false
set_option maxRecDepth 100000
set_option maxHeartbeats 4000000
namespace WX
open PySem PySem.Spec PyProof.Rows L2 HT SrtO
section
variable {prog : Program} {w : World} {A : Around} {E : Value → Shared → Prop} {s : Shared}
theorem collect_tup {l : Addr} {vs : List Value} {Q : List Value → Shared → Prop} (hl : IsTup s.heap l vs.toArray)
    (h : Q vs { s with heap := (s.heap.push (seqObj "list" #[] 0)).update s.heap.objs.size (Obj.mapSeq (· ++ vs.toArray)) }) (hsz : vs.length ≤ sizeLine) :
    wpAny (model prog w) A (collect (.ref l)) Q E s := by
  obtain ⟨o, ho, hc, n, hd⟩ := id hl
  unfold collect
  refine wpAny_bind (wpAny_runValue (codeAny_builtin entry_proto_collect' ?_))
  show wpAny _ _ (do again (.builtin "list.__iadd__" ⟨[← newList [], .ref l], []⟩)) _ _ s
  refine wpAny_bind (wpAny_newList (wpAny_pure ⟨Code.quiet_builtin _ (by decide +kernel), codeAny_builtin entry_list_iadd' ?_⟩))
  show wpAny _ _ (Builtin.List.listExtendWith (.ref s.heap.objs.size) (.ref l) (.ref s.heap.objs.size)) _ _ { s with heap := s.heap.push (seqObj "list" #[] 0) }
  unfold Builtin.List.listExtendWith
  have ho' : (s.heap.push (seqObj "list" #[] 0)).get? l = some o := Heap.get?_push_of_some _ ho
  refine wpAny_bind (wpAny_typeOf (T := "tuple") ⟨o, ho', hc⟩ ?_)
  have ht : (Value.type "tuple" == Value.type "tuple") = true := by rfl
  rw [if_pos (by rw [ht]; simp)]
  refine wpAny_bind (listItems_at ho' hd ?_)
  refine wpAny_bind (listItems_at (xs := #[]) (n := 0) (Heap.get?_push_size _ rfl) rfl ?_)
  rw [if_neg (by simp)]
  refine wpAny_bind (listUpdate_at (xs := #[]) (n := 0) (Heap.get?_push_size _ rfl) rfl ?_ (Nat.zero_le _) (by show (#[] ++ vs.toArray).size ≤ sizeLine + 1; simp only [Array.size_append, List.size_toArray, List.length_nil]; omega))
  refine wpAny_pure ?_
  show wpAny (model prog w) A (do
      let o ← load s.heap.objs.size
      match o.data with
      | .seq xs _ => pure xs.toList
      | _ => unsupported "internal:collect") Q E { s with heap := (s.heap.push (seqObj "list" #[] 0)).update s.heap.objs.size (Obj.mapSeq (· ++ vs.toArray)) }
  refine wpAny_bind (wpAny_load (get?_update_seq (Heap.get?_push_size _ rfl) _) ?_)
  show wpAny _ _ (pure ((#[] : Array Value) ++ vs.toArray).toList) Q E _
  rw [show ((#[] : Array Value) ++ vs.toArray).toList = vs by simp]
  exact wpAny_pure h
theorem sorted_ordT {l : Addr} {vs : List Value} {ltv : Value → Value → Bool} {Q : Value → Shared → Prop} (O : Swo ltv) (hl : IsTup s.heap l vs.toArray) (hz : vs.length ≤ sizeLine)
    (hS : 2 ≤ vs.length → ∀ (h₁ : Heap) (a : Addr), h₁.get? a = some (seqObj "list" vs.toArray 0) → (∀ b o, s.heap.get? b = some o → b ≠ a ∧ h₁.get? b = some o) → SortableO prog w A.in1.in1 { s with heap := h₁ } a vs ltv)
    (h : ∀ out : List Value, Srtd ltv out → Stb ltv out vs → Q (.ref (s.heap.objs.size + 1)) { s with heap := sortedAll s.heap vs out.toArray }) :
    wpAny (model prog w) A (call (.builtin "sorted") [.ref l]) Q E s := by
  refine Calls.call_function_entry kind_sorted plain_sorted entry_sorted (args_sorted1 _) ?_
  unfold Builtin.«sorted»
  refine wpAny_bind (m := checkCount "sorted" 1 1 _) (wpAny_pure ?_)
  refine wpAny_bind (collect_tup hl ?_ hz)
  refine wpAny_bind (wpAny_newList ?_ hz)
  have hsz : ((s.heap.push (seqObj "list" #[] 0)).update s.heap.objs.size (Obj.mapSeq (· ++ vs.toArray))).objs.size = s.heap.objs.size + 1 := by
    rw [Heap.size_update, size_push']
  have hoL : (((s.heap.push (seqObj "list" #[] 0)).update s.heap.objs.size (Obj.mapSeq (· ++ vs.toArray))).push (seqObj "list" vs.toArray 0)).get? (s.heap.objs.size + 1) = some (seqObj "list" vs.toArray 0) := by
    rw [← hsz]; exact Heap.get?_push_size _ rfl
  have keep : ∀ b o, s.heap.get? b = some o → b ≠ s.heap.objs.size + 1 ∧ (((s.heap.push (seqObj "list" #[] 0)).update s.heap.objs.size (Obj.mapSeq (· ++ vs.toArray))).push (seqObj "list" vs.toArray 0)).get? b = some o := fun b o q => by
    have hlt : b < s.heap.objs.size := Heap.lt_size q
    refine ⟨Nat.ne_of_lt (Nat.lt_succ_of_lt hlt), Heap.get?_push_of_some _ ?_⟩
    rw [Heap.get?_update_ne _ _ _ _ (Nat.ne_of_lt hlt)]
    exact Heap.get?_push_of_some _ q
  show wpAny _ _ _ _ _ { s with heap := ((s.heap.push (seqObj "list" #[] 0)).update s.heap.objs.size (Obj.mapSeq (· ++ vs.toArray))).push (seqObj "list" vs.toArray 0) }
  rw [hsz]
  refine wpAny_bind (wpAny_holding (wpAny_call_entry slot_list_sort ⟨_, hoL, rfl⟩ entry_list_sort (list_sort_ord O hoL hz (fun h2 => hS h2 _ _ hoL keep) fun out hs hb => ⟨_, rfl, ?_⟩) (args_list_sort _)))
  exact wpAny_pure ⟨_, rfl, h out hs hb⟩
end
section
variable {X : Cx} {H : Hp} {Q : VK}
/-- sorted(t), t a tuple of integers -/
theorem c_sortT {a : Addr} {ns : List Int} (hs : SqT X.K H a (ns.map V.int)) (q : ∀ (ns' : List Int) (p : Addr), ns'.Perm ns → ns'.Pairwise (· ≤ ·) → H p = none → Q (.ref p) (upd H p (.lst (ns'.map V.int)))) : wC X (.builtin "sorted") [.ref a] H Q := by
  refine ⟨fun pins s σ us I r => ?_⟩
  obtain ⟨its, rv, hl, hz⟩ := I.tuple hs
  rw [Vals.ref1 r]
  have hi := rv.ints
  refine sorted_ordT SrtO.swo_int hl (by rw [← rv.length]; exact hz) (fun h2 h₁ a' _ _ => SrtO.ints_sortable hi h2) fun out h1 h2 => ?_
  obtain ⟨k1, k2, k3⟩ := SrtO.ints_out hi h1 h2
  obtain ⟨ep, he'⟩ := PyProof.Rows.sortedAll_at s.heap its out.toArray
  have hlen : ((out.map SrtO.iv).map V.int).length ≤ sizeLine := by
    rw [List.length_map, k2.length_eq]
    rw [List.length_map] at hz
    exact hz
  exact ⟨.ref _, upd H (s.heap.objs.size + 1) (.lst ((out.map SrtO.iv).map V.int)), I.laid (t' := s.toks) (fun _ _ => PyProof.Rows.sortedAll_old) (Nat.le_succ _) ⟨hlen, out, ep, vals_of_ints k1, he'⟩, rfl, q _ _ k2 k3 (I.hok.fresh (Nat.le_succ _))⟩
/-- sorted(xs), xs a list of integers -/
theorem c_sortL {a : Addr} {ns : List Int} (hs : SqL X.K H a (ns.map V.int)) (q : ∀ (ns' : List Int) (p : Addr), ns'.Perm ns → ns'.Pairwise (· ≤ ·) → H p = none → Q (.ref p) (upd H p (.lst (ns'.map V.int)))) : wC X (.builtin "sorted") [.ref a] H Q := toC cr_sortedI ⟨a, ns, rfl, hs, q⟩
theorem wPS_mono {o i v : V} {R S : Hp → Prop} (h : wPS X o i v H R) (k : ∀ H', R H' → S H') : wPS X o i v H S := ⟨fun pins s σ ov iv u I r1 r2 r3 => thn (h.run pins s σ ov iv u I r1 r2 r3) fun _ _ ⟨H', I', r⟩ => ⟨H', I', k _ r⟩⟩
/-- o[i], o'[i'] = e -/
theorem s_swS {σ : L2.St} {D : Ends} {e o1 i1 o2 i2 : Expr} {q1 q2 pt pos : Pos} {kt : Nat} (hc : X.calm = true)
    (hw : swappedStores [.Tuple [.Subscript o1 i1 q1, .Subscript o2 i2 q2] kt pt] e X.env = pure none)
    (h : wE X e σ H fun v H1 => ∃ a u w, v = .ref a ∧ SqT X.K H1 a [u, w] ∧ wE X o1 σ H1 fun ov H2 => wE X i1 σ H2 fun iv H3 => wPS X ov iv u H3 fun H4 =>
      wE X o2 σ H4 fun ov2 H5 => wE X i2 σ H5 fun iv2 H6 => wPS X ov2 iv2 w H6 fun H7 => D.nx σ H7)
    (ha : ∀ v, assign (.Subscript o1 i1 q1) X.env v = (do
      let ov ← holding [v] (eval o1 X.env)
      let iv ← holding [v, ov] (eval i1 X.env)
      standAt q1
      holding [v, ov, iv] (setItem ov iv v)
      release [v, ov, iv] []) := by intro _; rfl)
    (hb : ∀ v, assign (.Subscript o2 i2 q2) X.env v = (do
      let ov ← holding [v] (eval o2 X.env)
      let iv ← holding [v, ov] (eval i2 X.env)
      standAt q2
      holding [v, ov, iv] (setItem ov iv v)
      release [v, ov, iv] []) := by intro _; rfl)
    (hs : swapsWithSole [.Tuple [.Subscript o1 i1 q1, .Subscript o2 i2 q2] kt pt] e pos.line X.env = pure false := by rfl) : wS X (.Assign [.Tuple [.Subscript o1 i1 q1, .Subscript o2 i2 q2] kt pt] e pos) D σ H := by
  refine toS (ps_asg pe_self (pg_tup (n := 2) hc (pgs_cons (pg_sub pe_self pe_self set_self ha) (pgs_cons (pg_sub pe_self pe_self set_self hb) pgs_nil))) hs hw) ?_
  refine wE_mono h ?_
  rintro v H1 ⟨a, u, w, rfl, h1, k⟩
  exact ⟨a, [u, w], rfl, h1, rfl, u, [w], rfl, wE_mono k fun ov H2 k2 => wE_mono k2 fun iv H3 k3 => wPS_mono k3 fun H4 k4 => ⟨w, [], rfl, wE_mono k4 fun ov2 H5 k5 => wE_mono k5 fun iv2 H6 k6 => wPS_mono k6 fun H7 k7 => ⟨rfl, k7⟩⟩⟩
/-- xs.pop(e) -/
theorem e_pop {σ : L2.St} {o e : Expr} {apos cpos : Pos} (h : wE X o σ H fun x H1 => tyV X.K "list" x H1 ∧ wE X e σ H1 fun y H2 => ∃ (l : Addr) (xs : List V) (k : Nat) (v : V), x = .ref l ∧ y = .int (k : Int) ∧ H2 l = some (.lst xs) ∧ xs[k]? = some v ∧ xs.length < 2 ^ 60 ∧ Q v (upd H2 l (.lst (xs.eraseIdx k))))
    (n1 : starEach [e] X.env = (false, eval e X.env) :: starEach [] X.env := by rfl) (n2 : attributeBase o "pop" X.env (eval o X.env) = eval o X.env := by rfl) (n3 : ((((backTo cpos (starEach [e] X.env)).all fun x => !x.fst) && (backToKw cpos (keywordEach [] X.env)).all fun x => x.fst.isSome) && decide (([e].length + ([] : List Keyword).length + if ([] : List Keyword).isEmpty = true then 0 else 1) < 30)) = true := by rfl) (n4 : (apos.endLine == cpos.line) = true := by rfl) (n5 : ((backTo cpos (starEach [] X.env)).any fun x => x.fst) = false := by rfl) : wE X (.Call (.Attribute o "pop" apos) [e] [] cpos) σ H Q := by
  refine toE (pe_bm PySem.F.plainAttrs_list PySem.F.slot_list_pop PySem.F.type_list_pop mt_popAt pe_self (pa_cons pe_self pa_nil n1) n2 n3 n4 n1 n5) ?_
  refine wE_mono h ?_
  rintro x H1 ⟨t, h2⟩
  refine ⟨t, wE_mono h2 ?_⟩
  rintro y H2 ⟨l, xs, k, v, ex, ey, hl, hk, hz, q⟩
  subst ex ey
  have hlt := (List.getElem?_eq_some_iff.mp hk).1
  have e1 : ixN xs.length (k : Int) = some k := by
    unfold ixN
    simp
    omega
  obtain ⟨e2, _⟩ := ixN_seq e1
  exact ⟨l, xs, (k : Int), k, v, rfl, rfl, hl, by omega, by omega, e2, hk, q⟩
end
end WX

set_option Elab.async false
set_option linter.all false
set_option maxRecDepth 100000
set_option maxHeartbeats 4000000
namespace WX
open PySem PySem.Spec PyProof.Rows L2 HT
section
variable {X : Cx} {σ : L2.St} {H : Hp} {Q : VK}
/-! ### comprehensions over whatever walk -/
theorem lcG {J : It} {n : Nat} {G : Hp → Prop} {Y : Nat → Hp → V → Hp → Prop} (w : Walk J n G Y) {g : TG} {tt : TT} {te : TE} {vs : List Nat} {H1 : Hp} {D : Addr} {Qd : Hp → Prop} (Pv : Nat → List V → Hp → Prop) (h0 : Pv 0 [] (upd H1 D (.lst [])))
    (hG : ∀ i acc H, i ≤ n → Pv i acc H → G H)
    (hs : ∀ i x acc H H', i < n → H D = some (.lst acc) → Pv i acc H → Y i H x H' → g x (wipe σ vs) H' fun σ2 H2 => wipe σ2 vs = wipe σ vs ∧ tt σ2 H2 fun b H3 =>
      if b = true then te σ2 H3 fun y H4 => H4 D = some (.lst acc) ∧ acc.length < sizeLine ∧ Pv (i + 1) (acc ++ [y]) (upd H4 D (.lst (acc ++ [y]))) else H3 D = some (.lst acc) ∧ Pv (i + 1) acc H3)
    (hd : ∀ acc H, H D = some (.lst acc) → Pv n acc H → Qd H)
    (mg : ∀ x σ H (A B : L2.St → Hp → Prop), (∀ s h, A s h → B s h) → g x σ H A → g x σ H B) (mt : ∀ σ H (A B : Bool → Hp → Prop), (∀ b h, A b h → B b h) → tt σ H A → tt σ H B) (me : ∀ σ H (A B : VK), (∀ v h, A v h → B v h) → te σ H A → te σ H B) :
    ∃ W : Nat → Nat → Hp → Prop, (∃ m, W 0 m (upd H1 D (.lst []))) ∧ ∀ i m H, W i m H →
      (J.stop i H ∧ Qd H) ∨ (J.go i H ∧ ∃ Nx : Hp → Prop, (∀ H', Nx H' → ∃ m', m' < m ∧ W (i + 1) m' H') ∧ ∀ x H', J.yld i H x H' → g x (wipe σ vs) H' fun σ2 H2 => wipe σ2 vs = wipe σ vs ∧ tt σ2 H2 fun b H3 =>
        if b = true then te σ2 H3 fun y H4 => ∃ acc, H4 D = some (.lst acc) ∧ acc.length < sizeLine ∧ Nx (upd H4 D (.lst (acc ++ [y]))) else Nx H3) := by
  refine lc_it w (fun i H => ∃ acc, H D = some (.lst acc) ∧ Pv i acc H) ⟨[], upd_same, h0⟩ (fun i H hi ⟨acc, _, p⟩ => hG i acc H hi p) ?_ (fun H ⟨acc, e, p⟩ => hd acc H e p)
  rintro i x H H' hi ⟨acc, e, p⟩ y
  refine mg _ _ _ _ _ ?_ (hs i x acc H H' hi e p y)
  rintro σ2 H2 ⟨e1, k⟩
  refine ⟨e1, mt _ _ _ _ ?_ k⟩
  rintro b H3 k3
  cases b with
  | true =>
    rw [if_pos rfl] at k3 ⊢
    exact me _ _ _ _ (fun y H4 ⟨a1, a2, a3⟩ => ⟨acc, a1, a2, _, upd_same, a3⟩) k3
  | false =>
    rw [if_neg Bool.false_ne_true] at k3 ⊢
    exact ⟨acc, k3⟩
theorem mg_name {j : Nat} : ∀ x σ H (A B : L2.St → Hp → Prop), (∀ s h, A s h → B s h) → gName j x σ H A → gName j x σ H B := fun x σ H A B k h => k _ _ h
theorem mt_yes : ∀ σ H (A B : Bool → Hp → Prop), (∀ b h, A b h → B b h) → tYes σ H A → tYes σ H B := fun σ H A B k h => k _ _ h
theorem mt_wTb {scope : Scope} {c : Expr} : ∀ σ H (A B : Bool → Hp → Prop), (∀ b h, A b h → B b h) → wTb X scope c σ H A → wTb X scope c σ H B := fun σ H A B k h X' bk => wT_mono (h X' bk) k
theorem me_wEb {scope : Scope} {c : Expr} : ∀ σ H (A B : VK), (∀ v h, A v h → B v h) → wEb X scope c σ H A → wEb X scope c σ H B := fun σ H A B k h X' bk => wE_mono (h X' bk) k
theorem wipe_two {σ : L2.St} {u v : V} {i j : Nat} (h : i ≠ j) : wipe (((wipe σ [i, j]).set i (some u)).set j (some v)) [i, j] = wipe σ [i, j] ∧ ((wipe σ [i, j]).set i (some u)).set j (some v) = (σ.set i (some u)).set j (some v) := by
  show (((((σ.set j none).set i none).set i (some u)).set j (some v)).set j none).set i none = (σ.set j none).set i none ∧ (((σ.set j none).set i none).set i (some u)).set j (some v) = _
  constructor
  · rw [List.set_set, List.set_set, List.set_comm (some u) none h, List.set_set, List.set_set]
  · rw [List.set_set, List.set_comm none (some u) (Ne.symm h), List.set_set]
section
variable {X : Cx} {σ : L2.St} {H : Hp} {Q : VK} {D : Ends} {pos : Pos} {e elt iter : Expr} {scope : Scope} {x : Str} {j : Nat} {px : Pos}
/-! the items that a condition lets through; nothing is changed -/
/-- i turns are done: what was let through -/
def Kept (H1 : Hp) (p : Nat → Bool) (f : Nat → V) (i : Nat) (acc : List V) (H : Hp) : Prop := Same H1 H ∧ acc = ((List.range i).filter p).map f
theorem kept_s {H1 H : Hp} {p : Nat → Bool} {f : Nat → V} {i : Nat} {acc : List V} (h : acc = ((List.range i).filter p).map f) : acc.length ≤ i ∧ (p i = true → acc ++ [f i] = ((List.range (i + 1)).filter p).map f) ∧ (p i = false → acc = ((List.range (i + 1)).filter p).map f) := by
  subst h
  refine ⟨?_, fun e => ?_, fun e => ?_⟩
  · rw [List.length_map]
    exact Nat.le_trans (List.length_filter_le ..) (by rw [List.length_range]; exact Nat.le_refl _)
  · rw [List.range_succ, List.filter_append, List.map_append]
    simp [e]
  · rw [List.range_succ, List.filter_append, List.map_append]
    simp [e]
/-- one name -/
theorem lcP {J : It} {n : Nat} {G : Hp → Prop} {Y : Nat → Hp → V → Hp → Prop} (w : Walk J n G Y) {tt : TT} {te : TE} {H1 : Hp} {Qd : Addr → Hp → Prop} (hz : n < sizeLine) (p : Nat → Bool) (f : Nat → V) (hG : ∀ H, Same H1 H → G H)
    (mt : ∀ σ H (A B : Bool → Hp → Prop), (∀ b h, A b h → B b h) → tt σ H A → tt σ H B) (me : ∀ σ H (A B : VK), (∀ v h, A v h → B v h) → te σ H A → te σ H B)
    (hs : ∀ i x H H', i < n → Same H1 H → Y i H x H' → Same H H' ∧ tt (σ.set j (some x)) H' fun b H3 => b = p i ∧ Same H' H3 ∧ (p i = true → te (σ.set j (some x)) H3 fun y H4 => y = f i ∧ Same H3 H4))
    (hd : ∀ D H', H1 D = none → Same H1 H' → H' D = some (.lst (((List.range n).filter p).map f)) → Qd D H') (D : Addr) (hD : H1 D = none) :
    ∃ W : Nat → Nat → Hp → Prop, (∃ m, W 0 m (upd H1 D (.lst []))) ∧ ∀ i m H, W i m H →
      (J.stop i H ∧ Qd D H) ∨ (J.go i H ∧ ∃ Nx : Hp → Prop, (∀ H', Nx H' → ∃ m', m' < m ∧ W (i + 1) m' H') ∧ ∀ x H', J.yld i H x H' → gName j x (wipe σ [j]) H' fun σ2 H2 => wipe σ2 [j] = wipe σ [j] ∧ tt σ2 H2 fun b H3 =>
        if b = true then te σ2 H3 fun y H4 => ∃ acc, H4 D = some (.lst acc) ∧ acc.length < sizeLine ∧ Nx (upd H4 D (.lst (acc ++ [y]))) else Nx H3) := by
  refine lcG w (Kept H1 p f) ⟨(Same.refl H1).new hD, rfl⟩ (fun i acc H _ k => hG H k.1) ?_ (fun acc H e k => hd D H hD k.1 (by rw [e, k.2])) mg_name mt me
  rintro i x acc H H' hi e ⟨sm, ea⟩ y
  obtain ⟨e1, e2⟩ := wipe_one (σ := σ) (v := x) (j := j)
  show wipe ((wipe σ [j]).set j (some x)) [j] = _ ∧ _
  refine ⟨e1, ?_⟩
  rw [e2]
  obtain ⟨s1, k⟩ := hs i x H H' hi sm y
  obtain ⟨l1, l2, l3⟩ := kept_s (H1 := H1) (H := H) ea
  refine mt _ _ _ _ ?_ k
  rintro b H3 ⟨rfl, s2, k3⟩
  have s13 := (sm.trans s1).trans s2
  cases hp : p i with
  | true =>
    rw [if_pos rfl]
    refine me _ _ _ _ ?_ (k3 hp)
    rintro y H4 ⟨rfl, s4⟩
    exact ⟨s4 _ _ (s2 _ _ (s1 _ _ e)), by omega, (s13.trans s4).ch hD Ch.refl.put, l2 hp⟩
  | false =>
    rw [if_neg Bool.false_ne_true]
    exact ⟨s2 _ _ (s1 _ _ e), s13, l3 hp⟩
/-- a pair of names -/
theorem lcP2 {j2 : Nat} (hj : j ≠ j2) {J : It} {n : Nat} {G : Hp → Prop} {Y : Nat → Hp → V → Hp → Prop} (w : Walk J n G Y) {tt : TT} {te : TE} {H1 : Hp} {Qd : Addr → Hp → Prop} (hz : n < sizeLine) (p : Nat → Bool) (f : Nat → V) (hG : ∀ H, Same H1 H → G H)
    (mt : ∀ σ H (A B : Bool → Hp → Prop), (∀ b h, A b h → B b h) → tt σ H A → tt σ H B) (me : ∀ σ H (A B : VK), (∀ v h, A v h → B v h) → te σ H A → te σ H B)
    (hs : ∀ i x H H', i < n → Same H1 H → Y i H x H' → Same H H' ∧ ∃ a u v, x = .ref a ∧ SqT X.K H' a [u, v] ∧ tt ((σ.set j (some u)).set j2 (some v)) H' fun b H3 => b = p i ∧ Same H' H3 ∧ (p i = true → te ((σ.set j (some u)).set j2 (some v)) H3 fun y H4 => y = f i ∧ Same H3 H4))
    (hd : ∀ D H', H1 D = none → Same H1 H' → H' D = some (.lst (((List.range n).filter p).map f)) → Qd D H') (D : Addr) (hD : H1 D = none) :
    ∃ W : Nat → Nat → Hp → Prop, (∃ m, W 0 m (upd H1 D (.lst []))) ∧ ∀ i m H, W i m H →
      (J.stop i H ∧ Qd D H) ∨ (J.go i H ∧ ∃ Nx : Hp → Prop, (∀ H', Nx H' → ∃ m', m' < m ∧ W (i + 1) m' H') ∧ ∀ x H', J.yld i H x H' → gTup X.K 2 (gCons (gName j) (gCons (gName j2) gNil)) x (wipe σ [j, j2]) H' fun σ2 H2 => wipe σ2 [j, j2] = wipe σ [j, j2] ∧ tt σ2 H2 fun b H3 =>
        if b = true then te σ2 H3 fun y H4 => ∃ acc, H4 D = some (.lst acc) ∧ acc.length < sizeLine ∧ Nx (upd H4 D (.lst (acc ++ [y]))) else Nx H3) := by
  refine lcG w (Kept H1 p f) ⟨(Same.refl H1).new hD, rfl⟩ (fun i acc H _ k => hG H k.1) ?_ (fun acc H e k => hd D H hD k.1 (by rw [e, k.2])) ?_ mt me
  · rintro i x acc H H' hi e ⟨sm, ea⟩ y
    obtain ⟨s1, a, u, v, rfl, ht, k⟩ := hs i x H H' hi sm y
    obtain ⟨e1, e2⟩ := wipe_two (σ := σ) (u := u) (v := v) hj
    refine g2 ht ⟨e1, ?_⟩
    rw [e2]
    obtain ⟨l1, l2, l3⟩ := kept_s (H1 := H1) (H := H) ea
    refine mt _ _ _ _ ?_ k
    rintro b H3 ⟨rfl, s2, k3⟩
    have s13 := (sm.trans s1).trans s2
    cases hp : p i with
    | true =>
      rw [if_pos rfl]
      refine me _ _ _ _ ?_ (k3 hp)
      rintro y H4 ⟨rfl, s4⟩
      exact ⟨s4 _ _ (s2 _ _ (s1 _ _ e)), by omega, (s13.trans s4).ch hD Ch.refl.put, l2 hp⟩
    | false =>
      rw [if_neg Bool.false_ne_true]
      exact ⟨s2 _ _ (s1 _ _ e), s13, l3 hp⟩
  · rintro x σ H A B k ⟨a, xs, e1, e2, e3, u, r1, e4, v, r2, e5, e6, q⟩
    exact ⟨a, xs, e1, e2, e3, u, r1, e4, v, r2, e5, e6, k _ _ q⟩
/-- the elements change the dice at p -/
theorem lcDice {J : It} {n : Nat} {G : Hp → Prop} {Y : Nat → Hp → V → Hp → Prop} (w : Walk J n G Y) {te : TE} {H1 : Hp} {Qd : Addr → Hp → Prop} {p : Addr} (hz : n < sizeLine) (R : Nat → V → Prop) (hp : Dice H1 p) (hG : ∀ H, Ch p H1 H → G H)
    (me : ∀ σ H (A B : VK), (∀ v h, A v h → B v h) → te σ H A → te σ H B)
    (hs : ∀ i x H H', i < n → Ch p H1 H → Dice H p → Y i H x H' → Same H H' ∧ te (σ.set j (some x)) H' fun y H4 => R i y ∧ Ch p H' H4 ∧ Dice H4 p)
    (hd : ∀ D H' ys, H1 D = none → Ch p H1 H' → Dice H' p → H' D = some (.lst ys) → ys.length = n → (∀ i y, ys[i]? = some y → R i y) → Qd D H') (D : Addr) (hD : H1 D = none) :
    ∃ W : Nat → Nat → Hp → Prop, (∃ m, W 0 m (upd H1 D (.lst []))) ∧ ∀ i m H, W i m H →
      (J.stop i H ∧ Qd D H) ∨ (J.go i H ∧ ∃ Nx : Hp → Prop, (∀ H', Nx H' → ∃ m', m' < m ∧ W (i + 1) m' H') ∧ ∀ x H', J.yld i H x H' → gName j x (wipe σ [j]) H' fun σ2 H2 => wipe σ2 [j] = wipe σ [j] ∧ tYes σ2 H2 fun b H3 =>
        if b = true then te σ2 H3 fun y H4 => ∃ acc, H4 D = some (.lst acc) ∧ acc.length < sizeLine ∧ Nx (upd H4 D (.lst (acc ++ [y]))) else Nx H3) := by
  have pD : D ≠ p := by
    obtain ⟨x, y, z, e⟩ := hp
    rintro rfl
    rw [e] at hD
    cases hD
  refine lcG w (fun i acc H => Ch p H1 H ∧ Dice H p ∧ acc.length = i ∧ ∀ k y, acc[k]? = some y → R k y) ⟨Ch.refl.new hD, hp.new hD, rfl, fun k y z => by simp at z⟩ (fun i acc H _ k => hG H k.1) ?_ (fun acc H e k => hd D H acc hD k.1 k.2.1 e k.2.2.1 k.2.2.2) mg_name mt_yes me
  rintro i x acc H H' hi e ⟨c, d, hl, hr⟩ y
  obtain ⟨e1, e2⟩ := wipe_one (σ := σ) (v := x) (j := j)
  show wipe ((wipe σ [j]).set j (some x)) [j] = _ ∧ _
  refine ⟨e1, ?_⟩
  rw [e2]
  obtain ⟨s1, k⟩ := hs i x H H' hi c d y
  unfold tYes
  with_reducible refine iteT ?_
  refine me _ _ _ _ ?_ k
  rintro y H4 ⟨r, c4, d4⟩
  have c14 := (c.trans (Ch.of s1)).trans c4
  have dd : Dice (upd H4 D (.lst (acc ++ [y]))) p := by
    obtain ⟨x, y, z, e⟩ := d4
    exact ⟨x, y, z, upd_keep2 (Ne.symm pD) e⟩
  have cc : Ch p H1 (upd H4 D (.lst (acc ++ [y]))) := fun b u hb e => upd_keep2 (ne_of_none e hD) (c14 b u hb e)
  refine ⟨c4 _ _ pD (s1 _ _ e), by omega, cc, dd, by simp [hl], fun k z hk => ?_⟩
  rw [List.getElem?_append] at hk
  split at hk
  · exact hr k z hk
  · rename_i h
    have e1 : k = i := by
      have := (List.getElem?_eq_some_iff.mp hk).1
      simp at this
      omega
    subst e1
    rw [hl, Nat.sub_self] at hk
    simp at hk
    subst hk
    exact r
end
end
end WX

set_option Elab.async false
set_option linter.all false
set_option maxRecDepth 100000
set_option maxHeartbeats 4000000
namespace WX
open PySem PySem.Spec PyProof.Rows L2 HT
section
variable {X : Cx} {σ : L2.St} {H : Hp} {Q : VK} {D : Ends} {pos : Pos} {e elt iter c : Expr} {scope : Scope} {x x2 : Str} {j j2 : Nat} {px px2 : Pos} {N : List Str} {sc : Scope} {k : Nat}
/-- [elt for x in a tuple if c] -/
abbrev fT (X : Cx) (iter c elt : Expr) (scope : Scope) (j : Nat) (σ : L2.St) (H : Hp) (Q : VK) : Prop := wE X iter σ H fun v H1 => ∃ a xs, ∃ (p : Nat → Bool) (f : Nat → V), v = .ref a ∧ SqT X.K H1 a xs ∧ xs.length < sizeLine ∧
  (∀ i v H2, xs[i]? = some v → Same H1 H2 → wTb X scope c (σ.set j (some v)) H2 fun b H3 => b = p i ∧ Same H2 H3 ∧ (p i = true → wEb X scope elt (σ.set j (some v)) H3 fun y H4 => y = f i ∧ Same H3 H4)) ∧
  ∀ D H', H1 D = none → Same H1 H' → H' D = some (.lst (((List.range xs.length).filter p).map f)) → Q (.ref D) H'
theorem fT_tLc (h : fT X iter c elt scope j σ H Q) : tLc (iTup X.K (wE X iter)) (gName j) (wTb X scope c) (wEb X scope elt) [j] σ H Q := by
  refine wE_mono h ?_
  rintro v H1 ⟨a, xs, p, f, rfl, hs, hz, k1, k2⟩
  refine ⟨a, rfl, ⟨xs, hs⟩, fun D hD => ?_⟩
  refine lcP (Qd := fun D H => Q (.ref D) H) walk_tup hz p f (fun H s => same_tup s hs) mt_wTb me_wEb ?_ k2 D hD
  rintro i x H H' hi sm ⟨rfl, hx⟩
  exact ⟨Same.refl _, k1 i x _ hx sm⟩
theorem e_fT (j : Nat) (B : Bd X N sc k) (ok : BlkOk N sc scope [(x, j)]) (hj : N[j]? = some x) (hx : scope.names.lookup x = some .local) (h : fT X iter c elt scope j σ H Q) (hs : ∀ x, foldedSetIterable iter X.env x = pure x := by intro _; rfl) :
    wE X (.ListComp elt [⟨.Name x px, iter, [c], 0⟩] scope pos) σ H Q :=
  toE (pe_lc (own := [(x, j)]) B.calm B.nd (pi_tup pe_self) (by rw [B.hN, B.sc]; exact ok) (pgb_name B.nd (B.slot j hj) hx) (fun _ _ _ _ _ => pts_one (ptb_self ..)) peb_self hs) (fT_tLc h)
/-- [elt for x in a list if c] -/
abbrev fL (X : Cx) (iter c elt : Expr) (scope : Scope) (j : Nat) (σ : L2.St) (H : Hp) (Q : VK) : Prop := wE X iter σ H fun v H1 => ∃ a xs, ∃ (p : Nat → Bool) (f : Nat → V), v = .ref a ∧ SqL X.K H1 a xs ∧ xs.length < sizeLine ∧
  (∀ i v H2, xs[i]? = some v → Same H1 H2 → wTb X scope c (σ.set j (some v)) H2 fun b H3 => b = p i ∧ Same H2 H3 ∧ (p i = true → wEb X scope elt (σ.set j (some v)) H3 fun y H4 => y = f i ∧ Same H3 H4)) ∧
  ∀ D H', H1 D = none → Same H1 H' → H' D = some (.lst (((List.range xs.length).filter p).map f)) → Q (.ref D) H'
theorem fL_tLc (h : fL X iter c elt scope j σ H Q) : tLc (iList X.K (wE X iter)) (gName j) (wTb X scope c) (wEb X scope elt) [j] σ H Q := by
  refine wE_mono h ?_
  rintro v H1 ⟨a, xs, p, f, rfl, hs, hz, k1, k2⟩
  refine ⟨a, rfl, ⟨xs, hs⟩, fun D hD => ?_⟩
  refine lcP (Qd := fun D H => Q (.ref D) H) walk_list hz p f (fun H s => s.seq hs) mt_wTb me_wEb ?_ k2 D hD
  rintro i x H H' hi sm ⟨rfl, hx⟩
  exact ⟨Same.refl _, k1 i x _ hx sm⟩
theorem e_fL (j : Nat) (B : Bd X N sc k) (ok : BlkOk N sc scope [(x, j)]) (hj : N[j]? = some x) (hx : scope.names.lookup x = some .local) (h : fL X iter c elt scope j σ H Q) (hs : ∀ x, foldedSetIterable iter X.env x = pure x := by intro _; rfl) :
    wE X (.ListComp elt [⟨.Name x px, iter, [c], 0⟩] scope pos) σ H Q :=
  toE (pe_lc (own := [(x, j)]) B.calm B.nd (pi_list pe_self) (by rw [B.hN, B.sc]; exact ok) (pgb_name B.nd (B.slot j hj) hx) (fun _ _ _ _ _ => pts_one (ptb_self ..)) peb_self hs) (fL_tLc h)
/-- [elt for x in range(a, b) if c], over i .. j -/
abbrev fR2 (X : Cx) (a b c elt : Expr) (scope : Scope) (j : Nat) (σ : L2.St) (H : Hp) (Q : VK) : Prop := wE X a σ H fun u H0 => wE X b σ H0 fun v H1 => ∃ (lo hi : Int), ∃ (p : Nat → Bool) (f : Nat → V), u = .int lo ∧ v = .int hi ∧ -(2 ^ 62) ≤ lo ∧ lo < 2 ^ 62 ∧ -(2 ^ 62) ≤ hi ∧ hi < 2 ^ 62 ∧ (hi - lo).toNat < sizeLine ∧
  (∀ i H2, i < (hi - lo).toNat → Same H1 H2 → wTb X scope c (σ.set j (some (.int (lo + (i : Nat))))) H2 fun b H3 => b = p i ∧ Same H2 H3 ∧ (p i = true → wEb X scope elt (σ.set j (some (.int (lo + (i : Nat))))) H3 fun y H4 => y = f i ∧ Same H3 H4)) ∧
  ∀ D H', H1 D = none → Same H1 H' → H' D = some (.lst (((List.range (hi - lo).toNat).filter p).map f)) → Q (.ref D) H'
theorem fR2_tLc {a b : Expr} (h : fR2 X a b c elt scope j σ H Q) (h1 : starEach [a, b] X.env = (false, eval a X.env) :: starEach [b] X.env := by rfl) (h2 : starEach [b] X.env = (false, eval b X.env) :: starEach [] X.env := by rfl) : tLc (iRng2 (wA X [a, b])) (gName j) (wTb X scope c) (wEb X scope elt) [j] σ H Q := by
  show wA X [a, b] σ H _
  refine a_cons (wE_mono h fun u H0 k => a_cons (wE_mono k ?_) h2) h1
  rintro v H1 ⟨lo, hi, p, f, rfl, rfl, l1, l2, l3, l4, hz, k1, k2⟩
  refine a_nil ⟨lo, hi, rfl, ⟨l1, l2, l3, l4⟩, fun D hD => ?_⟩
  refine lcP (Qd := fun D H => Q (.ref D) H) walk_range hz p f (fun H s => True.intro) mt_wTb me_wEb ?_ k2 D hD
  rintro i x H H' hi sm ⟨rfl, rfl⟩
  exact ⟨Same.refl _, k1 i _ hi sm⟩
theorem s_fR2 {a b : Expr} {p1 p2 : Pos} (j : Nat) {y : Str} {py spos : Pos} (i : Nat) (B : Bd X N sc k) (ok : BlkOk N sc scope [(x, j)]) (hg : Gl X "range") (hm : X.mg "range" = none) (hj : N[j]? = some x) (hx : scope.names.lookup x = some .local) (hy : X.N[i]? = some y) (hyl : X.env.scope.names.lookup y = some .local)
    (hsw : swapsWith (.ListComp elt [⟨.Name x px, .Call (.Name "range" p1) [a, b] [] p2, [c], 0⟩] scope pos) (some (.Name y py)) spos.line X.env = pure true)
    (h : fR2 X a b c elt scope j σ H fun v H1 => D.nx (σ.set i (some v)) H1) (h1 : starEach [a, b] X.env = (false, eval a X.env) :: starEach [b] X.env := by rfl) (h2 : starEach [b] X.env = (false, eval b X.env) :: starEach [] X.env := by rfl) (h3 : starEach [a, b] X.env = [(false, eval a X.env), (false, eval b X.env)] := by rfl) (hs : ∀ x, foldedSetIterable (.Call (.Name "range" p1) [a, b] [] p2) X.env x = pure x := by intro _; rfl) : wS X (.Assign [.Name y py] (.ListComp elt [⟨.Name x px, .Call (.Name "range" p1) [a, b] [] p2, [c], 0⟩] scope pos) spos) D σ H :=
  toS (ps_setLc (own := [(x, j)]) B.calm B.nd hy hyl hsw (pi_range2 hg hm pa_self h3 h2) (by rw [B.hN, B.sc]; exact ok) (pgb_name B.nd (B.slot j hj) hx) (fun _ _ _ _ _ => pts_one (ptb_self ..)) peb_self hs) (fR2_tLc h h1 h2)
theorem pgb_pair {kt : Nat} {pt : Pos} (hc : X.calm = true) (nd : X.N.Nodup) (hj : X.N[j]? = some x) (hx : scope.names.lookup x = some .local) (hj2 : X.N[j2]? = some x2) (hx2 : scope.names.lookup x2 = some .local) (s : Shared) (H : Hp) (C : Addr) (cl : List (Str × Addr)) (fp : List Addr) : PG (X.blk s H scope (compEnvC scope cl C X.env) fp) (.Tuple [.Name x px, .Name x2 px2] kt pt) (gTup X.K 2 (gCons (gName j) (gCons (gName j2) gNil))) := by
  have hl : (relS scope X.env.scope).names.lookup x = some .local := lookup_relS_keep (by decide) hx
  have hl2 : (relS scope X.env.scope).names.lookup x2 = some .local := lookup_relS_keep (by decide) hx2
  exact pg_tup (X := X.blk s H scope (compEnvC scope cl C X.env) fp) hc (pgs_cons (pg_name nd hj (Or.inl hl) (.inr hl)) (pgs_cons (pg_name nd hj2 (Or.inl hl2) (.inr hl2)) pgs_nil))
/-- [elt for x, y in enumerate(a list)] -/
abbrev eEn (X : Cx) (iter elt : Expr) (scope : Scope) (j j2 : Nat) (σ : L2.St) (H : Hp) (Q : VK) : Prop := wE X iter σ H fun v H1 => ∃ a xs, ∃ (f : Nat → V), v = .ref a ∧ SqL X.K H1 a xs ∧ xs.length < sizeLine ∧
  (∀ i v H2, xs[i]? = some v → Same H1 H2 → wEb X scope elt ((σ.set j (some (.int (i : Nat)))).set j2 (some v)) H2 fun y H4 => y = f i ∧ Same H2 H4) ∧
  ∀ D H', H1 D = none → Same H1 H' → H' D = some (.lst ((List.range xs.length).map f)) → Q (.ref D) H'
theorem eEn_tLc (hj : j ≠ j2) (h : eEn X iter elt scope j j2 σ H Q) (h1 : starEach [iter] X.env = (false, eval iter X.env) :: starEach [] X.env := by rfl) : tLc (iEnum X.K (wA X [iter])) (gTup X.K 2 (gCons (gName j) (gCons (gName j2) gNil))) tYes (wEb X scope elt) [j, j2] σ H Q := by
  show wA X [iter] σ H _
  refine a_cons (wE_mono h ?_) h1
  rintro v H1 ⟨a, xs, f, rfl, hs, hz, k1, k2⟩
  refine a_nil ⟨a, xs, rfl, hs, fun D hD => ?_⟩
  have ef : (List.range xs.length).filter (fun _ => true) = List.range xs.length := List.filter_eq_self.mpr fun _ _ => rfl
  refine lcP2 (X := X) (Qd := fun D H => Q (.ref D) H) hj walk_enum hz (fun _ => true) f (fun H s => s.seq hs) mt_yes me_wEb ?_ (by rw [ef]; exact k2) D hD
  rintro i x H H' hi sm ⟨T, u, v, rfl, hT, rfl, hu, hv⟩
  cases hu
  refine ⟨(Same.refl H).new hT, T, _, v, rfl, SqT.of upd_same, ?_⟩
  exact ⟨rfl, Same.refl _, fun _ => k1 i v _ hv (sm.new hT)⟩
theorem e_en {kt : Nat} {pt p1 p2 : Pos} (j j2 : Nat) (hjj : j ≠ j2) (B : Bd X N sc k) (ok : BlkOk N sc scope [(x, j), (x2, j2)]) (hg : Gl X "enumerate") (hm : X.mg "enumerate" = none) (hj : N[j]? = some x) (hx : scope.names.lookup x = some .local) (hj2 : N[j2]? = some x2) (hx2 : scope.names.lookup x2 = some .local) (h : eEn X iter elt scope j j2 σ H Q)
    (h1 : starEach [iter] X.env = (false, eval iter X.env) :: starEach [] X.env := by rfl) (h3 : starEach [iter] X.env = [(false, eval iter X.env)] := by rfl) (hs : ∀ x, foldedSetIterable (.Call (.Name "enumerate" p1) [iter] [] p2) X.env x = pure x := by intro _; rfl) :
    wE X (.ListComp elt [⟨.Tuple [.Name x px, .Name x2 px2] kt pt, .Call (.Name "enumerate" p1) [iter] [] p2, [], 0⟩] scope pos) σ H Q :=
  toE (pe_lc (own := [(x, j), (x2, j2)]) B.calm B.nd (pi_enum hg hm pa_self h3) (by rw [B.hN, B.sc]; exact ok) (pgb_pair B.calm B.nd (B.slot j hj) hx (B.slot j2 hj2) hx2) (fun _ _ _ _ _ => pts_nil) peb_self hs) (eEn_tLc hjj h h1)
/-- [elt for x in range(a)], the elements change the dice at p -/
abbrev dR1 (X : Cx) (a elt : Expr) (scope : Scope) (j : Nat) (σ : L2.St) (H : Hp) (Q : VK) : Prop := wE X a σ H fun v H1 => ∃ (n : Nat) (p : Addr) (R : Nat → V → Prop), v = .int (n : Int) ∧ n < 10000 ∧ Dice H1 p ∧
  (∀ i H2, i < n → Ch p H1 H2 → Dice H2 p → wEb X scope elt (σ.set j (some (.int (i : Int)))) H2 fun y H4 => R i y ∧ Ch p H2 H4 ∧ Dice H4 p) ∧
  ∀ D H' ys, H1 D = none → Ch p H1 H' → Dice H' p → H' D = some (.lst ys) → ys.length = n → (∀ i y, ys[i]? = some y → R i y) → Q (.ref D) H'
theorem dR1_tLc {a : Expr} (h : dR1 X a elt scope j σ H Q) (h1 : starEach [a] X.env = (false, eval a X.env) :: starEach [] X.env := by rfl) : tLc (iRng1 (wA X [a])) (gName j) tYes (wEb X scope elt) [j] σ H Q := by
  show wA X [a] σ H _
  refine a_cons (wE_mono h ?_) h1
  rintro v H1 ⟨n, p, R, rfl, hn, hd, k1, k2⟩
  refine a_nil ⟨(n : Int), rfl, by omega, by omega, fun D hD => ?_⟩
  have e1 : (n : Int).toNat = n := by omega
  rw [e1]
  refine lcDice (Qd := fun D H => Q (.ref D) H) walk_range (Nat.lt_of_lt_of_le hn (show (10000 : Nat) ≤ sizeLine by decide)) R hd (fun H _ => True.intro) me_wEb ?_ k2 D hD
  rintro i x H H' hi c d ⟨rfl, rfl⟩
  refine ⟨Same.refl _, ?_⟩
  simp only [Int.zero_add]
  exact k1 i _ hi c d
theorem e_dR {a : Expr} {p1 p2 : Pos} (j : Nat) (B : Bd X N sc k) (ok : BlkOk N sc scope [(x, j)]) (hg : Gl X "range") (hm : X.mg "range" = none) (hj : N[j]? = some x) (hx : scope.names.lookup x = some .local) (h : dR1 X a elt scope j σ H Q) (h1 : starEach [a] X.env = (false, eval a X.env) :: starEach [] X.env := by rfl) (hst : starEach [a] X.env = [(false, eval a X.env)] := by rfl) (hs : ∀ x, foldedSetIterable (.Call (.Name "range" p1) [a] [] p2) X.env x = pure x := by intro _; rfl) :
    wE X (.ListComp elt [⟨.Name x px, .Call (.Name "range" p1) [a] [] p2, [], 0⟩] scope pos) σ H Q :=
  toE (pe_lc (own := [(x, j)]) B.calm B.nd (pi_range1 hg hm pa_self hst) (by rw [B.hN, B.sc]; exact ok) (pgb_name B.nd (B.slot j hj) hx) (fun _ _ _ _ _ => pts_nil) peb_self hs) (dR1_tLc h h1)
/-! ### operations -/
theorem o_isnotB {a b : Bool} (h : Q (.bl (!decide (a = b))) H) : wO X (compareOp .IsNot) (.bl a) (.bl b) H Q := toO op_isnot_bl ⟨a, b, rfl, rfl, h⟩
theorem o_isB {a b : Bool} (h : Q (.bl (decide (a = b))) H) : wO X (compareOp .Is) (.bl a) (.bl b) H Q := toO op_is_bl ⟨a, b, rfl, rfl, h⟩
theorem o_catL {a b : Addr} {xs ys : List V} (h1 : H a = some (.lst xs)) (h2 : H b = some (.lst ys)) (hz : xs.length + ys.length ≤ sizeLine) (h : ∀ p, H p = none → Q (.ref p) (upd H p (.lst (xs ++ ys)))) : wO X (binaryOp .Add) (.ref a) (.ref b) H Q := toO op_cat ⟨a, b, xs, ys, rfl, rfl, h1, h2, hz, h⟩
theorem c_sum {a : Addr} {ns : List Int} (hc : X.calm = true) (h1 : SqL X.K H a (ns.map V.int)) (h : Q (.int ns.sum) H) : wC X (.builtin "sum") [.ref a] H Q := toC (cr_sum hc) ⟨a, ns, rfl, h1, h⟩
theorem c_comb {a b : Int} (h0 : 0 ≤ b) (h1 : b ≤ a) (ha : a < 9000) (h : Q (.int (PySem.W.mcComb a b)) H) : wC X (.builtin "math.comb") [.int a, .int b] H Q := by
  refine ⟨fun pins s σ us I r => ?_⟩
  obtain ⟨t, u, rfl⟩ := Vals.int2 r
  exact PySem.W.mc_comb_v (c := PySem.W.mcComb a b) (by omega) h0 (by omega) (Or.inl (by omega)) rfl ⟨.int _, H, I.tok _, ⟨_, rfl⟩, h⟩
/-- f(e, ..), f a module's name for a built-in function -/
theorem e_callM {id : String} {es : List Expr} {p : Pos} (hg : Gl X x) (hm : X.mg x = some (.builtin id)) (h : wA X (e :: es) σ H fun vs H1 => wC X (.builtin id) vs H1 Q) (hdb : (x == ("__debug__" : Str)) = false := by decide)
    (he : starEach (e :: es) X.env = (false, eval e X.env) :: starEach es X.env := by rfl) (hpl : (backTo pos (starEach es X.env)).any (·.1) = false := by rfl) : wE X (.Call (.Name x p) (e :: es) [] pos) σ H Q := toE (pe_callBfun call_self hg hm pa_self hdb he hpl) h
/-- xs.index(e), a tuple of integers -/
theorem mt_indexT : MtR X "tuple.index" (fun x xs H Q => ∃ (a : Addr) (ns : List Int) (i : Int), x = .ref a ∧ xs = [.int i] ∧ SqT X.K H a (ns.map V.int) ∧ i ∈ ns ∧ Q (.int (ns.idxOf i : Nat)) H) := by
  intro pins s σ H x xs v us Q I rx rxs h
  obtain ⟨a, ns, i, rfl, rfl, hs, hi, q⟩ := h
  cases rx
  cases rxs with
  | cons ry rt =>
    cases rt
    obtain ⟨t, rfl⟩ := ry
    obtain ⟨its, rv, hl, hz⟩ := I.tuple hs
    exact PySem.SeqAt.tuple_index_ints (vs := its) hl rv.ints hi ⟨.int _, H, I.tok _, ⟨_, rfl⟩, q⟩
end
end WX

set_option Elab.async false
set_option linter.all false
set_option maxRecDepth 100000
set_option maxHeartbeats 4000000
namespace WX
open PySem PySem.Spec PyProof.Rows L2 HT
/-- t * 1 is t -/
theorem tmul_one (l : Addr) (its : Array Value) (n : Nat) (dd : Option Addr) (sl : Array (Option Value)) (u : Tok) :
    Meets (Builtin.«tuple.__mul__» ⟨[.ref l, .int 1 u], []⟩)
      (fun _ R s => s.heap.get? l = some ⟨.type "tuple", dd, .seq its n, sl⟩ ∧ R (.ok (.ret (Value.ref l))) s) := by
  refine .of_wp fun prog w A R s h => ?_
  obtain ⟨hp, g, d, tk, os⟩ := s
  obtain ⟨hl, h⟩ := h
  have c0 : (decide ((1 : Int) < -(2 ^ 63)) || decide ((1 : Int) ≥ 2 ^ 63)) = false := by decide
  have c1 : (its.isEmpty || (1 : Int) == 1) = true := by simp
  wp_walk using wpAny_loadPart' hl
  all_goals (repeat (first
    | (refine wpAny_ite_false (decide_eq_false (by rw [c0]; exact Bool.false_ne_true)) ?_
       wp_walk using wpAny_loadPart' hl)
    | (refine wpAny_ite_true (decide_eq_true (by rw [c1])) ?_
       wp_walk using wpAny_loadPart' hl)))
  exact ⟨_, rfl, h⟩
/-- t * k, k at most 0 -/
theorem tmul_zero (l : Addr) (its : Array Value) (n : Nat) (dd : Option Addr) (sl : Array (Option Value)) (x : Int) (u : Tok) (c0 : (decide (x < -(2 ^ 63)) || decide (x ≥ 2 ^ 63)) = false) (c1 : (its.isEmpty || x == 1) = false) (c2 : (decide (x ≤ 0) || its.isEmpty) = true) :
    Meets (Builtin.«tuple.__mul__» ⟨[.ref l, .int x u], []⟩)
      (fun _ R s => s.heap.get? l = some ⟨.type "tuple", dd, .seq its n, sl⟩ ∧ R (.ok (.ret (Value.ref s.heap.objs.size))) { s with heap := s.heap.push { cls := Value.type "tuple", data := Data.seq #[] }, toks := s.toks }) := by
  refine .of_wp fun prog w A R s h => ?_
  obtain ⟨hp, g, d, tk, os⟩ := s
  obtain ⟨hl, h⟩ := h
  wp_walk using wpAny_loadPart' hl
  all_goals (repeat (first
    | (refine wpAny_ite_false (decide_eq_false (by rw [c0]; exact Bool.false_ne_true)) ?_
       wp_walk using wpAny_loadPart' hl)
    | (refine wpAny_ite_false (decide_eq_false (by rw [c1]; exact Bool.false_ne_true)) ?_
       wp_walk using wpAny_loadPart' hl)
    | (refine wpAny_ite_true (decide_eq_true (by rw [c2])) ?_
       wp_walk using wpAny_loadPart' hl)))
  exact ⟨_, rfl, h⟩
section
variable {X : Cx} {σ : L2.St} {H : Hp} {Q : VK}
/-- t * k -/
theorem o_repT {l : Addr} {xs : List V} {k : Int} (hT : SqT X.K H l xs) (hne : xs ≠ []) (h1 : -1000 ≤ k) (h2 : k ≤ 1000) (hz : xs.length ≤ 1000) (q : ∀ p H', Same H H' → SqT X.K H' p (List.replicate k.toNat xs).flatten → Q (.ref p) H') : wO X (binaryOp .Mult) (.ref l) (.int k) H Q := by
  by_cases hk : 2 ≤ k
  · exact toO op_repT ⟨l, k, xs, rfl, rfl, hT, hne, hk, h2, hz, fun p hp => q p _ ((Same.refl H).new hp) (SqT.of upd_same)⟩
  refine ⟨fun pins s σ v u I rx ry => ?_⟩
  cases rx
  obtain ⟨t, rfl⟩ := ry
  obtain ⟨its, r, ⟨⟨cls, dd, data, sl⟩, ho, hc, n, hd⟩, hs⟩ := I.tuple hT
  dsimp only at hc hd
  subst hc hd
  have hle : its.length = xs.length := r.length.symm
  have hi : its.toArray.isEmpty = false := by
    cases its with
    | nil => exact absurd (List.eq_nil_of_length_eq_zero hle.symm) hne
    | cons a b => rfl
  have c0 : (decide (k < -(2 ^ 63)) || decide (k ≥ 2 ^ 63)) = false := by
    rw [decide_eq_false (show ¬ k < -(2 ^ 63) by omega), decide_eq_false (show ¬ k ≥ 2 ^ 63 by omega)]
    rfl
  have go : ∀ {R : Result → Shared → Prop}, True → True := fun _ => True.intro
  by_cases e : k = 1
  · subst e
    have q1 : EP X pins σ Q (Value.ref l) s := ⟨.ref l, H, I, rfl, q l H (Same.refl H) (by
      show SqT X.K H l (List.replicate 1 xs).flatten
      simpa using hT)⟩
    refine wpAny_binaryOp_repeat_ref (T := "tuple") (U := "int") (by decide) ⟨_, ho, rfl⟩ (fun s' => typeIs_int s' 1 t) noFill_tuple_mul
      F.fills_int_mul F.slot_int_rmul repeat_tuple F.slot_int_index.lookup ?_
    refine call_meets F.slot_int_rmul (typeIs_int s 1 t) F.entry_int_rmul (F.args_int_rmul_2 _ _) (int_rmul_tuple 1 t l its.toArray n dd sl) ?_
    exact ⟨ho, rfl, ⟨_, ho, rfl⟩, call_meets F.slot_tuple_mul ⟨_, ho, rfl⟩ F.entry_tuple_mul (F.args_tuple_mul_2 _ _) (tmul_one l its.toArray n dd sl t) ⟨ho, q1⟩⟩
  · have c1 : (its.toArray.isEmpty || k == 1) = false := by
      rw [hi, Bool.false_or]
      exact beq_eq_false_iff_ne.mpr e
    have c2 : (decide (k ≤ 0) || its.toArray.isEmpty) = true := by
      rw [decide_eq_true (show k ≤ 0 by omega)]
      rfl
    have ek : k.toNat = 0 := by omega
    have q0 : EP X pins σ Q (Value.ref s.heap.objs.size) { s with heap := s.heap.push { cls := Value.type "tuple", data := Data.seq #[] }, toks := s.toks } := by
      have hf := I.hok.fresh (Nat.le_refl s.heap.objs.size)
      refine ⟨.ref s.heap.objs.size, upd H s.heap.objs.size (.tup []), I.laid (t' := s.toks) (o := .tup []) (fun b ob z => Heap.get?_push_of_some _ z) (Nat.le_refl _) ⟨Nat.zero_le _, [], .nil, IsTup.new _ _⟩, rfl, q _ _ ((Same.refl H).new hf) ?_⟩
      rw [ek]
      exact SqT.of upd_same
    refine wpAny_binaryOp_repeat_ref (T := "tuple") (U := "int") (by decide) ⟨_, ho, rfl⟩ (fun s' => typeIs_int s' k t) noFill_tuple_mul
      F.fills_int_mul F.slot_int_rmul repeat_tuple F.slot_int_index.lookup ?_
    refine call_meets F.slot_int_rmul (typeIs_int s k t) F.entry_int_rmul (F.args_int_rmul_2 _ _) (int_rmul_tuple k t l its.toArray n dd sl) ?_
    exact ⟨ho, rfl, ⟨_, ho, rfl⟩, call_meets F.slot_tuple_mul ⟨_, ho, rfl⟩ F.entry_tuple_mul (F.args_tuple_mul_2 _ _) (tmul_zero l its.toArray n dd sl k t c0 c1 c2) ⟨ho, q0⟩⟩
/-- a tuple that a method can be asked of -/
def TupM (H : Hp) (a : Addr) (xs : List V) : Prop := ∃ o, H a = some (.frz o (.tup xs)) ∧ o.cls = .type "tuple" ∧ o.dict = none
theorem TupM.sq {K : PySem.W.Frag} {a : Addr} {xs : List V} (h : TupM H a xs) : SqT K H a xs := Or.inl (Or.inr ⟨h.choose, h.choose_spec.1⟩)
theorem TupM.same {H' : Hp} {a : Addr} {xs : List V} (h : TupM H a xs) (s : Same H H') : TupM H' a xs := by
  obtain ⟨o, e, r⟩ := h
  exact ⟨o, s _ _ e, r⟩
/-- tuple(range(b)) -/
theorem e_tupR1 {b : Expr} {p p3 p4 pos : Pos} (hc : X.calm = true) (hg : Gl X "tuple") (hm : X.mg "tuple" = none) (hg2 : Gl X "range") (hm2 : X.mg "range" = none) (h : wE X b σ H fun y H1 => ∃ n : Nat, y = .int (n : Int) ∧ n ≤ 10000 ∧ ∀ q H', Same H1 H' → TupM H' q ((List.range n).map fun (i : Nat) => V.int (i : Int)) → Q (.ref q) H')
    (n1 : starEach [b] X.env = (false, eval b X.env) :: starEach [] X.env := by rfl) (n2 : starEach [.Call (.Name "range" p3) [b] [] p4] X.env = (false, eval (.Call (.Name "range" p3) [b] [] p4) X.env) :: starEach [] X.env := by rfl) :
    wE X (.Call (.Name "tuple" p) [.Call (.Name "range" p3) [b] [] p4] [] pos) σ H Q := by
  refine ⟨fun pins s I => Call_ (ld_blt I hg hm boot_tuple (PyProof.Rows.callWith_type1 (args_cons ?_ n2) n2))⟩
  have k := prg_1 (X := X) (p := p3) (pos := p4) hg2 hm2 pe_self n1 pins s σ H (fun a b' H1 => a = 0 ∧ ∃ n : Nat, b' = (n : Int) ∧ n ≤ 10000 ∧ ∀ q H', Same H1 H' → TupM H' q ((List.range n).map fun (i : Nat) => V.int (i : Int)) → Q (.ref q) H') I (wE_mono h fun y H1 ⟨n, e, hn, q⟩ => ⟨(n : Int), e, rfl, n, rfl, hn, q⟩)
  refine thn k fun x s1 hx => args_nil ?_
  obtain ⟨r, a, b', t, u, v, H1, ex, hr, I1, ea, n, eb, hn, q⟩ := hx
  subst ex ea eb
  have lim : (((n : Int) - 0).toNat) ≤ 2 ^ 24 := by omega
  refine call_tuple_range (n := ((n : Int) - 0).toNat) (I1.ok.hd hc) hr
    (small_one (by omega) (by omega) (by omega) (by omega)) (rangeSize_nat 0 (n : Int)) lim fun h' tk acc hk hi => ?_
  have J : Inv X pins σ H1 { s1 with heap := h', toks := tk } := I1.kept hk
  have ev : rgV 0 (n : Int) = (List.range n).map fun (i : Nat) => V.int (i : Int) := by
    unfold rgV
    rw [show ((n : Int) - 0).toNat = n by omega]
    congr 1
    funext i
    rw [Int.zero_add]
  have hf := J.hok.fresh (Nat.le_refl h'.objs.size)
  have hget : (h'.push { cls := .type "tuple", data := .seq acc }).get? h'.objs.size = some { cls := .type "tuple", data := .seq acc } := Heap.get?_push_size _ rfl
  refine ⟨.ref h'.objs.size, upd H1 h'.objs.size (.frz { cls := .type "tuple", data := .seq acc } (.tup (rgV 0 (n : Int)))), ?_, rfl, q _ _ ((Same.refl H1).new hf) ⟨_, by rw [upd_same, ev], rfl, rfl⟩⟩
  refine J.laid (t' := tk) (fun c o z => Heap.get?_push_of_some _ z) (Nat.le_refl _) ⟨hget, ?_, acc.toList, vals_rg hi, ?_⟩
  · rw [rgV_length, sizeLine_eq]
    omega
  · rw [Array.toArray_toList]
    exact IsTup.new _ _
/-- xs.index(e), a tuple of integers -/
theorem e_indexT {o e : Expr} {apos cpos : Pos} (h : wE X o σ H fun x H1 => ∃ (a : Addr) (ns : List Int), x = .ref a ∧ TupM H1 a (ns.map V.int) ∧ wE X e σ H1 fun y H2 => ∃ i : Int, y = .int i ∧ SqT X.K H2 a (ns.map V.int) ∧ i ∈ ns ∧ Q (.int (ns.idxOf i : Nat)) H2)
    (n1 : starEach [e] X.env = (false, eval e X.env) :: starEach [] X.env := by rfl) (n2 : attributeBase o "index" X.env (eval o X.env) = eval o X.env := by rfl) (n3 : ((((backTo cpos (starEach [e] X.env)).all fun x => !x.fst) && (backToKw cpos (keywordEach [] X.env)).all fun x => x.fst.isSome) && decide (([e].length + ([] : List Keyword).length + if ([] : List Keyword).isEmpty = true then 0 else 1) < 30)) = true := by rfl) (n4 : (apos.endLine == cpos.line) = true := by rfl) (n5 : ((backTo cpos (starEach [] X.env)).any fun x => x.fst) = false := by rfl) : wE X (.Call (.Attribute o "index" apos) [e] [] cpos) σ H Q := by
  refine ⟨fun pins s I => wpAny_Call_method_late n2 n3 n4 rfl (thn (h.run pins s I) fun v s1 hv => ?_)⟩
  obtain ⟨x, H1, I1, r1, a, ns, ex, ⟨ob, ho, hcl, hdi⟩, k⟩ := hv
  subst ex
  cases r1
  have hob : s1.heap.get? a = some ob := (I1.hok a _ ho).1
  refine ⟨"tuple", "tuple.index", PySem.F.plainAttrs_tuple, PySem.F.slot_tuple_index, PySem.F.type_tuple_index, ⟨ob, hob, hcl⟩, fun c ec => ?_, ?_⟩
  · cases ec
    exact ⟨ob, hob, hdi⟩
  have hA : wA X [e] σ H1 fun vs H2 => ∃ i : Int, vs = [V.int i] ∧ SqT X.K H2 a (ns.map V.int) ∧ i ∈ ns ∧ Q (.int (ns.idxOf i : Nat)) H2 :=
    a_cons (wE_mono k fun y H2 ⟨i, e1, z⟩ => a_nil ⟨i, by rw [e1], z⟩) n1
  have hB := hA.run cpos pins s1 I1
  rw [n1] at hB ⊢
  refine Calls.callWith_builtin (by show (false || (backTo cpos (starEach [] X.env)).any (·.1)) = false; rw [Bool.false_or, n5]) (Calls.evalArgs_plain ?_)
  refine thn hB fun us s2 hu => ?_
  obtain ⟨vs, H2, I2, r2, i, ev, hs, hi, q⟩ := hu
  subst ev
  exact mt_indexT pins s2 σ H2 (.ref a) [.int i] (.ref a) us Q I2 rfl r2 ⟨a, ns, i, rfl, rfl, hs, hi, q⟩
end
end WX
namespace WX
open PySem PySem.Spec PyProof.Rows L2 HT
section
variable {X : Cx} {σ : L2.St} {H : Hp} {Q : VK} {D : Ends}
theorem wS_nx {st : Stmt} {J : L2.St → Hp → Prop} (h : wS X st { D with nx := J } σ H) (k : ∀ σ' H', J σ' H' → D.nx σ' H') : wS X st D σ H := ⟨fun pins s I => thn (h.run pins s I) fun f s1 q => by
  cases f with
  | next =>
    obtain ⟨σ', H', I', q'⟩ := q
    exact ⟨σ', H', I', k _ _ q'⟩
  | brk => exact q
  | cont => exact q
  | ret u => exact q⟩
/-- what stands between two statements -/
theorem b_mid {st : Stmt} {sts : List Stmt} (J : L2.St → Hp → Prop) (h : wS X st { D with nx := J } σ H) (k : ∀ σ' H', J σ' H' → wB X sts D σ' H') : wB X (st :: sts) D σ H := b_cons (wS_nx (J := J) h k)
/-- repr of a bool -/
theorem c_reprB {b : Bool} (hG : X.A.guards = some []) (hu : X.A.units + 64 < cLine) (h : Q (.str (PyData.bool b).shown) H) : wC X (.builtin "repr") [.bl b] H Q :=
  c_repr hG (by show X.A.units + (0 + 1) < cLine; omega) (.bl b) rfl rfl (by cases b <;> decide) h
theorem shown_b {a b : Bool} : (PyData.bool a).shown = (PyData.bool b).shown ↔ a = b := by
  cases a <;> cases b <;> decide
end
/-! ### values of any kind -/
inductive Okv (K : PySem.W.Frag) (H : Hp) : V → Prop where
  | non : Okv K H .non
  | bl (b : Bool) : Okv K H (.bl b)
  | int (i : Int) : Okv K H (.int i)
  | str (x : Str) : Okv K H (.str x)
  | lst {a : Addr} {xs : List V} (e : SqL K H a xs) : Okv K H (.ref a)
  | tup {a : Addr} {xs : List V} (e : SqT K H a xs) : Okv K H (.ref a)
  | dK {a : Addr} {kvs : List (L2.Key × V)} (e : H a = some (.dK kvs)) : Okv K H (.ref a)
theorem Okv.same {K : PySem.W.Frag} {H H' : Hp} {v : V} (h : Okv K H v) (s : Same H H') : Okv K H' v := by
  cases h with
  | non => exact .non
  | bl b => exact .bl b
  | int i => exact .int i
  | str x => exact .str x
  | lst e => exact .lst (s.seq e)
  | tup e => exact .tup (same_tup s e)
  | dK e => exact .dK (s _ _ e)
/-- a value that is no tuple -/
inductive NoTp (K : PySem.W.Frag) (H : Hp) : V → Prop where
  | non : NoTp K H .non
  | bl (b : Bool) : NoTp K H (.bl b)
  | int (i : Int) : NoTp K H (.int i)
  | str (x : Str) : NoTp K H (.str x)
  | lst {a : Addr} {xs : List V} (e : SqL K H a xs) : NoTp K H (.ref a)
  | dK {a : Addr} {kvs : List (L2.Key × V)} (e : H a = some (.dK kvs)) : NoTp K H (.ref a)
theorem NoTp.same {K : PySem.W.Frag} {H H' : Hp} {v : V} (h : NoTp K H v) (s : Same H H') : NoTp K H' v := by
  cases h with
  | non => exact .non
  | bl b => exact .bl b
  | int i => exact .int i
  | str x => exact .str x
  | lst e => exact .lst (s.seq e)
  | dK e => exact .dK (s _ _ e)
/-! ### lists of values by their places -/
theorem stays_eq (f : Nat → V) : Stays (fun i y _ => y = f i) := fun _ _ _ _ _ e _ _ => e
theorem ys_eq {ys : List V} {n : Nat} {f : Nat → V} (hl : ys.length = n) (h : ∀ i y, ys[i]? = some y → y = f i) : ys = (List.range n).map f := by
  refine List.ext_getElem? fun i => ?_
  rw [List.getElem?_map]
  by_cases hi : i < n
  · have hi2 : i < ys.length := by omega
    rw [List.getElem?_range hi, List.getElem?_eq_getElem hi2, h i _ (List.getElem?_eq_getElem hi2)]; rfl
  · rw [List.getElem?_eq_none (by omega), List.getElem?_eq_none (by simpa using hi)]; rfl
theorem map_at {α β : Type} (xs : List α) (d : α) (f : α → β) : (List.range xs.length).map (fun i => f (xs.getD i d)) = xs.map f := by
  refine List.ext_getElem? fun i => ?_
  rw [List.getElem?_map, List.getElem?_map]
  by_cases hi : i < xs.length
  · rw [List.getElem?_range hi, List.getElem?_eq_getElem hi]
    show some (f (xs.getD i d)) = some (f xs[i])
    rw [List.getD_eq_getElem?_getD, List.getElem?_eq_getElem hi]; rfl
  · rw [List.getElem?_eq_none (by simpa using hi), List.getElem?_eq_none (by omega)]; rfl
theorem getD_of {α : Type} {xs : List α} {i : Nat} {x d : α} (h : xs[i]? = some x) : xs.getD i d = x := by rw [List.getD_eq_getElem?_getD, h]; rfl
theorem filt_at {α β : Type} (xs : List α) (d : α) (p : α → Bool) (f : α → β) : ((List.range xs.length).filter fun i => p (xs.getD i d)).map (fun i => f (xs.getD i d)) = (xs.filter p).map f := by
  induction xs with
  | nil => rfl
  | cons x xs ih =>
    rw [List.length_cons, List.range_succ_eq_map, List.filter_cons, List.filter_map]
    rw [List.filter_cons]
    have e : (List.map (fun i => f ((x :: xs).getD i d)) (List.map Nat.succ (List.filter ((fun i => p ((x :: xs).getD i d)) ∘ Nat.succ) (List.range xs.length)))) = (xs.filter p).map f := by
      rw [List.map_map, ← ih]; rfl
    have e0 : p ((x :: xs).getD 0 d) = p x := rfl
    rw [e0]
    split
    · rw [List.map_cons, List.map_cons, e]; rfl
    · exact e
theorem ix0 {a : V} {as : List V} : atI (a :: as) 0 = some a := atI_nat (xs := a :: as) (j := 0) rfl
theorem ix1 {a b : V} {as : List V} : atI (a :: b :: as) 1 = some b := atI_nat (xs := a :: b :: as) (j := 1) rfl
theorem ix2 {a b c : V} {as : List V} : atI (a :: b :: c :: as) 2 = some c := atI_nat (xs := a :: b :: c :: as) (j := 2) rfl
theorem at_intsN {ns : List Int} {j : Nat} (h : j < ns.length) : atI (ns.map V.int) (j : Int) = some (.int (ns.getD j 0)) := by
  refine atI_nat ?_
  rw [List.getElem?_map, List.getElem?_eq_getElem h, List.getD_eq_getElem?_getD, List.getElem?_eq_getElem h]; rfl
/-- 0, 1, .. -/
def iota (n : Nat) : List Int := (List.range n).map fun (i : Nat) => (i : Int)
theorem iota_v (n : Nat) : ((List.range n).map fun (i : Nat) => V.int (i : Int)) = (iota n).map V.int := by unfold iota; rw [List.map_map]; rfl
theorem iota_len (n : Nat) : (iota n).length = n := by unfold iota; rw [List.length_map, List.length_range]
theorem iota_mem {n : Nat} {x : Int} : x ∈ iota n ↔ 0 ≤ x ∧ x < (n : Int) := by
  unfold iota
  rw [List.mem_map]
  constructor
  · rintro ⟨i, hi, rfl⟩
    have := List.mem_range.mp hi
    omega
  · rintro ⟨h0, h1⟩
    exact ⟨x.toNat, List.mem_range.mpr (by omega), by omega⟩
theorem iota_get {n i : Nat} (h : i < n) : (iota n)[i]? = some (i : Int) := by
  unfold iota
  rw [List.getElem?_map, List.getElem?_range h]; rfl
theorem iota_nodup (n : Nat) : (iota n).Nodup := by
  unfold iota
  rw [List.Nodup, List.pairwise_map]
  exact List.Pairwise.imp (fun h => by omega) List.pairwise_lt_range
theorem iota_idx {n : Nat} {x : Int} (h : x ∈ iota n) : ((iota n).idxOf x : Int) = x := by
  have hl := List.idxOf_lt_length_of_mem h
  have e : (iota n)[(iota n).idxOf x]'hl = x := List.getElem_idxOf hl
  have e2 := iota_get (n := n) (i := (iota n).idxOf x) (by rw [iota_len] at hl; exact hl)
  rw [List.getElem?_eq_getElem hl, e] at e2
  exact (Option.some.inj e2).symm
end WX

set_option Elab.async false
set_option linter.all false
set_option maxRecDepth 100000
set_option maxHeartbeats 4000000
namespace WX
open PySem PySem.Spec PyProof.Rows L2 HT
section
variable {X : Cx} {σ : L2.St} {H : Hp} {Q : VK} {D : Ends} {pos : Pos} {elt : Expr} {scope : Scope} {x : Str} {j : Nat} {px : Pos} {N : List Str} {sc : Scope} {k : Nat}
/-- the name is a cell of the comprehension's own -/
theorem pgb_cell {pos : Pos} (nd : X.N.Nodup) (hj : X.N[j]? = some x) (hx : scope.names.lookup x = some .cell) (s : Shared) (H : Hp) (C : Addr) (cl : List (Str × Addr)) (fp : List Addr) : PG (X.blk s H scope (compEnvC scope cl C X.env) fp) (.Name x pos) (gName j) := by
  have hl : (relS scope X.env.scope).names.lookup x = some .cell := lookup_relS_keep (by decide) hx
  exact pg_name (X := X.blk s H scope (compEnvC scope cl C X.env) fp) nd hj (Or.inr hl) (.inl (by show (scope.names.lookup x == some .cell) = true; rw [hx]; rfl))
theorem e_lcRc {a : Expr} {p1 p2 : Pos} (j : Nat) (B : Bd X N sc k) (ok : BlkOk N sc scope [(x, j)]) (hg : Gl X "range") (hm : X.mg "range" = none) (hj : N[j]? = some x) (hx : scope.names.lookup x = some .cell) (h : tLc (iRng1 (wA X [a])) (gName j) tYes (wEb X scope elt) [j] σ H Q) (hst : starEach [a] X.env = [(false, eval a X.env)] := by rfl) (hs : ∀ x, foldedSetIterable (.Call (.Name "range" p1) [a] [] p2) X.env x = pure x := by intro _; rfl) :
    wE X (.ListComp elt [⟨.Name x px, .Call (.Name "range" p1) [a] [] p2, [], 0⟩] scope pos) σ H Q :=
  toE (pe_lc (own := [(x, j)]) B.calm B.nd (pi_range1 hg hm pa_self hst) (by rw [B.hN, B.sc]; exact ok) (pgb_cell B.nd (B.slot j hj) hx) (fun _ _ _ _ _ => pts_nil) peb_self hs) h
theorem o_eqL {a b : Addr} {ns ms : List Int} (hu : X.A.units + 64 < cLine) (h1 : SqL X.K H a (ns.map V.int)) (h2 : SqL X.K H b (ms.map V.int)) (h : Q (.bl (decide (ns = ms))) H) : wO X (compareOp .Eq) (.ref a) (.ref b) H Q := by
  refine o_eqD hu (d := .list (ns.map PyData.int)) (e := .list (ms.map PyData.int)) (.lst h1 (dp_ints ns)) (.lst h2 (dp_ints ms)) (shaped_intsL ns) (shaped_intsL ms) ?_
  rw [show PyData.eqv (.list (ns.map PyData.int)) (.list (ms.map PyData.int)) = decide (ns = ms) from eqv_ints ns ms]
  exact h
theorem filt_first {m i0 : Nat} {p : Nat → Bool} {r : List Nat} (h : (List.range m).filter p = i0 :: r) : i0 < m ∧ p i0 = true ∧ ∀ i, i < i0 → p i = false := by
  have h1 : i0 ∈ (List.range m).filter p := by rw [h]; exact List.mem_cons_self ..
  rw [List.mem_filter, List.mem_range] at h1
  refine ⟨h1.1, h1.2, fun i hi => ?_⟩
  cases e : p i with
  | false => rfl
  | true =>
    have h2 : i ∈ (List.range m).filter p := List.mem_filter.mpr ⟨List.mem_range.mpr (by omega), e⟩
    have h3 : ((List.range m).filter p).Pairwise (· < ·) := List.Pairwise.filter p List.pairwise_lt_range
    rw [h] at h2 h3
    have h4 := (List.pairwise_cons.mp h3).1
    rcases List.mem_cons.mp h2 with e2 | e2
    · omega
    · have := h4 i e2
      omega
theorem e_dict0 {dpos : Pos} (h : ∀ p, H p = none → Q (.ref p) (upd H p (.dK []))) : wE X (.Dict [] [] dpos) σ H Q := toE pe_dnewK h
end
end WX

set_option Elab.async false
set_option linter.all false
set_option maxRecDepth 100000
set_option maxHeartbeats 4000000
namespace K69
open PySem PySem.Spec PyProof.Rows L2 WX
def top (i : Nat) : Stmt := PySem.Challenge.pw_renamedown_k69_whole_codes_judged.main.body.getD i (.Pass ⟨0, 0, 0, 0⟩)
def big__TOO_LONG : Int := 100000000000000000000000000000000000000000000000000000000000000000000000000000000000000000000000000000000000000000000000000000000000000000000000000000000000000000000000000000000000000000000000000000000
abbrev S_is_integer : Stmt := top 8
abbrev N_is_integer : List Str := ["value"]
theorem sc_is_integer : FnScope N_is_integer ["value"] (defScope S_is_integer) := ⟨rfl, rfl, rfl, by decide +kernel, rfl, by decide +kernel, by decide +kernel⟩
abbrev S_is_below : Stmt := top 9
abbrev N_is_below : List Str := ["limit", "value"]
theorem sc_is_below : FnScope N_is_below ["limit", "value"] (defScope S_is_below) := ⟨rfl, rfl, rfl, by decide +kernel, rfl, by decide +kernel, by decide +kernel⟩
abbrev S_check_number : Stmt := top 10
abbrev N_check_number : List Str := ["value", "least", "most"]
theorem sc_check_number : FnScope N_check_number ["value", "least", "most"] (defScope S_check_number) := ⟨rfl, rfl, rfl, by decide +kernel, rfl, by decide +kernel, by decide +kernel⟩
abbrev S_check_places : Stmt := top 11
abbrev N_check_places : List Str := ["places"]
theorem sc_check_places : FnScope N_check_places ["places"] (defScope S_check_places) := ⟨rfl, rfl, rfl, by decide +kernel, rfl, by decide +kernel, by decide +kernel⟩
abbrev S__fit_ring : Stmt := top 13
abbrev N__fit_ring : List Str := ["ring", "lows", "ranks", "low", "index", "rank"]
theorem sc__fit_ring : FnScope N__fit_ring ["ring", "lows"] (defScope S__fit_ring) := ⟨rfl, rfl, rfl, by decide +kernel, rfl, by decide +kernel, by decide +kernel⟩
abbrev S__are_lows : Stmt := top 14
abbrev N__are_lows : List Str := ["places", "most", "value", "low"]
theorem sc__are_lows : FnScope N__are_lows ["places", "most", "value"] (defScope S__are_lows) := ⟨rfl, rfl, rfl, by decide +kernel, rfl, by decide +kernel, by decide +kernel⟩
abbrev S_is_code : Stmt := top 15
abbrev N_is_code : List Str := ["places", "value"]
theorem sc_is_code : FnScope N_is_code ["places", "value"] (defScope S_is_code) := ⟨rfl, rfl, rfl, by decide +kernel, rfl, by decide +kernel, by decide +kernel⟩
abbrev S_count_behind : Stmt := top 16
abbrev N_count_behind : List Str := ["places", "begin", "left", "ways", "low", "needed", "many", "other", "k"]
theorem sc_count_behind : FnScope N_count_behind ["places", "begin"] (defScope S_count_behind) := ⟨rfl, rfl, rfl, by decide +kernel, rfl, by decide +kernel, by decide +kernel⟩
abbrev S__law_dice : Stmt := top 18
abbrev N__law_dice : List Str := ["script", "spot", "cell", "left"]
theorem sc__law_dice : FnScope N__law_dice ["script", "spot"] (defScope S__law_dice) := ⟨rfl, rfl, rfl, by decide +kernel, rfl, by decide +kernel, by decide +kernel⟩
abbrev S__law_roll : Stmt := top 19
abbrev N__law_roll : List Str := ["dice", "total", "found", "one", "two"]
theorem sc__law_roll : FnScope N__law_roll ["dice", "total"] (defScope S__law_roll) := ⟨rfl, rfl, rfl, by decide +kernel, rfl, by decide +kernel, by decide +kernel⟩
abbrev S__law_mixed : Stmt := top 20
abbrev N__law_mixed : List Str := ["dice", "items", "left", "found", "turn"]
theorem sc__law_mixed : FnScope N__law_mixed ["dice", "items"] (defScope S__law_mixed) := ⟨rfl, rfl, rfl, by decide +kernel, rfl, by decide +kernel, by decide +kernel⟩
abbrev S__law_drawn_code : Stmt := top 21
abbrev N__law_drawn_code : List Str := ["dice", "places", "at"]
theorem sc__law_drawn_code : FnScope N__law_drawn_code ["dice", "places"] (defScope S__law_drawn_code) := ⟨rfl, rfl, rfl, by decide +kernel, rfl, by decide +kernel, by decide +kernel⟩
abbrev S__law_parks : Stmt := top 22
abbrev N__law_parks : List Str := ["spots", "value", "free", "letter", "some", "spot"]
theorem sc__law_parks : FnScope N__law_parks ["spots", "value"] (defScope S__law_parks) := ⟨rfl, rfl, rfl, by decide +kernel, rfl, by decide +kernel, by decide +kernel⟩
abbrev S__law_right : Stmt := top 23
abbrev N__law_right : List Str := ["dice", "places", "code", "drawn", "near", "at", "value", "due", "odd", "letter"]
theorem sc__law_right : FnScope N__law_right ["dice"] (defScope S__law_right) := ⟨rfl, rfl, rfl, by decide +kernel, rfl, by decide +kernel, by decide +kernel⟩
abbrev S_law : Stmt := top 24
abbrev N_law : List Str := ["script", "spot", "dice", "turn"]
theorem sc_law : FnScope N_law ["script"] (defScope S_law) := ⟨rfl, rfl, rfl, by decide +kernel, rfl, by decide +kernel, by decide +kernel⟩
/-- what the top has left -/
structure Tx (K : PySem.W.Frag) (mg : Str → Option Value) : Prop where
  z_abs : mg "abs" = none
  z_all : mg "all" = none
  z_bool : mg "bool" = none
  z_enumerate : mg "enumerate" = none
  z_int : mg "int" = none
  z_isinstance : mg "isinstance" = none
  z_len : mg "len" = none
  z_list : mg "list" = none
  z_max : mg "max" = none
  z_min : mg "min" = none
  z_range : mg "range" = none
  z_repr : mg "repr" = none
  z_sorted : mg "sorted" = none
  z_sum : mg "sum" = none
  z_tuple : mg "tuple" = none
  m_comb : mg "comb" = some (.builtin "math.comb")
  c_MAX_PLACES : ∃ t : Tok, mg "MAX_PLACES" = some (Value.int 12 t)
  c__TOO_LONG : ∃ t : Tok, mg "_TOO_LONG" = some (Value.int big__TOO_LONG t)
  d_is_integer : ∃ f fd, L2.Fun K "is_integer" "is_integer" S_is_integer f fd ∧ mg "is_integer" = some (.ref f)
  d_is_below : ∃ f fd, L2.Fun K "is_below" "is_below" S_is_below f fd ∧ mg "is_below" = some (.ref f)
  d_check_number : ∃ f fd, L2.Fun K "check_number" "check_number" S_check_number f fd ∧ mg "check_number" = some (.ref f)
  d_check_places : ∃ f fd, L2.Fun K "check_places" "check_places" S_check_places f fd ∧ mg "check_places" = some (.ref f)
  d__fit_ring : ∃ f fd, L2.Fun K "_fit_ring" "_fit_ring" S__fit_ring f fd ∧ mg "_fit_ring" = some (.ref f)
  d__are_lows : ∃ f fd, L2.Fun K "_are_lows" "_are_lows" S__are_lows f fd ∧ mg "_are_lows" = some (.ref f)
  d_is_code : ∃ f fd, L2.Fun K "is_code" "is_code" S_is_code f fd ∧ mg "is_code" = some (.ref f)
  d_count_behind : ∃ f fd, L2.Fun K "count_behind" "count_behind" S_count_behind f fd ∧ mg "count_behind" = some (.ref f)
  d__law_dice : ∃ f fd, L2.Fun K "_law_dice" "_law_dice" S__law_dice f fd ∧ mg "_law_dice" = some (.ref f)
  d__law_roll : ∃ f fd, L2.Fun K "_law_roll" "_law_roll" S__law_roll f fd ∧ mg "_law_roll" = some (.ref f)
  d__law_mixed : ∃ f fd, L2.Fun K "_law_mixed" "_law_mixed" S__law_mixed f fd ∧ mg "_law_mixed" = some (.ref f)
  d__law_drawn_code : ∃ f fd, L2.Fun K "_law_drawn_code" "_law_drawn_code" S__law_drawn_code f fd ∧ mg "_law_drawn_code" = some (.ref f)
  d__law_parks : ∃ f fd, L2.Fun K "_law_parks" "_law_parks" S__law_parks f fd ∧ mg "_law_parks" = some (.ref f)
  d__law_right : ∃ f fd, L2.Fun K "_law_right" "_law_right" S__law_right f fd ∧ mg "_law_right" = some (.ref f)

local macro_rules | `(tactic| walk_at "kit") => `(tactic| with_reducible first | exact kit_NoneType_int | exact kit_NoneType_bool | exact kit_NoneType_str | exact kit_NoneType_tuple | exact kit_NoneType_list | exact kit_NoneType_dict | exact kit_bool_int | exact kit_bool_bool | exact kit_bool_str | exact kit_bool_tuple | exact kit_bool_list | exact kit_bool_dict | exact kit_int_int | exact kit_int_bool | exact kit_int_str | exact kit_int_tuple | exact kit_int_list | exact kit_int_dict | exact kit_str_int | exact kit_str_bool | exact kit_str_str | exact kit_str_tuple | exact kit_str_list | exact kit_str_dict | exact kit_list_int | exact kit_list_bool | exact kit_list_str | exact kit_list_tuple | exact kit_list_list | exact kit_list_dict | exact kit_tuple_int | exact kit_tuple_bool | exact kit_tuple_str | exact kit_tuple_tuple | exact kit_tuple_list | exact kit_tuple_dict | exact kit_dict_int | exact kit_dict_bool | exact kit_dict_str | exact kit_dict_tuple | exact kit_dict_list | exact kit_dict_dict)
local macro_rules | `(tactic| walk_at "nm") => `(tactic| first
  | (refine' e_lo _ ?nm ?lc ?sl ?_; (case nm => with_reducible assumption); (case lc => with_reducible assumption); (case sl => rfl))
  | (refine' e_ce _ ?nm ?lc ?sl ?_; (case nm => with_reducible assumption); (case lc => with_reducible assumption); (case sl => rfl))
  | (refine' e_gi ?g ?m ?_; (case g => with_reducible assumption); (case m => with_reducible assumption))
  | (refine' e_ty ?g ?m ?v ?_; (case g => with_reducible assumption); (case m => with_reducible assumption); (case v => with_reducible assumption)))
local macro_rules | `(tactic| walk_at "ex") => `(tactic| first
  | refine e_int ?_ | refine e_bl ?_ | refine e_str ?_ | refine e_non ?_
  | walk_at "nm"
  | refine e_bin ?_ | refine e_not ?_ | refine e_un ?_ | refine e_cmpn ?_ | refine e_chain ?_
  | refine e_dict_i ?_ | refine e_dict_s ?_ | refine e_one ?_ | refine e_and ?_ | refine e_or ?_ | refine e_if ?_ | refine e_ixp ?_ | refine e_tup ?_ | refine e_lst ?_
  | (refine' e_callB ?g ?m ?v ?_; (case g => with_reducible assumption); (case m => with_reducible assumption); (case v => with_reducible assumption))
  | (refine' e_callT ?g ?m ?v ?_; (case g => with_reducible assumption); (case m => with_reducible assumption); (case v => with_reducible assumption)))
local macro_rules | `(tactic| walk_at "op") => `(tactic| first
  | refine o_add ?_ | refine o_sub ?_ | refine o_lt ?_ | refine o_le ?_ | refine o_gt ?_ | refine o_ge ?_ | refine o_neg ?_
  | refine o_mod (by omega) ?_ | refine o_eq rfl ?_ | refine o_ne rfl ?_
  | refine o_pow ⟨by decide, by decide, by decide⟩ ?_
  | refine c_abs ?_ | refine c_int ?_ | refine c_intb ?_ | refine c_max ‹Bd _ _ _ _›.calm ?_ | refine c_min ‹Bd _ _ _ _›.calm ?_)
local macro_rules | `(tactic| walk_at "st") => `(tactic| first
  | refine b_one ?_ | refine b_cons ?_ | refine b_nil ?_ | refine s_ret ?_ | refine s_expr ?_ | refine s_doc ?_ | refine s_pass ?_ | refine s_if ?_
  | (refine' s_lo _ ‹Bd _ _ _ _› ?nm ?lc ?_; (case nm => with_reducible assumption); (case lc => with_reducible assumption))
  | (refine' s_ce _ ‹Bd _ _ _ _› (by assumption) ?nm ?lc ?_; (case nm => with_reducible assumption); (case lc => with_reducible assumption))
  | refine s_sub ?_)
local macro_rules | `(tactic| walk_at "ts") => `(tactic| first
  | refine t_cmpn ?_ | refine t_chain ?_ | refine t_not ?_ | refine w_and1 ?_ | refine w_or1 ?_ | refine w_and ?_ | refine w_or ?_ | ((with_reducible show wT _ (Expr.BoolOp _ _ _) _ _ _); refine t_w ?_) | refine t_val (fun _ => rfl) ?_)
local macro_rules | `(tactic| walk_at "wx") => `(tactic| first
  | ((with_reducible show wB _ _ _ _ _); walk_at "st") | ((with_reducible show wS _ _ _ _ _); walk_at "st") | ((with_reducible show wE _ _ _ _ _); walk_at "ex") | ((with_reducible show wO _ _ _ _ _ _); walk_at "op") | ((with_reducible show wU _ _ _ _ _); walk_at "op") | ((with_reducible show wC _ _ _ _ _); walk_at "op")
  | ((with_reducible show wT _ _ _ _ _); walk_at "ts") | ((with_reducible show wW _ _ _ _ _); walk_at "ts")
  | ((with_reducible show wA _ _ _ _ _); first | refine a_nil ?_ | refine a_cons ?_))
local macro_rules | `(tactic| walk_at "ws") => `(tactic| repeat (walk_at "wx"))
local macro_rules | `(tactic| walk_at "lg") => `(tactic| first
  | with_reducible refine iteT ?_ | with_reducible refine iteF ?_ | with_reducible refine iteNF ?_ | with_reducible refine iteNT ?_
  | with_reducible refine ⟨_, rfl, ?_⟩)
local macro_rules | `(tactic| walk_at "isi") => `(tactic| ((with_reducible show wC _ (Value.builtin "isinstance") _ _ _); first
  | (refine' c_isi (TyX.base (TyOf.int _)) ?e ?_; (case e => walk_at "kit"))
  | (refine' c_isi (TyX.base (TyOf.bl _)) ?e ?_; (case e => walk_at "kit"))
  | (refine' c_isi (TyX.base TyOf.non) ?e ?_; (case e => walk_at "kit"))
  | (refine' c_isi (TyX.base (TyOf.str _)) ?e ?_; (case e => walk_at "kit"))
  | (refine' c_isi (TyX.base (TyOf.lst ?h)) ?e ?_; (case h => assumption); (case e => walk_at "kit"))
  | (refine' c_isi (TyX.base (TyOf.tup ?h)) ?e ?_; (case h => assumption); (case e => walk_at "kit"))
  | (refine' c_isi (ty_tup ?h) ?e ?_; (case h => assumption); (case e => walk_at "kit"))
  | (refine' c_isi (ty_lst ?h) ?e ?_; (case h => assumption); (case e => walk_at "kit"))
  | (refine' c_isi (TyX.base (TyOf.dK ?h)) ?e ?_; (case h => assumption); (case e => walk_at "kit"))))
local macro_rules | `(tactic| walk_at "wz") => `(tactic| repeat (first | walk_at "wx" | walk_at "isi" | walk_at "lg" | walk_at "cl" | walk_at "sp"))
local macro_rules | `(tactic| walk_at "mul") => `(tactic| first | (refine o_mul (.inr ⟨by decide, by decide⟩) ?_) | (refine o_mul (.inl ⟨by decide, by decide⟩) ?_) | (refine o_mul (.inl ⟨by omega, by omega⟩) ?_) | (refine o_mul (.inr ⟨by omega, by omega⟩) ?_))
local macro_rules | `(tactic| walk_at "nw") => `(tactic| ((refine ⟨?z, ?_⟩); (case z => (simp only [List.length_cons, List.length_nil]; decide)); intro p hp))

/-! numbers that a ring of spots can take -/
def cnt (ns : List Int) (t : Int) : Nat := ns.countP fun x => decide (x ≤ t)
def cgt (ns : List Int) (t : Int) : Nat := ns.countP fun x => decide (t < x)
theorem cnt_cgt (ns : List Int) (t : Int) : cnt ns t + cgt ns t = ns.length := by
  unfold cnt cgt
  induction ns with
  | nil => rfl
  | cons x ns ih =>
    rw [List.countP_cons, List.countP_cons, List.length_cons]
    by_cases h : x ≤ t
    · rw [if_pos (decide_eq_true h), if_neg (by simpa using h)]
      omega
    · rw [if_neg (by simpa using h), if_pos (decide_eq_true (by omega))]
      omega
theorem cnt_app (ns ms : List Int) (t : Int) : cnt (ns ++ ms) t = cnt ns t + cnt ms t := List.countP_append
theorem cgt_app (ns ms : List Int) (t : Int) : cgt (ns ++ ms) t = cgt ns t + cgt ms t := List.countP_append
theorem cnt_one (a t : Int) : cnt [a] t = if a ≤ t then 1 else 0 := by
  unfold cnt
  rw [List.countP_cons, List.countP_nil]
  by_cases h : a ≤ t
  · rw [if_pos (decide_eq_true h), if_pos h]
  · rw [if_neg (by simpa using h), if_neg h]
theorem cgt_one (a t : Int) : cgt [a] t = if t < a then 1 else 0 := by
  unfold cgt
  rw [List.countP_cons, List.countP_nil]
  by_cases h : t < a
  · rw [if_pos (decide_eq_true h), if_pos h]
  · rw [if_neg (by simpa using h), if_neg h]
theorem cnt_perm {ns ms : List Int} (h : ns.Perm ms) (t : Int) : cnt ns t = cnt ms t := h.countP_eq _
def good (n : Nat) (ns : List Int) : Prop := ∀ t : Nat, t < n → t + 1 ≤ cnt ns (t : Int)
instance (n : Nat) (ns : List Int) : Decidable (good n ns) := by unfold good; infer_instance
/-- so many, and each spot has its car -/
def fitC (n : Nat) (ns : List Int) : Bool := decide (ns.length = n) && decide (good n ns)
theorem fit_below {n : Nat} {ns : List Int} (h : fitC n ns = true) : ∀ x ∈ ns, x < (n : Int) := by
  unfold fitC at h
  rw [Bool.and_eq_true, decide_eq_true_iff, decide_eq_true_iff] at h
  obtain ⟨hl, hg⟩ := h
  intro x hx
  cases n with
  | zero => rw [List.eq_nil_of_length_eq_zero hl] at hx; simp at hx
  | succ n =>
    have h1 := hg n (Nat.lt_succ_self n)
    have h2 := cnt_cgt ns (n : Int)
    have h3 : cgt ns (n : Int) = 0 := by omega
    unfold cgt at h3
    rw [List.countP_eq_zero] at h3
    have := h3 x hx
    simp at this
    omega
/-- the ranks in order -/
theorem fit_sorted {n : Nat} {ns rs : List Int} (p : rs.Perm ns) (s : rs.Pairwise (· ≤ ·)) (hl : ns.length = n) : ((List.range n).map fun i => decide (rs.getD i 0 ≤ (i : Int))).all id = fitC n ns := by
  have hr : rs.length = n := p.length_eq.trans hl
  unfold fitC
  rw [decide_eq_true hl, Bool.true_and, Bool.eq_iff_iff, List.all_eq_true, decide_eq_true_iff]
  have sorted : ∀ i j, i ≤ j → j < n → rs.getD i 0 ≤ rs.getD j 0 := by
    intro i j hij hj
    rw [List.getD_eq_getElem?_getD, List.getD_eq_getElem?_getD, List.getElem?_eq_getElem (show i < rs.length by omega), List.getElem?_eq_getElem (show j < rs.length by omega)]
    show rs[i] ≤ rs[j]
    rcases Nat.lt_or_ge i j with h | h
    · exact List.pairwise_iff_getElem.mp s i j (by omega) (by omega) h
    · have : i = j := by omega
      subst this
      exact Int.le_refl _
  have cut : ∀ k, cnt rs k = cnt ns k := fun k => cnt_perm p k
  have split : ∀ (i : Nat) (k : Int), cnt rs k = cnt (rs.take i) k + cnt (rs.drop i) k := fun i k => by rw [← cnt_app, List.take_append_drop]
  constructor
  · intro h t ht
    rw [← cut, split (t + 1)]
    have all : cnt (rs.take (t + 1)) (t : Int) = t + 1 := by
      unfold cnt
      rw [List.countP_eq_length.mpr, List.length_take, Nat.min_eq_left (by omega)]
      intro x hx
      obtain ⟨i, hi, e⟩ := List.getElem_of_mem hx
      rw [List.length_take] at hi
      rw [List.getElem_take] at e
      have h1 := h (decide (rs.getD t 0 ≤ (t : Int))) (List.mem_map.mpr ⟨t, List.mem_range.mpr ht, rfl⟩)
      have h1 : rs.getD t 0 ≤ (t : Int) := by simpa using h1
      have h2 := sorted i t (by omega) ht
      rw [List.getD_eq_getElem?_getD, List.getElem?_eq_getElem (show i < rs.length by omega)] at h2
      have h2 : rs[i] ≤ rs.getD t 0 := h2
      rw [decide_eq_true_iff]
      omega
    omega
  · intro h b hb
    obtain ⟨t, ht, rfl⟩ := List.mem_map.mp hb
    have ht := List.mem_range.mp ht
    show decide _ = true
    rw [decide_eq_true_iff]
    have h1 := h t ht
    rw [← cut, split t] at h1
    have h2 : cnt (rs.take t) (t : Int) ≤ t := by
      refine Nat.le_trans (List.countP_le_length ..) ?_
      rw [List.length_take]
      omega
    have h3 : 0 < cnt (rs.drop t) (t : Int) := by omega
    unfold cnt at h3
    rw [List.countP_pos_iff] at h3
    obtain ⟨x, hx, hxt⟩ := h3
    have hxt : x ≤ (t : Int) := by simpa using hxt
    obtain ⟨i, hi, e⟩ := List.getElem_of_mem hx
    rw [List.length_drop] at hi
    rw [List.getElem_drop] at e
    have h4 := sorted t (t + i) (by omega) (by omega)
    rw [List.getD_eq_getElem?_getD (i := t + i), List.getElem?_eq_getElem (show t + i < rs.length by omega)] at h4
    have h4 : rs.getD t 0 ≤ rs[t + i] := h4
    omega
/-! cars park -/
/-- the spots taken with a property -/
def tk (fr : List Bool) (p : Nat → Bool) : Nat := (List.range fr.length).countP fun i => !(fr.getD i true) && p i
theorem countP_add (n : Nat) (q r : Nat → Bool) (s : Nat) (hs : s < n) (hq : q s = false) (hr : ∀ i, r i = (q i || (decide (i = s) && r s))) : (List.range n).countP r = (List.range n).countP q + if r s = true then 1 else 0 := by
  have key : ∀ m, (List.range m).countP r = (List.range m).countP q + if r s = true ∧ s < m then 1 else 0 := by
    intro m
    induction m with
    | zero => simp
    | succ m ih =>
      rw [List.range_succ, List.countP_append, List.countP_append, ih, List.countP_cons, List.countP_cons, List.countP_nil, List.countP_nil]
      by_cases e : m = s
      · subst e
        rw [hq]
        by_cases h : r m = true
        · simp [h]
        · simp [h]
      · have : r m = q m := by rw [hr m]; simp [e]
        rw [this]
        have e3 : (if r s = true ∧ s < m then 1 else 0) = (if r s = true ∧ s < m + 1 then 1 else 0 : Nat) := by
          by_cases h : r s = true ∧ s < m
          · rw [if_pos h, if_pos ⟨h.1, by omega⟩]
          · rw [if_neg h, if_neg (fun z => h ⟨z.1, by omega⟩)]
        rw [e3]
        omega
  rw [key n]
  by_cases h : r s = true
  · rw [if_pos ⟨h, hs⟩, if_pos h]
  · rw [if_neg (fun z => h z.1), if_neg h]
theorem getD_set {fr : List Bool} {s i : Nat} (hs : s < fr.length) : (fr.set s false).getD i true = if i = s then false else fr.getD i true := by
  rw [List.getD_eq_getElem?_getD, List.getD_eq_getElem?_getD, List.getElem?_set]
  by_cases h : s = i
  · subst h
    rw [if_pos rfl, if_pos hs, if_pos rfl]; rfl
  · rw [if_neg h, if_neg (fun z => h z.symm)]
theorem tk_set {fr : List Bool} {s : Nat} (hs : s < fr.length) (hf : fr.getD s true = true) (p : Nat → Bool) : tk (fr.set s false) p = tk fr p + if p s = true then 1 else 0 := by
  unfold tk
  rw [List.length_set]
  have h := countP_add fr.length (fun i => !(fr.getD i true) && p i) (fun i => !((fr.set s false).getD i true) && p i) s hs (by show (!(fr.getD s true) && p s) = false; rw [hf]; rfl) (by
    intro i
    show (!((fr.set s false).getD i true) && p i) = ((!(fr.getD i true) && p i) || (decide (i = s) && (!((fr.set s false).getD s true) && p s)))
    rw [getD_set hs, getD_set hs, if_pos rfl]
    by_cases e : i = s
    · subst e
      rw [if_pos rfl, decide_eq_true rfl, hf]
      cases p i <;> rfl
    · rw [if_neg e, decide_eq_false e]
      cases fr.getD i true <;> cases p i <;> rfl)
  rw [h]
  congr 1
  show (if (!((fr.set s false).getD s true) && p s) = true then 1 else 0) = _
  rw [getD_set hs, if_pos rfl]
  rfl
/-- what stands behind some cars -/
structure Pk (n : Nat) (fr : List Bool) (ns : List Int) : Prop where
  len : fr.length = n
  all : tk fr (fun _ => true) = ns.length
  low : ∀ t : Nat, tk fr (fun i => decide (i ≤ t)) ≤ cnt ns (t : Int)
  up : ∀ m : Nat, m < n → fr.getD m true = true → tk fr (fun i => decide (m < i)) = cgt ns (m : Int)
theorem pk_0 (n : Nat) : Pk n (List.replicate n true) [] := by
  have z : ∀ p, tk (List.replicate n true) p = 0 := by
    intro p
    unfold tk
    rw [List.countP_eq_zero]
    intro i hi
    rw [List.length_replicate] at hi
    rw [List.getD_eq_getElem?_getD, List.getElem?_replicate, if_pos (List.mem_range.mp hi)]
    simp
  exact ⟨List.length_replicate .., z _, fun t => by rw [z]; exact Nat.zero_le _, fun m _ _ => by rw [z]; rfl⟩
theorem pk_s {n : Nat} {fr : List Bool} {ns : List Int} (h : Pk n fr ns) {a : Int} {s : Nat} (hs : s < n) (ha : a ≤ (s : Int)) (hf : fr.getD s true = true) (first : ∀ i : Nat, a ≤ (i : Int) → i < s → fr.getD i true = false) : Pk n (fr.set s false) (ns ++ [a]) := by
  have hs2 : s < fr.length := by rw [h.len]; exact hs
  refine ⟨by rw [List.length_set, h.len], ?_, fun t => ?_, fun m hm hfm => ?_⟩
  · rw [tk_set hs2 hf, h.all, List.length_append]; rfl
  · rw [tk_set hs2 hf, cnt_app, cnt_one]
    have := h.low t
    by_cases e : s ≤ t
    · rw [if_pos (decide_eq_true e), if_pos (by omega)]
      omega
    · rw [if_neg (by simpa using e)]
      omega
  · rw [getD_set hs2] at hfm
    have hne : m ≠ s := by
      rintro rfl
      rw [if_pos rfl] at hfm
      cases hfm
    rw [if_neg hne] at hfm
    rw [tk_set hs2 hf, cgt_app, cgt_one, h.up m hm hfm]
    by_cases e : m < s
    · rw [if_pos (decide_eq_true e)]
      by_cases e2 : (m : Int) < a
      · rw [if_pos e2]
      · have := first m (by omega) e
        rw [hfm] at this
        cases this
    · rw [if_neg (by simpa using e), if_neg (by omega)]
theorem countP_all_le (n : Nat) (q : Nat → Bool) : (List.range n).countP q ≤ n := by
  have := List.countP_le_length (p := q) (l := List.range n)
  rw [List.length_range] at this
  exact this
theorem countP_gt (n m : Nat) (hm : m < n) : (List.range n).countP (fun i => decide (m < i)) = n - 1 - m := by
  induction n with
  | zero => omega
  | succ n ih =>
    rw [List.range_succ, List.countP_append, List.countP_cons, List.countP_nil]
    by_cases e : m < n
    · rw [ih e, if_pos (decide_eq_true e)]
      omega
    · have : m = n := by omega
      subst this
      rw [if_neg (by simp)]
      have z : (List.range m).countP (fun i => decide (m < i)) = 0 := by
        rw [List.countP_eq_zero]
        intro i hi
        have := List.mem_range.mp hi
        simp
        omega
      omega
theorem countP_le (n t : Nat) (ht : t < n) : (List.range n).countP (fun i => decide (i ≤ t)) = t + 1 := by
  induction n with
  | zero => omega
  | succ n ih =>
    rw [List.range_succ, List.countP_append, List.countP_cons, List.countP_nil]
    by_cases e : t < n
    · rw [ih e, if_neg (by simp; omega)]
    · have : t = n := by omega
      subst this
      rw [if_pos (by simp), List.countP_eq_length.mpr, List.length_range]
      intro i hi
      have := List.mem_range.mp hi
      simp
      omega
/-- all cars have parked -/
theorem pk_end {n : Nat} {fr : List Bool} {ns : List Int} (h : Pk n fr ns) (hl : ns.length = n) : good n ns := by
  intro t ht
  have full : ∀ i, i < n → fr.getD i true = false := by
    intro i hi
    cases e : fr.getD i true with
    | false => rfl
    | true =>
      have h1 := tk_set (fr := fr) (s := i) (by rw [h.len]; exact hi) e (fun _ => true)
      rw [h.all, hl, if_pos rfl] at h1
      have h2 : tk (fr.set i false) (fun _ => true) ≤ n := by
        unfold tk
        rw [List.length_set, h.len]
        exact countP_all_le ..
      omega
  refine Nat.le_trans ?_ (h.low t)
  unfold tk
  rw [h.len]
  have : (List.range n).countP (fun i => !(fr.getD i true) && decide (i ≤ t)) = (List.range n).countP (fun i => decide (i ≤ t)) := by
    refine List.countP_congr fun i hi => ?_
    rw [full i (List.mem_range.mp hi)]
    simp
  rw [this, countP_le n t ht]
  exact Nat.le_refl _
/-- a car that finds no spot -/
theorem pk_no {n : Nat} {fr : List Bool} {ns : List Int} (h : Pk n fr ns) {a : Int} {ms : List Int} (hl : (ns ++ a :: ms).length = n) (no : ∀ i : Nat, a ≤ (i : Int) → i < n → fr.getD i true = false) : ¬ good n (ns ++ a :: ms) := by
  intro g
  rw [List.length_append, List.length_cons] at hl
  -- some spot is free
  have some_free : ∃ m, m < n ∧ fr.getD m true = true ∧ ∀ i, m < i → i < n → fr.getD i true = false := by
    have ex : ∃ m, m < n ∧ fr.getD m true = true := by
      refine Classical.byContradiction fun z => ?_
      have full : ∀ i, i < n → fr.getD i true = false := fun i hi => by
        cases e : fr.getD i true with
        | false => rfl
        | true => exact absurd ⟨i, hi, e⟩ z
      have : tk fr (fun _ => true) = n := by
        unfold tk
        rw [h.len, List.countP_eq_length.mpr, List.length_range]
        intro i hi
        rw [full i (List.mem_range.mp hi)]
        rfl
      have := h.all
      omega
    have last : ∀ k, (∃ m, m < n ∧ fr.getD m true = true ∧ ∀ i, m < i → i < n → fr.getD i true = false) ∨ ∀ i, n - k ≤ i → i < n → fr.getD i true = false := by
      intro k
      induction k with
      | zero => exact .inr fun i h1 h2 => by omega
      | succ k ih =>
        rcases ih with ih | ih
        · exact .inl ih
        · by_cases hk : k < n
          · cases e : fr.getD (n - (k + 1)) true with
            | true => exact .inl ⟨n - (k + 1), by omega, e, fun i h1 h2 => ih i (by omega) h2⟩
            | false =>
              refine .inr fun i h1 h2 => ?_
              by_cases e2 : i = n - (k + 1)
              · rw [e2]; exact e
              · exact ih i (by omega) h2
          · exact .inr fun i h1 h2 => ih i (by omega) h2
    rcases last n with h1 | h1
    · exact h1
    · obtain ⟨m, hm, e⟩ := ex
      rw [h1 m (by omega) hm] at e
      cases e
  obtain ⟨m, hm, hf, above⟩ := some_free
  have ha : (m : Int) < a := by
    refine Int.not_le.mp fun z => ?_
    rw [no m z hm] at hf
    cases hf
  have h1 := h.up m hm hf
  have h2 : tk fr (fun i => decide (m < i)) = n - 1 - m := by
    rw [← countP_gt n m hm]
    unfold tk
    rw [h.len]
    refine List.countP_congr fun i hi => ?_
    by_cases e : m < i
    · rw [above i e (List.mem_range.mp hi)]
      simp
    · simp [e]
  have h3 := g m hm
  have h4 := cnt_cgt (ns ++ a :: ms) (m : Int)
  have h5 : cgt (ns ++ a :: ms) (m : Int) = cgt ns (m : Int) + (1 + cgt ms (m : Int)) := by
    rw [show ns ++ a :: ms = ns ++ ([a] ++ ms) from rfl, cgt_app, cgt_app, cgt_one, if_pos ha]
  rw [List.length_append, List.length_cons] at h4
  omega

local macro_rules | `(tactic| walk_at "hg") => `(tactic| first | exact upd_same | assumption | (refine upd_keep (by assumption) ?_; walk_at "hg"))
local macro_rules | `(tactic| walk_at "ok") => `(tactic| first | exact .int _ | exact .bl _ | exact .str _ | exact .non | assumption)
def isI : V → Bool
  | .int i => decide (-big__TOO_LONG < i) && decide (i < big__TOO_LONG)
  | _ => false
theorem isI_of {i : Int} (h1 : -1000000 ≤ i) (h2 : i ≤ 1000000) : isI (.int i) = true := by
  have hb : (1000000 : Int) < big__TOO_LONG := by decide
  show (decide (-big__TOO_LONG < i) && decide (i < big__TOO_LONG)) = true
  rw [decide_eq_true (by omega), decide_eq_true (by omega)]; rfl
theorem isI_no {i : Int} (h : isI (.int i) = false) : i < -1000000 ∨ 1000000 < i := by
  refine Classical.byContradiction fun z => ?_
  rw [isI_of (by omega) (by omega)] at h
  cases h
def sp_is_integer (K : PySem.W.Frag) : Sp := fun vs H Q _ => ∃ v, vs = [v] ∧ Okv K H v ∧ Q (.bl (isI v)) H
theorem b_is_integer {X : Cx} (B : Bd X N_is_integer (defScope S_is_integer) 0) (F : ∀ x, X.fn x = true) (T : Tx X.K X.mg) {vs : List V} {H : Hp} {Q : VK} {E : XK} (h : sp_is_integer X.K vs H Q E) :
    wB X (defBody S_is_integer) { nx := fun _ H' => Q .non H', rt := Q } (start N_is_integer vs) H := by
  have n_value : X.N[0]? = some ("value" : Str) := B.slot 0 rfl
  have l_value : X.env.scope.names.lookup ("value" : Str) = some NameKind.local := B.loc rfl
  have g_isinstance : Gl X "isinstance" := B.gl rfl
  have z_isinstance := T.z_isinstance
  have v_isinstance := bb_isinstance
  have g_int : Gl X "int" := B.gl rfl
  have z_int := T.z_int
  have v_int := bb_int
  have g_bool : Gl X "bool" := B.gl rfl
  have z_bool := T.z_bool
  have v_bool := bb_bool
  have g__TOO_LONG : Gl X "_TOO_LONG" := B.gl rfl
  obtain ⟨t__TOO_LONG, c__TOO_LONG⟩ := T.c__TOO_LONG
  obtain ⟨v, rfl, ok, q⟩ := h
  cases ok with
  | int i =>
    walk_at "wz"
    refine iteD (fun h1 => ?_) (fun h1 => ?_)
    · walk_at "wz"
      have e : isI (.int i) = decide (i < big__TOO_LONG) := by show (decide (-big__TOO_LONG < i) && decide (i < big__TOO_LONG)) = _; rw [decide_eq_true h1, Bool.true_and]
      rw [e] at q
      exact q
    · have e : isI (.int i) = false := by show (decide (-big__TOO_LONG < i) && decide (i < big__TOO_LONG)) = _; rw [decide_eq_false h1, Bool.false_and]
      rw [e] at q
      exact q
  | non => walk_at "wz"; exact q
  | bl b => walk_at "wz"; exact q
  | str x => walk_at "wz"; exact q
  | lst e => walk_at "wz"; exact q
  | tup e => walk_at "wz"; exact q
  | dK e => walk_at "wz"; exact q
theorem len_is_integer {K : PySem.W.Frag} : ∀ vs H Q E, sp_is_integer K vs H Q E → vs.length = 1 := by
  intro vs H Q E h
  obtain ⟨_, e, _⟩ := h
  rw [e]; rfl
theorem D_is_integer {P : Program} {w : World} {K : PySem.W.Frag} {mg : Str → Option Value} {base : Heap} (T : Tx K mg) : Dk P w K mg base "is_integer" 1 ["value"] (sp_is_integer K) :=
  dk_of T.d_is_integer sc_is_integer (fun _ _ _ _ _ _ us hl => match us, hl with | [_], _ => rfl) len_is_integer (fun X e1 e2 e3 e4 e5 B F vs H Q E h => by subst e1 e2 e3 e4 e5; exact b_is_integer B F T h)
local macro_rules | `(tactic| walk_at "cl") => `(tactic| (refine' e_callk (D_is_integer ‹Tx _ _›) ?rm ?gl ?_; (case rm => exact ‹Bd _ _ _ _›.room.mono (by decide)); (case gl => with_reducible assumption)))
local macro_rules | `(tactic| walk_at "sp") => `(tactic| ((with_reducible show sp_is_integer _ _ _ _ _); refine ⟨_, rfl, by walk_at "ok", ?_⟩))
def isB (P : Int) : V → Bool
  | .int i => decide (0 ≤ i) && decide (i < P)
  | _ => false
def sp_is_below (K : PySem.W.Frag) : Sp := fun vs H Q _ => ∃ P v, vs = [.int P, v] ∧ Okv K H v ∧ P ≤ 1000000 ∧ Q (.bl (isB P v)) H
theorem b_is_below {X : Cx} (B : Bd X N_is_below (defScope S_is_below) 1) (F : ∀ x, X.fn x = true) (T : Tx X.K X.mg) {vs : List V} {H : Hp} {Q : VK} {E : XK} (h : sp_is_below X.K vs H Q E) :
    wB X (defBody S_is_below) { nx := fun _ H' => Q .non H', rt := Q } (start N_is_below vs) H := by
  have n_limit : X.N[0]? = some ("limit" : Str) := B.slot 0 rfl
  have l_limit : X.env.scope.names.lookup ("limit" : Str) = some NameKind.local := B.loc rfl
  have n_value : X.N[1]? = some ("value" : Str) := B.slot 1 rfl
  have l_value : X.env.scope.names.lookup ("value" : Str) = some NameKind.local := B.loc rfl
  have g_is_integer : Gl X "is_integer" := B.gl rfl
  obtain ⟨P, v, rfl, ok, hP, q⟩ := h
  walk_at "wz"
  refine iteB (fun h1 => ?_) (fun h1 => ?_)
  · cases v with
    | int i =>
      walk_at "wz"
      have e : isB P (.int i) = (decide (0 ≤ i) && decide (i < P)) := rfl
      rw [e] at q
      by_cases h2 : 0 ≤ i
      · rw [decide_eq_true h2, Bool.true_and] at q
        rw [decide_eq_true h2]
        walk_at "wz"
        exact q
      · rw [decide_eq_false h2, Bool.false_and] at q
        rw [decide_eq_false h2]
        walk_at "wz"
        exact q
    | _ => cases h1
  · have e : isB P v = false := by
      cases v with
      | int i =>
        have := isI_no h1
        show (decide (0 ≤ i) && decide (i < P)) = false
        by_cases h2 : 0 ≤ i
        · rw [decide_eq_false (show ¬ i < P by omega), Bool.and_false]
        · rw [decide_eq_false h2, Bool.false_and]
      | _ => rfl
    rw [e] at q
    exact q
theorem len_is_below {K : PySem.W.Frag} : ∀ vs H Q E, sp_is_below K vs H Q E → vs.length = 2 := by
  intro vs H Q E h
  obtain ⟨_, _, e, _⟩ := h
  rw [e]; rfl
theorem D_is_below {P : Program} {w : World} {K : PySem.W.Frag} {mg : Str → Option Value} {base : Heap} (T : Tx K mg) : Dk P w K mg base "is_below" 2 ["limit", "value"] (sp_is_below K) :=
  dk_of T.d_is_below sc_is_below (fun _ _ _ _ _ _ us hl => match us, hl with | [_, _], _ => rfl) len_is_below (fun X e1 e2 e3 e4 e5 B F vs H Q E h => by subst e1 e2 e3 e4 e5; exact b_is_below B F T h)
local macro_rules | `(tactic| walk_at "cl") => `(tactic| (refine' e_callk (D_is_below ‹Tx _ _›) ?rm ?gl ?_; (case rm => exact ‹Bd _ _ _ _›.room.mono (by decide)); (case gl => with_reducible assumption)))
local macro_rules | `(tactic| walk_at "sp") => `(tactic| ((with_reducible show sp_is_below _ _ _ _ _); refine ⟨_, _, rfl, by walk_at "ok", by omega, ?_⟩))
def sp_check_number (K : PySem.W.Frag) : Sp := fun vs H Q _ => ∃ i l m, vs = [.int i, .int l, .int m] ∧ l ≤ i ∧ i ≤ m ∧ -1000000 ≤ i ∧ i ≤ 1000000 ∧ Q .non H
theorem b_check_number {X : Cx} (B : Bd X N_check_number (defScope S_check_number) 1) (F : ∀ x, X.fn x = true) (T : Tx X.K X.mg) {vs : List V} {H : Hp} {Q : VK} {E : XK} (h : sp_check_number X.K vs H Q E) :
    wB X (defBody S_check_number) { nx := fun _ H' => Q .non H', rt := Q } (start N_check_number vs) H := by
  have n_value : X.N[0]? = some ("value" : Str) := B.slot 0 rfl
  have l_value : X.env.scope.names.lookup ("value" : Str) = some NameKind.local := B.loc rfl
  have n_least : X.N[1]? = some ("least" : Str) := B.slot 1 rfl
  have l_least : X.env.scope.names.lookup ("least" : Str) = some NameKind.local := B.loc rfl
  have n_most : X.N[2]? = some ("most" : Str) := B.slot 2 rfl
  have l_most : X.env.scope.names.lookup ("most" : Str) = some NameKind.local := B.loc rfl
  have g_is_integer : Gl X "is_integer" := B.gl rfl
  have g_InvalidNumber : Gl X "InvalidNumber" := B.gl rfl
  obtain ⟨i, l, m, rfl, h1, h2, h3, h4, q⟩ := h
  walk_at "wz"
  rw [isI_of (by omega) (by omega)]
  walk_at "wz"
  refine iteD (fun z => absurd z (by omega)) (fun _ => ?_)
  walk_at "wz"
  rw [decide_eq_false (by omega)]
  walk_at "wz"
  exact q
theorem len_check_number {K : PySem.W.Frag} : ∀ vs H Q E, sp_check_number K vs H Q E → vs.length = 3 := by
  intro vs H Q E h
  obtain ⟨_, _, _, e, _⟩ := h
  rw [e]; rfl
theorem D_check_number {P : Program} {w : World} {K : PySem.W.Frag} {mg : Str → Option Value} {base : Heap} (T : Tx K mg) : Dk P w K mg base "check_number" 2 ["value", "least", "most"] (sp_check_number K) :=
  dk_of T.d_check_number sc_check_number (fun _ _ _ _ _ _ us hl => match us, hl with | [_, _, _], _ => rfl) len_check_number (fun X e1 e2 e3 e4 e5 B F vs H Q E h => by subst e1 e2 e3 e4 e5; exact b_check_number B F T h)
local macro_rules | `(tactic| walk_at "cl") => `(tactic| (refine' e_callk (D_check_number ‹Tx _ _›) ?rm ?gl ?_; (case rm => exact ‹Bd _ _ _ _›.room.mono (by decide)); (case gl => with_reducible assumption)))
local macro_rules | `(tactic| walk_at "sp") => `(tactic| ((with_reducible show sp_check_number _ _ _ _ _); refine ⟨_, _, _, rfl, by omega, by omega, by omega, by omega, ?_⟩))
def sp_check_places (K : PySem.W.Frag) : Sp := fun vs H Q _ => ∃ i, vs = [.int i] ∧ 1 ≤ i ∧ i ≤ 12 ∧ Q .non H
theorem b_check_places {X : Cx} (B : Bd X N_check_places (defScope S_check_places) 2) (F : ∀ x, X.fn x = true) (T : Tx X.K X.mg) {vs : List V} {H : Hp} {Q : VK} {E : XK} (h : sp_check_places X.K vs H Q E) :
    wB X (defBody S_check_places) { nx := fun _ H' => Q .non H', rt := Q } (start N_check_places vs) H := by
  have n_places : X.N[0]? = some ("places" : Str) := B.slot 0 rfl
  have l_places : X.env.scope.names.lookup ("places" : Str) = some NameKind.local := B.loc rfl
  have g_check_number : Gl X "check_number" := B.gl rfl
  have g_MAX_PLACES : Gl X "MAX_PLACES" := B.gl rfl
  obtain ⟨t_MAX_PLACES, c_MAX_PLACES⟩ := T.c_MAX_PLACES
  obtain ⟨i, rfl, h1, h2, q⟩ := h
  walk_at "wz"
  exact q
theorem len_check_places {K : PySem.W.Frag} : ∀ vs H Q E, sp_check_places K vs H Q E → vs.length = 1 := by
  intro vs H Q E h
  obtain ⟨_, e, _⟩ := h
  rw [e]; rfl
theorem D_check_places {P : Program} {w : World} {K : PySem.W.Frag} {mg : Str → Option Value} {base : Heap} (T : Tx K mg) : Dk P w K mg base "check_places" 3 ["places"] (sp_check_places K) :=
  dk_of T.d_check_places sc_check_places (fun _ _ _ _ _ _ us hl => match us, hl with | [_], _ => rfl) len_check_places (fun X e1 e2 e3 e4 e5 B F vs H Q E h => by subst e1 e2 e3 e4 e5; exact b_check_places B F T h)
local macro_rules | `(tactic| walk_at "cl") => `(tactic| (refine' e_callk (D_check_places ‹Tx _ _›) ?rm ?gl ?_; (case rm => exact ‹Bd _ _ _ _›.room.mono (by decide)); (case gl => with_reducible assumption)))
local macro_rules | `(tactic| walk_at "sp") => `(tactic| ((with_reducible show sp_check_places _ _ _ _ _); refine ⟨_, rfl, by omega, by omega, ?_⟩))
def sp__fit_ring (K : PySem.W.Frag) : Sp := fun vs H Q _ => ∃ r l, ∃ n : Nat, ∃ ns : List Int, vs = [.ref r, .ref l] ∧ TupM H r ((iota (n + 1)).map V.int) ∧ SqT K H l (ns.map V.int) ∧ ns.length ≤ 1000 ∧ n ≤ 1000 ∧ (∀ x ∈ ns, 0 ≤ x ∧ x < ((n + 1 : Nat) : Int)) ∧ ∀ H', Same H H' → Q (.bl (fitC n ns)) H'
theorem b__fit_ring {X : Cx} (B : Bd X N__fit_ring (defScope S__fit_ring) 0) (F : ∀ x, X.fn x = true) (T : Tx X.K X.mg) {vs : List V} {H : Hp} {Q : VK} {E : XK} (h : sp__fit_ring X.K vs H Q E) :
    wB X (defBody S__fit_ring) { nx := fun _ H' => Q .non H', rt := Q } (start N__fit_ring vs) H := by
  have n_ring : X.N[0]? = some ("ring" : Str) := B.slot 0 rfl
  have l_ring : X.env.scope.names.lookup ("ring" : Str) = some NameKind.cell := B.cel rfl
  have n_lows : X.N[1]? = some ("lows" : Str) := B.slot 1 rfl
  have l_lows : X.env.scope.names.lookup ("lows" : Str) = some NameKind.local := B.loc rfl
  have n_ranks : X.N[2]? = some ("ranks" : Str) := B.slot 2 rfl
  have l_ranks : X.env.scope.names.lookup ("ranks" : Str) = some NameKind.local := B.loc rfl
  have n_low : X.N[3]? = some ("low" : Str) := B.slot 3 rfl
  have n_index : X.N[4]? = some ("index" : Str) := B.slot 4 rfl
  have n_rank : X.N[5]? = some ("rank" : Str) := B.slot 5 rfl
  have g_sorted : Gl X "sorted" := B.gl rfl
  have z_sorted := T.z_sorted
  have v_sorted := bb_sorted
  have g_len : Gl X "len" := B.gl rfl
  have z_len := T.z_len
  have v_len := bb_len
  have g_all : Gl X "all" := B.gl rfl
  have z_all := T.z_all
  have v_all := bb_all
  have g_enumerate : Gl X "enumerate" := B.gl rfl
  have z_enumerate := T.z_enumerate
  obtain ⟨r, l, n, ns, rfl, hr, hs, hz, hn, hin, q⟩ := h
  have z1000 : (1000 : Nat) < sizeLine := by decide
  walk_at "wz"
  refine e_lcT 3 B (blkOk_by (by decide +kernel)) rfl rfl (lcT_same ?_)
  walk_at "wz"
  refine ⟨l, _, fun i y _ => y = (fun i => V.int (ns.getD i 0)) i, rfl, hs, by rw [List.length_map]; omega, stays_eq _, ?_, ?_⟩
  · intro i v H2 hv sm X' bk
    have B' := bk.bd B
    have n_low : X'.N[3]? = some ("low" : Str) := B'.slot 3 rfl
    have l_low : X'.env.scope.names.lookup ("low" : Str) = some NameKind.local := B'.loc rfl
    have n_ring : X'.N[0]? = some ("ring" : Str) := B'.slot 0 rfl
    have l_ring : X'.env.scope.names.lookup ("ring" : Str) = some NameKind.cell := B'.cel rfl
    have T' : Tx X'.K X'.mg := by rw [bk.K, bk.mg]; exact T
    rw [List.getElem?_map] at hv
    cases hi : ns[i]? with
    | none => rw [hi] at hv; cases hv
    | some x =>
      rw [hi] at hv
      cases hv
      have hx := hin x (List.mem_of_getElem? hi)
      have hm : x ∈ iota (n + 1) := iota_mem.mpr hx
      refine e_indexT ?_
      walk_at "wz"
      refine ⟨r, iota (n + 1), rfl, hr.same sm, ?_⟩
      walk_at "wz"
      refine ⟨(hr.same sm).sq, hm, Same.refl _, ?_⟩
      show V.int ((iota (n + 1)).idxOf x : Nat) = V.int (ns.getD i 0)
      rw [iota_idx hm, getD_of hi]
  · intro D H' ys h0 sm hD hl hy
    rw [List.length_map] at hl
    rw [ys_eq hl hy, map_at ns 0 V.int] at hD
    walk_at "wz"
    refine c_sortL (SqL.of hD) fun rs p hp hsrt hpn => ?_
    have s2 := sm.new (o := .lst (rs.map V.int)) hpn
    walk_at "wz"
    refine c_lenL (SqL.of upd_same) ?_
    walk_at "wz"
    refine c_lenT (hr.same s2).sq ?_
    walk_at "wz"
    rw [List.length_map, List.length_map, iota_len, hp.length_eq]
    by_cases e : ns.length = n
    · refine iteD (fun _ => ?_) (fun z => absurd (by rw [e]; congr 1; omega) z)
      walk_at "wz"
      refine e_en 4 5 (by decide) B (blkOk_by (by decide +kernel)) (by assumption) (by assumption) rfl rfl rfl rfl ?_
      walk_at "wz"
      refine ⟨p, rs.map V.int, fun i => .bl (decide (rs.getD i 0 ≤ (i : Int))), rfl, SqL.of upd_same, by rw [List.length_map, hp.length_eq]; omega, ?_, ?_⟩
      · intro i v H2 hv s3 X' bk
        have B' := bk.bd B
        have n_index : X'.N[4]? = some ("index" : Str) := B'.slot 4 rfl
        have l_index : X'.env.scope.names.lookup ("index" : Str) = some NameKind.local := B'.loc rfl
        have n_rank : X'.N[5]? = some ("rank" : Str) := B'.slot 5 rfl
        have l_rank : X'.env.scope.names.lookup ("rank" : Str) = some NameKind.local := B'.loc rfl
        have T' : Tx X'.K X'.mg := by rw [bk.K, bk.mg]; exact T
        rw [List.getElem?_map] at hv
        cases hi : rs[i]? with
        | none => rw [hi] at hv; cases hv
        | some x =>
          rw [hi] at hv
          cases hv
          walk_at "wz"
          refine ⟨?_, Same.refl _⟩
          show V.bl (decide (x ≤ (i : Int))) = V.bl (decide (rs.getD i 0 ≤ (i : Int)))
          rw [getD_of hi]
      · intro D2 H3 hD2 s3 hD3
        walk_at "wz"
        have e2 : ((List.range (rs.map V.int).length).map fun i => V.bl (decide (rs.getD i 0 ≤ (i : Int)))) = ((List.range n).map fun i => decide (rs.getD i 0 ≤ (i : Int))).map V.bl := by
          rw [List.length_map, hp.length_eq, e, List.map_map]; rfl
        rw [e2] at hD3
        refine c_all B.calm (SqL.of hD3) ?_
        rw [fit_sorted hp hsrt e]
        exact q _ (s2.trans s3)
    · refine iteD (fun z => absurd (V.int.inj z) (by omega)) (fun _ => ?_)
      have e2 : fitC n ns = false := by unfold fitC; rw [decide_eq_false e, Bool.false_and]
      rw [e2] at q
      exact q _ s2
theorem len__fit_ring {K : PySem.W.Frag} : ∀ vs H Q E, sp__fit_ring K vs H Q E → vs.length = 2 := by
  intro vs H Q E h
  obtain ⟨_, _, _, _, e, _⟩ := h
  rw [e]; rfl
theorem D__fit_ring {P : Program} {w : World} {K : PySem.W.Frag} {mg : Str → Option Value} {base : Heap} (T : Tx K mg) : Dk P w K mg base "_fit_ring" 1 ["ring", "lows"] (sp__fit_ring K) :=
  dk_of T.d__fit_ring sc__fit_ring (fun _ _ _ _ _ _ us hl => match us, hl with | [_, _], _ => rfl) len__fit_ring (fun X e1 e2 e3 e4 e5 B F vs H Q E h => by subst e1 e2 e3 e4 e5; exact b__fit_ring B F T h)
local macro_rules | `(tactic| walk_at "cl") => `(tactic| (refine' e_callk (D__fit_ring ‹Tx _ _›) ?rm ?gl ?_; (case rm => exact ‹Bd _ _ _ _›.room.mono (by decide)); (case gl => with_reducible assumption)))

def sp__are_lows (K : PySem.W.Frag) : Sp := fun vs H Q _ => ∃ P m v, vs = [.int P, .int m, v] ∧ P ≤ 12 ∧ ((NoTp K H v ∧ Q (.bl false) H) ∨ ∃ a xs, v = .ref a ∧ SqT K H a xs ∧ xs.length ≤ 1000 ∧ (∀ x ∈ xs, Okv K H x) ∧ ∀ H', Same H H' → Q (.bl (decide ((xs.length : Int) ≤ m) && xs.all (isB P))) H')
theorem b__are_lows {X : Cx} (B : Bd X N__are_lows (defScope S__are_lows) 2) (F : ∀ x, X.fn x = true) (T : Tx X.K X.mg) {vs : List V} {H : Hp} {Q : VK} {E : XK} (h : sp__are_lows X.K vs H Q E) :
    wB X (defBody S__are_lows) { nx := fun _ H' => Q .non H', rt := Q } (start N__are_lows vs) H := by
  have n_places : X.N[0]? = some ("places" : Str) := B.slot 0 rfl
  have l_places : X.env.scope.names.lookup ("places" : Str) = some NameKind.cell := B.cel rfl
  have n_most : X.N[1]? = some ("most" : Str) := B.slot 1 rfl
  have l_most : X.env.scope.names.lookup ("most" : Str) = some NameKind.local := B.loc rfl
  have n_value : X.N[2]? = some ("value" : Str) := B.slot 2 rfl
  have l_value : X.env.scope.names.lookup ("value" : Str) = some NameKind.local := B.loc rfl
  have n_low : X.N[3]? = some ("low" : Str) := B.slot 3 rfl
  have g_isinstance : Gl X "isinstance" := B.gl rfl
  have z_isinstance := T.z_isinstance
  have v_isinstance := bb_isinstance
  have g_tuple : Gl X "tuple" := B.gl rfl
  have z_tuple := T.z_tuple
  have v_tuple := bb_tuple
  have g_len : Gl X "len" := B.gl rfl
  have z_len := T.z_len
  have v_len := bb_len
  have g_all : Gl X "all" := B.gl rfl
  have z_all := T.z_all
  have v_all := bb_all
  obtain ⟨P, m, v, rfl, hP, h⟩ := h
  rcases h with ⟨hn, q⟩ | ⟨a, xs, rfl, hs, hz, hok, q⟩
  · cases hn with
    | non => walk_at "wz"; exact q
    | bl b => walk_at "wz"; exact q
    | int i => walk_at "wz"; exact q
    | str x => walk_at "wz"; exact q
    | lst e => walk_at "wz"; exact q
    | dK e => walk_at "wz"; exact q
  · have z1000 : (1000 : Nat) < sizeLine := by decide
    walk_at "wz"
    refine c_lenT hs ?_
    walk_at "wz"
    by_cases e : (xs.length : Int) ≤ m
    · rw [decide_eq_true e, Bool.true_and] at q
      rw [decide_eq_true e]
      walk_at "wz"
      refine e_lcT 3 B (blkOk_by (by decide +kernel)) rfl rfl (lcT_same ?_)
      walk_at "wz"
      refine ⟨a, xs, fun i y _ => y = (fun i => V.bl (isB P (xs.getD i .non))) i, rfl, hs, by omega, stays_eq _, ?_, ?_⟩
      · intro i v H2 hv sm X' bk
        have B' := bk.bd B
        have n_low : X'.N[3]? = some ("low" : Str) := B'.slot 3 rfl
        have l_low : X'.env.scope.names.lookup ("low" : Str) = some NameKind.local := B'.loc rfl
        have n_places : X'.N[0]? = some ("places" : Str) := B'.slot 0 rfl
        have l_places : X'.env.scope.names.lookup ("places" : Str) = some NameKind.cell := B'.cel rfl
        have T' : Tx X'.K X'.mg := by rw [bk.K, bk.mg]; exact T
        have g_is_below : Gl X' "is_below" := B'.gl rfl
        have ok' : Okv X'.K H2 v := by
          rw [bk.K]
          exact (hok v (List.mem_of_getElem? hv)).same sm
        walk_at "wz"
        refine ⟨Same.refl _, ?_⟩
        show V.bl (isB P v) = V.bl (isB P (xs.getD i .non))
        rw [getD_of hv]
      · intro D H' ys h0 sm hD hl hy
        rw [ys_eq hl hy, map_at xs .non (fun v => V.bl (isB P v))] at hD
        have e2 : (xs.map fun v => V.bl (isB P v)) = (xs.map (isB P)).map V.bl := by rw [List.map_map]; rfl
        rw [e2] at hD
        walk_at "wz"
        refine c_all B.calm (SqL.of hD) ?_
        rw [show (xs.map (isB P)).all id = xs.all (isB P) by rw [List.all_map]; rfl]
        exact q _ sm
    · rw [decide_eq_false e, Bool.false_and] at q
      rw [decide_eq_false e]
      walk_at "wz"
      exact q _ (Same.refl _)
theorem len__are_lows {K : PySem.W.Frag} : ∀ vs H Q E, sp__are_lows K vs H Q E → vs.length = 3 := by
  intro vs H Q E h
  obtain ⟨_, _, _, e, _⟩ := h
  rw [e]; rfl
theorem D__are_lows {P : Program} {w : World} {K : PySem.W.Frag} {mg : Str → Option Value} {base : Heap} (T : Tx K mg) : Dk P w K mg base "_are_lows" 3 ["places", "most", "value"] (sp__are_lows K) :=
  dk_of T.d__are_lows sc__are_lows (fun _ _ _ _ _ _ us hl => match us, hl with | [_, _, _], _ => rfl) len__are_lows (fun X e1 e2 e3 e4 e5 B F vs H Q E h => by subst e1 e2 e3 e4 e5; exact b__are_lows B F T h)
local macro_rules | `(tactic| walk_at "cl") => `(tactic| (refine' e_callk (D__are_lows ‹Tx _ _›) ?rm ?gl ?_; (case rm => exact ‹Bd _ _ _ _›.room.mono (by decide)); (case gl => with_reducible assumption)))
def toI : V → Int
  | .int i => i
  | _ => 0
theorem isB_ints {P : Int} : ∀ {xs : List V}, xs.all (isB P) = true → ∃ ns : List Int, xs = ns.map V.int ∧ xs.map toI = ns ∧ ∀ x ∈ ns, 0 ≤ x ∧ x < P
  | [], _ => ⟨[], rfl, rfl, fun x hx => by simp at hx⟩
  | v :: xs, h => by
    rw [List.all_cons, Bool.and_eq_true] at h
    obtain ⟨ns, rfl, e, k⟩ := isB_ints h.2
    cases v with
    | int i =>
      have h1 : (decide (0 ≤ i) && decide (i < P)) = true := h.1
      rw [Bool.and_eq_true, decide_eq_true_iff, decide_eq_true_iff] at h1
      refine ⟨i :: ns, rfl, by rw [List.map_cons, e]; rfl, fun x hx => ?_⟩
      rcases List.mem_cons.mp hx with rfl | hx
      · exact h1
      · exact k x hx
    | _ => cases h.1
theorem isB_of {P : Int} {ns : List Int} (h : ∀ x ∈ ns, 0 ≤ x ∧ x < P) : (ns.map V.int).all (isB P) = true := by
  rw [List.all_eq_true]
  intro v hv
  obtain ⟨x, hx, rfl⟩ := List.mem_map.mp hv
  have := h x hx
  show (decide (0 ≤ x) && decide (x < P)) = true
  rw [decide_eq_true this.1, decide_eq_true this.2]; rfl
theorem toI_ints (ns : List Int) : (ns.map V.int).map toI = ns := by
  rw [List.map_map]
  show ns.map (fun i => i) = ns
  exact List.map_id' ns
def isCd (P : Int) (xs : List V) : Bool := xs.all (isB P) && fitC (P.toNat - 1) (xs.map toI)
theorem fitC_len {n : Nat} {ns : List Int} (h : ns.length ≠ n) : fitC n ns = false := by unfold fitC; rw [decide_eq_false h, Bool.false_and]
def sp_is_code (K : PySem.W.Frag) : Sp := fun vs H Q _ => ∃ P v, vs = [.int P, v] ∧ 1 ≤ P ∧ P ≤ 12 ∧ ((NoTp K H v ∧ Q (.bl false) H) ∨ ∃ a xs, v = .ref a ∧ SqT K H a xs ∧ xs.length ≤ 1000 ∧ (∀ x ∈ xs, Okv K H x) ∧ ∀ H', Same H H' → Q (.bl (isCd P xs)) H')
theorem b_is_code {X : Cx} (B : Bd X N_is_code (defScope S_is_code) 3) (F : ∀ x, X.fn x = true) (T : Tx X.K X.mg) {vs : List V} {H : Hp} {Q : VK} {E : XK} (h : sp_is_code X.K vs H Q E) :
    wB X (defBody S_is_code) { nx := fun _ H' => Q .non H', rt := Q } (start N_is_code vs) H := by
  have n_places : X.N[0]? = some ("places" : Str) := B.slot 0 rfl
  have l_places : X.env.scope.names.lookup ("places" : Str) = some NameKind.local := B.loc rfl
  have n_value : X.N[1]? = some ("value" : Str) := B.slot 1 rfl
  have l_value : X.env.scope.names.lookup ("value" : Str) = some NameKind.local := B.loc rfl
  have g_check_places : Gl X "check_places" := B.gl rfl
  have g__are_lows : Gl X "_are_lows" := B.gl rfl
  have g__fit_ring : Gl X "_fit_ring" := B.gl rfl
  have g_tuple : Gl X "tuple" := B.gl rfl
  have z_tuple := T.z_tuple
  have v_tuple := bb_tuple
  have g_range : Gl X "range" := B.gl rfl
  have z_range := T.z_range
  have v_range := bb_range
  obtain ⟨P, v, rfl, h1, h2, h⟩ := h
  rcases h with ⟨hn, q⟩ | ⟨a, xs, rfl, hs, hz, hok, q⟩
  · walk_at "wz"
    refine ⟨P, _, v, rfl, h2, .inl ⟨hn, ?_⟩⟩
    walk_at "wz"
    exact q
  · walk_at "wz"
    refine ⟨P, _, .ref a, rfl, h2, .inr ⟨a, xs, rfl, hs, hz, hok, fun H' sm => ?_⟩⟩
    refine ⟨_, rfl, iteB (fun h3 => ?_) (fun h3 => ?_)⟩
    · rw [Bool.and_eq_true, decide_eq_true_iff] at h3
      obtain ⟨hlen, hall⟩ := h3
      obtain ⟨ns, rfl, e, hin⟩ := isB_ints hall
      refine e_one ?_
      refine e_callk (D__fit_ring T) (B.room.mono (by decide)) g__fit_ring ?_
      refine a_cons (e_tupR1 B.calm g_tuple z_tuple g_range z_range ?_)
      walk_at "wz"
      refine ⟨P.toNat, by rw [Int.toNat_of_nonneg (by omega)], by omega, fun r H2 s2 hr => ?_⟩
      walk_at "wz"
      rw [iota_v] at hr
      have eP : P.toNat - 1 + 1 = P.toNat := by omega
      refine ⟨r, a, P.toNat - 1, ns, rfl, by rw [eP]; exact hr, same_tup (sm.trans s2) hs, by rw [List.length_map] at hz; exact hz, by omega, fun x hx => ?_, fun H3 s3 => ?_⟩
      · have := hin x hx
        omega
      · have e2 : isCd P (ns.map V.int) = fitC (P.toNat - 1) ns := by unfold isCd; rw [hall, Bool.true_and, toI_ints]
        rw [e2] at q
        exact q _ ((sm.trans s2).trans s3)
    · have e2 : isCd P xs = false := by
        unfold isCd
        rw [Bool.and_eq_false_iff] at h3
        rcases h3 with h3 | h3
        · have h3 : ¬ (xs.length : Int) ≤ P - 1 := of_decide_eq_false h3
          rw [fitC_len (by rw [List.length_map]; omega), Bool.and_false]
        · rw [h3, Bool.false_and]
      rw [e2] at q
      exact q _ sm
theorem len_is_code {K : PySem.W.Frag} : ∀ vs H Q E, sp_is_code K vs H Q E → vs.length = 2 := by
  intro vs H Q E h
  obtain ⟨_, _, e, _⟩ := h
  rw [e]; rfl
theorem D_is_code {P : Program} {w : World} {K : PySem.W.Frag} {mg : Str → Option Value} {base : Heap} (T : Tx K mg) : Dk P w K mg base "is_code" 4 ["places", "value"] (sp_is_code K) :=
  dk_of T.d_is_code sc_is_code (fun _ _ _ _ _ _ us hl => match us, hl with | [_, _], _ => rfl) len_is_code (fun X e1 e2 e3 e4 e5 B F vs H Q E h => by subst e1 e2 e3 e4 e5; exact b_is_code B F T h)
local macro_rules | `(tactic| walk_at "cl") => `(tactic| (refine' e_callk (D_is_code ‹Tx _ _›) ?rm ?gl ?_; (case rm => exact ‹Bd _ _ _ _›.room.mono (by decide)); (case gl => with_reducible assumption)))

/-- one more spot looked at -/
theorem good_s {k : Nat} {ns : List Int} : good (k + 1) ns ↔ good k ns ∧ k + 1 ≤ cnt ns (k : Int) := by
  constructor
  · intro h
    exact ⟨fun t ht => h t (by omega), h k (by omega)⟩
  · rintro ⟨h1, h2⟩ t ht
    by_cases e : t = k
    · rw [e]; exact h2
    · exact h1 t (by omega)
theorem filt_cnt (ns : List Int) (k : Int) : ((ns.filter fun x => decide (x ≤ k)).map V.int).length = cnt ns k := by
  rw [List.length_map]
  unfold cnt
  rw [List.countP_eq_length_filter]
def sp_count_behind (K : PySem.W.Frag) : Sp := fun vs H Q _ => ∃ P a, ∃ ns : List Int, vs = [.int P, .ref a] ∧ 1 ≤ P ∧ P ≤ 12 ∧ SqT K H a (ns.map V.int) ∧ ns.length = P.toNat - 1 ∧ (∀ x ∈ ns, 0 ≤ x ∧ x < P) ∧ ∀ H', Same H H' → Q (.int (if good (P.toNat - 1) ns then 1 else 0)) H'
theorem b_count_behind {X : Cx} (B : Bd X N_count_behind (defScope S_count_behind) 3) (F : ∀ x, X.fn x = true) (T : Tx X.K X.mg) {vs : List V} {H : Hp} {Q : VK} {E : XK} (h : sp_count_behind X.K vs H Q E) :
    wB X (defBody S_count_behind) { nx := fun _ H' => Q .non H', rt := Q } (start N_count_behind vs) H := by
  have n_places : X.N[0]? = some ("places" : Str) := B.slot 0 rfl
  have l_places : X.env.scope.names.lookup ("places" : Str) = some NameKind.local := B.loc rfl
  have n_begin : X.N[1]? = some ("begin" : Str) := B.slot 1 rfl
  have l_begin : X.env.scope.names.lookup ("begin" : Str) = some NameKind.local := B.loc rfl
  have n_left : X.N[2]? = some ("left" : Str) := B.slot 2 rfl
  have l_left : X.env.scope.names.lookup ("left" : Str) = some NameKind.cell := B.cel rfl
  have n_ways : X.N[3]? = some ("ways" : Str) := B.slot 3 rfl
  have l_ways : X.env.scope.names.lookup ("ways" : Str) = some NameKind.cell := B.cel rfl
  have n_low : X.N[4]? = some ("low" : Str) := B.slot 4 rfl
  have l_low : X.env.scope.names.lookup ("low" : Str) = some NameKind.cell := B.cel rfl
  have n_needed : X.N[5]? = some ("needed" : Str) := B.slot 5 rfl
  have l_needed : X.env.scope.names.lookup ("needed" : Str) = some NameKind.cell := B.cel rfl
  have n_many : X.N[6]? = some ("many" : Str) := B.slot 6 rfl
  have n_other : X.N[7]? = some ("other" : Str) := B.slot 7 rfl
  have n_k : X.N[8]? = some ("k" : Str) := B.slot 8 rfl
  have g_check_places : Gl X "check_places" := B.gl rfl
  have g__are_lows : Gl X "_are_lows" := B.gl rfl
  have g_InvalidOperation : Gl X "InvalidOperation" := B.gl rfl
  have g_len : Gl X "len" := B.gl rfl
  have z_len := T.z_len
  have v_len := bb_len
  have g_range : Gl X "range" := B.gl rfl
  have z_range := T.z_range
  have v_range := bb_range
  obtain ⟨P, a, ns, rfl, h1, h2, hs, hl, hin, q⟩ := h
  have z1000 : (1000 : Nat) < sizeLine := by decide
  walk_at "wz"
  refine ⟨P, _, .ref a, rfl, h2, .inr ⟨a, _, rfl, hs, by rw [List.length_map]; omega, fun x hx => ?_, fun H1 s1 => ?_⟩⟩
  · obtain ⟨i, _, rfl⟩ := List.mem_map.mp hx
    exact .int i
  rw [isB_of hin, Bool.and_true, List.length_map, decide_eq_true (show (ns.length : Int) ≤ P - 1 by omega)]
  walk_at "wz"
  refine c_lenT (same_tup s1 hs) ?_
  rw [List.length_map]
  walk_at "wz"
  rw [show P - 1 - (ns.length : Int) = 0 by omega]
  refine ⟨by show 1 ≤ sizeLine; decide, fun l1 hl1 => ?_⟩
  walk_at "wz"
  refine ⟨by show 1 ≤ sizeLine; decide, fun l2 hl2 => ?_⟩
  walk_at "wz"
  refine o_rep upd_same (by decide) (by decide) (by decide) fun l3 hl3 => ?_
  refine o_catL (upd_keep hl3 (upd_keep hl2 upd_same)) upd_same (by decide) fun l4 hl4 => ?_
  have s4 := (((s1.new (o := .lst [.int 1]) hl1).new (o := .lst [.int 0]) hl2).new (o := .lst (List.replicate (0 : Int).toNat [V.int 0]).flatten) hl3).new (o := .lst ([V.int 1] ++ (List.replicate (0 : Int).toNat [V.int 0]).flatten)) hl4
  generalize e4 : upd (upd (upd (upd H1 l1 (.lst [.int 1])) l2 (.lst [.int 0])) l3 (.lst (List.replicate (0 : Int).toNat [V.int 0]).flatten)) l4 (.lst ([V.int 1] ++ (List.replicate (0 : Int).toNat [V.int 0]).flatten)) = H4 at s4 ⊢
  have g4 : H4 l4 = some (.lst [.int 1]) := by rw [← e4, upd_same]; rfl
  walk_at "st"
  refine s_forR1 4 B.ps B.calm g_range z_range B.nd n_low (Or.inr l_low) ?_ (hf := .inl (F _))
  walk_at "wz"
  refine ⟨P.toNat - 1, by congr 1; omega, by omega, fun k σ H5 => ∃ y4 y5 y6 y7 y8 w, σ = [some (.int P), some (.ref a), some (.int 0), some (.ref w), y4, y5, y6, y7, y8] ∧ Same H4 H5 ∧ H5 w = some (.lst [.int (if good k ns then 1 else 0)]), ?_, ?_, ?_⟩
  · exact ⟨_, _, _, _, _, l4, rfl, Same.refl _, by rw [g4, if_pos (show good 0 ns from fun t ht => by omega)]⟩
  · rintro k σ H5 hk ⟨y4, y5, y6, y7, y8, w, rfl, s5, hw⟩
    walk_at "wz"
    refine e_fT 7 B (blkOk_by (by decide +kernel)) rfl rfl ?_
    walk_at "wz"
    refine ⟨a, ns.map V.int, fun i => (fun x : Int => decide (x ≤ (k : Int))) (ns.getD i 0), fun i => V.int (ns.getD i 0), rfl, same_tup (s4.trans s5) hs, by rw [List.length_map]; omega, ?_, ?_⟩
    · intro i v H6 hv s6 X' bk
      have B' := bk.bd B
      have n_other : X'.N[7]? = some ("other" : Str) := B'.slot 7 rfl
      have l_other : X'.env.scope.names.lookup ("other" : Str) = some NameKind.local := B'.loc rfl
      have n_low : X'.N[4]? = some ("low" : Str) := B'.slot 4 rfl
      have l_low : X'.env.scope.names.lookup ("low" : Str) = some NameKind.cell := B'.cel rfl
      have T' : Tx X'.K X'.mg := by rw [bk.K, bk.mg]; exact T
      rw [List.getElem?_map] at hv
      cases hi : ns[i]? with
      | none => rw [hi] at hv; cases hv
      | some x =>
        rw [hi] at hv
        cases hv
        walk_at "wz"
        refine ⟨by show _ = decide (ns.getD i 0 ≤ (k : Int)); rw [getD_of hi], Same.refl _, fun _ X' bk => ?_⟩
        have B' := bk.bd B
        have n_other : X'.N[7]? = some ("other" : Str) := B'.slot 7 rfl
        have l_other : X'.env.scope.names.lookup ("other" : Str) = some NameKind.local := B'.loc rfl
        have T' : Tx X'.K X'.mg := by rw [bk.K, bk.mg]; exact T
        walk_at "wz"
        exact ⟨by show V.int x = V.int (ns.getD i 0); rw [getD_of hi], Same.refl _⟩
    · intro D6 H6 hD6 s6 hD
      rw [List.length_map, filt_at ns 0 (fun x => decide (x ≤ (k : Int))) V.int] at hD
      walk_at "wz"
      refine c_lenL (SqL.of hD) ?_
      rw [filt_cnt]
      walk_at "wz"
      have hw6 := s6 _ _ hw
      refine s_ce 3 B F n_ways l_ways ?_ (hs := by rw [env_eta B.sc]; rfl)
      refine e_lcRc 6 B (blkOk_by (by decide +kernel)) g_range z_range rfl rfl (lcR_same ?_)
      walk_at "wz"
      refine ⟨1, fun i y _ => y = (fun _ => V.int (if good (k + 1) ns then 1 else 0)) i, rfl, by decide, stays_eq _, ?_, ?_⟩
      · intro i H7 hi s7 X' bk
        have B' := bk.bd B
        have n_many : X'.N[6]? = some ("many" : Str) := B'.slot 6 rfl
        have l_many : X'.env.scope.names.lookup ("many" : Str) = some NameKind.cell := B'.cel rfl
        have n_needed : X'.N[5]? = some ("needed" : Str) := B'.slot 5 rfl
        have l_needed : X'.env.scope.names.lookup ("needed" : Str) = some NameKind.cell := B'.cel rfl
        have n_left : X'.N[2]? = some ("left" : Str) := B'.slot 2 rfl
        have l_left : X'.env.scope.names.lookup ("left" : Str) = some NameKind.cell := B'.cel rfl
        have n_ways : X'.N[3]? = some ("ways" : Str) := B'.slot 3 rfl
        have l_ways : X'.env.scope.names.lookup ("ways" : Str) = some NameKind.cell := B'.cel rfl
        have T' : Tx X'.K X'.mg := by rw [bk.K, bk.mg]; exact T
        have g_sum : Gl X' "sum" := B'.gl rfl
        have z_sum := T'.z_sum
        have v_sum := bb_sum
        have g_range : Gl X' "range" := B'.gl rfl
        have z_range := T'.z_range
        have v_range := bb_range
        have ei : i = 0 := by omega
        subst ei
        walk_at "wz"
        by_cases e : k + 1 ≤ cnt ns (k : Int)
        · rw [decide_eq_true (show (k : Int) + 1 - (cnt ns (k : Int) : Int) ≤ ((0 : Nat) : Int) by omega)]
          walk_at "wz"
          refine e_lcR 8 B' (blkOk_by (by decide +kernel)) g_range z_range rfl rfl (lcR_same ?_)
          walk_at "wz"
          refine ⟨1, fun i y _ => y = (fun _ => V.int (if good (k + 1) ns then 1 else 0)) i, rfl, by decide, stays_eq _, ?_, ?_⟩
          · intro i H8 hi s8 X2 bk2
            have ei : i = 0 := by omega
            subst ei
            have B2 := bk2.bd B'
            have n_k : X2.N[8]? = some ("k" : Str) := B2.slot 8 rfl
            have l_k : X2.env.scope.names.lookup ("k" : Str) = some NameKind.local := B2.loc rfl
            have n_many : X2.N[6]? = some ("many" : Str) := B2.slot 6 rfl
            have l_many : X2.env.scope.names.lookup ("many" : Str) = some NameKind.cell := B2.cel rfl
            have n_ways : X2.N[3]? = some ("ways" : Str) := B2.slot 3 rfl
            have l_ways : X2.env.scope.names.lookup ("ways" : Str) = some NameKind.cell := B2.cel rfl
            have n_left : X2.N[2]? = some ("left" : Str) := B2.slot 2 rfl
            have l_left : X2.env.scope.names.lookup ("left" : Str) = some NameKind.cell := B2.cel rfl
            have T2 : Tx X2.K X2.mg := by rw [bk2.K, bk2.mg]; exact T'
            have g_comb : Gl X2 "comb" := B2.gl rfl
            have m_comb := T2.m_comb
            walk_at "wz"
            refine x_lst (SqL.of (s8 _ _ (s7 _ _ hw6))) ix0 ?_
            refine e_callM g_comb m_comb ?_
            walk_at "wz"
            refine c_comb (by decide) (by decide) (by decide) ?_
            refine o_mul (.inl ⟨by split <;> decide, by split <;> decide⟩) ?_
            refine ⟨Same.refl _, ?_⟩
            show V.int ((if good k ns then 1 else 0) * PySem.W.mcComb (0 - 0) (0 - 0)) = V.int (if good (k + 1) ns then 1 else 0)
            rw [show PySem.W.mcComb (0 - 0) (0 - 0) = 1 by decide +kernel, Int.mul_one]
            by_cases e2 : good k ns
            · rw [if_pos e2, if_pos (good_s.mpr ⟨e2, e⟩)]
            · rw [if_neg e2, if_neg (fun z => e2 (good_s.mp z).1)]
          · intro D8 H8 ys h0 s8 hD8 hl8 hy8
            rw [ys_eq hl8 hy8] at hD8
            walk_at "wz"
            refine c_sum B'.calm (ns := [if good (k + 1) ns then 1 else 0]) (SqL.of hD8) ?_
            refine ⟨s8, ?_⟩
            show V.int (_ + 0) = _
            rw [Int.add_zero]
        · rw [decide_eq_false (show ¬ (k : Int) + 1 - (cnt ns (k : Int) : Int) ≤ ((0 : Nat) : Int) by omega)]
          walk_at "wz"
          refine ⟨Same.refl _, ?_⟩
          show V.int 0 = V.int (if good (k + 1) ns then 1 else 0)
          rw [if_neg (fun z => e (good_s.mp z).2)]
      · intro D7 H7 ys h0 s7 hD7 hl7 hy7
        rw [ys_eq hl7 hy7] at hD7
        walk_at "wz"
        exact ⟨_, _, _, _, _, D7, rfl, (s5.trans s6).trans s7, hD7⟩
  · rintro σ H5 ⟨y4, y5, y6, y7, y8, w, rfl, s5, hw⟩
    walk_at "wz"
    refine x_lst (SqL.of hw) ix0 ?_
    exact q _ (s4.trans s5)
theorem len_count_behind {K : PySem.W.Frag} : ∀ vs H Q E, sp_count_behind K vs H Q E → vs.length = 2 := by
  intro vs H Q E h
  obtain ⟨_, _, _, e, _⟩ := h
  rw [e]; rfl
theorem D_count_behind {P : Program} {w : World} {K : PySem.W.Frag} {mg : Str → Option Value} {base : Heap} (T : Tx K mg) : Dk P w K mg base "count_behind" 4 ["places", "begin"] (sp_count_behind K) :=
  dk_of T.d_count_behind sc_count_behind (fun _ _ _ _ _ _ us hl => match us, hl with | [_, _], _ => rfl) len_count_behind (fun X e1 e2 e3 e4 e5 B F vs H Q E h => by subst e1 e2 e3 e4 e5; exact b_count_behind B F T h)
local macro_rules | `(tactic| walk_at "cl") => `(tactic| (refine' e_callk (D_count_behind ‹Tx _ _›) ?rm ?gl ?_; (case rm => exact ‹Bd _ _ _ _›.room.mono (by decide)); (case gl => with_reducible assumption)))

theorem _root_.WX.Ch.at {p l : Addr} {H H1 : Hp} {o : HO} (a : Ch p H H1) (h : H l = none) : Ch p H (upd H1 l o) := fun b u hb e => upd_keep2 (ne_of_none e h) (a b u hb e)
theorem _root_.WX.Dice.at {H : Hp} {p l : Addr} {o : HO} (d : Dice H p) (h : l ≠ p) : Dice (upd H l o) p := by
  obtain ⟨x, y, z, e⟩ := d
  exact ⟨x, y, z, upd_keep2 (Ne.symm h) e⟩
theorem _root_.WX.Dice.off {H : Hp} {p q : Addr} (d : Dice H p) (h : H q = none) : q ≠ p := by
  obtain ⟨x, y, z, e⟩ := d
  rintro rfl
  rw [e] at h
  cases h
def sp__law_dice (K : PySem.W.Frag) : Sp := fun vs H Q _ => ∃ a ns, vs = [.ref a, .int (ns : Int)] ∧ (∃ xs : List Int, SqL K H a (xs.map V.int)) ∧ (ns : Int) = ns ∧ 0 ≤ (ns : Int) ∧ ∀ p x y, H p = none → Q (.ref p) (upd H p (.lst [.int x, .int y, .int 0]))
theorem b__law_dice {X : Cx} (B : Bd X N__law_dice (defScope S__law_dice) 0) (F : ∀ x, X.fn x = true) (G : X.A.guards = some []) (T : Tx X.K X.mg) {vs : List V} {H : Hp} {Q : VK} {E : XK} (h : sp__law_dice X.K vs H Q E) :
    wB X (defBody S__law_dice) { nx := fun _ H' => Q .non H', rt := Q } (start N__law_dice vs) H := by
  have n_script : X.N[0]? = some ("script" : Str) := B.slot 0 rfl
  have l_script : X.env.scope.names.lookup ("script" : Str) = some NameKind.local := B.loc rfl
  have n_spot : X.N[1]? = some ("spot" : Str) := B.slot 1 rfl
  have l_spot : X.env.scope.names.lookup ("spot" : Str) = some NameKind.local := B.loc rfl
  have n_cell : X.N[2]? = some ("cell" : Str) := B.slot 2 rfl
  have l_cell : X.env.scope.names.lookup ("cell" : Str) = some NameKind.local := B.loc rfl
  have n_left : X.N[3]? = some ("left" : Str) := B.slot 3 rfl
  have l_left : X.env.scope.names.lookup ("left" : Str) = some NameKind.local := B.loc rfl
  have g_len : Gl X "len" := B.gl rfl
  have z_len := T.z_len
  have v_len := bb_len
  have g_int : Gl X "int" := B.gl rfl
  have z_int := T.z_int
  have v_int := bb_int
  have g_max : Gl X "max" := B.gl rfl
  have z_max := T.z_max
  have v_max := bb_max
  have g_abs : Gl X "abs" := B.gl rfl
  have z_abs := T.z_abs
  have v_abs := bb_abs
  obtain ⟨a, i, rfl, ⟨xs, hs⟩, _, hi, q⟩ := h
  walk_at "st"
  walk_at "st"
  refine wE_mono (R := fun v H' => H' = H ∧ ∃ c : Int, v = .int c) ?_ ?_
  · walk_at "wz"
    refine c_lenL hs ?_
    walk_at "wz"
    refine iteD (fun h1 => ?_) (fun h1 => ?_)
    · obtain ⟨c, g⟩ := at_ints hi h1
      walk_at "wz"
      refine x_lst hs g ?_
      walk_at "wz"
      exact ⟨rfl, _, rfl⟩
    · walk_at "wz"
      walk_at "mul"
      walk_at "wz"
      exact ⟨rfl, _, rfl⟩
  · rintro v H' ⟨rfl, c, rfl⟩
    walk_at "wz"
    refine o_mulW (show _ < _ by decide +kernel) ?_
    refine o_mod (by decide +kernel) ?_
    walk_at "wz"
    walk_at "mul"
    walk_at "wz"
    walk_at "mul"
    walk_at "wz"
    walk_at "mul"
    walk_at "wz"
    refine ⟨by show 3 ≤ sizeLine; decide, fun p hp => q p _ _ hp⟩
theorem len__law_dice {K : PySem.W.Frag} : ∀ vs H Q E, sp__law_dice K vs H Q E → vs.length = 2 := by
  intro vs H Q E h
  obtain ⟨_, _, e, _⟩ := h
  rw [e]; rfl
theorem D__law_dice {P : Program} {w : World} {K : PySem.W.Frag} {mg : Str → Option Value} {base : Heap} (T : Tx K mg) : Df P w K mg base "_law_dice" 1 ["script", "spot"] (sp__law_dice K) :=
  df_of T.d__law_dice sc__law_dice (fun _ _ _ _ _ _ us hl => match us, hl with | [_, _], _ => rfl) len__law_dice (fun X e1 e2 e3 e4 e5 B F G vs H Q E h => by subst e1 e2 e3 e4 e5; exact b__law_dice B F G T h)
local macro_rules | `(tactic| walk_at "cl") => `(tactic| (refine' e_call (D__law_dice ‹Tx _ _›) (by assumption) ?rm ?gl ?_; (case rm => exact ‹Bd _ _ _ _›.room.mono (by decide)); (case gl => with_reducible assumption)))
def sp__law_roll (K : PySem.W.Frag) : Sp := fun vs H Q _ => ∃ p t, vs = [.ref p, .int t] ∧ Dice H p ∧ 0 < t ∧ t < 1073741824 ∧ ∀ (r : Int) (H' : Hp), 0 ≤ r → r < t → Ch p H H' → Dice H' p → Q (.int r) H'
theorem b__law_roll {X : Cx} (B : Bd X N__law_roll (defScope S__law_roll) 0) (F : ∀ x, X.fn x = true) (G : X.A.guards = some []) (T : Tx X.K X.mg) {vs : List V} {H : Hp} {Q : VK} {E : XK} (h : sp__law_roll X.K vs H Q E) :
    wB X (defBody S__law_roll) { nx := fun _ H' => Q .non H', rt := Q } (start N__law_roll vs) H := by
  have n_dice : X.N[0]? = some ("dice" : Str) := B.slot 0 rfl
  have l_dice : X.env.scope.names.lookup ("dice" : Str) = some NameKind.local := B.loc rfl
  have n_total : X.N[1]? = some ("total" : Str) := B.slot 1 rfl
  have l_total : X.env.scope.names.lookup ("total" : Str) = some NameKind.local := B.loc rfl
  have n_found : X.N[2]? = some ("found" : Str) := B.slot 2 rfl
  have l_found : X.env.scope.names.lookup ("found" : Str) = some NameKind.local := B.loc rfl
  have n_one : X.N[3]? = some ("one" : Str) := B.slot 3 rfl
  have l_one : X.env.scope.names.lookup ("one" : Str) = some NameKind.local := B.loc rfl
  have n_two : X.N[4]? = some ("two" : Str) := B.slot 4 rfl
  have l_two : X.env.scope.names.lookup ("two" : Str) = some NameKind.local := B.loc rfl
  have g_int : Gl X "int" := B.gl rfl
  have z_int := T.z_int
  have v_int := bb_int
  obtain ⟨p, t, rfl, ⟨x, y, z, hp⟩, h0, h1, q⟩ := h
  walk_at "wz"
  refine x_lst (SqL.of hp) ix0 ?_
  walk_at "wz"
  refine iteD (fun h2 => ?_) (fun h2 => ?_)
  · walk_at "wz"
    refine x_lst (SqL.of hp) ix0 ?_
    walk_at "wz"
    refine x_lst (SqL.of hp) ix0 ?_
    walk_at "wz"
    refine o_fdiv ⟨h0, h1⟩ ?_
    walk_at "wz"
    refine ps_set_list ⟨p, _, 0, 0, rfl, rfl, hp, rfl, ?_⟩
    walk_at "wz"
    exact q _ _ (Int.emod_nonneg _ (by omega)) (Int.emod_lt_of_pos _ h0) Ch.refl.put ⟨_, _, _, upd_same⟩
  · walk_at "wz"
    refine x_lst (SqL.of hp) ix2 ?_
    walk_at "wz"
    refine ps_set_list ⟨p, _, 2, 2, rfl, rfl, hp, rfl, ?_⟩
    walk_at "wz"
    refine x_lst (SqL.of upd_same) ix1 ?_
    walk_at "wz"
    refine x_lst (SqL.of upd_same) ix2 ?_
    walk_at "mul"
    walk_at "wz"
    walk_at "mul"
    walk_at "wz"
    refine x_lst (SqL.of upd_same) ix2 ?_
    walk_at "mul"
    walk_at "wz"
    walk_at "mul"
    walk_at "wz"
    refine o_fdiv ⟨by decide, by decide⟩ ?_
    walk_at "wz"
    exact q _ _ (Int.emod_nonneg _ (by omega)) (Int.emod_lt_of_pos _ h0) Ch.refl.put ⟨_, _, _, upd_same⟩
theorem len__law_roll {K : PySem.W.Frag} : ∀ vs H Q E, sp__law_roll K vs H Q E → vs.length = 2 := by
  intro vs H Q E h
  obtain ⟨_, _, e, _⟩ := h
  rw [e]; rfl
theorem D__law_roll {P : Program} {w : World} {K : PySem.W.Frag} {mg : Str → Option Value} {base : Heap} (T : Tx K mg) : Df P w K mg base "_law_roll" 1 ["dice", "total"] (sp__law_roll K) :=
  df_of T.d__law_roll sc__law_roll (fun _ _ _ _ _ _ us hl => match us, hl with | [_, _], _ => rfl) len__law_roll (fun X e1 e2 e3 e4 e5 B F G vs H Q E h => by subst e1 e2 e3 e4 e5; exact b__law_roll B F G T h)
local macro_rules | `(tactic| walk_at "cl") => `(tactic| (refine' e_call (D__law_roll ‹Tx _ _›) (by assumption) ?rm ?gl ?_; (case rm => exact ‹Bd _ _ _ _›.room.mono (by decide)); (case gl => with_reducible assumption)))
theorem erase_perm : ∀ {xs : List V} {k : Nat} {v : V}, xs[k]? = some v → (v :: xs.eraseIdx k).Perm xs
  | x :: xs, 0, v, h => by simp at h; subst h; exact List.Perm.refl _
  | x :: xs, k + 1, v, h => by
    have ih := erase_perm (xs := xs) (k := k) (v := v) (by simpa using h)
    show (v :: x :: xs.eraseIdx k).Perm (x :: xs)
    exact (List.Perm.swap x v _).trans (List.Perm.cons x ih)
def sp__law_mixed (K : PySem.W.Frag) : Sp := fun vs H Q _ => ∃ p a xs, vs = [.ref p, .ref a] ∧ Dice H p ∧ H a = some (.lst xs) ∧ a ≠ p ∧ xs.length ≤ 1000 ∧ ∀ r ys H', Ch p H H' → Dice H' p → H' r = some (.lst ys) → r ≠ p → H r = none → ys.Perm xs → Q (.ref r) H'
theorem b__law_mixed {X : Cx} (B : Bd X N__law_mixed (defScope S__law_mixed) 1) (F : ∀ x, X.fn x = true) (G : X.A.guards = some []) (T : Tx X.K X.mg) {vs : List V} {H : Hp} {Q : VK} {E : XK} (h : sp__law_mixed X.K vs H Q E) :
    wB X (defBody S__law_mixed) { nx := fun _ H' => Q .non H', rt := Q } (start N__law_mixed vs) H := by
  have n_dice : X.N[0]? = some ("dice" : Str) := B.slot 0 rfl
  have l_dice : X.env.scope.names.lookup ("dice" : Str) = some NameKind.local := B.loc rfl
  have n_items : X.N[1]? = some ("items" : Str) := B.slot 1 rfl
  have l_items : X.env.scope.names.lookup ("items" : Str) = some NameKind.local := B.loc rfl
  have n_left : X.N[2]? = some ("left" : Str) := B.slot 2 rfl
  have l_left : X.env.scope.names.lookup ("left" : Str) = some NameKind.local := B.loc rfl
  have n_found : X.N[3]? = some ("found" : Str) := B.slot 3 rfl
  have l_found : X.env.scope.names.lookup ("found" : Str) = some NameKind.local := B.loc rfl
  have n_turn : X.N[4]? = some ("turn" : Str) := B.slot 4 rfl
  have l_turn : X.env.scope.names.lookup ("turn" : Str) = some NameKind.local := B.loc rfl
  have g_list : Gl X "list" := B.gl rfl
  have z_list := T.z_list
  have v_list := bb_list
  have g_range : Gl X "range" := B.gl rfl
  have z_range := T.z_range
  have v_range := bb_range
  have g_len : Gl X "len" := B.gl rfl
  have z_len := T.z_len
  have v_len := bb_len
  have g__law_roll : Gl X "_law_roll" := B.gl rfl
  obtain ⟨p, a, xs, rfl, hd, ha, ap, hz, q⟩ := h
  walk_at "st"
  refine s_par 2 3 B.calm B.nd n_left n_found (by decide) l_left l_found (by rw [env_eta B.sc]; rfl) ?_
  walk_at "wz"
  refine c_lstL (Or.inl (SqL.of ha)) fun l hl => ?_
  walk_at "wz"
  refine ⟨by show 0 ≤ sizeLine; decide, fun f hf => ?_⟩
  have lp : l ≠ p := hd.off hl
  have fp : f ≠ p := (hd.new hl).off hf
  have lf : l ≠ f := by
    rintro rfl
    rw [upd_same] at hf
    cases hf
  have f0 : H f = none := by
    cases e : H f with
    | none => rfl
    | some o =>
      rw [upd_keep hl e] at hf
      cases hf
  have al : a ≠ l := ne_of_none ha hl
  have af : a ≠ f := ne_of_none ha f0
  walk_at "st"
  refine s_forR1 4 B.ps B.calm g_range z_range B.nd n_turn (Or.inl l_turn) ?_ (hf := .inr l_turn)
  walk_at "wz"
  refine c_lenL (SqL.of (upd_keep hf (upd_keep hl ha))) ?_
  walk_at "wz"
  refine ⟨by omega, fun k σ H1 => ∃ y4 ls fs, σ = [some (.ref p), some (.ref a), some (.ref l), some (.ref f), y4] ∧ Ch p H H1 ∧ Dice H1 p ∧ H1 l = some (.lst ls) ∧ H1 f = some (.lst fs) ∧ (fs ++ ls).Perm xs ∧ fs.length = k, ?_, ?_, ?_⟩
  · exact ⟨_, xs, [], rfl, (Ch.refl.new hl).new hf, (hd.new hl).new hf, upd_keep hf upd_same, upd_same, List.Perm.refl _, rfl⟩
  · rintro k σ H1 hk ⟨y4, ls, fs, rfl, c1, d1, hll, hff, pm, hfl⟩
    have htot := pm.length_eq
    rw [List.length_append] at htot
    walk_at "st"
    walk_at "st"
    refine e_app ?_
    walk_at "wz"
    refine ⟨Or.inl ⟨rfl, _, SqL.of hff⟩, ?_⟩
    refine e_pop ?_
    walk_at "wz"
    refine ⟨Or.inl ⟨rfl, _, SqL.of hll⟩, ?_⟩
    walk_at "wz"
    refine c_lenL (SqL.of hll) ?_
    walk_at "wz"
    refine ⟨p, _, rfl, d1, by omega, by omega, fun r H2 r0 r1 c2 d2 => ?_⟩
    obtain ⟨n, rfl⟩ : ∃ n : Nat, r = (n : Int) := ⟨r.toNat, by omega⟩
    have hn : n < ls.length := by omega
    have hll2 := c2 l _ lp hll
    have hff2 := c2 f _ fp hff
    refine ⟨l, ls, n, ls[n], rfl, rfl, hll2, List.getElem?_eq_getElem hn, by omega, ?_⟩
    refine ⟨f, fs, rfl, upd_keep2 (Ne.symm lf) hff2, by have : (2000 : Nat) ≤ sizeLine := (by decide); omega, ?_⟩
    refine ⟨_, _, _, rfl, ((c1.trans c2).at hl).at f0, (d2.at lp).at fp, upd_keep2 lf upd_same, upd_same, ?_, by rw [List.length_append, hfl]; rfl⟩
    rw [List.append_assoc]
    exact (List.Perm.append_left fs (erase_perm (List.getElem?_eq_getElem hn))).trans pm
  · rintro σ H1 ⟨y4, ls, fs, rfl, c1, d1, hll, hff, pm, hfl⟩
    walk_at "wz"
    have htot := pm.length_eq
    rw [List.length_append] at htot
    have e : ls = [] := List.eq_nil_of_length_eq_zero (by omega)
    subst e
    rw [List.append_nil] at pm
    exact q f fs H1 c1 d1 hff fp f0 pm
theorem len__law_mixed {K : PySem.W.Frag} : ∀ vs H Q E, sp__law_mixed K vs H Q E → vs.length = 2 := by
  intro vs H Q E h
  obtain ⟨_, _, _, e, _⟩ := h
  rw [e]; rfl
theorem D__law_mixed {P : Program} {w : World} {K : PySem.W.Frag} {mg : Str → Option Value} {base : Heap} (T : Tx K mg) : Df P w K mg base "_law_mixed" 2 ["dice", "items"] (sp__law_mixed K) :=
  df_of T.d__law_mixed sc__law_mixed (fun _ _ _ _ _ _ us hl => match us, hl with | [_, _], _ => rfl) len__law_mixed (fun X e1 e2 e3 e4 e5 B F G vs H Q E h => by subst e1 e2 e3 e4 e5; exact b__law_mixed B F G T h)
local macro_rules | `(tactic| walk_at "cl") => `(tactic| (refine' e_call (D__law_mixed ‹Tx _ _›) (by assumption) ?rm ?gl ?_; (case rm => exact ‹Bd _ _ _ _›.room.mono (by decide)); (case gl => with_reducible assumption)))
theorem perm_ints : ∀ {ys : List V} {ns : List Int}, ys.Perm (ns.map V.int) → ∃ ms : List Int, ys = ms.map V.int ∧ ms.Perm ns := by
  intro ys ns h
  have : ∀ y ∈ ys, ∃ i : Int, y = .int i := fun y hy => by
    obtain ⟨i, _, e⟩ := List.mem_map.mp (h.mem_iff.mp hy)
    exact ⟨i, e.symm⟩
  have ex : ∀ {ys : List V}, (∀ y ∈ ys, ∃ i : Int, y = .int i) → ∃ ms : List Int, ys = ms.map V.int := by
    intro ys
    induction ys with
    | nil => intro _; exact ⟨[], rfl⟩
    | cons y ys ih =>
      intro h
      obtain ⟨i, rfl⟩ := h y (List.mem_cons_self ..)
      obtain ⟨ms, rfl⟩ := ih fun z hz => h z (List.mem_cons_of_mem _ hz)
      exact ⟨i :: ms, rfl⟩
  obtain ⟨ms, rfl⟩ := ex this
  refine ⟨ms, rfl, ?_⟩
  have h2 := h.map (fun v => match v with | .int i => i | _ => 0)
  rw [List.map_map, List.map_map] at h2
  have id1 : ∀ l : List Int, l.map ((fun v : V => match v with | .int i => i | _ => 0) ∘ V.int) = l := fun l => by
    show l.map (fun i => i) = l
    exact List.map_id' l
  rw [id1, id1] at h2
  exact h2
def sp__law_drawn_code (K : PySem.W.Frag) : Sp := fun vs H Q _ => ∃ p P, vs = [.ref p, .int P] ∧ Dice H p ∧ 1 ≤ P ∧ P ≤ 12 ∧ ∀ r H', ∀ ns : List Int, Ch p H H' → Dice H' p → SqT K H' r (ns.map V.int) → ns.length = P.toNat - 1 → (∀ x ∈ ns, 0 ≤ x ∧ x < P) → Q (.ref r) H'
theorem rel_ints {ys : List V} {n : Nat} {lo hi : Nat → Int} (hl : ys.length = n) (h : ∀ i y, ys[i]? = some y → ∃ x : Int, y = .int x ∧ lo i ≤ x ∧ x < hi i) : ∃ ns : List Int, ys = ns.map V.int ∧ ns.length = n ∧ ∀ i (x : Int), ns[i]? = some x → lo i ≤ x ∧ x < hi i := by
  refine ⟨ys.map toI, ?_, by rw [List.length_map, hl], fun i x hx => ?_⟩
  · refine List.ext_getElem? fun i => ?_
    rw [List.getElem?_map, List.getElem?_map]
    cases e : ys[i]? with
    | none => rfl
    | some y =>
      obtain ⟨x, rfl, _⟩ := h i y e
      rfl
  · rw [List.getElem?_map] at hx
    cases e : ys[i]? with
    | none => rw [e] at hx; cases hx
    | some y =>
      obtain ⟨z, rfl, k⟩ := h i y e
      rw [e] at hx
      cases hx
      exact k
theorem b__law_drawn_code {X : Cx} (B : Bd X N__law_drawn_code (defScope S__law_drawn_code) 2) (F : ∀ x, X.fn x = true) (G : X.A.guards = some []) (T : Tx X.K X.mg) {vs : List V} {H : Hp} {Q : VK} {E : XK} (h : sp__law_drawn_code X.K vs H Q E) :
    wB X (defBody S__law_drawn_code) { nx := fun _ H' => Q .non H', rt := Q } (start N__law_drawn_code vs) H := by
  have n_dice : X.N[0]? = some ("dice" : Str) := B.slot 0 rfl
  have l_dice : X.env.scope.names.lookup ("dice" : Str) = some NameKind.cell := B.cel rfl
  have n_places : X.N[1]? = some ("places" : Str) := B.slot 1 rfl
  have l_places : X.env.scope.names.lookup ("places" : Str) = some NameKind.local := B.loc rfl
  have n_at : X.N[2]? = some ("at" : Str) := B.slot 2 rfl
  have g_tuple : Gl X "tuple" := B.gl rfl
  have z_tuple := T.z_tuple
  have v_tuple := bb_tuple
  have g__law_mixed : Gl X "_law_mixed" := B.gl rfl
  have g_range : Gl X "range" := B.gl rfl
  have z_range := T.z_range
  have v_range := bb_range
  obtain ⟨p, P, rfl, hd, h1, h2, q⟩ := h
  walk_at "st"
  walk_at "st"
  walk_at "ex"
  refine a_cons ?_
  refine e_call (D__law_mixed T) G (B.room.mono (by decide)) g__law_mixed ?_
  walk_at "wx"
  walk_at "wx"
  refine a_cons ?_
  refine e_dR 2 B (blkOk_by (by decide +kernel)) g_range z_range rfl rfl ?_
  walk_at "wz"
  refine ⟨P.toNat - 1, p, fun i y => ∃ x : Int, y = .int x ∧ 0 ≤ x ∧ x < ((i + 1 : Nat) : Int), by congr 1; omega, by omega, hd, ?_, ?_⟩
  · intro i H2 hi c2 d2 X' bk
    have B' := bk.bd B
    have n_at : X'.N[2]? = some ("at" : Str) := B'.slot 2 rfl
    have l_at : X'.env.scope.names.lookup ("at" : Str) = some NameKind.local := B'.loc rfl
    have n_dice : X'.N[0]? = some ("dice" : Str) := B'.slot 0 rfl
    have l_dice : X'.env.scope.names.lookup ("dice" : Str) = some NameKind.cell := B'.cel rfl
    have T' : Tx X'.K X'.mg := by rw [bk.K, bk.mg]; exact T
    have g__law_roll : Gl X' "_law_roll" := B'.gl rfl
    have G' : X'.A.guards = some [] := by rw [bk.A]; exact G
    walk_at "wz"
    exact ⟨p, _, rfl, d2, by omega, by omega, fun r H3 r0 r1 c3 d3 => ⟨⟨r, rfl, r0, by show r < ((i + 1 : Nat) : Int); omega⟩, c3, d3⟩⟩
  · intro D H' ys h0 c d hD hl hy
    obtain ⟨ns, rfl, hln, hin⟩ := rel_ints (lo := fun _ => 0) (hi := fun i => ((i + 1 : Nat) : Int)) hl hy
    have dp : D ≠ p := hd.off h0
    refine a_nil ?_
    refine ⟨p, D, _, rfl, d, hD, dp, by rw [List.length_map]; omega, fun r ms H1 c1 d1 hr rp _ pm => ?_⟩
    obtain ⟨ms, rfl, pm2⟩ := perm_ints pm
    walk_at "wz"
    refine c_tupL (SqL.of hr) fun t ht => ?_
    refine q t _ ms (c.trans (c1.new ht)) (d1.new ht) (SqT.of upd_same) (by rw [pm2.length_eq, hln]) fun x hx => ?_
    obtain ⟨i, hi, e⟩ := List.getElem_of_mem (pm2.mem_iff.mp hx)
    have := hin i x (by rw [List.getElem?_eq_getElem hi, e])
    have h3 : (0 : Int) ≤ x := this.1
    have h4 : x < ((i + 1 : Nat) : Int) := this.2
    omega
theorem len__law_drawn_code {K : PySem.W.Frag} : ∀ vs H Q E, sp__law_drawn_code K vs H Q E → vs.length = 2 := by
  intro vs H Q E h
  obtain ⟨_, _, e, _⟩ := h
  rw [e]; rfl
theorem D__law_drawn_code {P : Program} {w : World} {K : PySem.W.Frag} {mg : Str → Option Value} {base : Heap} (T : Tx K mg) : Df P w K mg base "_law_drawn_code" 3 ["dice", "places"] (sp__law_drawn_code K) :=
  df_of T.d__law_drawn_code sc__law_drawn_code (fun _ _ _ _ _ _ us hl => match us, hl with | [_, _], _ => rfl) len__law_drawn_code (fun X e1 e2 e3 e4 e5 B F G vs H Q E h => by subst e1 e2 e3 e4 e5; exact b__law_drawn_code B F G T h)
local macro_rules | `(tactic| walk_at "cl") => `(tactic| (refine' e_call (D__law_drawn_code ‹Tx _ _›) (by assumption) ?rm ?gl ?_; (case rm => exact ‹Bd _ _ _ _›.room.mono (by decide)); (case gl => with_reducible assumption)))

def sp__law_parks (K : PySem.W.Frag) : Sp := fun vs H Q _ => ∃ a, ∃ n : Nat, ∃ ns : List Int, vs = [.int (n : Int), .ref a] ∧ SqT K H a (ns.map V.int) ∧ ns.length = n ∧ n ≤ 100 ∧ (∀ x ∈ ns, 0 ≤ x ∧ x ≤ 1000) ∧ ∀ H', Same H H' → Q (.bl (decide (good n ns))) H'
theorem rep_b (n : Nat) : (List.replicate n [V.bl true]).flatten = (List.replicate n true).map V.bl := by
  induction n with
  | zero => rfl
  | succ n ih => rw [List.replicate_succ, List.flatten_cons, ih]; rfl
theorem at_bools {fr : List Bool} {j : Nat} (h : j < fr.length) : atI (fr.map V.bl) (j : Int) = some (.bl (fr.getD j true)) := by
  refine atI_nat ?_
  rw [List.getElem?_map, List.getElem?_eq_getElem h, List.getD_eq_getElem?_getD, List.getElem?_eq_getElem h]; rfl
theorem b__law_parks {X : Cx} (B : Bd X N__law_parks (defScope S__law_parks) 0) (F : ∀ x, X.fn x = true) (G : X.A.guards = some []) (T : Tx X.K X.mg) {vs : List V} {H : Hp} {Q : VK} {E : XK} (h : sp__law_parks X.K vs H Q E) :
    wB X (defBody S__law_parks) { nx := fun _ H' => Q .non H', rt := Q } (start N__law_parks vs) H := by
  have n_spots : X.N[0]? = some ("spots" : Str) := B.slot 0 rfl
  have l_spots : X.env.scope.names.lookup ("spots" : Str) = some NameKind.local := B.loc rfl
  have n_value : X.N[1]? = some ("value" : Str) := B.slot 1 rfl
  have l_value : X.env.scope.names.lookup ("value" : Str) = some NameKind.local := B.loc rfl
  have n_free : X.N[2]? = some ("free" : Str) := B.slot 2 rfl
  have l_free : X.env.scope.names.lookup ("free" : Str) = some NameKind.cell := B.cel rfl
  have n_letter : X.N[3]? = some ("letter" : Str) := B.slot 3 rfl
  have l_letter : X.env.scope.names.lookup ("letter" : Str) = some NameKind.local := B.loc rfl
  have n_some : X.N[4]? = some ("some" : Str) := B.slot 4 rfl
  have l_some : X.env.scope.names.lookup ("some" : Str) = some NameKind.local := B.loc rfl
  have n_spot : X.N[5]? = some ("spot" : Str) := B.slot 5 rfl
  have g_range : Gl X "range" := B.gl rfl
  have z_range := T.z_range
  have v_range := bb_range
  obtain ⟨a, n, ns, rfl, hs, hl, hn, hin, q⟩ := h
  have z1000 : (10000 : Nat) < sizeLine := by decide
  walk_at "wz"
  refine ⟨by show 1 ≤ sizeLine; decide, fun l1 hl1 => ?_⟩
  walk_at "wz"
  refine o_rep upd_same (by omega) (by omega) (by show 1 * _ ≤ _; omega) fun f hf => ?_
  rw [show (n : Int).toNat = n by omega, rep_b]
  have sm0 : Same H (upd (upd H l1 (.lst [.bl true])) f (.lst ((List.replicate n true).map V.bl))) := ((Same.refl H).new hl1).new hf
  have f0 : H f = none := by
    cases e : H f with
    | none => rfl
    | some o =>
      rw [upd_keep hl1 e] at hf
      cases hf
  walk_at "st"
  refine s_forT 3 B.ps B.calm B.nd n_letter (Or.inl l_letter) ?_ (hf := .inr l_letter)
  walk_at "wz"
  refine ⟨a, ns.map V.int, rfl, same_tup sm0 hs, fun k σ H1 => ∃ y3 y4 y5, σ = [some (.int (n : Int)), some (.ref a), some (.ref f), y3, y4, y5] ∧ Same H H1 ∧ ∃ fr : List Bool, H1 f = some (.lst (fr.map V.bl)) ∧ Pk n fr (ns.take k), ?_, ?_, ?_, ?_⟩
  · exact ⟨_, _, _, rfl, sm0, _, upd_same, pk_0 n⟩
  · rintro k σ H1 hk ⟨y3, y4, y5, rfl, sm, _⟩
    exact same_tup sm hs
  · rintro k v σ H1 hk ⟨y3, y4, y5, rfl, sm, fr, hfr, pk⟩
    rw [List.getElem?_map] at hk
    cases hi : ns[k]? with
    | none => rw [hi] at hk; cases hk
    | some x =>
      rw [hi] at hk
      cases hk
      have hx := hin x (List.mem_of_getElem? hi)
      have hkn : k < ns.length := (List.getElem?_eq_some_iff.mp hi).1
      have etake : ns.take (k + 1) = ns.take k ++ [x] := by rw [List.take_add_one, hi]; rfl
      have esplit : ns = ns.take k ++ x :: ns.drop (k + 1) := by
        have h1 := (List.getElem?_eq_some_iff.mp hi).2
        rw [← h1, ← List.drop_eq_getElem_cons hkn, List.take_append_drop]
      walk_at "st"
      refine s_fR2 5 4 B (blkOk_by (by decide +kernel)) g_range z_range rfl rfl n_some l_some (by rw [env_eta B.sc]; rfl) ?_
      walk_at "wz"
      refine ⟨x, (n : Int), fun i => fr.getD (x.toNat + i) true, fun i => V.int (x + (i : Nat)), rfl, rfl, by omega, by omega, by omega, by omega, by omega, ?_, ?_⟩
      · intro i H2 hi2 s2 X' bk
        have B' := bk.bd B
        have n_spot : X'.N[5]? = some ("spot" : Str) := B'.slot 5 rfl
        have l_spot : X'.env.scope.names.lookup ("spot" : Str) = some NameKind.local := B'.loc rfl
        have n_free : X'.N[2]? = some ("free" : Str) := B'.slot 2 rfl
        have l_free : X'.env.scope.names.lookup ("free" : Str) = some NameKind.cell := B'.cel rfl
        have T' : Tx X'.K X'.mg := by rw [bk.K, bk.mg]; exact T
        have hat : atI (fr.map V.bl) (x + (i : Nat)) = some (.bl (fr.getD (x.toNat + i) true)) := by
          rw [show x + (i : Nat) = ((x.toNat + i : Nat) : Int) by omega]
          exact at_bools (by rw [pk.len]; omega)
        walk_at "wz"
        refine x_lst (SqL.of (s2 _ _ hfr)) hat ?_
        refine ⟨_, rfl, rfl, Same.refl _, fun _ X' bk => ?_⟩
        have B' := bk.bd B
        have n_spot : X'.N[5]? = some ("spot" : Str) := B'.slot 5 rfl
        have l_spot : X'.env.scope.names.lookup ("spot" : Str) = some NameKind.local := B'.loc rfl
        have T' : Tx X'.K X'.mg := by rw [bk.K, bk.mg]; exact T
        walk_at "wz"
        exact ⟨rfl, Same.refl _⟩
      · intro D H2 hD s2 hD2
        have em : (((List.range ((n : Int) - x).toNat).filter fun i => fr.getD (x.toNat + i) true).map fun (i : Nat) => V.int (x + (i : Nat))) = (((List.range ((n : Int) - x).toNat).filter fun i => fr.getD (x.toNat + i) true).map fun (i : Nat) => x + (i : Int)).map V.int := by rw [List.map_map]; rfl
        rw [em] at hD2
        have hfr2 := s2 _ _ hfr
        have f2 : H2 f ≠ none := by rw [hfr2]; simp
        walk_at "wz"
        refine ⟨by show 0 ≤ sizeLine; decide, fun l2 hl2 => ?_⟩
        refine o_eqL B.room.units (ms := []) (SqL.of (upd_keep hl2 hD2)) (SqL.of upd_same) ?_
        have sm3 := (sm.trans s2).new (o := .lst []) hl2
        cases efl : (List.range ((n : Int) - x).toNat).filter fun i => fr.getD (x.toNat + i) true with
        | nil =>
          rw [List.map_nil, decide_eq_true rfl]
          walk_at "wz"
          have bad : ¬ good n ns := by
            rw [esplit]
            refine pk_no pk (by rw [← esplit]; exact hl) fun i h1 h2 => ?_
            rw [List.filter_eq_nil_iff] at efl
            have := efl (i - x.toNat) (List.mem_range.mpr (by omega))
            rw [show x.toNat + (i - x.toNat) = i by omega] at this
            simpa using this
          rw [decide_eq_false bad] at q
          exact q _ sm3
        | cons i0 r =>
          obtain ⟨b1, b2, b3⟩ := filt_first efl
          rw [List.map_cons, decide_eq_false (by simp)]
          rw [efl, List.map_cons, List.map_cons] at hD2
          walk_at "wz"
          refine x_lst (SqL.of (upd_keep hl2 hD2)) ix0 ?_
          have hix : ixN (fr.map V.bl).length (x + (i0 : Int)) = some (x.toNat + i0) := by
            rw [List.length_map, pk.len, show x + (i0 : Int) = ((x.toNat + i0 : Nat) : Int) by omega]
            unfold ixN
            rw [if_pos (by omega), if_pos (by omega), Int.toNat_natCast]
          refine ps_set_list ⟨f, fr.map V.bl, x + (i0 : Int), x.toNat + i0, rfl, rfl, upd_keep hl2 hfr2, hix, ?_⟩
          refine ⟨_, _, _, rfl, sm3.ch f0 Ch.refl.put, fr.set (x.toNat + i0) false, by rw [upd_same, List.map_set], ?_⟩
          rw [etake]
          refine pk_s pk (by omega) (by omega) b2 fun i h1 h2 => ?_
          have := b3 (i - x.toNat) (by omega)
          rw [show x.toNat + (i - x.toNat) = i by omega] at this
          exact this
  · rintro σ H1 ⟨y3, y4, y5, rfl, sm, fr, hfr, pk⟩
    rw [List.length_map, List.take_length] at pk
    walk_at "wz"
    rw [decide_eq_true (pk_end pk hl)] at q
    exact q _ sm
theorem len__law_parks {K : PySem.W.Frag} : ∀ vs H Q E, sp__law_parks K vs H Q E → vs.length = 2 := by
  intro vs H Q E h
  obtain ⟨_, _, _, e, _⟩ := h
  rw [e]; rfl
theorem D__law_parks {P : Program} {w : World} {K : PySem.W.Frag} {mg : Str → Option Value} {base : Heap} (T : Tx K mg) : Df P w K mg base "_law_parks" 1 ["spots", "value"] (sp__law_parks K) :=
  df_of T.d__law_parks sc__law_parks (fun _ _ _ _ _ _ us hl => match us, hl with | [_, _], _ => rfl) len__law_parks (fun X e1 e2 e3 e4 e5 B F G vs H Q E h => by subst e1 e2 e3 e4 e5; exact b__law_parks B F G T h)
local macro_rules | `(tactic| walk_at "cl") => `(tactic| (refine' e_call (D__law_parks ‹Tx _ _›) (by assumption) ?rm ?gl ?_; (case rm => exact ‹Bd _ _ _ _›.room.mono (by decide)); (case gl => with_reducible assumption)))

/-- integers that can be lesser places, or one more -/
def LowT (K : PySem.W.Frag) (H : Hp) (r : Addr) : Prop := ∃ ns : List Int, SqT K H r (ns.map V.int) ∧ ns.length ≤ 13 ∧ ∀ x ∈ ns, 0 ≤ x ∧ x ≤ 12
theorem LowT.same {K : PySem.W.Frag} {H H' : Hp} {r : Addr} (h : LowT K H r) (s : Same H H') : LowT K H' r := by
  obtain ⟨ns, h1, h2⟩ := h
  exact ⟨ns, same_tup s h1, h2⟩
/-- a value that is no code -/
def OddV (K : PySem.W.Frag) (H : Hp) (P : Int) (v : V) : Prop := NoTp K H v ∨ ∃ a xs, v = .ref a ∧ SqT K H a xs ∧ xs.length ≤ 1000 ∧ (∀ x ∈ xs, Okv K H x) ∧ isCd P xs = false
theorem OddV.same {K : PySem.W.Frag} {H H' : Hp} {P : Int} {v : V} (h : OddV K H P v) (s : Same H H') : OddV K H' P v := by
  rcases h with h | ⟨a, xs, e, h1, h2, h3, h4⟩
  · exact .inl (h.same s)
  · exact .inr ⟨a, xs, e, same_tup s h1, h2, fun x hx => (h3 x hx).same s, h4⟩
theorem isCd_len {P : Int} {xs : List V} (h : xs.length ≠ P.toNat - 1) : isCd P xs = false := by
  unfold isCd
  rw [fitC_len (by rw [List.length_map]; exact h), Bool.and_false]
theorem isCd_bad {P : Int} {xs : List V} {v : V} (h : v ∈ xs) (hv : isB P v = false) : isCd P xs = false := by
  unfold isCd
  cases e : xs.all (isB P) with
  | false => rfl
  | true =>
    rw [List.all_eq_true] at e
    rw [e v h] at hv
    cases hv
theorem okv_ints {K : PySem.W.Frag} {H : Hp} {ns : List Int} : ∀ v ∈ ns.map V.int, Okv K H v := fun v hv => by
  obtain ⟨i, _, rfl⟩ := List.mem_map.mp hv
  exact .int i
theorem isCd_due {P : Int} {ns : List Int} (h1 : 1 ≤ P) (h : ∀ x ∈ ns, 0 ≤ x ∧ x ≤ 12) : isCd P (ns.map V.int) = fitC (P.toNat - 1) ns := by
  unfold isCd
  rw [toI_ints]
  cases e : fitC (P.toNat - 1) ns with
  | false => rw [Bool.and_false]
  | true =>
    rw [Bool.and_true]
    refine isB_of fun x hx => ?_
    have a := h x hx
    have b := fit_below e x hx
    omega
theorem right_tail {X : Cx} (B : Bd X N__law_right (defScope S__law_right) 4) (F : ∀ x, X.fn x = true) (G : X.A.guards = some []) (T : Tx X.K X.mg) {H : Hp} {Q : VK} {P : Int} {rc : Addr} {cs : List Int} {v0 v3 v4 v5 v6 v7 : Option V} (z1000 : (10000 : Nat) < sizeLine)
    (P1 : 1 ≤ P) (P12 : P ≤ 12) (hc : SqT X.K H rc (cs.map V.int)) (lc : cs.length = P.toNat - 1) (ic : ∀ x ∈ cs, 0 ≤ x ∧ x < P) (q : ∀ H', Same H H' → Q (.bl true) H') :
    wB X ((defBody S__law_right).drop 6) { nx := fun _ H' => Q .non H', rt := Q } [v0, some (.int P), some (.ref rc), v3, v4, v5, v6, v7, none, none] H := by
  have n_dice : X.N[0]? = some ("dice" : Str) := B.slot 0 rfl
  have l_dice : X.env.scope.names.lookup ("dice" : Str) = some NameKind.cell := B.cel rfl
  have n_places : X.N[1]? = some ("places" : Str) := B.slot 1 rfl
  have l_places : X.env.scope.names.lookup ("places" : Str) = some NameKind.cell := B.cel rfl
  have n_code : X.N[2]? = some ("code" : Str) := B.slot 2 rfl
  have l_code : X.env.scope.names.lookup ("code" : Str) = some NameKind.local := B.loc rfl
  have n_drawn : X.N[3]? = some ("drawn" : Str) := B.slot 3 rfl
  have l_drawn : X.env.scope.names.lookup ("drawn" : Str) = some NameKind.local := B.loc rfl
  have n_near : X.N[4]? = some ("near" : Str) := B.slot 4 rfl
  have l_near : X.env.scope.names.lookup ("near" : Str) = some NameKind.local := B.loc rfl
  have n_at : X.N[5]? = some ("at" : Str) := B.slot 5 rfl
  have l_at : X.env.scope.names.lookup ("at" : Str) = some NameKind.local := B.loc rfl
  have n_value : X.N[6]? = some ("value" : Str) := B.slot 6 rfl
  have l_value : X.env.scope.names.lookup ("value" : Str) = some NameKind.local := B.loc rfl
  have n_due : X.N[7]? = some ("due" : Str) := B.slot 7 rfl
  have l_due : X.env.scope.names.lookup ("due" : Str) = some NameKind.local := B.loc rfl
  have n_odd : X.N[8]? = some ("odd" : Str) := B.slot 8 rfl
  have l_odd : X.env.scope.names.lookup ("odd" : Str) = some NameKind.local := B.loc rfl
  have n_letter : X.N[9]? = some ("letter" : Str) := B.slot 9 rfl
  have g__law_roll : Gl X "_law_roll" := B.gl rfl
  have g__law_drawn_code : Gl X "_law_drawn_code" := B.gl rfl
  have g_tuple : Gl X "tuple" := B.gl rfl
  have z_tuple := T.z_tuple
  have v_tuple := bb_tuple
  have g_range : Gl X "range" := B.gl rfl
  have z_range := T.z_range
  have v_range := bb_range
  have g_min : Gl X "min" := B.gl rfl
  have z_min := T.z_min
  have v_min := bb_min
  have g__law_mixed : Gl X "_law_mixed" := B.gl rfl
  have g_list : Gl X "list" := B.gl rfl
  have z_list := T.z_list
  have v_list := bb_list
  have g_len : Gl X "len" := B.gl rfl
  have z_len := T.z_len
  have v_len := bb_len
  have g__law_parks : Gl X "_law_parks" := B.gl rfl
  have g_repr : Gl X "repr" := B.gl rfl
  have z_repr := T.z_repr
  have v_repr := bb_repr
  have g_is_code : Gl X "is_code" := B.gl rfl
  have g_count_behind : Gl X "count_behind" := B.gl rfl
  have g_int : Gl X "int" := B.gl rfl
  have z_int := T.z_int
  have v_int := bb_int
  have g_max : Gl X "max" := B.gl rfl
  have z_max := T.z_max
  have v_max := bb_max
  have eP : (P.toNat : Int) = P := Int.toNat_of_nonneg (by omega)
  have ok0 : ∀ {K : PySem.W.Frag} {H : Hp} (v : V) (ns : List Int), Okv K H v → ∀ x ∈ v :: ns.map V.int, Okv K H x := fun v ns h x hx => by
    rcases List.mem_cons.mp hx with rfl | hx
    · exact h
    · exact okv_ints x hx
  refine b_mid (fun σ' H' => ∃ o vs, σ' = [v0, some (.int P), some (.ref rc), v3, v4, v5, v6, v7, some (.ref o), none] ∧ Same H H' ∧ H' o = some (.lst vs) ∧ vs.length ≤ 100 ∧ ∀ v ∈ vs, OddV X.K H' P v) ?_ ?_
  · walk_at "wz"
    refine c_lstL (Or.inr hc) fun l1 hl1 => ?_
    have s1 : Same H (upd H l1 (.lst (cs.map V.int))) := (Same.refl H).new hl1
    have g1 : SqL X.K (upd H l1 (.lst (cs.map V.int))) l1 (cs.map V.int) := SqL.of upd_same
    generalize upd H l1 (.lst (cs.map V.int)) = H1 at s1 g1
    walk_at "wz"
    refine ⟨by show 1 ≤ sizeLine; omega, fun t2 ht2 => ?_⟩
    have s2 : Same H1 (upd H1 t2 (.tup [.non])) := (Same.refl H1).new ht2
    refine o_cat (same_tup (s1.trans s2) hc) (SqT.of upd_same) (by rw [List.length_map]; show _ + 1 ≤ _; omega) fun r3 H3 s3 h3 => ?_
    walk_at "wz"
    refine ⟨by show 1 ≤ sizeLine; omega, fun t4 ht4 => ?_⟩
    have s4 : Same H3 (upd H3 t4 (.tup [.int (-1)])) := (Same.refl H3).new ht4
    have s14 := (s2.trans s3).trans s4
    have g4 : SqT X.K (upd H3 t4 (.tup [.int (-1)])) t4 [.int (-1)] := SqT.of upd_same
    generalize upd H3 t4 (.tup [.int (-1)]) = H4 at s4 s14 g4
    walk_at "wz"
    refine c_lenT (same_tup (s1.trans s14) hc) ?_
    rw [List.length_map]
    refine o_repT g4 (by simp) (by omega) (by omega) (by decide) fun r5 H5 s5 h5 => ?_
    walk_at "wz"
    refine ⟨by show 1 ≤ sizeLine; omega, fun t6 ht6 => ?_⟩
    have s6 : Same H5 (upd H5 t6 (.tup [.int 0])) := (Same.refl H5).new ht6
    have rl : (List.replicate (cs.length : Int).toNat [V.int (-1)]).flatten.length = cs.length := by
      rw [show (cs.length : Int).toNat = cs.length by omega]
      generalize cs.length = n
      induction n with
      | zero => rfl
      | succ n ih => rw [List.replicate_succ, List.flatten_cons, List.length_append, ih]; show 1 + n = _; omega
    have ri : ∀ x ∈ (List.replicate (cs.length : Int).toNat [V.int (-1)]).flatten, x = V.int (-1) := fun x hx => by
      obtain ⟨l, hl, hx2⟩ := List.mem_flatten.mp hx
      rw [(List.mem_replicate.mp hl).2, List.mem_singleton] at hx2
      exact hx2
    refine o_cat (same_tup s6 h5) (SqT.of upd_same) (by rw [rl]; show _ + 1 ≤ _; omega) fun r7 H7 s7 h7 => ?_
    have s57 := s6.trans s7
    walk_at "wz"
    refine e_dict0 fun t8 ht8 => ?_
    have s8 : Same H7 (upd H7 t8 (.dK [])) := (Same.refl H7).new ht8
    have g8 : upd H7 t8 (.dK []) t8 = some (.dK []) := upd_same
    generalize upd H7 t8 (.dK []) = H8 at s8 g8
    walk_at "wz"
    refine ⟨by show 1 ≤ sizeLine; omega, fun t9 ht9 => ?_⟩
    have s9 : Same H8 (upd H8 t9 (.tup [.int 0])) := (Same.refl H8).new ht9
    have g9 : SqT X.K (upd H8 t9 (.tup [.int 0])) t9 [.int 0] := SqT.of upd_same
    generalize upd H8 t9 (.tup [.int 0]) = H9 at s9 g9
    walk_at "wz"
    refine ⟨by show 1 ≤ sizeLine; omega, fun t10 ht10 => ?_⟩
    have s10 : Same H9 (upd H9 t10 (.tup [.ref t9])) := (Same.refl H9).new ht10
    have g10 : SqT X.K (upd H9 t10 (.tup [.ref t9])) t10 [.ref t9] := SqT.of upd_same
    generalize upd H9 t10 (.tup [.ref t9]) = H10 at s10 g10
    have sA := (((s1.trans s14).trans s5).trans s57).trans ((s8.trans s9).trans s10)
    walk_at "wz"
    refine c_lenT (same_tup sA hc) ?_
    rw [List.length_map]
    walk_at "wz"
    refine o_repT g10 (by simp) (by split <;> omega) (by split <;> omega) (by show 1 ≤ 1000; decide) fun r11 H11 s11 h11 => ?_
    walk_at "wz"
    refine ⟨by show 1 ≤ sizeLine; omega, fun t12 ht12 => ?_⟩
    have s12 : Same H11 (upd H11 t12 (.tup [.bl true])) := (Same.refl H11).new ht12
    walk_at "wz"
    refine o_cat (SqT.of upd_same) (same_tup ((sA.trans s11).trans s12) hc) (by rw [List.length_map]; show 1 + _ ≤ _; omega) fun r13 H13 s13 h13 => ?_
    walk_at "wz"
    refine ⟨by show 9 ≤ sizeLine; omega, fun o ho => ?_⟩
    have s14' : Same H13 (upd H13 o (.lst [.non, .int 0, .ref l1, .ref r3, .ref r7, .str "code", .ref t8, .ref r11, .ref r13])) := (Same.refl H13).new ho
    have e713 : Same H8 H13 := (((s9.trans s10).trans s11).trans s12).trans s13
    have e1 : Same H1 H13 := ((s14.trans s5).trans s57).trans (s8.trans e713)
    refine ⟨o, _, rfl, (((sA.trans s11).trans s12).trans s13).trans s14', upd_same, by show 9 ≤ 100; omega, fun v hv => ?_⟩
    refine OddV.same ?_ s14'
    simp only [List.mem_cons, List.not_mem_nil, or_false] at hv
    rcases hv with rfl | rfl | rfl | rfl | rfl | rfl | rfl | rfl | rfl
    · exact .inl .non
    · exact .inl (.int 0)
    · exact .inl (.lst (e1.seq g1))
    · refine .inr ⟨r3, _, rfl, same_tup (((s4.trans s5).trans s57).trans (s8.trans e713)) h3, by rw [List.length_append, List.length_map]; show _ + 1 ≤ _; omega, fun x hx => ?_, isCd_len (by rw [List.length_append, List.length_map]; show _ + 1 ≠ _; omega)⟩
      rcases List.mem_append.mp hx with hx | hx
      · exact okv_ints x hx
      · rw [List.mem_singleton] at hx
        subst hx
        exact .non
    · refine .inr ⟨r7, _, rfl, same_tup (s8.trans e713) h7, by rw [List.length_append, rl]; show _ + 1 ≤ _; omega, fun x hx => ?_, isCd_len (by rw [List.length_append, rl]; show _ + 1 ≠ _; omega)⟩
      rcases List.mem_append.mp hx with hx | hx
      · rw [ri x hx]
        exact .int _
      · rw [List.mem_singleton] at hx
        subst hx
        exact .int _
    · exact .inl (.str _)
    · exact .inl (.dK (e713 _ _ g8))
    · refine .inr ⟨r11, _, rfl, same_tup (s12.trans s13) h11, ?_, fun x hx => ?_, isCd_bad (v := .ref t9) ?_ rfl⟩
      · rw [PyProof.Rows.lm_len_rep_flat]
        show _ * 1 ≤ 1000
        split <;> omega
      · obtain ⟨l, hl, hx2⟩ := List.mem_flatten.mp hx
        rw [(List.mem_replicate.mp hl).2, List.mem_singleton] at hx2
        subst hx2
        exact .tup (same_tup (((s10.trans s11).trans s12).trans s13) g9)
      · refine List.mem_flatten.mpr ⟨[.ref t9], List.mem_replicate.mpr ⟨?_, rfl⟩, List.mem_singleton.mpr rfl⟩
        split <;> omega
    · exact .inr ⟨r13, _, rfl, h13, by rw [List.length_append, List.length_map]; show 1 + _ ≤ _; omega, ok0 _ cs (.bl true), isCd_bad (v := .bl true) (List.mem_cons_self ..) rfl⟩
  rintro σ1 H1 ⟨o, vs, rfl, s1, ho, hvl, hodd⟩
  refine b_mid (fun σ' H' => ∃ o vs, σ' = [v0, some (.int P), some (.ref rc), v3, v4, v5, v6, v7, some (.ref o), none] ∧ Same H H' ∧ H' o = some (.lst vs) ∧ vs.length ≤ 200 ∧ ∀ v ∈ vs, OddV X.K H' P v) ?_ ?_
  · have hc1 := same_tup s1 hc
    walk_at "wz"
    refine c_lenT hc1 ?_
    rw [List.length_map]
    walk_at "wz"
    by_cases e : 0 < cs.length
    · refine iteD (fun _ => ?_) (fun z => absurd (show (0 : Int) < (cs.length : Int) by omega) z)
      -- a sign and the code less its first integer
      have cut1 : ∀ {H2 : Hp}, cutV (cs.map V.int) (some 1) none = (cs.drop 1).map V.int := fun {H2} => by
        rw [show (1 : Int) = ((1 : Nat) : Int) by rfl, cut_i _ (by rw [List.length_map]; exact e), List.map_drop]
      have odd1 : ∀ {H2 : Hp} {r : Addr} {v : V}, SqT X.K H2 r (v :: (cs.drop 1).map V.int) → Okv X.K H2 v → isB P v = false → OddV X.K H2 P (.ref r) := fun {H2 r v} h k b =>
        .inr ⟨r, _, rfl, h, by rw [List.length_cons, List.length_map, List.length_drop]; omega, ok0 v _ k, isCd_bad (v := v) (List.mem_cons_self ..) b⟩
      walk_at "wz"
      refine ⟨by show 1 ≤ sizeLine; omega, fun t1 ht1 => ?_⟩
      have a1 : Same H1 (upd H1 t1 (.tup [.int (-1)])) := (Same.refl H1).new ht1
      refine e_slSN ?_
      walk_at "wz"
      refine ⟨rc, _, rfl, same_tup a1 hc1, fun q1 K1 b1 k1 => ?_⟩
      rw [cut1 (H2 := H1)] at k1
      refine o_cat (same_tup b1 (SqT.of upd_same)) k1 (by rw [List.length_map, List.length_drop]; show 1 + _ ≤ _; omega) fun r1 H2 c1 h1 => ?_
      have d1 := (a1.trans b1).trans c1
      walk_at "wz"
      refine ⟨by show 1 ≤ sizeLine; omega, fun t2 ht2 => ?_⟩
      have a2 : Same H2 (upd H2 t2 (.tup [.bl false])) := (Same.refl H2).new ht2
      refine e_slSN ?_
      walk_at "wz"
      refine ⟨rc, _, rfl, same_tup (d1.trans a2) hc1, fun q2 K2 b2 k2 => ?_⟩
      rw [cut1 (H2 := H1)] at k2
      refine o_cat (same_tup b2 (SqT.of upd_same)) k2 (by rw [List.length_map, List.length_drop]; show 1 + _ ≤ _; omega) fun r2 H3 c2 h2 => ?_
      have d2 := (a2.trans b2).trans c2
      walk_at "wz"
      refine ⟨by show 1 ≤ sizeLine; omega, fun t3 ht3 => ?_⟩
      have a3 : Same H3 (upd H3 t3 (.tup [.non])) := (Same.refl H3).new ht3
      refine e_slSN ?_
      walk_at "wz"
      refine ⟨rc, _, rfl, same_tup ((d1.trans d2).trans a3) hc1, fun q3 K3 b3 k3 => ?_⟩
      rw [cut1 (H2 := H1)] at k3
      refine o_cat (same_tup b3 (SqT.of upd_same)) k3 (by rw [List.length_map, List.length_drop]; show 1 + _ ≤ _; omega) fun r3 H4 c3 h3 => ?_
      have d3 := (a3.trans b3).trans c3
      walk_at "wz"
      refine ⟨by show 1 ≤ sizeLine; omega, fun t4 ht4 => ?_⟩
      have a4 : Same H4 (upd H4 t4 (.tup [.str "0"])) := (Same.refl H4).new ht4
      refine e_slSN ?_
      walk_at "wz"
      refine ⟨rc, _, rfl, same_tup (((d1.trans d2).trans d3).trans a4) hc1, fun q4 K4 b4 k4 => ?_⟩
      rw [cut1 (H2 := H1)] at k4
      refine o_cat (same_tup b4 (SqT.of upd_same)) k4 (by rw [List.length_map, List.length_drop]; show 1 + _ ≤ _; omega) fun r4 H5 c4 h4 => ?_
      have d4 := (a4.trans b4).trans c4
      walk_at "wz"
      refine ⟨by show 4 ≤ sizeLine; omega, fun l5 hl5 => ?_⟩
      have s5 : Same H5 (upd H5 l5 (.lst [.ref r1, .ref r2, .ref r3, .ref r4])) := (Same.refl H5).new hl5
      have d15 := (((d1.trans d2).trans d3).trans d4).trans s5
      refine o_catL (d15 _ _ ho) upd_same (by show _ + 4 ≤ _; omega) fun l6 hl6 => ?_
      have s6 := s5.new (o := .lst (vs ++ [.ref r1, .ref r2, .ref r3, .ref r4])) hl6
      refine ⟨l6, _, rfl, (s1.trans (((d1.trans d2).trans d3).trans d4)).trans s6, upd_same, by rw [List.length_append]; show _ + 4 ≤ _; omega, fun v hv => ?_⟩
      refine OddV.same ?_ s6
      rcases List.mem_append.mp hv with hv | hv
      · exact (hodd v hv).same (((d1.trans d2).trans d3).trans d4)
      · simp only [List.mem_cons, List.not_mem_nil, or_false] at hv
        rcases hv with rfl | rfl | rfl | rfl
        · exact (odd1 h1 (.int _) rfl).same ((d2.trans d3).trans d4)
        · exact (odd1 h2 (.bl _) rfl).same (d3.trans d4)
        · exact (odd1 h3 .non rfl).same d4
        · exact odd1 h4 (.str _) rfl
    · refine iteD (fun z => absurd z (by omega)) (fun _ => ?_)
      walk_at "wz"
      exact ⟨o, vs, rfl, s1, ho, by omega, hodd⟩
  rintro σ1 H1 ⟨o, vs, rfl, s1, ho, hvl, hodd⟩
  walk_at "wz"
  refine e_fL 6 B (blkOk_by (by decide +kernel)) rfl rfl ?_
  walk_at "wz"
  refine ⟨o, vs, fun _ => false, fun _ => .non, rfl, SqL.of ho, by omega, ?_, ?_⟩
  · intro i v H2 hv s2 X' bk
    have B' := bk.bd B
    have n_value : X'.N[6]? = some ("value" : Str) := B'.slot 6 rfl
    have l_value : X'.env.scope.names.lookup ("value" : Str) = some NameKind.local := B'.loc rfl
    have n_places : X'.N[1]? = some ("places" : Str) := B'.slot 1 rfl
    have l_places : X'.env.scope.names.lookup ("places" : Str) = some NameKind.cell := B'.cel rfl
    have T' : Tx X'.K X'.mg := by rw [bk.K, bk.mg]; exact T
    have g_is_code : Gl X' "is_code" := B'.gl rfl
    have od := (hodd v (List.mem_of_getElem? hv)).same s2
    rw [← bk.K] at od
    walk_at "wz"
    refine ⟨P, v, rfl, P1, P12, ?_⟩
    rcases od with od | ⟨a, xs, rfl, h1, h2, h3, h4⟩
    · refine .inl ⟨od, ?_⟩
      walk_at "wz"
      refine o_isnotB ?_
      exact ⟨false, rfl, rfl, Same.refl _, fun z => absurd z Bool.false_ne_true⟩
    · refine .inr ⟨a, xs, rfl, h1, h2, h3, fun H3 s3 => ?_⟩
      rw [h4]
      walk_at "wz"
      refine o_isnotB ?_
      exact ⟨false, rfl, rfl, s3, fun z => absurd z Bool.false_ne_true⟩
  · intro D H2 hD s2 hD2
    walk_at "wz"
    refine ⟨by show 0 ≤ sizeLine; omega, fun l3 hl3 => ?_⟩
    have e0 : (((List.range vs.length).filter fun _ => false).map fun _ => V.non) = ([] : List Int).map V.int := by
      rw [List.filter_eq_nil_iff.mpr (fun _ _ => Bool.false_ne_true)]; rfl
    rw [e0] at hD2
    refine o_eqL B.room.units (ms := []) (SqL.of (upd_keep hl3 hD2)) (SqL.of upd_same) ?_
    exact q _ ((s1.trans s2).new hl3)

def sp__law_right (K : PySem.W.Frag) : Sp := fun vs H Q _ => ∃ p, vs = [.ref p] ∧ Dice H p ∧ ∀ H', Ch p H H' → Dice H' p → Q (.bl true) H'
theorem b__law_right {X : Cx} (B : Bd X N__law_right (defScope S__law_right) 4) (F : ∀ x, X.fn x = true) (G : X.A.guards = some []) (T : Tx X.K X.mg) {vs : List V} {H : Hp} {Q : VK} {E : XK} (h : sp__law_right X.K vs H Q E) :
    wB X (defBody S__law_right) { nx := fun _ H' => Q .non H', rt := Q } (start N__law_right vs) H := by
  have n_dice : X.N[0]? = some ("dice" : Str) := B.slot 0 rfl
  have l_dice : X.env.scope.names.lookup ("dice" : Str) = some NameKind.cell := B.cel rfl
  have n_places : X.N[1]? = some ("places" : Str) := B.slot 1 rfl
  have l_places : X.env.scope.names.lookup ("places" : Str) = some NameKind.cell := B.cel rfl
  have n_code : X.N[2]? = some ("code" : Str) := B.slot 2 rfl
  have l_code : X.env.scope.names.lookup ("code" : Str) = some NameKind.local := B.loc rfl
  have n_drawn : X.N[3]? = some ("drawn" : Str) := B.slot 3 rfl
  have l_drawn : X.env.scope.names.lookup ("drawn" : Str) = some NameKind.local := B.loc rfl
  have n_near : X.N[4]? = some ("near" : Str) := B.slot 4 rfl
  have l_near : X.env.scope.names.lookup ("near" : Str) = some NameKind.local := B.loc rfl
  have n_at : X.N[5]? = some ("at" : Str) := B.slot 5 rfl
  have l_at : X.env.scope.names.lookup ("at" : Str) = some NameKind.local := B.loc rfl
  have n_value : X.N[6]? = some ("value" : Str) := B.slot 6 rfl
  have l_value : X.env.scope.names.lookup ("value" : Str) = some NameKind.local := B.loc rfl
  have n_due : X.N[7]? = some ("due" : Str) := B.slot 7 rfl
  have l_due : X.env.scope.names.lookup ("due" : Str) = some NameKind.local := B.loc rfl
  have n_odd : X.N[8]? = some ("odd" : Str) := B.slot 8 rfl
  have l_odd : X.env.scope.names.lookup ("odd" : Str) = some NameKind.local := B.loc rfl
  have n_letter : X.N[9]? = some ("letter" : Str) := B.slot 9 rfl
  have g__law_roll : Gl X "_law_roll" := B.gl rfl
  have g__law_drawn_code : Gl X "_law_drawn_code" := B.gl rfl
  have g_tuple : Gl X "tuple" := B.gl rfl
  have z_tuple := T.z_tuple
  have v_tuple := bb_tuple
  have g_range : Gl X "range" := B.gl rfl
  have z_range := T.z_range
  have v_range := bb_range
  have g_min : Gl X "min" := B.gl rfl
  have z_min := T.z_min
  have v_min := bb_min
  have g__law_mixed : Gl X "_law_mixed" := B.gl rfl
  have g_list : Gl X "list" := B.gl rfl
  have z_list := T.z_list
  have v_list := bb_list
  have g_len : Gl X "len" := B.gl rfl
  have z_len := T.z_len
  have v_len := bb_len
  have g__law_parks : Gl X "_law_parks" := B.gl rfl
  have g_repr : Gl X "repr" := B.gl rfl
  have z_repr := T.z_repr
  have v_repr := bb_repr
  have g_is_code : Gl X "is_code" := B.gl rfl
  have g_count_behind : Gl X "count_behind" := B.gl rfl
  have g_int : Gl X "int" := B.gl rfl
  have z_int := T.z_int
  have v_int := bb_int
  have g_max : Gl X "max" := B.gl rfl
  have z_max := T.z_max
  have v_max := bb_max
  obtain ⟨p, rfl, hd, q⟩ := h
  have z1000 : (10000 : Nat) < sizeLine := by decide
  walk_at "wz"
  refine ⟨p, _, rfl, hd, by omega, by omega, fun a H1 a0 a1 c1 d1 => ?_⟩
  walk_at "wz"
  refine ⟨p, _, rfl, d1, by omega, by omega, fun rc H2 cs c2 d2 hc lc ic => ?_⟩
  walk_at "st"
  walk_at "st"
  walk_at "ex"
  refine a_cons ?_
  refine e_dR 9 B (blkOk_by (by decide +kernel)) g_range z_range rfl rfl ?_
  walk_at "wz"
  have eP : ((1 + a).toNat : Int) = 1 + a := Int.toNat_of_nonneg (by omega)
  refine ⟨(1 + a).toNat - 1, p, fun i y => ∃ x : Int, y = .int x ∧ 0 ≤ x ∧ x < 1 + a, by congr 1; omega, by omega, d2, ?_, ?_⟩
  · intro i H3 hi c3 d3 X' bk
    have B' := bk.bd B
    have n_letter : X'.N[9]? = some ("letter" : Str) := B'.slot 9 rfl
    have l_letter : X'.env.scope.names.lookup ("letter" : Str) = some NameKind.local := B'.loc rfl
    have n_dice : X'.N[0]? = some ("dice" : Str) := B'.slot 0 rfl
    have l_dice : X'.env.scope.names.lookup ("dice" : Str) = some NameKind.cell := B'.cel rfl
    have n_places : X'.N[1]? = some ("places" : Str) := B'.slot 1 rfl
    have l_places : X'.env.scope.names.lookup ("places" : Str) = some NameKind.cell := B'.cel rfl
    have T' : Tx X'.K X'.mg := by rw [bk.K, bk.mg]; exact T
    have g__law_roll : Gl X' "_law_roll" := B'.gl rfl
    have G' : X'.A.guards = some [] := by rw [bk.A]; exact G
    walk_at "wz"
    exact ⟨p, _, rfl, d3, by omega, by omega, fun r H4 r0 r1 c4 d4 => ⟨⟨r, rfl, r0, r1⟩, c4, d4⟩⟩
  intro D H3 ys hD0 c3 d3 hD hl hy
  obtain ⟨ds, rfl, hln, hds⟩ := rel_ints (lo := fun _ => 0) (hi := fun _ => 1 + a) hl hy
  have hc3 : SqT X.K H3 rc (cs.map V.int) := tup_ch c3 d2.noTup hc
  walk_at "wz"
  refine c_tupL (SqL.of hD) fun rd hrd => ?_
  walk_at "st"
  walk_at "st"
  walk_at "ex"
  generalize eP0 : 1 + a = P at *
  have P1 : 1 ≤ P := by omega
  have P12 : P ≤ 12 := by omega
  have hc4 : SqT X.K (upd H3 rd (.tup (ds.map V.int))) rc (cs.map V.int) := same_tup ((Same.refl H3).new hrd) hc3
  have hd4 : SqT X.K (upd H3 rd (.tup (ds.map V.int))) rd (ds.map V.int) := SqT.of upd_same
  have d4 : Dice (upd H3 rd (.tup (ds.map V.int))) p := d3.new hrd
  have c4 : Ch p H (upd H3 rd (.tup (ds.map V.int))) := ((c1.trans c2).trans c3).new hrd
  generalize upd H3 rd (.tup (ds.map V.int)) = H4 at hc4 hd4 d4 c4
  have lowc : ∀ {H' : Hp}, SqT X.K H' rc (cs.map V.int) → LowT X.K H' rc := fun h => ⟨cs, h, by omega, fun x hx => by have := ic x hx; omega⟩
  have lowd : ∀ {H' : Hp}, SqT X.K H' rd (ds.map V.int) → LowT X.K H' rd := fun h => ⟨ds, h, by omega, fun x hx => by
    obtain ⟨i, hi, e⟩ := List.getElem_of_mem hx
    have := hds i x (by rw [List.getElem?_eq_getElem hi, e])
    have h0 : (0 : Int) ≤ x := this.1
    have h1 : x < P := this.2
    omega⟩
  refine b_mid (fun σ' H' => ∃ y5 rn, σ' = [some (.ref p), some (.int P), some (.ref rc), some (.ref rd), some (.ref rn), y5, none, none, none, none] ∧ Ch p H H' ∧ Dice H' p ∧ SqT X.K H' rc (cs.map V.int) ∧ SqT X.K H' rd (ds.map V.int) ∧ LowT X.K H' rn) ?_ ?_
  · walk_at "wz"
    refine iteD (fun h1 => ?_) (fun h1 => ?_)
    · walk_at "wz"
      refine ⟨p, _, rfl, d4, by omega, by omega, fun at0 H5 b0 b1 c5 d5 => ?_⟩
      have hc5 := tup_ch c5 d4.noTup hc4
      have hd5 := tup_ch c5 d4.noTup hd4
      obtain ⟨n0, rfl⟩ : ∃ n : Nat, at0 = (n : Int) := ⟨at0.toNat, by omega⟩
      have hn0 : n0 < cs.length := by omega
      walk_at "wz"
      refine e_slNS ?_
      walk_at "wz"
      refine ⟨rc, _, rfl, hc5, fun r6 H6 s6 h6 => ?_⟩
      rw [cut_j _ (by rw [List.length_map]; omega), ← List.map_take] at h6
      walk_at "wz"
      refine x_tup (same_tup s6 hc5) (at_intsN hn0) ?_
      walk_at "wz"
      have d6 : Dice H6 p := by
        obtain ⟨x, y, z, e⟩ := d5
        exact ⟨x, y, z, s6 _ _ e⟩
      refine ⟨p, _, rfl, d6, by omega, by omega, fun r7 H7 e0 e1 c7 d7 => ?_⟩
      have h67 := tup_ch c7 d6.noTup h6
      have hc7 := tup_ch c7 d6.noTup (same_tup s6 hc5)
      have hd7 := tup_ch c7 d6.noTup (same_tup s6 hd5)
      walk_at "wz"
      refine ⟨by show 1 ≤ sizeLine; omega, fun t8 ht8 => ?_⟩
      have hcn := ic (cs.getD n0 0) (by rw [List.getD_eq_getElem?_getD, List.getElem?_eq_getElem hn0]; exact List.getElem_mem hn0)
      have s8 : Same H7 (upd H7 t8 (.tup [.int (if cs.getD n0 0 + 1 + r7 < P then cs.getD n0 0 + 1 + r7 else P)])) := (Same.refl H7).new ht8
      refine o_cat (same_tup s8 h67) (SqT.of upd_same) (by rw [List.length_map, List.length_take]; show _ + 1 ≤ _; omega) fun r9 H9 s9 h9 => ?_
      refine e_slSN ?_
      walk_at "wz"
      refine ⟨rc, _, rfl, same_tup (s8.trans s9) hc7, fun r10 H10 s10 h10 => ?_⟩
      rw [show (n0 : Int) + 1 = ((n0 + 1 : Nat) : Int) by omega, cut_i _ (by rw [List.length_map]; omega), ← List.map_drop] at h10
      refine o_cat (same_tup s10 h9) h10 (by rw [List.length_append, List.length_map, List.length_map, List.length_take, List.length_drop]; show _ + 1 + _ ≤ _; omega) fun r11 H11 s11 h11 => ?_
      have s711 := ((s8.trans s9).trans s10).trans s11
      refine ⟨_, r11, rfl, (((c4.trans c5).trans (Ch.of s6)).trans c7).trans (Ch.of s711), ?_, same_tup s711 hc7, same_tup s711 hd7, (cs.take n0 ++ [if cs.getD n0 0 + 1 + r7 < P then cs.getD n0 0 + 1 + r7 else P]) ++ cs.drop (n0 + 1), ?_, ?_, ?_⟩
      · obtain ⟨x, y, z, e⟩ := d7
        exact ⟨x, y, z, s711 _ _ e⟩
      · rw [List.map_append, List.map_append]
        exact h11
      · rw [List.length_append, List.length_append, List.length_take, List.length_drop]
        show _ + 1 + _ ≤ _
        omega
      · intro x hx
        rcases List.mem_append.mp hx with hx | hx
        · rcases List.mem_append.mp hx with hx | hx
          · have := ic x (List.mem_of_mem_take hx)
            omega
          · rw [List.mem_singleton] at hx
            subst hx
            split <;> omega
        · have := ic x (List.mem_of_mem_drop hx)
          omega
    · walk_at "wz"
      exact ⟨_, rc, rfl, c4, d4, hc4, hd4, lowc hc4⟩
  rintro σ5 H5 ⟨y5, rn, rfl, c5, d5, hc5, hd5, ln⟩
  obtain ⟨nn, hn5, lnn, inn⟩ := id ln
  walk_at "st"
  refine s_forT 6 B.ps B.calm B.nd n_value (Or.inl l_value) ?_ (hf := .inr l_value)
  walk_at "ex"
  walk_at "wz"
  refine c_lstL (Or.inr hn5) fun la hla => ?_
  have c6 : Ch p H (upd H5 la (.lst (nn.map V.int))) := c5.new hla
  have d6 : Dice (upd H5 la (.lst (nn.map V.int))) p := d5.new hla
  have k6 : Same H5 (upd H5 la (.lst (nn.map V.int))) := (Same.refl H5).new hla
  walk_at "wz"
  refine ⟨p, la, _, rfl, d6, upd_same, d5.off hla, by rw [List.length_map]; omega, fun lm ms H7 c7 d7 hlm lmp _ pm => ?_⟩
  obtain ⟨ms, rfl, pm2⟩ := perm_ints pm
  have hc7 := tup_ch c7 d6.noTup (same_tup k6 hc5)
  have hd7 := tup_ch c7 d6.noTup (same_tup k6 hd5)
  have hn7 := tup_ch c7 d6.noTup (same_tup k6 hn5)
  walk_at "wz"
  refine c_tupL (SqL.of hlm) fun rm hrm => ?_
  walk_at "wz"
  refine ⟨by show 1 ≤ sizeLine; omega, fun t8 ht8 => ?_⟩
  have s8 : Same H7 (upd (upd H7 rm (.tup (ms.map V.int))) t8 (.tup [.int 0])) := ((Same.refl H7).new hrm).new ht8
  have hm8 : SqT X.K (upd (upd H7 rm (.tup (ms.map V.int))) t8 (.tup [.int 0])) rm (ms.map V.int) := SqT.of (upd_keep ht8 upd_same)
  refine o_cat (same_tup s8 hc7) (SqT.of upd_same) (by rw [List.length_map]; show _ + 1 ≤ _; omega) fun r9 H9 s9 h9 => ?_
  walk_at "wz"
  refine e_slSN ?_
  walk_at "wz"
  refine ⟨rc, _, rfl, same_tup (s8.trans s9) hc7, fun r10 H10 s10 h10 => ?_⟩
  walk_at "wz"
  refine ⟨by show 6 ≤ sizeLine; omega, fun t11 ht11 => ?_⟩
  have s11 : Same H7 (upd H10 t11 (.tup [.ref rc, .ref rd, .ref rn, .ref rm, .ref r9, .ref r10])) := ((s8.trans s9).trans s10).new ht11
  have c11 : Ch p H (upd H10 t11 (.tup [.ref rc, .ref rd, .ref rn, .ref rm, .ref r9, .ref r10])) := (c6.trans c7).trans (Ch.of s11)
  have d11 : Dice (upd H10 t11 (.tup [.ref rc, .ref rd, .ref rn, .ref rm, .ref r9, .ref r10])) p := by
    obtain ⟨x, y, z, e⟩ := d7
    exact ⟨x, y, z, s11 _ _ e⟩
  have hc11 := same_tup s11 hc7
  have lows : ∀ v ∈ [V.ref rc, .ref rd, .ref rn, .ref rm, .ref r9, .ref r10], ∃ r, v = .ref r ∧ LowT X.K (upd H10 t11 (.tup [.ref rc, .ref rd, .ref rn, .ref rm, .ref r9, .ref r10])) r := by
    intro v hv
    have k10 : Same H10 (upd H10 t11 (.tup [.ref rc, .ref rd, .ref rn, .ref rm, .ref r9, .ref r10])) := (Same.refl H10).new ht11
    simp only [List.mem_cons, List.not_mem_nil, or_false] at hv
    rcases hv with rfl | rfl | rfl | rfl | rfl | rfl
    · exact ⟨rc, rfl, lowc hc11⟩
    · exact ⟨rd, rfl, lowd (same_tup s11 hd7)⟩
    · exact ⟨rn, rfl, nn, same_tup s11 hn7, lnn, inn⟩
    · refine ⟨rm, rfl, ms, same_tup ((s9.trans s10).trans k10) hm8, by rw [pm2.length_eq]; exact lnn, fun x hx => inn x (pm2.mem_iff.mp hx)⟩
    · refine ⟨r9, rfl, cs ++ [0], by rw [List.map_append]; exact same_tup (s10.trans k10) h9, by rw [List.length_append]; show _ + 1 ≤ _; omega, fun x hx => ?_⟩
      rcases List.mem_append.mp hx with hx | hx
      · have := ic x hx
        omega
      · rw [List.mem_singleton] at hx
        subst hx
        omega
    · rw [show (1 : Int) = ((1 : Nat) : Int) by rfl] at h10
      by_cases e : 1 ≤ cs.length
      · rw [cut_i _ (by rw [List.length_map]; exact e), ← List.map_drop] at h10
        refine ⟨r10, rfl, cs.drop 1, same_tup k10 h10, by rw [List.length_drop]; omega, fun x hx => ?_⟩
        have := ic x (List.mem_of_mem_drop hx)
        omega
      · have : cs = [] := List.eq_nil_of_length_eq_zero (by omega)
        subst this
        refine ⟨r10, rfl, [], same_tup k10 ?_, by decide, fun x hx => by simp at hx⟩
        exact h10
  have hs11 : SqT X.K (upd H10 t11 (.tup [.ref rc, .ref rd, .ref rn, .ref rm, .ref r9, .ref r10])) t11 [.ref rc, .ref rd, .ref rn, .ref rm, .ref r9, .ref r10] := SqT.of upd_same
  generalize upd H10 t11 (.tup [.ref rc, .ref rd, .ref rn, .ref rm, .ref r9, .ref r10]) = Hb at s11 c11 d11 hc11 lows hs11
  refine ⟨t11, _, rfl, hs11, fun k σ H' => ∃ y6 y7, σ = [some (.ref p), some (.int P), some (.ref rc), some (.ref rd), some (.ref rn), y5, y6, y7, none, none] ∧ Same Hb H', ?_, ?_, ?_, ?_⟩
  · exact ⟨_, _, rfl, Same.refl _⟩
  · rintro k σ H' hk ⟨y6, y7, rfl, sm⟩
    exact same_tup sm hs11
  · rintro k v σ H12 hk ⟨y6, y7, rfl, sm⟩
    obtain ⟨r, rfl, lr⟩ := lows v (List.mem_of_getElem? hk)
    obtain ⟨ns, hns, hnl, hni⟩ := lr.same sm
    have call : ∀ {Q' : VK} {H' : Hp}, Same H12 H' → (∀ H2, Same H' H2 → Q' (.bl (fitC (P.toNat - 1) ns)) H2) → sp_is_code X.K [.int P, .ref r] H' Q' E0 := by
      intro Q' H' s' k'
      refine ⟨P, .ref r, rfl, P1, P12, .inr ⟨r, _, rfl, same_tup s' hns, by rw [List.length_map]; omega, okv_ints, fun H2 s2 => ?_⟩⟩
      rw [isCd_due P1 hni]
      exact k' H2 s2
    refine b_mid (fun σ' H' => σ' = [some (.ref p), some (.int P), some (.ref rc), some (.ref rd), some (.ref rn), y5, some (.ref r), some (.bl (fitC (P.toNat - 1) ns)), none, none] ∧ Same H12 H') ?_ ?_
    · walk_at "wz"
      refine c_lenT hns ?_
      rw [List.length_map]
      walk_at "wz"
      by_cases e : ns.length = P.toNat - 1
      · refine iteD (fun _ => ?_) (fun z => absurd (by congr 1; omega) z)
        walk_at "wz"
        refine ⟨r, P.toNat - 1, ns, by congr 2; congr 1; omega, hns, e, by omega, fun x hx => by have := hni x hx; omega, fun H' s' => ?_⟩
        have e2 : fitC (P.toNat - 1) ns = decide (good (P.toNat - 1) ns) := by unfold fitC; rw [decide_eq_true e, Bool.true_and]
        rw [e2]
        exact ⟨rfl, s'⟩
      · refine iteD (fun z => absurd (V.int.inj z) (by omega)) (fun _ => ?_)
        rw [fitC_len e]
        exact ⟨rfl, Same.refl _⟩
    rintro σ6 H13 ⟨rfl, s13⟩
    walk_at "wz"
    refine call s13 fun H14 s14 => ?_
    walk_at "wz"
    refine c_reprB G B.room.units ?_
    walk_at "wz"
    refine c_reprB G B.room.units ?_
    walk_at "wz"
    refine iteND (fun z => absurd rfl z) (fun _ => ?_)
    have s1214 := s13.trans s14
    walk_at "wz"
    refine c_lenT (same_tup s1214 hns) ?_
    rw [List.length_map]
    walk_at "wz"
    by_cases e : ns.length = P.toNat - 1
    · refine iteD (fun _ => ?_) (fun z => absurd (by congr 1; omega) z)
      walk_at "wz"
      refine e_fT 9 B (blkOk_by (by decide +kernel)) rfl rfl ?_
      walk_at "wz"
      refine ⟨r, ns.map V.int, fun i => (fun x : Int => decide (P ≤ x)) (ns.getD i 0), fun i => V.int (ns.getD i 0), rfl, same_tup s1214 hns, by rw [List.length_map]; omega, ?_, ?_⟩
      · intro i v H15 hv s15 X' bk
        have B' := bk.bd B
        have n_letter : X'.N[9]? = some ("letter" : Str) := B'.slot 9 rfl
        have l_letter : X'.env.scope.names.lookup ("letter" : Str) = some NameKind.local := B'.loc rfl
        have n_places : X'.N[1]? = some ("places" : Str) := B'.slot 1 rfl
        have l_places : X'.env.scope.names.lookup ("places" : Str) = some NameKind.cell := B'.cel rfl
        have T' : Tx X'.K X'.mg := by rw [bk.K, bk.mg]; exact T
        rw [List.getElem?_map] at hv
        cases hi : ns[i]? with
        | none => rw [hi] at hv; cases hv
        | some x =>
          rw [hi] at hv
          cases hv
          walk_at "wz"
          refine ⟨by show _ = decide (P ≤ ns.getD i 0); rw [getD_of hi], Same.refl _, fun _ X' bk => ?_⟩
          have B' := bk.bd B
          have n_letter : X'.N[9]? = some ("letter" : Str) := B'.slot 9 rfl
          have l_letter : X'.env.scope.names.lookup ("letter" : Str) = some NameKind.local := B'.loc rfl
          have T' : Tx X'.K X'.mg := by rw [bk.K, bk.mg]; exact T
          walk_at "wz"
          exact ⟨by show V.int x = V.int (ns.getD i 0); rw [getD_of hi], Same.refl _⟩
      · intro D15 H15 hD15 s15 hD
        rw [List.length_map, filt_at ns 0 (fun x => decide (P ≤ x)) V.int] at hD
        walk_at "wz"
        refine ⟨by show 0 ≤ sizeLine; omega, fun l16 hl16 => ?_⟩
        refine o_eqL B.room.units (ms := []) (SqL.of (upd_keep hl16 hD)) (SqL.of upd_same) ?_
        have s16 := (s1214.trans s15).new (o := .lst []) hl16
        refine ⟨_, rfl, iteD (fun e2 => ?_) (fun _ => ?_)⟩
        · rw [List.filter_eq_nil_iff] at e2
          have hin : ∀ x ∈ ns, 0 ≤ x ∧ x < P := fun x hx => by
            have h1 := hni x hx
            have h2 := e2 x hx
            have h3 : ¬ P ≤ x := by simpa using h2
            omega
          walk_at "wz"
          refine ⟨P, r, ns, rfl, P1, P12, same_tup s16 hns, e, hin, fun H17 s17 => ?_⟩
          walk_at "wz"
          have e3 : fitC (P.toNat - 1) ns = decide (good (P.toNat - 1) ns) := by unfold fitC; rw [decide_eq_true e, Bool.true_and]
          have e4 : (if fitC (P.toNat - 1) ns = true then (1 : Int) else 0) = if good (P.toNat - 1) ns then 1 else 0 := by
            rw [e3]
            by_cases g : good (P.toNat - 1) ns
            · rw [decide_eq_true g, if_pos rfl, if_pos g]
            · rw [decide_eq_false g, if_neg Bool.false_ne_true, if_neg g]
          rw [e4]
          refine iteND (fun z => absurd rfl z) (fun _ => ?_)
          walk_at "wz"
          exact ⟨_, _, rfl, (sm.trans s16).trans s17⟩
        · walk_at "wz"
          exact ⟨_, _, rfl, sm.trans s16⟩
    · refine iteD (fun z => absurd (V.int.inj z) (by omega)) (fun _ => ?_)
      walk_at "wz"
      exact ⟨_, _, rfl, sm.trans s1214⟩
  · rintro σ H' ⟨y6, y7, rfl, sm⟩
    have hcb := same_tup sm hc11
    have cb : Ch p H H' := c11.trans (Ch.of sm)
    have db : Dice H' p := by
      obtain ⟨x, y, z, e⟩ := d11
      exact ⟨x, y, z, sm _ _ e⟩
    exact right_tail B F G T z1000 P1 P12 hcb lc ic (fun H2 s2 => q H2 (cb.trans (Ch.of s2)) (by obtain ⟨x, y, z, e⟩ := db; exact ⟨x, y, z, s2 _ _ e⟩))
theorem len__law_right {K : PySem.W.Frag} : ∀ vs H Q E, sp__law_right K vs H Q E → vs.length = 1 := by
  intro vs H Q E h
  obtain ⟨_, e, _⟩ := h
  rw [e]; rfl
theorem D__law_right {P : Program} {w : World} {K : PySem.W.Frag} {mg : Str → Option Value} {base : Heap} (T : Tx K mg) : Df P w K mg base "_law_right" 5 ["dice"] (sp__law_right K) :=
  df_of T.d__law_right sc__law_right (fun _ _ _ _ _ _ us hl => match us, hl with | [_], _ => rfl) len__law_right (fun X e1 e2 e3 e4 e5 B F G vs H Q E h => by subst e1 e2 e3 e4 e5; exact b__law_right B F G T h)
local macro_rules | `(tactic| walk_at "cl") => `(tactic| (refine' e_call (D__law_right ‹Tx _ _›) (by assumption) ?rm ?gl ?_; (case rm => exact ‹Bd _ _ _ _›.room.mono (by decide)); (case gl => with_reducible assumption)))

theorem cd1 : isCd 4 [.int 2, .int 0, .int 0] = true := by decide +kernel
theorem cd2 : isCd 4 [.int 2, .int 1, .int 1] = false := by decide +kernel
theorem cd3 : isCd 1 [] = true := by decide +kernel
theorem cd4 : isCd 2 [.int 1] = false := by decide +kernel
def sp_law0 (K : PySem.W.Frag) : Sp := fun vs H Q _ => ∃ a, vs = [.ref a] ∧ ∃ ns : List Int, SqL K H a (ns.map V.int) ∧ ns.length ≤ 63 ∧ ∀ H', Q (.bl true) H'
def sp_law (K : PySem.W.Frag) : Sp := sp_law0 K
theorem b_law {X : Cx} (B : Bd X N_law (defScope S_law) 5) (F : ∀ x, X.fn x = true) (G : X.A.guards = some []) (T : Tx X.K X.mg) {vs : List V} {H : Hp} {Q : VK} {E : XK} (h : sp_law X.K vs H Q E) :
    wB X (defBody S_law) { nx := fun _ H' => Q .non H', rt := Q } (start N_law vs) H := by
  have n_script : X.N[0]? = some ("script" : Str) := B.slot 0 rfl
  have l_script : X.env.scope.names.lookup ("script" : Str) = some NameKind.local := B.loc rfl
  have n_spot : X.N[1]? = some ("spot" : Str) := B.slot 1 rfl
  have l_spot : X.env.scope.names.lookup ("spot" : Str) = some NameKind.local := B.loc rfl
  have n_dice : X.N[2]? = some ("dice" : Str) := B.slot 2 rfl
  have l_dice : X.env.scope.names.lookup ("dice" : Str) = some NameKind.local := B.loc rfl
  have n_turn : X.N[3]? = some ("turn" : Str) := B.slot 3 rfl
  have l_turn : X.env.scope.names.lookup ("turn" : Str) = some NameKind.local := B.loc rfl
  have g_range : Gl X "range" := B.gl rfl
  have z_range := T.z_range
  have v_range := bb_range
  have g_max : Gl X "max" := B.gl rfl
  have z_max := T.z_max
  have v_max := bb_max
  have g_min : Gl X "min" := B.gl rfl
  have z_min := T.z_min
  have v_min := bb_min
  have g_len : Gl X "len" := B.gl rfl
  have z_len := T.z_len
  have v_len := bb_len
  have g__law_dice : Gl X "_law_dice" := B.gl rfl
  have g__law_right : Gl X "_law_right" := B.gl rfl
  have g_is_code : Gl X "is_code" := B.gl rfl
  obtain ⟨a, rfl, ns, hs, hn, q⟩ := h
  walk_at "wz"
  refine s_forR1 1 B.ps B.calm g_range z_range B.nd n_spot (Or.inl l_spot) ?_ (hf := .inr l_spot)
  walk_at "wz"
  refine c_lenL hs ?_
  walk_at "wz"
  rw [List.length_map]
  refine ⟨(max 1 (min 8 ns.length)), ?_, by omega, fun k σ H1 => ∃ y1 y2 y3, σ = [some (.ref a), y1, y2, y3] ∧ Same H H1, ?_, ?_, ?_⟩
  · congr 1
    split <;> split <;> omega
  · exact ⟨_, _, _, rfl, Same.refl H⟩
  · rintro k σ H1 hk ⟨y1, y2, y3, rfl, sm⟩
    walk_at "wz"
    refine ⟨a, (k : Int), rfl, ⟨ns, sm.seq hs⟩, rfl, by omega, fun p x y hp => ?_⟩
    walk_at "wz"
    have p0 : H p = none := sm.free hp
    refine s_forR1 3 B.ps B.calm g_range z_range B.nd n_turn (Or.inl l_turn) ?_ (hf := .inr l_turn)
    walk_at "wz"
    refine ⟨by decide, fun k2 σ H2 => ∃ y3, σ = [some (.ref a), some (.int (k : Int)), some (.ref p), y3] ∧ Same H H2 ∧ Dice H2 p, ?_, ?_, ?_⟩
    · exact ⟨_, rfl, sm.new hp, x, y, 0, upd_same⟩
    · rintro k2 σ H2 hk2 ⟨y3, rfl, sm2, d2⟩
      walk_at "wz"
      refine ⟨p, rfl, d2, fun H3 c3 d3 => ?_⟩
      walk_at "wz"
      exact ⟨sm2.ch p0 c3, d3⟩
    · rintro σ H2 ⟨y3, rfl, sm2, d2⟩
      exact ⟨_, _, _, rfl, sm2⟩
  · rintro σ H1 ⟨y1, y2, y3, rfl, sm⟩
    have okl : ∀ {K : PySem.W.Frag} {H : Hp} (ns : List Int), ∀ x ∈ ns.map V.int, Okv K H x := fun ns => okv_ints
    walk_at "wz"
    refine ⟨by show 3 ≤ sizeLine; decide, fun t1 ht1 => ?_⟩
    walk_at "wz"
    refine ⟨4, .ref t1, rfl, by decide, by decide, .inr ⟨t1, _, rfl, SqT.of upd_same, by show 3 ≤ 1000; decide, okl [2, 0, 0], fun H2 s2 => ?_⟩⟩
    rw [cd1]
    walk_at "wz"
    refine ⟨by show 3 ≤ sizeLine; decide, fun t3 ht3 => ?_⟩
    walk_at "wz"
    refine ⟨4, .ref t3, rfl, by decide, by decide, .inr ⟨t3, _, rfl, SqT.of upd_same, by show 3 ≤ 1000; decide, okl [2, 1, 1], fun H4 s4 => ?_⟩⟩
    rw [cd2]
    walk_at "wz"
    refine ⟨by show 0 ≤ sizeLine; decide, fun t5 ht5 => ?_⟩
    walk_at "wz"
    refine ⟨1, .ref t5, rfl, by decide, by decide, .inr ⟨t5, _, rfl, SqT.of upd_same, by show 0 ≤ 1000; decide, okl [], fun H6 s6 => ?_⟩⟩
    rw [cd3]
    walk_at "wz"
    refine ⟨by show 1 ≤ sizeLine; decide, fun t7 ht7 => ?_⟩
    walk_at "wz"
    refine ⟨2, .ref t7, rfl, by decide, by decide, .inr ⟨t7, _, rfl, SqT.of upd_same, by show 1 ≤ 1000; decide, okl [1], fun H8 s8 => ?_⟩⟩
    rw [cd4]
    walk_at "wz"
    refine ⟨by show 4 ≤ sizeLine; decide, fun l1 hl1 => ?_⟩
    walk_at "wz"
    refine ⟨by show 4 ≤ sizeLine; decide, fun l2 hl2 => ?_⟩
    refine o_eqD B.room.units (d := .list [.bool true, .bool false, .bool true, .bool false]) (e := .list [.bool true, .bool false, .bool true, .bool false])
      (.lst (SqL.of (upd_keep hl2 upd_same)) (.cons (.bl _) (.cons (.bl _) (.cons (.bl _) (.cons (.bl _) .nil)))))
      (.lst (SqL.of upd_same) (.cons (.bl _) (.cons (.bl _) (.cons (.bl _) (.cons (.bl _) .nil)))))
      (by decide +kernel) (by decide +kernel) ?_
    rw [show PyData.eqv (.list [.bool true, .bool false, .bool true, .bool false]) (.list [.bool true, .bool false, .bool true, .bool false]) = true by decide +kernel]
    exact q _

theorem len_law {K : PySem.W.Frag} : ∀ vs H Q E, sp_law0 K vs H Q E → vs.length = 1 := by
  intro vs H Q E h
  obtain ⟨_, e, _⟩ := h
  rw [e]; rfl
theorem all_mk {l : PySem.W.OpenLaw} {w : World} {K : PySem.W.Frag} {h : Heap} {mg : Str → Option Value} {fa : Addr} (X : K.In h) (G : h.Ns mainGlobals mg) (hfa : mg "law" = some (.ref fa))
    
    (z_abs : PySem.W.nsIn K mainGlobals "abs" = some none)
    (z_all : PySem.W.nsIn K mainGlobals "all" = some none)
    (z_bool : PySem.W.nsIn K mainGlobals "bool" = some none)
    (z_enumerate : PySem.W.nsIn K mainGlobals "enumerate" = some none)
    (z_int : PySem.W.nsIn K mainGlobals "int" = some none)
    (z_isinstance : PySem.W.nsIn K mainGlobals "isinstance" = some none)
    (z_len : PySem.W.nsIn K mainGlobals "len" = some none)
    (z_list : PySem.W.nsIn K mainGlobals "list" = some none)
    (z_max : PySem.W.nsIn K mainGlobals "max" = some none)
    (z_min : PySem.W.nsIn K mainGlobals "min" = some none)
    (z_range : PySem.W.nsIn K mainGlobals "range" = some none)
    (z_repr : PySem.W.nsIn K mainGlobals "repr" = some none)
    (z_sorted : PySem.W.nsIn K mainGlobals "sorted" = some none)
    (z_sum : PySem.W.nsIn K mainGlobals "sum" = some none)
    (z_tuple : PySem.W.nsIn K mainGlobals "tuple" = some none)
    (m_comb : PySem.W.nsIn K mainGlobals "comb" = some (some (.builtin "math.comb")))
    {t_MAX_PLACES : Tok} (c_MAX_PLACES : PySem.W.nsIn K mainGlobals "MAX_PLACES" = some (some (Value.int 12 t_MAX_PLACES)))
    {t__TOO_LONG : Tok} (c__TOO_LONG : PySem.W.nsIn K mainGlobals "_TOO_LONG" = some (some (Value.int 100000000000000000000000000000000000000000000000000000000000000000000000000000000000000000000000000000000000000000000000000000000000000000000000000000000000000000000000000000000000000000000000000000000 t__TOO_LONG)))
    {f_is_integer : Addr} (a_is_integer : PySem.W.nsIn K mainGlobals "is_integer" = some (some (.ref f_is_integer)))
    {od_is_integer an_is_integer : Option Addr} {sl_is_integer : Array (Option Value)} {oc_is_integer kV_is_integer dc_is_integer pm_is_integer cd_is_integer ct_is_integer : Value} (l_is_integer : K.lookup f_is_integer = some ⟨oc_is_integer, od_is_integer, .func (PySem.W.fnOf "is_integer" "is_integer" (defArgs S_is_integer) (defBody S_is_integer) (defScope S_is_integer) .none kV_is_integer dc_is_integer pm_is_integer an_is_integer cd_is_integer ct_is_integer), sl_is_integer⟩) (i_is_integer : PySem.W.codeIn K cd_is_integer "is_integer" = true) (k_is_integer : PySem.W.keepIn K (.ref f_is_integer) = true)
    {f_is_below : Addr} (a_is_below : PySem.W.nsIn K mainGlobals "is_below" = some (some (.ref f_is_below)))
    {od_is_below an_is_below : Option Addr} {sl_is_below : Array (Option Value)} {oc_is_below kV_is_below dc_is_below pm_is_below cd_is_below ct_is_below : Value} (l_is_below : K.lookup f_is_below = some ⟨oc_is_below, od_is_below, .func (PySem.W.fnOf "is_below" "is_below" (defArgs S_is_below) (defBody S_is_below) (defScope S_is_below) .none kV_is_below dc_is_below pm_is_below an_is_below cd_is_below ct_is_below), sl_is_below⟩) (i_is_below : PySem.W.codeIn K cd_is_below "is_below" = true) (k_is_below : PySem.W.keepIn K (.ref f_is_below) = true)
    {f_check_number : Addr} (a_check_number : PySem.W.nsIn K mainGlobals "check_number" = some (some (.ref f_check_number)))
    {od_check_number an_check_number : Option Addr} {sl_check_number : Array (Option Value)} {oc_check_number kV_check_number dc_check_number pm_check_number cd_check_number ct_check_number : Value} (l_check_number : K.lookup f_check_number = some ⟨oc_check_number, od_check_number, .func (PySem.W.fnOf "check_number" "check_number" (defArgs S_check_number) (defBody S_check_number) (defScope S_check_number) .none kV_check_number dc_check_number pm_check_number an_check_number cd_check_number ct_check_number), sl_check_number⟩) (i_check_number : PySem.W.codeIn K cd_check_number "check_number" = true) (k_check_number : PySem.W.keepIn K (.ref f_check_number) = true)
    {f_check_places : Addr} (a_check_places : PySem.W.nsIn K mainGlobals "check_places" = some (some (.ref f_check_places)))
    {od_check_places an_check_places : Option Addr} {sl_check_places : Array (Option Value)} {oc_check_places kV_check_places dc_check_places pm_check_places cd_check_places ct_check_places : Value} (l_check_places : K.lookup f_check_places = some ⟨oc_check_places, od_check_places, .func (PySem.W.fnOf "check_places" "check_places" (defArgs S_check_places) (defBody S_check_places) (defScope S_check_places) .none kV_check_places dc_check_places pm_check_places an_check_places cd_check_places ct_check_places), sl_check_places⟩) (i_check_places : PySem.W.codeIn K cd_check_places "check_places" = true) (k_check_places : PySem.W.keepIn K (.ref f_check_places) = true)
    {f__fit_ring : Addr} (a__fit_ring : PySem.W.nsIn K mainGlobals "_fit_ring" = some (some (.ref f__fit_ring)))
    {od__fit_ring an__fit_ring : Option Addr} {sl__fit_ring : Array (Option Value)} {oc__fit_ring kV__fit_ring dc__fit_ring pm__fit_ring cd__fit_ring ct__fit_ring : Value} (l__fit_ring : K.lookup f__fit_ring = some ⟨oc__fit_ring, od__fit_ring, .func (PySem.W.fnOf "_fit_ring" "_fit_ring" (defArgs S__fit_ring) (defBody S__fit_ring) (defScope S__fit_ring) .none kV__fit_ring dc__fit_ring pm__fit_ring an__fit_ring cd__fit_ring ct__fit_ring), sl__fit_ring⟩) (i__fit_ring : PySem.W.codeIn K cd__fit_ring "_fit_ring" = true) (k__fit_ring : PySem.W.keepIn K (.ref f__fit_ring) = true)
    {f__are_lows : Addr} (a__are_lows : PySem.W.nsIn K mainGlobals "_are_lows" = some (some (.ref f__are_lows)))
    {od__are_lows an__are_lows : Option Addr} {sl__are_lows : Array (Option Value)} {oc__are_lows kV__are_lows dc__are_lows pm__are_lows cd__are_lows ct__are_lows : Value} (l__are_lows : K.lookup f__are_lows = some ⟨oc__are_lows, od__are_lows, .func (PySem.W.fnOf "_are_lows" "_are_lows" (defArgs S__are_lows) (defBody S__are_lows) (defScope S__are_lows) .none kV__are_lows dc__are_lows pm__are_lows an__are_lows cd__are_lows ct__are_lows), sl__are_lows⟩) (i__are_lows : PySem.W.codeIn K cd__are_lows "_are_lows" = true) (k__are_lows : PySem.W.keepIn K (.ref f__are_lows) = true)
    {f_is_code : Addr} (a_is_code : PySem.W.nsIn K mainGlobals "is_code" = some (some (.ref f_is_code)))
    {od_is_code an_is_code : Option Addr} {sl_is_code : Array (Option Value)} {oc_is_code kV_is_code dc_is_code pm_is_code cd_is_code ct_is_code : Value} (l_is_code : K.lookup f_is_code = some ⟨oc_is_code, od_is_code, .func (PySem.W.fnOf "is_code" "is_code" (defArgs S_is_code) (defBody S_is_code) (defScope S_is_code) .none kV_is_code dc_is_code pm_is_code an_is_code cd_is_code ct_is_code), sl_is_code⟩) (i_is_code : PySem.W.codeIn K cd_is_code "is_code" = true) (k_is_code : PySem.W.keepIn K (.ref f_is_code) = true)
    {f_count_behind : Addr} (a_count_behind : PySem.W.nsIn K mainGlobals "count_behind" = some (some (.ref f_count_behind)))
    {od_count_behind an_count_behind : Option Addr} {sl_count_behind : Array (Option Value)} {oc_count_behind kV_count_behind dc_count_behind pm_count_behind cd_count_behind ct_count_behind : Value} (l_count_behind : K.lookup f_count_behind = some ⟨oc_count_behind, od_count_behind, .func (PySem.W.fnOf "count_behind" "count_behind" (defArgs S_count_behind) (defBody S_count_behind) (defScope S_count_behind) .none kV_count_behind dc_count_behind pm_count_behind an_count_behind cd_count_behind ct_count_behind), sl_count_behind⟩) (i_count_behind : PySem.W.codeIn K cd_count_behind "count_behind" = true) (k_count_behind : PySem.W.keepIn K (.ref f_count_behind) = true)
    {f__law_dice : Addr} (a__law_dice : PySem.W.nsIn K mainGlobals "_law_dice" = some (some (.ref f__law_dice)))
    {od__law_dice an__law_dice : Option Addr} {sl__law_dice : Array (Option Value)} {oc__law_dice kV__law_dice dc__law_dice pm__law_dice cd__law_dice ct__law_dice : Value} (l__law_dice : K.lookup f__law_dice = some ⟨oc__law_dice, od__law_dice, .func (PySem.W.fnOf "_law_dice" "_law_dice" (defArgs S__law_dice) (defBody S__law_dice) (defScope S__law_dice) .none kV__law_dice dc__law_dice pm__law_dice an__law_dice cd__law_dice ct__law_dice), sl__law_dice⟩) (i__law_dice : PySem.W.codeIn K cd__law_dice "_law_dice" = true) (k__law_dice : PySem.W.keepIn K (.ref f__law_dice) = true)
    {f__law_roll : Addr} (a__law_roll : PySem.W.nsIn K mainGlobals "_law_roll" = some (some (.ref f__law_roll)))
    {od__law_roll an__law_roll : Option Addr} {sl__law_roll : Array (Option Value)} {oc__law_roll kV__law_roll dc__law_roll pm__law_roll cd__law_roll ct__law_roll : Value} (l__law_roll : K.lookup f__law_roll = some ⟨oc__law_roll, od__law_roll, .func (PySem.W.fnOf "_law_roll" "_law_roll" (defArgs S__law_roll) (defBody S__law_roll) (defScope S__law_roll) .none kV__law_roll dc__law_roll pm__law_roll an__law_roll cd__law_roll ct__law_roll), sl__law_roll⟩) (i__law_roll : PySem.W.codeIn K cd__law_roll "_law_roll" = true) (k__law_roll : PySem.W.keepIn K (.ref f__law_roll) = true)
    {f__law_mixed : Addr} (a__law_mixed : PySem.W.nsIn K mainGlobals "_law_mixed" = some (some (.ref f__law_mixed)))
    {od__law_mixed an__law_mixed : Option Addr} {sl__law_mixed : Array (Option Value)} {oc__law_mixed kV__law_mixed dc__law_mixed pm__law_mixed cd__law_mixed ct__law_mixed : Value} (l__law_mixed : K.lookup f__law_mixed = some ⟨oc__law_mixed, od__law_mixed, .func (PySem.W.fnOf "_law_mixed" "_law_mixed" (defArgs S__law_mixed) (defBody S__law_mixed) (defScope S__law_mixed) .none kV__law_mixed dc__law_mixed pm__law_mixed an__law_mixed cd__law_mixed ct__law_mixed), sl__law_mixed⟩) (i__law_mixed : PySem.W.codeIn K cd__law_mixed "_law_mixed" = true) (k__law_mixed : PySem.W.keepIn K (.ref f__law_mixed) = true)
    {f__law_drawn_code : Addr} (a__law_drawn_code : PySem.W.nsIn K mainGlobals "_law_drawn_code" = some (some (.ref f__law_drawn_code)))
    {od__law_drawn_code an__law_drawn_code : Option Addr} {sl__law_drawn_code : Array (Option Value)} {oc__law_drawn_code kV__law_drawn_code dc__law_drawn_code pm__law_drawn_code cd__law_drawn_code ct__law_drawn_code : Value} (l__law_drawn_code : K.lookup f__law_drawn_code = some ⟨oc__law_drawn_code, od__law_drawn_code, .func (PySem.W.fnOf "_law_drawn_code" "_law_drawn_code" (defArgs S__law_drawn_code) (defBody S__law_drawn_code) (defScope S__law_drawn_code) .none kV__law_drawn_code dc__law_drawn_code pm__law_drawn_code an__law_drawn_code cd__law_drawn_code ct__law_drawn_code), sl__law_drawn_code⟩) (i__law_drawn_code : PySem.W.codeIn K cd__law_drawn_code "_law_drawn_code" = true) (k__law_drawn_code : PySem.W.keepIn K (.ref f__law_drawn_code) = true)
    {f__law_parks : Addr} (a__law_parks : PySem.W.nsIn K mainGlobals "_law_parks" = some (some (.ref f__law_parks)))
    {od__law_parks an__law_parks : Option Addr} {sl__law_parks : Array (Option Value)} {oc__law_parks kV__law_parks dc__law_parks pm__law_parks cd__law_parks ct__law_parks : Value} (l__law_parks : K.lookup f__law_parks = some ⟨oc__law_parks, od__law_parks, .func (PySem.W.fnOf "_law_parks" "_law_parks" (defArgs S__law_parks) (defBody S__law_parks) (defScope S__law_parks) .none kV__law_parks dc__law_parks pm__law_parks an__law_parks cd__law_parks ct__law_parks), sl__law_parks⟩) (i__law_parks : PySem.W.codeIn K cd__law_parks "_law_parks" = true) (k__law_parks : PySem.W.keepIn K (.ref f__law_parks) = true)
    {f__law_right : Addr} (a__law_right : PySem.W.nsIn K mainGlobals "_law_right" = some (some (.ref f__law_right)))
    {od__law_right an__law_right : Option Addr} {sl__law_right : Array (Option Value)} {oc__law_right kV__law_right dc__law_right pm__law_right cd__law_right ct__law_right : Value} (l__law_right : K.lookup f__law_right = some ⟨oc__law_right, od__law_right, .func (PySem.W.fnOf "_law_right" "_law_right" (defArgs S__law_right) (defBody S__law_right) (defScope S__law_right) .none kV__law_right dc__law_right pm__law_right an__law_right cd__law_right ct__law_right), sl__law_right⟩) (i__law_right : PySem.W.codeIn K cd__law_right "_law_right" = true) (k__law_right : PySem.W.keepIn K (.ref f__law_right) = true)
    {f_law : Addr} (a_law : PySem.W.nsIn K mainGlobals "law" = some (some (.ref f_law)))
    {od_law an_law : Option Addr} {sl_law : Array (Option Value)} {oc_law kV_law dc_law pm_law cd_law ct_law : Value} (l_law : K.lookup f_law = some ⟨oc_law, od_law, .func (PySem.W.fnOf "law" "law" (defArgs S_law) (defBody S_law) (defScope S_law) .none kV_law dc_law pm_law an_law cd_law ct_law), sl_law⟩) (i_law : PySem.W.codeIn K cd_law "law" = true) (k_law : PySem.W.keepIn K (.ref f_law) = true) :
    ∃ fd : FuncData, (∀ (s : Shared) (v : Value), BindsTo s fd ⟨[v], []⟩ [("script", v)]) ∧ ∀ base : Heap, K.In base → base.Ns mainGlobals mg → FnG l.prog w K mg base CX0 6 fa fd ["script"] (sp_law0 K) := by
  have e := hfa.symm.trans (PySem.W.mg_of X G a_law)
  cases e
  have T : Tx K mg := ⟨PySem.W.mg_none_of X G z_abs, PySem.W.mg_none_of X G z_all, PySem.W.mg_none_of X G z_bool, PySem.W.mg_none_of X G z_enumerate, PySem.W.mg_none_of X G z_int, PySem.W.mg_none_of X G z_isinstance, PySem.W.mg_none_of X G z_len, PySem.W.mg_none_of X G z_list, PySem.W.mg_none_of X G z_max, PySem.W.mg_none_of X G z_min, PySem.W.mg_none_of X G z_range, PySem.W.mg_none_of X G z_repr, PySem.W.mg_none_of X G z_sorted, PySem.W.mg_none_of X G z_sum, PySem.W.mg_none_of X G z_tuple, PySem.W.mg_of X G m_comb, ⟨_, PySem.W.mg_of X G c_MAX_PLACES⟩, ⟨_, PySem.W.mg_of X G c__TOO_LONG⟩, ⟨_, _, fun_mk (st := S_is_integer) l_is_integer i_is_integer k_is_integer, PySem.W.mg_of X G a_is_integer⟩, ⟨_, _, fun_mk (st := S_is_below) l_is_below i_is_below k_is_below, PySem.W.mg_of X G a_is_below⟩, ⟨_, _, fun_mk (st := S_check_number) l_check_number i_check_number k_check_number, PySem.W.mg_of X G a_check_number⟩, ⟨_, _, fun_mk (st := S_check_places) l_check_places i_check_places k_check_places, PySem.W.mg_of X G a_check_places⟩, ⟨_, _, fun_mk (st := S__fit_ring) l__fit_ring i__fit_ring k__fit_ring, PySem.W.mg_of X G a__fit_ring⟩, ⟨_, _, fun_mk (st := S__are_lows) l__are_lows i__are_lows k__are_lows, PySem.W.mg_of X G a__are_lows⟩, ⟨_, _, fun_mk (st := S_is_code) l_is_code i_is_code k_is_code, PySem.W.mg_of X G a_is_code⟩, ⟨_, _, fun_mk (st := S_count_behind) l_count_behind i_count_behind k_count_behind, PySem.W.mg_of X G a_count_behind⟩, ⟨_, _, fun_mk (st := S__law_dice) l__law_dice i__law_dice k__law_dice, PySem.W.mg_of X G a__law_dice⟩, ⟨_, _, fun_mk (st := S__law_roll) l__law_roll i__law_roll k__law_roll, PySem.W.mg_of X G a__law_roll⟩, ⟨_, _, fun_mk (st := S__law_mixed) l__law_mixed i__law_mixed k__law_mixed, PySem.W.mg_of X G a__law_mixed⟩, ⟨_, _, fun_mk (st := S__law_drawn_code) l__law_drawn_code i__law_drawn_code k__law_drawn_code, PySem.W.mg_of X G a__law_drawn_code⟩, ⟨_, _, fun_mk (st := S__law_parks) l__law_parks i__law_parks k__law_parks, PySem.W.mg_of X G a__law_parks⟩, ⟨_, _, fun_mk (st := S__law_right) l__law_right i__law_right k__law_right, PySem.W.mg_of X G a__law_right⟩⟩
  exact ⟨PySem.W.fnOf "law" "law" (defArgs S_law) (defBody S_law) (defScope S_law) .none kV_law dc_law pm_law an_law cd_law ct_law, fun s v => .of_eq rfl, fun base _ _ => fnG_of (fun_mk (st := S_law) l_law i_law k_law) sc_law len_law (fun cd B l s H vs Q E hg hr h => wB_nox (b_law ⟨rfl, sc_law.nd, rfl, rfl, hr, PassesOwn.never⟩ (fun _ => rfl) hg T h))⟩

end K69
open PySem PySem.W PyProof.Rows
set_option maxRecDepth 100000 in
set_option maxHeartbeats 0 in
theorem PySem.Challenge.cw_renamedown_k69_whole_codes_judged_holds : PySem.Challenge.rw_renamedown_k69_whole_codes_judged.Holds := by
  w_on; o_law; k_head; (case hw => w_witness2)
  k_fill
  refine WX.walkG (l := PySem.Challenge.rw_renamedown_k69_whole_codes_judged) (n := 63) (k := 6) (x := "script") (sp := fun K => K69.sp_law0 K) rfl (by decide) rfl ⟨rfl, by decide, by decide⟩ (fun w h Y => PySem.W.kIn_of Y) ?F (fun _ _ a ns hl hS => ⟨a, rfl, ns, hS, hl, fun _ => rfl⟩)
  case F =>
    intro w mg fa h KX G hmg
    refine' K69.all_mk KX G hmg ?z_abs ?z_all ?z_bool ?z_enumerate ?z_int ?z_isinstance ?z_len ?z_list ?z_max ?z_min ?z_range ?z_repr ?z_sorted ?z_sum ?z_tuple ?m_comb ?c_MAX_PLACES ?c__TOO_LONG ?a_is_integer ?l_is_integer ?i_is_integer ?k_is_integer ?a_is_below ?l_is_below ?i_is_below ?k_is_below ?a_check_number ?l_check_number ?i_check_number ?k_check_number ?a_check_places ?l_check_places ?i_check_places ?k_check_places ?a__fit_ring ?l__fit_ring ?i__fit_ring ?k__fit_ring ?a__are_lows ?l__are_lows ?i__are_lows ?k__are_lows ?a_is_code ?l_is_code ?i_is_code ?k_is_code ?a_count_behind ?l_count_behind ?i_count_behind ?k_count_behind ?a__law_dice ?l__law_dice ?i__law_dice ?k__law_dice ?a__law_roll ?l__law_roll ?i__law_roll ?k__law_roll ?a__law_mixed ?l__law_mixed ?i__law_mixed ?k__law_mixed ?a__law_drawn_code ?l__law_drawn_code ?i__law_drawn_code ?k__law_drawn_code ?a__law_parks ?l__law_parks ?i__law_parks ?k__law_parks ?a__law_right ?l__law_right ?i__law_right ?k__law_right ?a_law ?l_law ?i_law ?k_law
    (case z_abs => k_is); (case z_all => k_is); (case z_bool => k_is); (case z_enumerate => k_is); (case z_int => k_is); (case z_isinstance => k_is); (case z_len => k_is); (case z_list => k_is); (case z_max => k_is); (case z_min => k_is); (case z_range => k_is); (case z_repr => k_is); (case z_sorted => k_is); (case z_sum => k_is); (case z_tuple => k_is); (case m_comb => k_is); (case c_MAX_PLACES => k_is); (case c__TOO_LONG => k_is); (case a_is_integer => k_is); (case l_is_integer => k_is); (case i_is_integer => k_is); (case k_is_integer => k_is); (case a_is_below => k_is); (case l_is_below => k_is); (case i_is_below => k_is); (case k_is_below => k_is); (case a_check_number => k_is); (case l_check_number => k_is); (case i_check_number => k_is); (case k_check_number => k_is); (case a_check_places => k_is); (case l_check_places => k_is); (case i_check_places => k_is); (case k_check_places => k_is); (case a__fit_ring => k_is); (case l__fit_ring => k_is); (case i__fit_ring => k_is); (case k__fit_ring => k_is); (case a__are_lows => k_is); (case l__are_lows => k_is); (case i__are_lows => k_is); (case k__are_lows => k_is); (case a_is_code => k_is); (case l_is_code => k_is); (case i_is_code => k_is); (case k_is_code => k_is); (case a_count_behind => k_is); (case l_count_behind => k_is); (case i_count_behind => k_is); (case k_count_behind => k_is); (case a__law_dice => k_is); (case l__law_dice => k_is); (case i__law_dice => k_is); (case k__law_dice => k_is); (case a__law_roll => k_is); (case l__law_roll => k_is); (case i__law_roll => k_is); (case k__law_roll => k_is); (case a__law_mixed => k_is); (case l__law_mixed => k_is); (case i__law_mixed => k_is); (case k__law_mixed => k_is); (case a__law_drawn_code => k_is); (case l__law_drawn_code => k_is); (case i__law_drawn_code => k_is); (case k__law_drawn_code => k_is); (case a__law_parks => k_is); (case l__law_parks => k_is); (case i__law_parks => k_is); (case k__law_parks => k_is); (case a__law_right => k_is); (case l__law_right => k_is); (case i__law_right => k_is); (case k__law_right => k_is); (case a_law => k_is); (case l_law => k_is); (case i_law => k_is); (case k_law => k_is)
