import PyProof.Rows.All
import Wide.All
import OpenK.AllK
import Wide.FinOn
import HandS.ForMost
import HandS.IsInst
import HandS.Wide
import HandS.Flow
import HandS.Defaults
import HandS.Property
import HandS.TupAny
import HandS.Conv
import HandS.Style
import HandS.OwnEq
import HandS.Walk
import HandS.SortInts
import HandS.TupMul
import HandS.TupLe
import HandS.Gcd
import KE.KMathGC
import KE.KIndexWalk
import HandS.Zip
import KE.GoesZip
import KE.GoesMore
import KE.GoesEnum
import HandS.Text
import PyProof.InstNe
import PySem.Challenge.RW_renamedown_k11_whole_rows_changed
set_option Elab.async false
set_option linter.all false
set_option maxRecDepth 100000
set_option maxHeartbeats 4000000
/-! WX: readings run forwards: each rule takes the syntax at hand and asks for what follows it. -/
namespace WX
open PySem PySem.Spec PyProof.Rows L2
section
variable {X : Cx} {σ : L2.St} {H : Hp} {Q : VK} {D : Ends} {pos : Pos}
/-! ### the readings as they are -/
structure wE (X : Cx) (e : Expr) (σ : L2.St) (H : Hp) (Q : VK) : Prop where
  run : ∀ (pins : List (Addr × Obj)) (s : Shared), Inv X pins σ H s → wpAny (model X.prog X.w) X.A (eval e X.env) (EP X pins σ Q) X.xe s
structure wT (X : Cx) (e : Expr) (σ : L2.St) (H : Hp) (Q : Bool → Hp → Prop) : Prop where
  run : ∀ (pins : List (Addr × Obj)) (s : Shared), Inv X pins σ H s → wpAny (model X.prog X.w) X.A (isTrue e X.env (eval e X.env)) (TP X pins σ Q) X.xe s
structure wW (X : Cx) (e : Expr) (σ : L2.St) (H : Hp) (Q : Bool → Hp → Prop) : Prop where
  run : ∀ (whole : Sem Value) (pins : List (Addr × Obj)) (s : Shared), Inv X pins σ H s → wpAny (model X.prog X.w) X.A (isTrue e X.env whole) (TP X pins σ Q) X.xe s
structure wA (X : Cx) (es : List Expr) (σ : L2.St) (H : Hp) (Q : List V → Hp → Prop) : Prop where
  run : ∀ (pos : Pos) (pins : List (Addr × Obj)) (s : Shared), Inv X pins σ H s → wpAny (model X.prog X.w) X.A (spliced (backTo pos (starEach es X.env))) (AP X pins σ Q) X.xe s
structure wS (X : Cx) (st : Stmt) (D : Ends) (σ : L2.St) (H : Hp) : Prop where
  run : ∀ (pins : List (Addr × Obj)) (s : Shared), Inv X pins σ H s → wpAny (model X.prog X.w) X.A (exec st X.env) (SP X pins D) X.xe s
structure wB (X : Cx) (st : List Stmt) (D : Ends) (σ : L2.St) (H : Hp) : Prop where
  run : ∀ (pins : List (Addr × Obj)) (s : Shared), Inv X pins σ H s → wpAny (model X.prog X.w) X.A (execs st X.env) (SP X pins D) X.xe s
structure wO (X : Cx) (f : Value → Value → Sem Value) (x y : V) (H : Hp) (Q : VK) : Prop where
  run : ∀ (pins : List (Addr × Obj)) (s : Shared) (σ : L2.St) (v u : Value), Inv X pins σ H s → RelV x v → RelV y u → wpAny (model X.prog X.w) X.A (f v u) (EP X pins σ Q) X.xe s
structure wU (X : Cx) (f : Value → Sem Value) (x : V) (H : Hp) (Q : VK) : Prop where
  run : ∀ (pins : List (Addr × Obj)) (s : Shared) (σ : L2.St) (v : Value), Inv X pins σ H s → RelV x v → wpAny (model X.prog X.w) X.A (f v) (EP X pins σ Q) X.xe s
structure wC (X : Cx) (f : Value) (xs : List V) (H : Hp) (Q : VK) : Prop where
  run : ∀ (pins : List (Addr × Obj)) (s : Shared) (σ : L2.St) (us : List Value), Inv X pins σ H s → Vals xs us → wpAny (model X.prog X.w) X.A (call f us) (EP X pins σ Q) X.xe s
structure wX (X : Cx) (x y : V) (H : Hp) (Q : VK) : Prop where
  run : ∀ (value slice : Expr) (pins : List (Addr × Obj)) (s : Shared) (σ : L2.St) (v u : Value), Inv X pins σ H s → RelV x v → RelV y u →
    subscripted slice false v u = operate [v, u] (getItem v u) → wpAny (model X.prog X.w) X.A (subscriptTail value slice v u) (EP X pins σ Q) X.xe s
structure wM (X : Cx) (id : String) (x : V) (xs : List V) (H : Hp) (Q : VK) : Prop where
  run : ∀ (pins : List (Addr × Obj)) (s : Shared) (σ : L2.St) (v : Value) (us : List Value), Inv X pins σ H s → RelV x v → Vals xs us → wpAny (model X.prog X.w) X.A (call (.builtin id) (v :: us)) (EP X pins σ Q) X.xe s
structure wPS (X : Cx) (o i v : V) (H : Hp) (Q : Hp → Prop) : Prop where
  run : ∀ (pins : List (Addr × Obj)) (s : Shared) (σ : L2.St) (ov iv u : Value), Inv X pins σ H s → RelV o ov → RelV i iv → RelV v u → wpAny (model X.prog X.w) X.A (setItem ov iv u) (fun _ s' => ∃ H', Inv X pins σ H' s' ∧ Q H') X.xe s

variable {e a b c : Expr} {es rest : List Expr} {st : Stmt} {sts : List Stmt}
theorem pe_self : PE X e (wE X e) := ⟨fun pins s _ _ _ I h => h.run pins s I⟩
theorem pt_self : PT X e (wT X e) := ⟨fun pins s _ _ _ I h => h.run pins s I⟩
theorem pw_self : PW X e (wW X e) := ⟨fun wh pins s _ _ _ I h => h.run wh pins s I⟩
theorem pa_self : PA X es (wA X es) := ⟨fun p pins s _ _ _ I h => h.run p pins s I⟩
theorem ps_self : PS X st (wS X st) := ⟨fun pins s _ _ _ I h => h.run pins s I⟩
theorem pss_self : PSs X sts (wB X sts) := ⟨fun pins s _ _ _ I h => h.run pins s I⟩
theorem op_self {f : Value → Value → Sem Value} : OpR X f (wO X f) := fun pins s σ _ _ _ v u _ I rx ry h => h.run pins s σ v u I rx ry
theorem un_self {f : Value → Sem Value} : UnR X f (wU X f) := fun pins s σ _ _ v _ I rx h => h.run pins s σ v I rx
theorem call_self {f : Value} : CallR X f (wC X f) := fun pins s σ _ _ us _ I r h => h.run pins s σ us I r
theorem ix_self : IxR X (wX X) := fun value slice pins s σ _ _ _ v u _ I rx ry h hs => h.run value slice pins s σ v u I rx ry hs
theorem mt_self {id : String} : MtR X id (wM X id) := fun pins s σ _ _ _ v us _ I rx r h => h.run pins s σ v us I rx r
theorem set_self : PSet X (wPS X) := fun pins s σ _ _ _ _ ov iv u _ I ro ri rv h => h.run pins s σ ov iv u I ro ri rv
theorem toE {t : TE} (p : PE X e t) (h : t σ H Q) : wE X e σ H Q := ⟨fun pins s I => p.run pins s σ H Q I h⟩
theorem toT {t : TT} {Q : Bool → Hp → Prop} (p : PT X e t) (h : t σ H Q) : wT X e σ H Q := ⟨fun pins s I => p.run pins s σ H Q I h⟩
theorem toW {t : TT} {Q : Bool → Hp → Prop} (p : PW X e t) (h : t σ H Q) : wW X e σ H Q := ⟨fun wh pins s I => p.run wh pins s σ H Q I h⟩
theorem toA {t : TA} {Q : List V → Hp → Prop} (p : PA X es t) (h : t σ H Q) : wA X es σ H Q := ⟨fun ps pins s I => p.run ps pins s σ H Q I h⟩
theorem toS {t : TS} (p : PS X st t) (h : t D σ H) : wS X st D σ H := ⟨fun pins s I => p.run pins s σ H D I h⟩
theorem toB {t : TS} (p : PSs X sts t) (h : t D σ H) : wB X sts D σ H := ⟨fun pins s I => p.run pins s σ H D I h⟩
theorem toO {f : Value → Value → Sem Value} {r : R2} {x y : V} (p : OpR X f r) (h : r x y H Q) : wO X f x y H Q := ⟨fun pins s σ v u I rx ry => p pins s σ H x y v u Q I rx ry h⟩
theorem toU {f : Value → Sem Value} {r : V → Hp → VK → Prop} {x : V} (p : UnR X f r) (h : r x H Q) : wU X f x H Q := ⟨fun pins s σ v I rx => p pins s σ H x v Q I rx h⟩
theorem toC {f : Value} {r : List V → Hp → VK → Prop} {xs : List V} (p : CallR X f r) (h : r xs H Q) : wC X f xs H Q := ⟨fun pins s σ us I rv => p pins s σ H xs us Q I rv h⟩
theorem toX {r : R2} {x y : V} (p : IxR X r) (h : r x y H Q) : wX X x y H Q := ⟨fun value slice pins s σ v u I rx ry hs => p value slice pins s σ H x y v u Q I rx ry h hs⟩
theorem toM {id : String} {r : V → List V → Hp → VK → Prop} {x : V} {xs : List V} (p : MtR X id r) (h : r x xs H Q) : wM X id x xs H Q := ⟨fun pins s σ v us I rx rv => p pins s σ H x xs v us Q I rx rv h⟩

/-! ### what is known of the def at work -/
structure Bd (X : Cx) (N : List Str) (sc : Scope) (k : Nat) : Prop where
  hN : X.N = N
  nd : X.N.Nodup
  sc : X.env.scope = sc
  calm : X.calm = true
  room : Room k X.A
  ps : PassesOwn (model X.prog X.w) X.A X.env X.xe
theorem Bd.slot {N : List Str} {sc : Scope} {k : Nat} (B : Bd X N sc k) (i : Nat) {x : Str} (h : N[i]? = some x) : X.N[i]? = some x := by rw [B.hN]; exact h
theorem Bd.gl {N : List Str} {sc : Scope} {k : Nat} (B : Bd X N sc k) {x : Str} (h : sc.names.lookup x = some .globalImplicit) : Gl X x := by
  have e := B.sc
  subst e
  exact h
theorem Bd.loc {N : List Str} {sc : Scope} {k : Nat} (B : Bd X N sc k) {x : Str} (h : sc.names.lookup x = some .local) : X.env.scope.names.lookup x = some .local := by rw [B.sc]; exact h
theorem Bd.cel {N : List Str} {sc : Scope} {k : Nat} (B : Bd X N sc k) {x : Str} (h : sc.names.lookup x = some .cell) : X.env.scope.names.lookup x = some .cell := by rw [B.sc]; exact h
/-! ### expressions -/
theorem e_int {i : Int} {j} (h : Q (.int i) H) : wE X (.Constant (.int i) j pos) σ H Q := toE pe_int h
theorem e_bl {i : Bool} {j} (h : Q (.bl i) H) : wE X (.Constant (.bool i) j pos) σ H Q := toE pe_bl h
theorem e_non {j} (h : Q .non H) : wE X (.Constant .none j pos) σ H Q := toE pe_non h
theorem e_str {i : Str} {j} (h : Q (.str i) H) : wE X (.Constant (.str i) j pos) σ H Q := toE pe_str h
theorem e_loc (i : Nat) {x : Str} {v : V} (hN : X.N[i]? = some x) (hv : Vis X.env.scope x) (hs : σ[i]? = some (some v)) (h : Q v H) (hd : (x == ("__debug__" : Str)) = false := by decide) (hcd : (x == ("__classdict__" : Str)) = false := by decide) :
    wE X (.Name x pos) σ H Q := toE (pe_var hN hv hd hcd) ⟨v, hs, h⟩
theorem e_glob {x : Str} {v : V} {u : Value} (hg : Gl X x) (hm : X.mg x = some u) (r : RelV v u) (h : Q v H) (hd : (x == ("__debug__" : Str)) = false := by decide) : wE X (.Name x pos) σ H Q := toE (pe_glob hg hm r hd) h
theorem e_blt {x : Str} {v : V} {u : Value} (hg : Gl X x) (hm : X.mg x = none) (hv : bootBuiltins x = some u) (r : RelV v u) (h : Q v H) (hn : x ≠ "__name__" := by decide) (hd : (x == ("__debug__" : Str)) = false := by decide) : wE X (.Name x pos) σ H Q := toE (pe_bltn hg hm hv r hn hd) h
theorem e_bin {op : Operator} (h : wE X a σ H fun x H1 => wE X b σ H1 fun y H2 => wO X (binaryOp op) x y H2 Q) : wE X (.BinOp a op b pos) σ H Q := toE (pe_op op_self pe_self pe_self) h
theorem e_un {op : UnaryOp} (h : wE X a σ H fun x H1 => wU X (unaryOp op) x H1 Q) : wE X (.UnaryOp op a pos) σ H Q := toE (pe_un un_self pe_self) h
theorem e_not (h : wE X a σ H fun x H1 => ∃ c, x = .bl c ∧ Q (.bl (!c)) H1) : wE X (.UnaryOp .Not a pos) σ H Q := toE (pe_not pe_self) h
theorem e_cmp {op : CmpOp} (hm : behindInMarks op b = false) (h : wE X a σ H fun x H1 => wE X b σ H1 fun y H2 => wO X (compareOp op) x y H2 Q) : wE X (.Compare a [op] [b] pos) σ H Q := toE (pe_cmpR op_self pe_self pe_self hm) h
theorem e_chain {op op' : CmpOp} (h : wE X a σ H fun x H1 => wE X b σ H1 fun y H2 => wO X (compareOp op) x y H2 fun z H3 => ∃ k, z = .bl k ∧
    (if k = true then wE X c σ H3 fun w' H4 => wO X (compareOp op') y w' H4 Q else Q (.bl false) H3)) (hm : lastMarks [op, op'] [b, c] = false := by with_unfolding_all rfl) : wE X (.Compare a [op, op'] [b, c] pos) σ H Q :=
  toE (pe_chain op_self op_self pe_self pe_self pe_self hm) h
theorem e_one {op} (h : wE X a σ H Q) : wE X (.BoolOp op [a] pos) σ H Q := toE (pe_one pe_self) h
theorem e_and (h : wE X a σ H fun x H1 => ∃ c, x = .bl c ∧ if c = true then wE X (.BoolOp .And (b :: rest) pos) σ H1 Q else Q (.bl false) H1) : wE X (.BoolOp .And (a :: b :: rest) pos) σ H Q := toE (pe_and pe_self pe_self) h
theorem e_or (h : wE X a σ H fun x H1 => ∃ c, x = .bl c ∧ if c = true then Q (.bl true) H1 else wE X (.BoolOp .Or (b :: rest) pos) σ H1 Q) : wE X (.BoolOp .Or (a :: b :: rest) pos) σ H Q := toE (pe_or pe_self pe_self) h
theorem e_if (h : wT X c σ H fun k H1 => if k = true then wE X a σ H1 Q else wE X b σ H1 Q) : wE X (.IfExp c a b pos) σ H Q := toE (pe_ifExp pt_self pe_self pe_self) h
theorem e_ix (hs : PlainIx b) (h : wE X a σ H fun x H1 => wE X b σ H1 fun y H2 => wX X x y H2 Q) : wE X (.Subscript a b pos) σ H Q := toE (pe_ix ix_self pe_self pe_self hs) h
theorem e_tup {x1} (h : wA X es σ H fun xs H1 => xs.length ≤ sizeLine ∧ ∀ p, H1 p = none → Q (.ref p) (upd H1 p (.tup xs))) : wE X (.Tuple es x1 pos) σ H Q := toE (pe_tup pa_self) h
theorem e_lst (h : wA X es σ H fun xs H1 => xs.length ≤ sizeLine ∧ ∀ p, H1 p = none → Q (.ref p) (upd H1 p (.lst xs))) : wE X (.List es pos) σ H Q := toE (pe_lst pa_self) h
theorem a_nil {Q : List V → Hp → Prop} (h : Q [] H) : wA X [] σ H Q := toA pa_nil h
theorem a_cons {Q : List V → Hp → Prop} (h : wE X e σ H fun x H1 => wA X es σ H1 fun xs H2 => Q (x :: xs) H2) (hs : starEach (e :: es) X.env = (false, eval e X.env) :: starEach es X.env := by rfl) : wA X (e :: es) σ H Q := toA (pa_cons pe_self pa_self hs) h
/-- a built-in function, a built-in type -/
theorem e_callB {id : String} {x : Str} {p : Pos} (hg : Gl X x) (hm : X.mg x = none) (hv : bootBuiltins x = some (.builtin id)) (h : wA X (e :: es) σ H fun vs H1 => wC X (.builtin id) vs H1 Q) (hn : x ≠ "__name__" := by decide) (hdb : (x == ("__debug__" : Str)) = false := by decide)
    (he : starEach (e :: es) X.env = (false, eval e X.env) :: starEach es X.env := by rfl) (hpl : (backTo pos (starEach es X.env)).any (·.1) = false := by rfl) : wE X (.Call (.Name x p) (e :: es) [] pos) σ H Q := toE (pe_callB call_self hg hm hv pa_self hn hdb he hpl) h
theorem e_callT {T : String} {x : Str} {p : Pos} (hg : Gl X x) (hm : X.mg x = none) (hv : bootBuiltins x = some (.type T)) (h : wA X (e :: es) σ H fun vs H1 => wC X (.type T) vs H1 Q) (hn : x ≠ "__name__" := by decide) (hdb : (x == ("__debug__" : Str)) = false := by decide)
    (he : starEach (e :: es) X.env = (false, eval e X.env) :: starEach es X.env := by rfl) (hpl : (backTo pos (starEach es X.env)).any (·.1) = false := by rfl) : wE X (.Call (.Name x p) (e :: es) [] pos) σ H Q := toE (pe_callTy call_self hg hm hv pa_self hn hdb he hpl) h

/-! ### promises of defs that are called while no repr runs -/
structure FnG (P : Program) (w : World) (K : PySem.W.Frag) (mg : Str → Option Value) (base : Heap) (CX : CXT) (k : Nat) (f : Addr) (fd : FuncData) (ps : List Str) (sp : Sp) : Prop where
  cnt : ∀ vs H Q E, sp vs H Q E → vs.length = ps.length
  go : ∀ (B : Around) (l : List Env) (s : Shared) (H : Hp) (gs : Args) (us : List Value) (vs : List V) (Q : VK) (E : XK),
    B.guards = some [] → Room k B → Env0 P w K mg base B l s H → BindsTo s fd gs (ps.zip us) → Vals vs us → sp vs H Q E → codeAny (model P w) B (.call (.ref f) gs) (CR CX l P w H s Q E) s
/-- from a def's body -/
theorem fnG_of {CX : CXT} {P : Program} {w : World} {K : PySem.W.Frag} {mg : Str → Option Value} {base : Heap} {x qual : Str} {st : Stmt} {f : Addr} {fd : FuncData} {N ps : List Str} {k : Nat} {sp : Sp}
    (F : L2.Fun K x qual st f fd) (S : FnScope N ps (defScope st)) (len : ∀ vs H Q E, sp vs H Q E → vs.length = ps.length)
    (body : ∀ (cd : Value) (B : Around) (l : List Env) (s : Shared) (H : Hp) (vs : List V) (Q : VK) (E : XK), (B.deeper (envOfC qual (defScope st) s.heap.objs.size f cd)).guards = some [] → Room k (B.deeper (envOfC qual (defScope st) s.heap.objs.size f cd)) → sp vs H Q E →
      wB (cxOf CX P w K mg base N qual (defScope st) f cd B l s H E) (defBody st) { nx := fun _ H' => Q .non H', rt := Q } (start N vs) H) : FnG P w K mg base CX (k + 1) f fd ps sp := by
  obtain ⟨oc, od, kV, doc, pm, an, cd, ct, sl, efd, look, isCode⟩ := F.ex
  constructor
  · exact len
  · intro B l s H gs us vs Q E noG room en bind rel want
    have keepB : ∀ b o, base.get? b = some o → s.heap.get? b = some o := fun b o q => (en.bs b o q).1
    have inK := en.mod.kin.keeps keepB
    subst efd
    refine codeAny_call_function (Room.depth room) (inK _ _ look) rfl S.co S.gen rfl (PySem.W.codeRec_of inK isCode) (bind _ _ _ _ ?_)
    refine wpAny_newFunctionEnv_cells S.kind ?_ ?_
    · rintro ⟨n, v⟩ mem
      exact (S.par n (List.of_mem_zip mem).1).imp id fun q => ⟨q, PySem.W.cellsFrom_some _ _ _ (Or.inl q)⟩
    · intro env eenv s1 x1
      subst eenv
      refine ⟨(en.mod.nolimit.keeps keepB).keeps x1.toInCall.keep, codeAny_func ?_⟩
      have I0 := inv_start (CX := CX) (E := E) (qual := qual) (mg := mg) (cd := cd) (f := f) S (Room.hd room) en (len vs H Q E want) rel x1
      refine wpAny_mono ((body cd B l s H vs Q E noG (Room.deeper room _) want).run [] s1 I0) ?_ fun e s2 q => q
      intro fl s2 q
      match fl, q with
      | .ret u, ⟨v, σ2, H2, J, rv, q2⟩ => exact ⟨v, H2, J.os, J.bare, J.base, J.hok, rv, q2⟩
      | .next, ⟨σ2, H2, J, q2⟩ => exact ⟨V.non, H2, J.os, J.bare, J.base, J.hok, rfl, q2⟩
      | .brk, ⟨_, _, _, q2⟩ => exact q2.elim
      | .cont, ⟨_, _, _, q2⟩ => exact q2.elim
/-- the call -/
theorem fnG_run {X : Cx} {CX : CXT} {k : Nat} {f : Addr} {fd : FuncData} {ps : List Str} {sp : Sp} {E : XK} {pins : List (Addr × Obj)} {σ : L2.St} {H : Hp} {s : Shared} {Q : VK} {us : List Value} {vs : List V} (F : FnG X.prog X.w X.K X.mg X.base CX k f fd ps sp)
    (hg : X.A.guards = some []) (hr : Room k X.A) (hb : Binds X.K fd ps []) (hx : Passes CX X E) (I : Inv X pins σ H s) (r : Vals vs us) (h : sp vs H Q E) : wpAny (model X.prog X.w) X.A (call (.ref f) us) (EP X pins σ Q) X.xe s := by
  have n1 : us.length = ps.length := r.length.symm.trans (F.cnt vs H Q E h)
  have bt := hb s us I.kIn (by rw [List.append_nil]; exact n1)
  rw [List.append_nil] at bt
  refine wpAny_call (codeAny_mono (F.go X.A X.stack s H ⟨us, []⟩ us vs Q E hg hr I.env0 bt r h) ?_)
  intro res s2 q
  match res, q with
  | .error e, q => exact hx pins σ H s e s2 I q
  | .ok (.ret u), q => exact I.after q
  | .ok .next, q => exact q.elim
  | .ok .brk, q => exact q.elim
  | .ok .cont, q => exact q.elim
/-- a def of the text, by its promise -/
structure Df (P : Program) (w : World) (K : PySem.W.Frag) (mg : Str → Option Value) (base : Heap) (x : Str) (k : Nat) (ps : List Str) (sp : Sp) : Prop where
  ex : ∃ (f : Addr) (fd : FuncData), FnG P w K mg base CX0 k f fd ps sp ∧ mg x = some (.ref f) ∧ PySem.W.keepIn K (.ref f) = true ∧ Binds K fd ps []
theorem e_call {x : Str} {p : Pos} {k : Nat} {ps : List Str} {sp : Sp} (F : Df X.prog X.w X.K X.mg X.base x k ps sp) (hG : X.A.guards = some []) (hr : Room k X.A) (hg : Gl X x) (h : wA X (e :: es) σ H fun vs H1 => sp vs H1 Q E0) (hdb : (x == ("__debug__" : Str)) = false := by decide)
    (he : starEach (e :: es) X.env = (false, eval e X.env) :: starEach es X.env := by rfl) (hpl : (backTo pos (starEach es X.env)).any (·.1) = false := by rfl) : wE X (.Call (.Name x p) (e :: es) [] pos) σ H Q := by
  obtain ⟨f, fd, G, hm, hk, hb⟩ := F.ex
  constructor
  intro pins s I
  refine wpAny_Call_Name_kw (ld_glob I hg hm (PySem.W.callWith_K (h₀ := X.base) I.ok.mod.kin hk ?_ he hpl) hdb)
  refine thn (h.run pos pins s I) ?_
  rintro us s1 ⟨vs, H1, I1, r, q⟩
  exact ⟨I1.kIn, fnG_run G hG hr hb pass0 I1 r q⟩
theorem e_call0 {x : Str} {p : Pos} {k : Nat} {ps : List Str} {sp : Sp} (F : Df X.prog X.w X.K X.mg X.base x k ps sp) (hG : X.A.guards = some []) (hr : Room k X.A) (hg : Gl X x) (h : sp [] H Q E0) (hdb : (x == ("__debug__" : Str)) = false := by decide) : wE X (.Call (.Name x p) [] [] pos) σ H Q := by
  obtain ⟨f, fd, G, hm, hk, hb⟩ := F.ex
  constructor
  intro pins s I
  exact wpAny_Call_Name_kw (ld_glob I hg hm (PySem.W.callWith_K0 I.kIn hk (fnG_run (us := []) G hG hr hb pass0 I .nil h)) hdb)
/-- a method of a built-in type -/
theorem e_bm0 {o : Expr} {name : Str} {apos cpos : Pos} {T id : String} (pa : PlainAttrs T) (slot : Slot T name id) (hty : typeOf (.builtin id) = pure (.type "method_descriptor")) (h : wE X o σ H fun x H1 => tyV X.K T x H1 ∧ wM X id x [] H1 Q)
    (hbase : attributeBase o name X.env (eval o X.env) = eval o X.env := by rfl) (hline : (apos.endLine == cpos.line) = true := by rfl) : wE X (.Call (.Attribute o name apos) [] [] cpos) σ H Q := toE (pe_bm0 pa slot hty mt_self pe_self hbase hline) h

/-! ### tests -/
theorem t_cmp {Q : Bool → Hp → Prop} {op : CmpOp} (hm : behindInMarks op b = false) (h : wE X a σ H fun x H1 => wE X b σ H1 fun y H2 => wO X (compareOp op) x y H2 fun z H3 => ∃ k, z = .bl k ∧ Q k H3) : wT X (.Compare a [op] [b] pos) σ H Q :=
  toT (pt_cmpR op_self pe_self pe_self hm) h
theorem t_chain {Q : Bool → Hp → Prop} {op op' : CmpOp} (h : wE X a σ H fun x H1 => wE X b σ H1 fun y H2 => wO X (compareOp op) x y H2 fun z H3 => ∃ k, z = .bl k ∧
    (if k = true then wE X c σ H3 fun w' H4 => wO X (compareOp op') y w' H4 fun z H5 => ∃ k, z = .bl k ∧ Q k H5 else ∃ k, V.bl false = .bl k ∧ Q k H3)) (hm : lastMarks [op, op'] [b, c] = false := by with_unfolding_all rfl) : wT X (.Compare a [op, op'] [b, c] pos) σ H Q :=
  toT (pt_chain op_self op_self pe_self pe_self pe_self hm) h
theorem t_val {Q : Bool → Hp → Prop} (he : ∀ whole, isTrue e X.env whole = (do let v ← whole; standAt e.pos; holding [v] (truthy v))) (h : wE X e σ H fun x H1 => ∃ c, x = .bl c ∧ Q c H1) : wT X e σ H Q := toT (pt_val pe_self he) h
theorem t_tru {Q : Bool → Hp → Prop} (he : ∀ whole, isTrue e X.env whole = (do let v ← whole; standAt e.pos; holding [v] (truthy v))) (h : wE X e σ H fun x H' => ∃ k, TruV X.K x H' k ∧ Q k H') : wT X e σ H Q := toT (pt_truth pe_self he) h
theorem t_not {Q : Bool → Hp → Prop} (h : wT X a σ H fun c H1 => Q (!c) H1) : wT X (.UnaryOp .Not a pos) σ H Q := toT (pt_not pt_self) h
theorem t_w {Q : Bool → Hp → Prop} (h : wW X e σ H Q) : wT X e σ H Q := toT pw_self.pt h
theorem w_and1 {Q : Bool → Hp → Prop} (h : wT X a σ H Q) : wW X (.BoolOp .And [a] pos) σ H Q := toW (pw_and1 pt_self) h
theorem w_or1 {Q : Bool → Hp → Prop} (h : wT X a σ H Q) : wW X (.BoolOp .Or [a] pos) σ H Q := toW (pw_or1 pt_self) h
theorem w_and {Q : Bool → Hp → Prop} (h : wT X a σ H fun c H1 => if c = true then wW X (.BoolOp .And (b :: rest) pos) σ H1 Q else Q false H1) : wW X (.BoolOp .And (a :: b :: rest) pos) σ H Q := toW (pw_and pt_self pw_self) h
theorem w_or {Q : Bool → Hp → Prop} (h : wT X a σ H fun c H1 => if c = true then Q true H1 else wW X (.BoolOp .Or (b :: rest) pos) σ H1 Q) : wW X (.BoolOp .Or (a :: b :: rest) pos) σ H Q := toW (pw_or pt_self pw_self) h

/-! ### statements -/
theorem b_nil (h : D.nx σ H) : wB X [] D σ H := toB pss_nil h
theorem b_one (h : wS X st D σ H) : wB X [st] D σ H := toB (pss_one ps_self) h
theorem b_cons (h : wS X st { D with nx := fun σ' H' => wB X sts D σ' H' } σ H) : wB X (st :: sts) D σ H := toB (pss_cons ps_self pss_self) h
theorem s_ret (h : wE X e σ H D.rt) : wS X (.Return (some e) pos) D σ H := toS (ps_ret pe_self) h
theorem s_expr (h : wE X e σ H fun _ H1 => D.nx σ H1) (hs : swapsWith e none pos.line X.env = pure false := by rfl) : wS X (.Expr e pos) D σ H := toS (ps_expr pe_self hs) h
theorem s_doc {x j pos'} (h : D.nx σ H) : wS X (.Expr (.Constant (.str x) j pos) pos') D σ H := toS ps_doc h
theorem s_pass (h : D.nx σ H) : wS X (.Pass pos) D σ H := toS ps_pass h
theorem s_if {sa sb : List Stmt} (h : wT X c σ H fun k H1 => if k = true then wB X sa D σ H1 else wB X sb D σ H1) : wS X (.If c sa sb pos) D σ H := toS (ps_if pt_self pss_self pss_self) h
theorem s_set (i : Nat) {x : Str} {pos' : Pos} (hN : X.N.Nodup) (hi : X.N[i]? = some x) (hx : Loc X.env.scope x) (h : wE X e σ H fun y H1 => D.nx (σ.set i (some y)) H1) (hs : swapsWith e (some (.Name x pos')) pos.line X.env = pure false := by rfl)
    (hf : X.fn x = true ∨ X.env.scope.names.lookup x = some .local := by first | exact .inl rfl | exact .inr rfl | assumption) : wS X (.Assign [.Name x pos'] e pos) D σ H := toS (ps_set hN hi hx pe_self hs hf) h
/-- a, b = x, y of plain locals -/
theorem s_par (i j : Nat) {x y : Str} {px py pt : Pos} {kt k2 pt2} (hc : X.calm = true) (hN : X.N.Nodup) (hi : X.N[i]? = some x) (hj : X.N[j]? = some y) (hij : i ≠ j) (hx : X.env.scope.names.lookup x = some .local) (hy : X.env.scope.names.lookup y = some .local)
    (hw : swappedStores [.Tuple [.Name x px, .Name y py] kt pt] (.Tuple [a, b] k2 pt2) X.env = pure (some [x, y])) (h : wE X a σ H fun u H1 => wE X b σ H1 fun v H2 => D.nx ((σ.set j (some v)).set i (some u)) H2)
    (hs : swapsWithSole [.Tuple [.Name x px, .Name y py] kt pt] (.Tuple [a, b] k2 pt2) pos.line X.env = pure false := by rfl) (h1 : starEach [a, b] X.env = (false, eval a X.env) :: starEach [b] X.env := by rfl) (h2 : starEach [b] X.env = (false, eval b X.env) :: starEach [] X.env := by rfl) :
    wS X (.Assign [.Tuple [.Name x px, .Name y py] kt pt] (.Tuple [a, b] k2 pt2) pos) D σ H := by
  refine toS (ps_par hc hN hi hj hij hx hy pa_self hw hs) ?_
  refine a_cons ⟨fun pins s I => ?_⟩ h1
  refine thn (h.run pins s I) fun v s1 ⟨x1, H1, I1, r1, q1⟩ => ⟨x1, H1, I1, r1, ?_⟩
  refine a_cons ⟨fun pins2 s2 I2 => ?_⟩ h2
  refine thn (q1.run pins2 s2 I2) fun v2 s3 ⟨x3, H3, I3, r3, q3⟩ => ⟨x3, H3, I3, r3, ?_⟩
  refine a_nil ?_
  refine ⟨x1, x3, rfl, ?_⟩
  rw [List.set_comm _ _ hij]
  exact q3
/-- o[i] = e -/
theorem s_sub {o i : Expr} {pos' : Pos} (h : wE X e σ H fun v H1 => wE X o σ H1 fun ov H2 => wE X i σ H2 fun iv H3 => wPS X ov iv v H3 fun H4 => D.nx σ H4)
    (ha : ∀ v, assign (.Subscript o i pos') X.env v = (do
      let ov ← holding [v] (eval o X.env)
      let iv ← holding [v, ov] (eval i X.env)
      standAt pos'
      holding [v, ov, iv] (setItem ov iv v)
      release [v, ov, iv] []) := by intro _; rfl)
    (hs : swapsWithSole [.Subscript o i pos'] e pos.line X.env = pure false := by rfl) (hw : swappedStores [.Subscript o i pos'] e X.env = pure none := by rfl) (h1 : (assignEach [.Subscript o i pos'] X.env).map (·.2) = [assign (.Subscript o i pos') X.env] := by rfl) :
    wS X (.Assign [.Subscript o i pos'] e pos) D σ H := toS (ps_asg pe_self (pg_sub pe_self pe_self set_self ha) hs hw h1) h
theorem ps_set_list {o i v : V} {H : Hp} {Q : Hp → Prop} (h : rSetL o i v H Q) : wPS X o i v H Q := ⟨fun pins s σ ov iv u I ro ri rv => set_list pins s σ H o i v ov iv u Q I ro ri rv h⟩
/-- for x in range(a) -/
theorem s_forR1 (i : Nat) {x : Str} {px p1 p2 : Pos} {body : List Stmt} (hp : PassesOwn (model X.prog X.w) X.A X.env X.xe) (hc : X.calm = true) (hg : Gl X "range") (hm : X.mg "range" = none) (hN : X.N.Nodup) (hi : X.N[i]? = some x) (hx : Loc X.env.scope x)
    (h : wE X a σ H fun v H1 => ∃ n : Nat, v = .int (n : Int) ∧ n < 2 ^ 62 ∧ ∃ Pv : Nat → L2.St → Hp → Prop, Pv 0 σ H1 ∧
      (∀ k σ H, k < n → Pv k σ H → wB X body { D with nx := Pv (k + 1), ct := Pv (k + 1), bk := D.nx } (σ.set i (some (.int (k : Int)))) H) ∧ ∀ σ H, Pv n σ H → D.nx σ H)
    (hs : ∀ x, foldedSetIterable (.Call (.Name "range" p1) [a] [] p2) X.env x = pure x := by intro _; rfl) (hst : starEach [a] X.env = [(false, eval a X.env)] := by rfl)
    (hf : X.fn x = true ∨ X.env.scope.names.lookup x = some .local := by first | exact .inl rfl | exact .inr rfl | assumption) :
    wS X (.For (.Name x px) (.Call (.Name "range" p1) [a] [] p2) body [] pos) D σ H := by
  refine toS (ps_for hp hc (pi_range1 hg hm pa_self hst) (pg_name hN hi hx hf) pss_self hs) ?_
  show wA X [a] σ H _
  refine a_cons ⟨fun pins s I => ?_⟩ hst
  refine thn (h.run pins s I) fun v s1 ⟨x1, H1, I1, r1, q1⟩ => ⟨x1, H1, I1, r1, ?_⟩
  obtain ⟨n, rfl, hn, Pv, h0, ht, he⟩ := q1
  refine a_nil ?_
  refine ⟨(n : Int), rfl, by omega, by omega, ?_⟩
  have e1 : (n : Int).toNat = n := by omega
  rw [e1]
  refine for_range Pv h0 (fun k σ2 H2 hk hP => ?_) he
  have e2 : (0 : Int) + (k : Int) = (k : Int) := Int.zero_add _
  rw [e2]
  exact ht k σ2 H2 hk hP

/-! ### operations by values -/
theorem o_add {i j : Int} (h : Q (.int (i + j)) H) : wO X (binaryOp .Add) (.int i) (.int j) H Q := toO op_add ⟨i, j, rfl, rfl, h⟩
theorem o_sub {i j : Int} (h : Q (.int (i - j)) H) : wO X (binaryOp .Sub) (.int i) (.int j) H Q := toO op_sub ⟨i, j, rfl, rfl, h⟩
theorem o_mul {i j : Int} (hc : CMul i j) (h : Q (.int (i * j)) H) : wO X (binaryOp .Mult) (.int i) (.int j) H Q := toO op_mul ⟨i, j, rfl, rfl, hc, h⟩
theorem o_mulW {i j : Int} (hc : CMulW i j) (h : Q (.int (i * j)) H) : wO X (binaryOp .Mult) (.int i) (.int j) H Q := toO op_mulW ⟨i, j, rfl, rfl, hc, h⟩
theorem o_mod {i j : Int} (hc : 0 < j) (h : Q (.int (i % j)) H) : wO X (binaryOp .Mod) (.int i) (.int j) H Q := toO op_mod ⟨i, j, rfl, rfl, hc, h⟩
theorem o_fdiv {i j : Int} (hc : CDiv i j) (h : Q (.int (i / j)) H) : wO X (binaryOp .FloorDiv) (.int i) (.int j) H Q := toO op_fdiv ⟨i, j, rfl, rfl, hc, h⟩
theorem o_pow {i j : Int} (hc : CPow i j) (h : Q (.int (i ^ j.toNat)) H) : wO X (binaryOp .Pow) (.int i) (.int j) H Q := toO op_pow ⟨i, j, rfl, rfl, hc, h⟩
theorem o_adds {i j : Str} (hc : i.length + j.length ≤ sizeLine) (h : Q (.str (i ++ j)) H) : wO X (binaryOp .Add) (.str i) (.str j) H Q := toO op_add_str ⟨i, j, rfl, rfl, hc, h⟩
theorem o_neg {i : Int} (h : Q (.int (-i)) H) : wU X (unaryOp .USub) (.int i) H Q := toU un_neg ⟨i, rfl, h⟩
theorem o_eq {x y : V} (hs : scal x y = true) (h : Q (.bl (decide (x = y))) H) : wO X (compareOp .Eq) x y H Q := toO op_eq ⟨hs, h⟩
theorem o_ne {x y : V} (hs : scal x y = true) (h : Q (.bl (!decide (x = y))) H) : wO X (compareOp .NotEq) x y H Q := toO op_ne ⟨hs, h⟩
theorem o_lt {i j : Int} (h : Q (.bl (decide (i < j))) H) : wO X (compareOp .Lt) (.int i) (.int j) H Q := toO op_lt ⟨i, j, rfl, rfl, h⟩
theorem o_le {i j : Int} (h : Q (.bl (decide (i ≤ j))) H) : wO X (compareOp .LtE) (.int i) (.int j) H Q := toO op_le ⟨i, j, rfl, rfl, h⟩
theorem o_gt {i j : Int} (h : Q (.bl (decide (j < i))) H) : wO X (compareOp .Gt) (.int i) (.int j) H Q := toO op_gt ⟨i, j, rfl, rfl, h⟩
theorem o_ge {i j : Int} (h : Q (.bl (decide (j ≤ i))) H) : wO X (compareOp .GtE) (.int i) (.int j) H Q := toO op_ge ⟨i, j, rfl, rfl, h⟩
theorem x_lst {p : Addr} {xs : List V} {i : Int} {v : V} (hp : SqL X.K H p xs) (ha : atI xs i = some v) (h : Q v H) : wX X (.ref p) (.int i) H Q := toX ix_list ⟨p, xs, i, v, rfl, rfl, hp, ha, h⟩
theorem x_tup {p : Addr} {xs : List V} {i : Int} {v : V} (hp : SqT X.K H p xs) (ha : atI xs i = some v) (h : Q v H) : wX X (.ref p) (.int i) H Q := toX ix_tup ⟨p, xs, i, v, rfl, rfl, hp, ha, h⟩
theorem x_str {z : Str} {i : Int} {c : Nat} (hz : z.length ≤ sizeLine) (ha : atI z.cps.toList i = some c) (h : Q (.str ⟨#[c]⟩) H) : wX X (.str z) (.int i) H Q := toX ix_str ⟨z, i, c, rfl, rfl, hz, ha, h⟩
theorem c_abs {i : Int} (h : Q (.int (if i < 0 then -i else i)) H) : wC X (.builtin "abs") [.int i] H Q := toC call_abs ⟨i, rfl, h⟩
theorem c_max {i j : Int} (hc : X.calm = true) (h : Q (.int (if j > i then j else i)) H) : wC X (.builtin "max") [.int i, .int j] H Q := toC (call_max2 hc) ⟨i, j, rfl, h⟩
theorem c_min {i j : Int} (hc : X.calm = true) (h : Q (.int (if j < i then j else i)) H) : wC X (.builtin "min") [.int i, .int j] H Q := toC (call_min2 hc) ⟨i, j, rfl, h⟩
theorem c_int {i : Int} (h : Q (.int i) H) : wC X (.type "int") [.int i] H Q := toC call_int1 (.inl ⟨i, rfl, h⟩)
theorem c_intb {i : Bool} (h : Q (.int (if i then 1 else 0)) H) : wC X (.type "int") [.bl i] H Q := toC call_int1 (.inr ⟨i, rfl, h⟩)
theorem c_str {i : Int} (hc : i.natAbs.log2 < 1920) (h : Q (.str (toString i)) H) : wC X (.type "str") [.int i] H Q := toC call_str_int ⟨i, rfl, hc, h⟩
theorem c_lenL {p : Addr} {xs : List V} (hp : SqL X.K H p xs) (h : Q (.int xs.length) H) : wC X (.builtin "len") [.ref p] H Q := toC call_len_seq ⟨p, xs, rfl, .inl hp, h⟩
theorem c_lenT {p : Addr} {xs : List V} (hp : SqT X.K H p xs) (h : Q (.int xs.length) H) : wC X (.builtin "len") [.ref p] H Q := toC call_len_seq ⟨p, xs, rfl, .inr hp, h⟩
theorem c_lenS {z : Str} (hz : z.length ≤ sizeLine) (h : Q (.int z.length) H) : wC X (.builtin "len") [.str z] H Q := toC call_len_str ⟨z, rfl, hz, h⟩
theorem c_isi {x : V} {n : String} {t : Value} {k : Bool} (ty : TyX X.K H x t) (e : PySem.W.kitOne X.K t (.type n) = some k) (h : Q (.bl k) H) : wC X (.builtin "isinstance") [x, .ty n] H Q := toC call_isi ⟨x, .ty n, t, .type n, k, rfl, .ty n, ty, e, h⟩
end
end WX
namespace WX
open PySem PySem.Spec PyProof.Rows L2
theorem wB_nox {X : Cx} {sts : List Stmt} {D : Ends} {σ : L2.St} {H : Hp} (h : wB X.nox sts D σ H) : wB X sts D σ H := toB (PSs.nox pss_self) h
theorem df_of {P : Program} {w : World} {K : PySem.W.Frag} {mg : Str → Option Value} {base : Heap} {x qual : Str} {st : Stmt} {N ps : List Str} {k : Nat} {sp : Sp} (hx : ∃ f fd, L2.Fun K x qual st f fd ∧ mg x = some (.ref f)) (S : FnScope N ps (defScope st))
    (hb : ∀ (kV doc pm : Value) (an : Option Addr) (cdv ct : Value) (us : List Value), us.length = ps.length → bindArgs (PySem.W.fnOf x qual (defArgs st) (defBody st) (defScope st) .none kV doc pm an cdv ct) ⟨us, []⟩ = pure (ps.zip us))
    (len : ∀ vs H Q E, sp vs H Q E → vs.length = ps.length)
    (body : ∀ X : Cx, X.prog = P → X.w = w → X.K = K → X.mg = mg → X.base = base → Bd X N (defScope st) k → (∀ x, X.fn x = true) → X.A.guards = some [] → ∀ vs H Q E, sp vs H Q E → wB X (defBody st) { nx := fun _ H' => Q .non H', rt := Q } (start N vs) H) : Df P w K mg base x (k + 1) ps sp := by
  obtain ⟨f, fd, F, hm⟩ := hx
  refine ⟨f, fd, fnG_of F S len ?_, hm, F.kp, F.binds hb⟩
  intro cd B l s H vs Q E hg hr h
  refine wB_nox ?_
  exact body _ rfl rfl rfl rfl rfl ⟨rfl, S.nd, rfl, rfl, hr, PassesOwn.never⟩ (fun _ => rfl) hg vs H Q E h
/-- a fact about a place stands over a new place -/
theorem upd_keep {H : Hp} {a b : Addr} {o x : HO} (hn : H a = none) (h : H b = some x) : upd H a o b = some x := by
  rw [upd_ne (ne_of_none h hn)]
  exact h
theorem upd_keep2 {H : Hp} {a b : Addr} {o : HO} {x : Option HO} (hne : b ≠ a) (h : H b = x) : upd H a o b = x := by
  rw [upd_ne hne]
  exact h
end WX
namespace WX
open PySem PySem.Spec PyProof.Rows L2
section
variable {X : Cx} {σ : L2.St} {H : Hp} {Q : VK} {D : Ends} {pos : Pos}
theorem e_lo {x : Str} {v : V} (i : Nat) (hN : X.N[i]? = some x) (hv : X.env.scope.names.lookup x = some .local) (hs : σ[i]? = some (some v)) (h : Q v H) (hd : (x == ("__debug__" : Str)) = false := by decide) (hcd : (x == ("__classdict__" : Str)) = false := by decide) :
    wE X (.Name x pos) σ H Q := e_loc i hN (Or.inl hv) hs h hd hcd
theorem e_ce {x : Str} {v : V} (i : Nat) (hN : X.N[i]? = some x) (hv : X.env.scope.names.lookup x = some .cell) (hs : σ[i]? = some (some v)) (h : Q v H) (hd : (x == ("__debug__" : Str)) = false := by decide) (hcd : (x == ("__classdict__" : Str)) = false := by decide) :
    wE X (.Name x pos) σ H Q := e_loc i hN (Or.inr (Or.inl hv)) hs h hd hcd
theorem e_gi {x : Str} {i : Int} {t : Tok} (hg : Gl X x) (hm : X.mg x = some (Value.int i t)) (h : Q (.int i) H) (hd : (x == ("__debug__" : Str)) = false := by decide) : wE X (.Name x pos) σ H Q := e_glob hg hm (show RelV (.int i) (Value.int i t) from ⟨t, rfl⟩) h hd
theorem e_ty {x : Str} {n : String} (hg : Gl X x) (hm : X.mg x = none) (hv : bootBuiltins x = some (.type n)) (h : Q (.ty n) H) (hn : x ≠ "__name__" := by decide) (hd : (x == ("__debug__" : Str)) = false := by decide) : wE X (.Name x pos) σ H Q :=
  e_blt hg hm hv (show RelV (.ty n) (Value.type n) from rfl) h hn hd
theorem s_lo {e : Expr} (i : Nat) {x : Str} {pos' : Pos} {N : List Str} {sc : Scope} {k : Nat} (B : Bd X N sc k) (hi : X.N[i]? = some x) (hx : X.env.scope.names.lookup x = some .local) (h : wE X e σ H fun y H1 => D.nx (σ.set i (some y)) H1) (hs : swapsWith e (some (.Name x pos')) pos.line X.env = pure false := by rfl) :
    wS X (.Assign [.Name x pos'] e pos) D σ H := s_set i B.nd hi (Or.inl hx) h hs (.inr hx)
theorem s_ce {e : Expr} (i : Nat) {x : Str} {pos' : Pos} {N : List Str} {sc : Scope} {k : Nat} (B : Bd X N sc k) (hf : ∀ x, X.fn x = true) (hi : X.N[i]? = some x) (hx : X.env.scope.names.lookup x = some .cell) (h : wE X e σ H fun y H1 => D.nx (σ.set i (some y)) H1) (hs : swapsWith e (some (.Name x pos')) pos.line X.env = pure false := by rfl) :
    wS X (.Assign [.Name x pos'] e pos) D σ H := s_set i B.nd hi (Or.inr hx) h hs (.inl (hf x))
theorem e_ixp {a b : Expr} (h : wE X a σ H fun x H1 => wE X b σ H1 fun y H2 => wX X x y H2 Q) (hs : PlainIx b := by exact fun _ _ => rfl) : wE X (.Subscript a b pos) σ H Q := e_ix hs h
theorem e_cmpn {a b : Expr} {op : CmpOp} (h : wE X a σ H fun x H1 => wE X b σ H1 fun y H2 => wO X (compareOp op) x y H2 Q) (h1 : op ≠ .In := by decide) (h2 : op ≠ .NotIn := by decide) : wE X (.Compare a [op] [b] pos) σ H Q := e_cmp (nomark b h1 h2) h
theorem t_cmpn {a b : Expr} {Q : Bool → Hp → Prop} {op : CmpOp} (h : wE X a σ H fun x H1 => wE X b σ H1 fun y H2 => wO X (compareOp op) x y H2 fun z H3 => ∃ k, z = .bl k ∧ Q k H3) (h1 : op ≠ .In := by decide) (h2 : op ≠ .NotIn := by decide) : wT X (.Compare a [op] [b] pos) σ H Q := t_cmp (nomark b h1 h2) h
end
theorem bb_len : bootBuiltins "len" = some (.builtin "len") := by decide +kernel
theorem bb_isinstance : bootBuiltins "isinstance" = some (.builtin "isinstance") := by decide +kernel
theorem bb_abs : bootBuiltins "abs" = some (.builtin "abs") := by decide +kernel
theorem bb_max : bootBuiltins "max" = some (.builtin "max") := by decide +kernel
theorem bb_min : bootBuiltins "min" = some (.builtin "min") := by decide +kernel
theorem bb_repr : bootBuiltins "repr" = some (.builtin "repr") := by decide +kernel
theorem bb_all : bootBuiltins "all" = some (.builtin "all") := by decide +kernel
theorem bb_any : bootBuiltins "any" = some (.builtin "any") := by decide +kernel
theorem bb_sorted : bootBuiltins "sorted" = some (.builtin "sorted") := by decide +kernel
theorem bb_sum : bootBuiltins "sum" = some (.builtin "sum") := by decide +kernel
theorem bb_divmod : bootBuiltins "divmod" = some (.builtin "divmod") := by decide +kernel
theorem bb_range : bootBuiltins "range" = some (.type "range") := by decide +kernel
theorem bb_int : bootBuiltins "int" = some (.type "int") := by decide +kernel
theorem bb_bool : bootBuiltins "bool" = some (.type "bool") := by decide +kernel
theorem bb_str : bootBuiltins "str" = some (.type "str") := by decide +kernel
theorem bb_list : bootBuiltins "list" = some (.type "list") := by decide +kernel
theorem bb_tuple : bootBuiltins "tuple" = some (.type "tuple") := by decide +kernel
theorem bb_dict : bootBuiltins "dict" = some (.type "dict") := by decide +kernel
theorem bb_set : bootBuiltins "set" = some (.type "set") := by decide +kernel
end WX
namespace WX
open PySem PySem.Spec PyProof.Rows L2
section
variable {K : PySem.W.Frag}
theorem kit_NoneType_int : PySem.W.kitOne K (.type "NoneType") (.type "int") = some false := rfl
theorem kit_NoneType_bool : PySem.W.kitOne K (.type "NoneType") (.type "bool") = some false := rfl
theorem kit_NoneType_str : PySem.W.kitOne K (.type "NoneType") (.type "str") = some false := rfl
theorem kit_NoneType_tuple : PySem.W.kitOne K (.type "NoneType") (.type "tuple") = some false := rfl
theorem kit_NoneType_list : PySem.W.kitOne K (.type "NoneType") (.type "list") = some false := rfl
theorem kit_NoneType_dict : PySem.W.kitOne K (.type "NoneType") (.type "dict") = some false := rfl
theorem kit_bool_int : PySem.W.kitOne K (.type "bool") (.type "int") = some true := rfl
theorem kit_bool_bool : PySem.W.kitOne K (.type "bool") (.type "bool") = some true := rfl
theorem kit_bool_str : PySem.W.kitOne K (.type "bool") (.type "str") = some false := rfl
theorem kit_bool_tuple : PySem.W.kitOne K (.type "bool") (.type "tuple") = some false := rfl
theorem kit_bool_list : PySem.W.kitOne K (.type "bool") (.type "list") = some false := rfl
theorem kit_bool_dict : PySem.W.kitOne K (.type "bool") (.type "dict") = some false := rfl
theorem kit_int_int : PySem.W.kitOne K (.type "int") (.type "int") = some true := rfl
theorem kit_int_bool : PySem.W.kitOne K (.type "int") (.type "bool") = some false := rfl
theorem kit_int_str : PySem.W.kitOne K (.type "int") (.type "str") = some false := rfl
theorem kit_int_tuple : PySem.W.kitOne K (.type "int") (.type "tuple") = some false := rfl
theorem kit_int_list : PySem.W.kitOne K (.type "int") (.type "list") = some false := rfl
theorem kit_int_dict : PySem.W.kitOne K (.type "int") (.type "dict") = some false := rfl
theorem kit_str_int : PySem.W.kitOne K (.type "str") (.type "int") = some false := rfl
theorem kit_str_bool : PySem.W.kitOne K (.type "str") (.type "bool") = some false := rfl
theorem kit_str_str : PySem.W.kitOne K (.type "str") (.type "str") = some true := rfl
theorem kit_str_tuple : PySem.W.kitOne K (.type "str") (.type "tuple") = some false := rfl
theorem kit_str_list : PySem.W.kitOne K (.type "str") (.type "list") = some false := rfl
theorem kit_str_dict : PySem.W.kitOne K (.type "str") (.type "dict") = some false := rfl
theorem kit_list_int : PySem.W.kitOne K (.type "list") (.type "int") = some false := rfl
theorem kit_list_bool : PySem.W.kitOne K (.type "list") (.type "bool") = some false := rfl
theorem kit_list_str : PySem.W.kitOne K (.type "list") (.type "str") = some false := rfl
theorem kit_list_tuple : PySem.W.kitOne K (.type "list") (.type "tuple") = some false := rfl
theorem kit_list_list : PySem.W.kitOne K (.type "list") (.type "list") = some true := rfl
theorem kit_list_dict : PySem.W.kitOne K (.type "list") (.type "dict") = some false := rfl
theorem kit_tuple_int : PySem.W.kitOne K (.type "tuple") (.type "int") = some false := rfl
theorem kit_tuple_bool : PySem.W.kitOne K (.type "tuple") (.type "bool") = some false := rfl
theorem kit_tuple_str : PySem.W.kitOne K (.type "tuple") (.type "str") = some false := rfl
theorem kit_tuple_tuple : PySem.W.kitOne K (.type "tuple") (.type "tuple") = some true := rfl
theorem kit_tuple_list : PySem.W.kitOne K (.type "tuple") (.type "list") = some false := rfl
theorem kit_tuple_dict : PySem.W.kitOne K (.type "tuple") (.type "dict") = some false := rfl
theorem kit_dict_int : PySem.W.kitOne K (.type "dict") (.type "int") = some false := rfl
theorem kit_dict_bool : PySem.W.kitOne K (.type "dict") (.type "bool") = some false := rfl
theorem kit_dict_str : PySem.W.kitOne K (.type "dict") (.type "str") = some false := rfl
theorem kit_dict_tuple : PySem.W.kitOne K (.type "dict") (.type "tuple") = some false := rfl
theorem kit_dict_list : PySem.W.kitOne K (.type "dict") (.type "list") = some false := rfl
theorem kit_dict_dict : PySem.W.kitOne K (.type "dict") (.type "dict") = some true := rfl
end
end WX
namespace WX
theorem iteNF {A B : Prop} (h : A) : if (!false) = true then A else B := by
  rw [if_pos (by rfl)]
  exact h
theorem iteNT {A B : Prop} (h : B) : if (!true) = true then A else B := by
  rw [if_neg (by decide)]
  exact h
theorem iteD {c A B : Prop} [Decidable c] (h1 : c → A) (h2 : ¬ c → B) : if decide c = true then A else B := by
  by_cases h : c
  · rw [if_pos (decide_eq_true h)]
    exact h1 h
  · rw [if_neg (by rw [decide_eq_false h]; exact Bool.false_ne_true)]
    exact h2 h
theorem iteND {c A B : Prop} [Decidable c] (h1 : ¬ c → A) (h2 : c → B) : if (!decide c) = true then A else B := by
  by_cases h : c
  · rw [decide_eq_true h, if_neg (by decide)]
    exact h2 h
  · rw [decide_eq_false h, if_pos (by rfl)]
    exact h1 h
theorem iteB {b : Bool} {A B : Prop} (h1 : b = true → A) (h2 : b = false → B) : if b = true then A else B := by
  cases b with
  | true => rw [if_pos rfl]; exact h1 rfl
  | false => rw [if_neg Bool.false_ne_true]; exact h2 rfl
end WX
namespace WX
open PySem PySem.Spec PyProof.Rows L2
/-- nothing is tracked, or the script alone -/
def scH (a : Addr) (t : Option HO) : Hp := fun b => if b = a then t else none
theorem scH_at {a : Addr} {t : Option HO} : scH a t a = t := if_pos rfl
theorem scH_off {a b : Addr} {t : Option HO} (h : b ≠ a) : scH a t b = none := if_neg h
section
variable {P : Program} {w : World} {K : PySem.W.Frag} {mg mb : Str → Option Value} {k : Nat} {fa a : Addr} {fd : FuncData} {x : Str} {sp : Sp} {s1 : Shared} {vs : List Value} {ns : List Int}
/-- the law's own call, by its promise: t is what is tracked of the script -/
theorem law_core (t : Option HO) (inK : K.In s1.heap) (gl : s1.heap.Ns mainGlobals mg) (bl : s1.heap.Ns builtinsNs mb) (bb : ∀ x : Str, x ≠ "__name__" → mb x = bootBuiltins x) (lim : s1.heap.NoLimit) (gens : s1.gens = #[])
    (ob : s1.heap.get? a = some { cls := .type "list", data := .seq vs.toArray }) (ht : t = none ∨ ∃ xs, t = some (.frz { cls := .type "list", data := .seq vs.toArray } (.lst xs))) (hk : t ≠ none → K.lookup a = none) (hok : HOk P w (scH a t) s1.heap) (room : Room k callerA)
    (F : ∀ base : Heap, K.In base → base.Ns mainGlobals mg → FnG P w K mg base CX0 k fa fd [x] sp) (bd : ∀ (s : Shared) (u : Value), BindsTo s fd ⟨[u], []⟩ [(x, u)]) (want : sp [.ref a] (scH a t) (fun v _ => v = .bl true) fun _ _ _ => False) :
    codeAny (model P w) callerA (.call (.ref fa) ⟨[.ref a], []⟩) (fun r s' => r = .ok (.ret (.bool true)) ∧ OldK s1.heap s'.heap ∧ s'.os = s1.os ∧ AllBare s'.gens) s1 := by
  have off : ∀ b, scH a t b ≠ none → b = a := fun b n => Classical.byContradiction fun z => n (scH_off z)
  -- a namespace is not the script
  have dic : ∀ {b : Addr} {m : Str → Option Value}, s1.heap.Ns b m → (hidT s1.heap (scH a t)).Ns b m := by
    rintro b m ⟨o, es, ep, q, dq, rest⟩
    have free : scH a t b = none := by
      by_cases z : b = a
      · rw [z, ob] at q
        cases q
        cases dq
      · exact scH_off z
    exact ⟨o, es, ep, hidT_get q free, dq, rest⟩
  have Kb : K.In (hidT s1.heap (scH a t)) := by
    intro b o q
    refine hidT_get (inK b o q) ?_
    by_cases z : scH a t b = none
    · exact z
    · have e := off b z
      subst e
      rw [hk (by rw [← scH_at (a := b) (t := t)]; exact z)] at q
      cases q
  have md : Mod K mg (hidT s1.heap (scH a t)) := ⟨Kb, dic gl, ⟨mb, dic bl, bb⟩, lim.elim fun mc h => ⟨mc, dic h.1, h.2⟩⟩
  have en : Env0 P w K mg (hidT s1.heap (scH a t)) callerA [] s1 (scH a t) := by
    refine ⟨rfl, md, fun b o q => of_hidT q, Nat.le_of_eq (hidT_size _ _), trivial, ?_, hok, .of_eq gens⟩
    intro b m
    cases m
  refine codeAny_mono ((F _ Kb (dic gl)).go callerA [] s1 (scH a t) ⟨[.ref a], []⟩ [.ref a] [.ref a] _ _ rfl room en (bd s1 (.ref a)) (.cons rfl .nil) want) ?_
  intro r s2 q
  match r, q with
  | .error e, q => exact q.elim
  | .ok .next, q => exact q.elim
  | .ok .brk, q => exact q.elim
  | .ok .cont, q => exact q.elim
  | .ok (.ret u), ⟨v, H2, os, bare, un, ok2, rv, ev⟩ =>
    have ev' : v = .bl true := ev
    subst ev'
    have eu : u = Value.bool true := rv
    subst eu
    refine ⟨rfl, OldK.of_keep ?_, os, bare⟩
    intro b o old
    by_cases z : scH a t b = none
    · exact un.keep b o old z (fun m => nomatch m) (fun m => nomatch m)
    · have e := off b z
      subst e
      rcases ht with h0 | ⟨xs, h0⟩
      · exact absurd (scH_at.trans h0) z
      · rw [ob] at old
        cases old
        exact (ok2 b _ (un.frzs b _ _ (scH_at.trans h0))).1
end
/-- the goal that k_head leaves, from the law's promise -/
theorem walkG {l : PySem.W.OpenLaw} {n k : Nat} {q : Program} {loose : List Str} {XP : (Str → Option Value) → Heap → Prop} {YP : World → Heap → Prop} {d : DefRec} {K : Params → PySem.W.Frag} {sp : PySem.W.Frag → Sp} {x : Str}
    (most : l.most = some n) (small : n ≤ sizeLine) (nodef : d.params.defaults = []) (room : Room k callerA) (hY : ∀ (w : World) (h : Heap), YP w h → (K w.params).In h)
    (F : ∀ (w : World) (mg : Str → Option Value) (fa : Addr) (h : Heap), (K w.params).In h → h.Ns mainGlobals mg → mg d.name = some (.ref fa) →
      ∃ fd : FuncData, (∀ (s : Shared) (u : Value), BindsTo s fd ⟨[u], []⟩ [(x, u)]) ∧ ∀ base : Heap, (K w.params).In base → base.Ns mainGlobals mg → FnG l.prog w (K w.params) mg base CX0 k fa fd [x] (sp (K w.params)))
    (want : ∀ (K : PySem.W.Frag) (H : Hp) (a : Addr) (ns : List Int), ns.length ≤ n → SqL K H a (ns.map V.int) → sp K [.ref a] H (fun v _ => v = .bl true) fun _ _ _ => False) :
    PySem.W.WalkO q loose XP YP l.row.toRowW d [] (fun f vs => PySem.call f vs) := by
  refine Att.attach_call most nodef ?_
  intro w s0 s1 mg mb fa o pm cd doc a vs ns G Y _ _ _ hmg ob hin len gens
  have inK := hY w _ Y
  obtain ⟨fd, bd, hF⟩ := F w mg fa _ inK G.T.g hmg
  have rv := vals_ints hin
  have lv := rv.length
  rw [List.length_map] at lv
  have sz : (ns.map V.int).length ≤ sizeLine := by rw [List.length_map]; exact Nat.le_trans len small
  cases hk : (K w.params).lookup a with
  | some ok =>
    have e := inK a ok hk
    rw [ob] at e
    cases e
    refine law_core none inK G.T.g G.T.b G.T.builtins G.T.nolimit gens ob (Or.inl rfl) (fun z => absurd rfl z) ?_ room hF bd (want _ _ a ns len (Or.inr ⟨_, vs.toArray, _, hk, rfl, rfl, rfl, ?_, ?_⟩))
    · intro b u z
      unfold scH at z
      split at z <;> cases z
    · rw [List.size_toArray, ← lv]
      exact Nat.le_trans len small
    · exact rv
  | none =>
    refine law_core (some (.frz { cls := .type "list", data := .seq vs.toArray } (.lst (ns.map V.int)))) inK G.T.g G.T.b G.T.builtins G.T.nolimit gens ob (Or.inr ⟨_, rfl⟩) (fun _ => hk) ?_ room hF bd (want _ _ a ns len (Or.inl (Or.inr ⟨_, scH_at⟩)))
    intro b u z
    by_cases hb : b = a
    · subst hb
      rw [scH_at] at z
      cases z
      exact ⟨ob, sz, vs, _, rv, ob⟩
    · rw [scH_off hb] at z
      cases z
end WX
namespace WX
open PySem PySem.Spec PyProof.Rows L2
section
variable {X : Cx} {σ : L2.St} {H : Hp} {Q : VK}
theorem o_les {i j : Str} (h : Q (.bl (!decide (j.cps.toList < i.cps.toList))) H) : wO X (compareOp .LtE) (.str i) (.str j) H Q := by
  constructor
  intro pins s σ v u I rx ry
  obtain ⟨t, rfl⟩ := rx
  obtain ⟨t', rfl⟩ := ry
  exact PySem.P.le_str ⟨.bl _, H, I, rfl, h⟩
/-- repr of data -/
theorem c_repr {x : V} {d : PyData} (hG : X.A.guards = some []) (hu : X.A.units + (d.depth + 1) < cLine) (hd : Dp X.K H x d) (hs : d.showable = true) (hn : d.hasDict = false) (hz : d.shown.length ≤ sizeLine) (h : Q (.str d.shown) H) : wC X (.builtin "repr") [x] H Q := by
  constructor
  intro pins s σ us I r
  obtain ⟨u, rfl, rx⟩ := vals1 r
  cases hd with
  | non =>
    cases (show u = Value.none from rx)
    simp only [PyData.shown] at h
    exact PySem.P.repr_of_none ⟨.str _, H, I.tok _, ⟨_, rfl⟩, h⟩
  | bl b =>
    cases (show u = Value.bool b from rx)
    simp only [PyData.shown] at h
    refine PySem.P.repr_of_bool ⟨.str _, H, I.tok _, ⟨_, rfl⟩, ?_⟩
    cases b <;> exact h
  | int i =>
    obtain ⟨t, rfl⟩ := rx
    simp only [PyData.shown] at h
    simp only [PyData.showable, decide_eq_true_eq] at hs
    exact PySem.P.repr_of_int hs ⟨.str _, H, I.tok _, ⟨_, rfl⟩, h⟩
  | str y =>
    obtain ⟨t, rfl⟩ := rx
    simp only [PyData.shown] at h hz
    exact PySem.P.repr_of_str ⟨.str _, H, I.tok _, ⟨_, rfl⟩, h⟩ hz
  | lst h1 h2 =>
    cases (show u = Value.ref _ from rx)
    obtain ⟨as, rd⟩ := Dp.reads I _ _ _ (Dp.lst h1 h2) rfl
    exact repr_of_reads' rd hs (fun z => absurd (hn.symm.trans z) Bool.false_ne_true) hG hu (fun _ _ q => q) (fun h' u tk hk => ⟨.str _, H, I.kept hk, ⟨_, rfl⟩, h⟩) hz
  | tup h1 h2 =>
    cases (show u = Value.ref _ from rx)
    obtain ⟨as, rd⟩ := Dp.reads I _ _ _ (Dp.tup h1 h2) rfl
    exact repr_of_reads' rd hs (fun z => absurd (hn.symm.trans z) Bool.false_ne_true) hG hu (fun _ _ q => q) (fun h' u tk hk => ⟨.str _, H, I.kept hk, ⟨_, rfl⟩, h⟩) hz
end
end WX
namespace WX
open PySem PySem.Spec PyProof.Rows L2
section
variable {X : Cx} {σ : L2.St} {H : Hp} {Q : VK}
theorem o_powW {i j : Int} (h0 : 0 ≤ j) (hz : (Builtin.Int.intBits i : Int) * j ≤ 2 ^ 27) (h : Q (.int (i ^ j.toNat)) H) : wO X (binaryOp .Pow) (.int i) (.int j) H Q := by
  constructor
  intro pins s σ v u I rx ry
  obtain ⟨t, rfl⟩ := rx
  obtain ⟨t', rfl⟩ := ry
  exact pow_int h0 hz ⟨.int _, H, I.tok _, ⟨_, rfl⟩, h⟩
theorem o_fdivW {i j : Int} (hc : CDivW i j) (h : Q (.int (i / j)) H) : wO X (binaryOp .FloorDiv) (.int i) (.int j) H Q := toO op_fdivW ⟨i, j, rfl, rfl, hc, h⟩
end
/-! ### what changes -/
/-- all but p stands -/
def Ch (p : Addr) (H H' : Hp) : Prop := ∀ b o, b ≠ p → H b = some o → H' b = some o
theorem Ch.refl {p : Addr} {H : Hp} : Ch p H H := fun _ _ _ h => h
theorem Ch.trans {p : Addr} {H H1 H2 : Hp} (a : Ch p H H1) (b : Ch p H1 H2) : Ch p H H2 := fun x o hx h => b x o hx (a x o hx h)
theorem Ch.new {p q : Addr} {H H1 : Hp} {o : HO} (a : Ch p H H1) (hq : H1 q = none) : Ch p H (upd H1 q o) := fun x u hx h => upd_keep hq (a x u hx h)
theorem Ch.put {p : Addr} {H H1 : Hp} {o : HO} (a : Ch p H H1) : Ch p H (upd H1 p o) := fun x u hx h => by
  rw [upd_ne hx]
  exact a x u hx h
theorem Ch.of {p : Addr} {H H1 : Hp} (a : Same H H1) : Ch p H H1 := fun x o _ h => a x o h
theorem _root_.L2.Same.new {q : Addr} {H H1 : Hp} {o : HO} (a : Same H H1) (hq : H1 q = none) : Same H (upd H1 q o) := fun x u h => upd_keep hq (a x u h)
theorem _root_.L2.Same.ch {p : Addr} {H H1 H2 : Hp} (a : Same H H1) (h0 : H p = none) (c : Ch p H1 H2) : Same H H2 := fun x u h => c x u (ne_of_none h h0) (a x u h)
/-- the dice: a list of three ints -/
def Dice (H : Hp) (p : Addr) : Prop := ∃ x y z : Int, H p = some (.lst [.int x, .int y, .int z])
theorem Dice.new {H : Hp} {p q : Addr} {o : HO} (d : Dice H p) (hq : H q = none) : Dice (upd H q o) p := by
  obtain ⟨x, y, z, h⟩ := d
  exact ⟨x, y, z, upd_keep hq h⟩
theorem Dice.ne {H : Hp} {p q : Addr} {xs : List V} (d : Dice H p) (h : H q = some (.lst xs)) (hx : xs.length ≠ 3) : q ≠ p := by
  obtain ⟨x, y, z, e⟩ := d
  rintro rfl
  rw [e] at h
  cases h
  exact hx rfl
end WX
namespace WX
open PySem PySem.Spec PyProof.Rows L2
section
variable {X : Cx} {σ : L2.St} {H : Hp} {Q R : VK} {e : Expr}
theorem wE_mono (h : wE X e σ H R) (k : ∀ v H', R v H' → Q v H') : wE X e σ H Q := ⟨fun pins s I => thn (h.run pins s I) fun _ _ ⟨v, H', I', r, q⟩ => ⟨v, H', I', r, k v H' q⟩⟩
theorem wT_mono {Q R : Bool → Hp → Prop} (h : wT X e σ H R) (k : ∀ v H', R v H' → Q v H') : wT X e σ H Q := ⟨fun pins s I => thn (h.run pins s I) fun _ _ ⟨H', I', q⟩ => ⟨H', I', k _ H' q⟩⟩
end
theorem at_ints {xs : List Int} {i : Int} (h0 : 0 ≤ i) (h : i < ((xs.map V.int).length : Int)) : ∃ c : Int, atI (xs.map V.int) i = some (.int c) := by
  rw [List.length_map] at h
  obtain ⟨n, rfl⟩ : ∃ n : Nat, i = (n : Int) := ⟨i.toNat, by omega⟩
  have h2 : n < xs.length := by omega
  refine ⟨xs[n], atI_nat ?_⟩
  rw [List.getElem?_map, List.getElem?_eq_getElem h2]
  rfl
theorem at_vs {xs : List V} {r : Int} (h0 : 0 ≤ r) (h : r < (xs.length : Int)) : ∃ (n : Nat) (v : V), xs[n]? = some v ∧ atI xs r = some v := by
  obtain ⟨n, rfl⟩ : ∃ n : Nat, r = (n : Int) := ⟨r.toNat, by omega⟩
  have h2 : n < xs.length := by omega
  exact ⟨n, xs[n], List.getElem?_eq_getElem h2, atI_nat (List.getElem?_eq_getElem h2)⟩
end WX
namespace WX
open PySem PySem.Spec PyProof.Rows L2
/-! ### comprehensions -/
structure Blk (X X' : Cx) (scope : Scope) : Prop where
  prog : X'.prog = X.prog
  w : X'.w = X.w
  K : X'.K = X.K
  mg : X'.mg = X.mg
  base : X'.base = X.base
  A : X'.A = X.A
  N : X'.N = X.N
  sc : X'.env.scope = relS scope X.env.scope
  calm : X'.calm = X.calm
  xe : X'.xe = fun _ _ => False
section
variable {X : Cx} {σ : L2.St} {H : Hp} {Q : VK} {pos : Pos} {elt iter : Expr} {scope : Scope} {x : Str} {j : Nat} {px : Pos}
theorem blk_mk (s : Shared) (H : Hp) (C : Addr) (cl : List (Str × Addr)) (fp : List Addr) : Blk X (X.blk s H scope (compEnvC scope cl C X.env) fp) scope := ⟨rfl, rfl, rfl, rfl, rfl, rfl, rfl, rfl, rfl, rfl⟩
theorem Blk.bd {X' : Cx} {N : List Str} {sc : Scope} {k : Nat} (b : Blk X X' scope) (B : Bd X N sc k) : Bd X' N (relS scope sc) k := by
  obtain ⟨e1, e2, e3, e4, e5, e6, e7, e8, e9, e10⟩ := b
  obtain ⟨b1, b2, b3, b4, b5, b6⟩ := B
  refine ⟨e7.trans b1, by rw [e7]; exact b2, by rw [e8, b3], e9.trans b4, by rw [e6]; exact b5, ?_⟩
  rw [e10]
  exact PassesOwn.never
/-- what the element gives, in whatever block -/
def wEb (X : Cx) (scope : Scope) (e : Expr) : TE := fun σ H Q => ∀ X', Blk X X' scope → wE X' e σ H Q
theorem peb_self {e : Expr} (s : Shared) (H : Hp) (C : Addr) (cl : List (Str × Addr)) (fp : List Addr) : PE (X.blk s H scope (compEnvC scope cl C X.env) fp) e (wEb X scope e) := ⟨fun pins s1 σ H1 Q I h => (h _ (blk_mk s H C cl fp)).run pins s1 I⟩
def wTb (X : Cx) (scope : Scope) (e : Expr) : TT := fun σ H Q => ∀ X', Blk X X' scope → wT X' e σ H Q
theorem ptb_self {e : Expr} (s : Shared) (H : Hp) (C : Addr) (cl : List (Str × Addr)) (fp : List Addr) : PT (X.blk s H scope (compEnvC scope cl C X.env) fp) e (wTb X scope e) := ⟨fun pins s1 σ H1 Q I h => (h _ (blk_mk s H C cl fp)).run pins s1 I⟩
theorem pgb_name {pos : Pos} (nd : X.N.Nodup) (hj : X.N[j]? = some x) (hx : scope.names.lookup x = some .local) (s : Shared) (H : Hp) (C : Addr) (cl : List (Str × Addr)) (fp : List Addr) : PG (X.blk s H scope (compEnvC scope cl C X.env) fp) (.Name x pos) (gName j) := by
  have hl : (relS scope X.env.scope).names.lookup x = some .local := lookup_relS_keep (by decide) hx
  exact pg_name nd hj (Or.inl hl) (.inr hl)
theorem wipe_one {σ : L2.St} {v : V} : wipe ((wipe σ [j]).set j (some v)) [j] = wipe σ [j] ∧ (wipe σ [j]).set j (some v) = σ.set j (some v) := by
  show (((σ.set j none).set j (some v)).set j none) = σ.set j none ∧ (σ.set j none).set j (some v) = σ.set j (some v)
  rw [List.set_set, List.set_set]
  exact ⟨rfl, List.set_set ..⟩
/-- over a tuple, every item kept -/
theorem lcT_read (h : wE X iter σ H fun v H1 => ∃ a xs, v = .ref a ∧ SqT X.K H1 a xs ∧ ∀ D, H1 D = none → ∃ Pv : Nat → Hp → Prop, Pv 0 (upd H1 D (.lst [])) ∧ (∀ i H, i ≤ xs.length → Pv i H → SqT X.K H a xs) ∧
    (∀ (i : Nat) (v : V) (H : Hp), xs[i]? = some v → Pv i H → wEb X scope elt (σ.set j (some v)) H fun y H4 => ∃ acc, H4 D = some (.lst acc) ∧ acc.length < sizeLine ∧ Pv (i + 1) (upd H4 D (.lst (acc ++ [y])))) ∧ ∀ H, Pv xs.length H → Q (.ref D) H) :
    tLc (iTup X.K (wE X iter)) (gName j) tYes (wEb X scope elt) [j] σ H Q := by
  refine wE_mono h ?_
  rintro v H1 ⟨a, xs, rfl, hs, k⟩
  refine ⟨a, rfl, ⟨xs, hs⟩, fun D hD => ?_⟩
  obtain ⟨Pv, p0, pk, pt, pe⟩ := k D hD
  refine lc_tup Pv p0 pk (fun i v H hi hp => ?_) pe
  obtain ⟨e1, e2⟩ := wipe_one (σ := σ) (v := v) (j := j)
  refine ⟨e1, ?_⟩
  rw [e2]
  exact pt i v H hi hp
theorem lcL_read (h : wE X iter σ H fun v H1 => ∃ a xs, v = .ref a ∧ SqL X.K H1 a xs ∧ ∀ D, H1 D = none → ∃ Pv : Nat → Hp → Prop, Pv 0 (upd H1 D (.lst [])) ∧ (∀ i H, i ≤ xs.length → Pv i H → SqL X.K H a xs) ∧
    (∀ (i : Nat) (v : V) (H : Hp), xs[i]? = some v → Pv i H → wEb X scope elt (σ.set j (some v)) H fun y H4 => ∃ acc, H4 D = some (.lst acc) ∧ acc.length < sizeLine ∧ Pv (i + 1) (upd H4 D (.lst (acc ++ [y])))) ∧ ∀ H, Pv xs.length H → Q (.ref D) H) :
    tLc (iList X.K (wE X iter)) (gName j) tYes (wEb X scope elt) [j] σ H Q := by
  refine wE_mono h ?_
  rintro v H1 ⟨a, xs, rfl, hs, k⟩
  refine ⟨a, rfl, ⟨xs, hs⟩, fun D hD => ?_⟩
  obtain ⟨Pv, p0, pk, pt, pe⟩ := k D hD
  refine lc_list Pv p0 pk (fun i v H hi hp => ?_) pe
  obtain ⟨e1, e2⟩ := wipe_one (σ := σ) (v := v) (j := j)
  refine ⟨e1, ?_⟩
  rw [e2]
  exact pt i v H hi hp
/-- the elements make nothing: the list of their values -/
theorem lcT_map (h : wE X iter σ H fun v H1 => ∃ a xs ys, v = .ref a ∧ SqT X.K H1 a xs ∧ ys.length = xs.length ∧ xs.length < sizeLine ∧ ∀ D, H1 D = none →
    (∀ (i : Nat) (v : V) (H : Hp), xs[i]? = some v → (∀ b o, H1 b = some o → H b = some o) → wEb X scope elt (σ.set j (some v)) H fun y H4 => H4 = H ∧ ys[i]? = some y) ∧ Q (.ref D) (upd H1 D (.lst ys))) :
    tLc (iTup X.K (wE X iter)) (gName j) tYes (wEb X scope elt) [j] σ H Q := by
  refine lcT_read (wE_mono h ?_)
  rintro v H1 ⟨a, xs, ys, rfl, hs, hl, hz, k⟩
  refine ⟨a, xs, rfl, hs, fun D hD => ?_⟩
  obtain ⟨k1, k2⟩ := k D hD
  have keep : ∀ zs, Same H1 (upd H1 D (.lst zs)) := fun zs b o e => upd_keep hD e
  refine ⟨fun i H => H = upd H1 D (.lst (ys.take i)), rfl, fun i H _ e => ?_, fun i v H hv e X' bk => ?_, fun H e => ?_⟩
  · rw [e]
    rcases hs with (hs | ⟨o, hs⟩) | hs
    · exact Or.inl (Or.inl (keep _ _ _ hs))
    · exact Or.inl (Or.inr ⟨o, keep _ _ _ hs⟩)
    · exact Or.inr hs
  · subst e
    refine wE_mono (k1 i v _ hv (keep _) X' bk) ?_
    rintro y H4 ⟨rfl, hy⟩
    refine ⟨ys.take i, upd_same, ?_, ?_⟩
    · rw [List.length_take]; omega
    · show upd (upd H1 D (.lst (ys.take i))) D (.lst (ys.take i ++ [y])) = upd H1 D (.lst (ys.take (i + 1)))
      rw [upd_upd, List.take_add_one, hy]; rfl
  · rw [e, show xs.length = ys.length from hl.symm, List.take_length]
    exact k2
theorem lcL_map (h : wE X iter σ H fun v H1 => ∃ a xs ys, v = .ref a ∧ SqL X.K H1 a xs ∧ ys.length = xs.length ∧ xs.length < sizeLine ∧ ∀ D, H1 D = none →
    (∀ (i : Nat) (v : V) (H : Hp), xs[i]? = some v → (∀ b o, H1 b = some o → H b = some o) → wEb X scope elt (σ.set j (some v)) H fun y H4 => H4 = H ∧ ys[i]? = some y) ∧ Q (.ref D) (upd H1 D (.lst ys))) :
    tLc (iList X.K (wE X iter)) (gName j) tYes (wEb X scope elt) [j] σ H Q := by
  refine lcL_read (wE_mono h ?_)
  rintro v H1 ⟨a, xs, ys, rfl, hs, hl, hz, k⟩
  refine ⟨a, xs, rfl, hs, fun D hD => ?_⟩
  obtain ⟨k1, k2⟩ := k D hD
  have keep : ∀ zs, Same H1 (upd H1 D (.lst zs)) := fun zs b o e => upd_keep hD e
  refine ⟨fun i H => H = upd H1 D (.lst (ys.take i)), rfl, fun i H _ e => ?_, fun i v H hv e X' bk => ?_, fun H e => ?_⟩
  · rw [e]
    exact (keep _).seq hs
  · subst e
    refine wE_mono (k1 i v _ hv (keep _) X' bk) ?_
    rintro y H4 ⟨rfl, hy⟩
    refine ⟨ys.take i, upd_same, ?_, ?_⟩
    · rw [List.length_take]; omega
    · show upd (upd H1 D (.lst (ys.take i))) D (.lst (ys.take i ++ [y])) = upd H1 D (.lst (ys.take (i + 1)))
      rw [upd_upd, List.take_add_one, hy]; rfl
  · rw [e, show xs.length = ys.length from hl.symm, List.take_length]
    exact k2
variable {N : List Str} {sc : Scope} {k : Nat}
theorem e_lcT (j : Nat) (B : Bd X N sc k) (ok : BlkOk N sc scope [(x, j)]) (hj : N[j]? = some x) (hx : scope.names.lookup x = some .local) (h : tLc (iTup X.K (wE X iter)) (gName j) tYes (wEb X scope elt) [j] σ H Q) (hs : ∀ x, foldedSetIterable iter X.env x = pure x := by intro _; rfl) :
    wE X (.ListComp elt [⟨.Name x px, iter, [], 0⟩] scope pos) σ H Q :=
  toE (pe_lc (own := [(x, j)]) B.calm B.nd (pi_tup pe_self) (by rw [B.hN, B.sc]; exact ok) (pgb_name B.nd (B.slot j hj) hx) (fun _ _ _ _ _ => pts_nil) peb_self hs) h
theorem e_lcL (j : Nat) (B : Bd X N sc k) (ok : BlkOk N sc scope [(x, j)]) (hj : N[j]? = some x) (hx : scope.names.lookup x = some .local) (h : tLc (iList X.K (wE X iter)) (gName j) tYes (wEb X scope elt) [j] σ H Q) (hs : ∀ x, foldedSetIterable iter X.env x = pure x := by intro _; rfl) :
    wE X (.ListComp elt [⟨.Name x px, iter, [], 0⟩] scope pos) σ H Q :=
  toE (pe_lc (own := [(x, j)]) B.calm B.nd (pi_list pe_self) (by rw [B.hN, B.sc]; exact ok) (pgb_name B.nd (B.slot j hj) hx) (fun _ _ _ _ _ => pts_nil) peb_self hs) h
/-- name = [..] on one row -/
theorem s_lcT (j : Nat) {D : Ends} {y : Str} {py spos : Pos} (i : Nat) (B : Bd X N sc k) (ok : BlkOk N sc scope [(x, j)]) (hj : N[j]? = some x) (hx : scope.names.lookup x = some .local) (hy : X.N[i]? = some y) (hyl : X.env.scope.names.lookup y = some .local)
    (hsw : swapsWith (.ListComp elt [⟨.Name x px, iter, [], 0⟩] scope pos) (some (.Name y py)) spos.line X.env = pure true)
    (h : tLc (iTup X.K (wE X iter)) (gName j) tYes (wEb X scope elt) [j] σ H fun v H1 => D.nx (σ.set i (some v)) H1) (hs : ∀ x, foldedSetIterable iter X.env x = pure x := by intro _; rfl) : wS X (.Assign [.Name y py] (.ListComp elt [⟨.Name x px, iter, [], 0⟩] scope pos) spos) D σ H :=
  toS (ps_setLc (own := [(x, j)]) B.calm B.nd hy hyl hsw (pi_tup pe_self) (by rw [B.hN, B.sc]; exact ok) (pgb_name B.nd (B.slot j hj) hx) (fun _ _ _ _ _ => pts_nil) peb_self hs) h
theorem s_lcL (j : Nat) {D : Ends} {y : Str} {py spos : Pos} (i : Nat) (B : Bd X N sc k) (ok : BlkOk N sc scope [(x, j)]) (hj : N[j]? = some x) (hx : scope.names.lookup x = some .local) (hy : X.N[i]? = some y) (hyl : X.env.scope.names.lookup y = some .local)
    (hsw : swapsWith (.ListComp elt [⟨.Name x px, iter, [], 0⟩] scope pos) (some (.Name y py)) spos.line X.env = pure true)
    (h : tLc (iList X.K (wE X iter)) (gName j) tYes (wEb X scope elt) [j] σ H fun v H1 => D.nx (σ.set i (some v)) H1) (hs : ∀ x, foldedSetIterable iter X.env x = pure x := by intro _; rfl) : wS X (.Assign [.Name y py] (.ListComp elt [⟨.Name x px, iter, [], 0⟩] scope pos) spos) D σ H :=
  toS (ps_setLc (own := [(x, j)]) B.calm B.nd hy hyl hsw (pi_list pe_self) (by rw [B.hN, B.sc]; exact ok) (pgb_name B.nd (B.slot j hj) hx) (fun _ _ _ _ _ => pts_nil) peb_self hs) h
/-- {k: v}, one written key -/
theorem e_dict1 {ek ev : Expr} {dpos : Pos} (h : ∀ p, H p = none → wE X ek σ (upd H p (.dK [])) fun a H1 => wE X ev σ H1 fun b H2 => H2 p = some (.dK []) ∧ ∃ q : L2.Key, a = kV q ∧ Q (.ref p) (upd H2 p (.dK [(q, b)]))) : wE X (.Dict [some ek] [ev] dpos) σ H Q := by
  refine toE (pe_disp (pps_cons pe_self pe_self pps_nil) (by rfl) (by rfl) (by simp) (by show 1 ≤ 15; decide)) ?_
  intro p hp
  refine wE_mono (h p hp) ?_
  intro a H1 h1
  refine wE_mono h1 ?_
  rintro b H2 ⟨e, q, rfl, k⟩
  exact ⟨e, [(q, b)], rfl, (by show 1 ≤ 15; decide), k⟩
theorem o_rep {l : Addr} {xs : List V} {k : Int} (h1 : H l = some (.lst xs)) (h2 : -(2 ^ 63) ≤ k) (h3 : k < 2 ^ 63) (h4 : xs.length * k.toNat ≤ sizeLine) (h : ∀ p, H p = none → Q (.ref p) (upd H p (.lst (List.replicate k.toNat xs).flatten))) : wO X (binaryOp .Mult) (.ref l) (.int k) H Q :=
  toO op_rep ⟨l, k, xs, rfl, rfl, h1, h2, h3, h4, h⟩
theorem o_eqD {a b : V} {d e : PyData} (hu : X.A.units + 64 < cLine) (h1 : Dp X.K H a d) (h2 : Dp X.K H b e) (s1 : SeqAt.shaped d = true) (s2 : SeqAt.shaped e = true) (h : Q (.bl (PyData.eqv d e)) H) : wO X (compareOp .Eq) a b H Q := toO (op_eqD hu) ⟨d, e, h1, h2, s1, s2, h⟩
theorem o_neD {a b : V} {d e : PyData} (hu : X.A.units + 64 < cLine) (h1 : Dp X.K H a d) (h2 : Dp X.K H b e) (s1 : SeqAt.shaped d = true) (s2 : SeqAt.shaped e = true) (h : Q (.bl (!PyData.eqv d e)) H) : wO X (compareOp .NotEq) a b H Q := toO (op_neD hu) ⟨d, e, h1, h2, s1, s2, h⟩
end
end WX
namespace WX
open PySem PySem.Spec PyProof.Rows L2
theorem env_eta {env : Env} {sc : Scope} (h : env.scope = sc) : env = { env with scope := sc } := by
  cases env
  cases h
  rfl
end WX
namespace WX
open PySem PySem.Spec PyProof.Rows L2
section
variable {X : Cx} {σ : L2.St} {H : Hp} {Q : VK}
theorem e_dict_i {i : Int} {a2 : Nat} {a3 : Pos} {ev : Expr} {dpos : Pos} (h : ∀ p, H p = none → wE X ev σ (upd H p (.dK [])) fun b H2 => H2 = upd H p (.dK []) ∧ Q (.ref p) (upd H p (.dK [(Sum.inl i, b)]))) : wE X (.Dict [some (.Constant (.int i) a2 a3)] [ev] dpos) σ H Q := by
  refine e_dict1 fun p hp => e_int (wE_mono (h p hp) ?_)
  rintro v H' ⟨rfl, k⟩
  exact ⟨upd_same, Sum.inl i, rfl, by rw [upd_upd]; exact k⟩
theorem e_dict_s {i : Str} {a2 : Nat} {a3 : Pos} {ev : Expr} {dpos : Pos} (h : ∀ p, H p = none → wE X ev σ (upd H p (.dK [])) fun b H2 => H2 = upd H p (.dK []) ∧ Q (.ref p) (upd H p (.dK [(Sum.inr i, b)]))) : wE X (.Dict [some (.Constant (.str i) a2 a3)] [ev] dpos) σ H Q := by
  refine e_dict1 fun p hp => e_str (wE_mono (h p hp) ?_)
  rintro v H' ⟨rfl, k⟩
  exact ⟨upd_same, Sum.inr i, rfl, by rw [upd_upd]; exact k⟩
end
end WX

namespace WX
open PySem PySem.Spec PyProof.Rows L2
/-! ### defs of the program: whatever runs around them -/
structure Dk (P : Program) (w : World) (K : PySem.W.Frag) (mg : Str → Option Value) (base : Heap) (x : Str) (k : Nat) (ps : List Str) (sp : Sp) : Prop where
  ex : ∃ (f : Addr) (fd : FuncData), FnOk P w K mg base CX0 k f fd ps sp ∧ mg x = some (.ref f) ∧ PySem.W.keepIn K (.ref f) = true ∧ Binds K fd ps []
section
variable {X : Cx} {σ : L2.St} {H : Hp} {Q : VK} {pos : Pos} {e : Expr} {es : List Expr}
theorem e_callk {x : Str} {p : Pos} {k : Nat} {ps : List Str} {sp : Sp} (F : Dk X.prog X.w X.K X.mg X.base x k ps sp) (hr : Room k X.A) (hg : Gl X x) (h : wA X (e :: es) σ H fun vs H1 => sp vs H1 Q E0) (hdb : (x == ("__debug__" : Str)) = false := by decide)
    (he : starEach (e :: es) X.env = (false, eval e X.env) :: starEach es X.env := by rfl) (hpl : (backTo pos (starEach es X.env)).any (·.1) = false := by rfl) : wE X (.Call (.Name x p) (e :: es) [] pos) σ H Q := by
  obtain ⟨f, fd, G, hm, hk, hb⟩ := F.ex
  refine toE (pe_call G hr hg hm hk hb .nil pass0 pa_self hdb he hpl) ?_
  have e1 : (fun vs (H1 : Hp) => sp (vs ++ []) H1 Q E0) = fun vs H1 => sp vs H1 Q E0 := by
    funext vs H1
    rw [List.append_nil]
  show wA X (e :: es) σ H (fun vs H1 => sp (vs ++ []) H1 Q E0)
  rw [e1]
  exact h
theorem e_callk0 {x : Str} {p : Pos} {k : Nat} {ps : List Str} {sp : Sp} (F : Dk X.prog X.w X.K X.mg X.base x k ps sp) (hr : Room k X.A) (hg : Gl X x) (h : sp [] H Q E0) (hdb : (x == ("__debug__" : Str)) = false := by decide) : wE X (.Call (.Name x p) [] [] pos) σ H Q := by
  obtain ⟨f, fd, G, hm, hk, hb⟩ := F.ex
  exact toE (pe_call0 G hr hg hm hk hb .nil pass0 hdb) h
end
/-- a body's promise in whatever surroundings -/
theorem fnk_of {P : Program} {w : World} {K : PySem.W.Frag} {mg : Str → Option Value} {base : Heap} {x qual : Str} {st : Stmt} {f : Addr} {fd : FuncData} {N ps : List Str} {k : Nat} {sp : Sp} (F : L2.Fun K x qual st f fd) (S : FnScope N ps (defScope st)) (len : ∀ vs H Q E, sp vs H Q E → vs.length = ps.length)
    (body : ∀ X : Cx, X.prog = P → X.w = w → X.K = K → X.mg = mg → X.base = base → Bd X N (defScope st) k → (∀ x, X.fn x = true) → ∀ vs H Q E, sp vs H Q E → wB X (defBody st) { nx := fun _ H' => Q .non H', rt := Q } (start N vs) H) : FnOk P w K mg base CX0 (k + 1) f fd ps sp :=
  F.ok S len fun cdv A outer s H vs Q E hr h => ⟨_, pss_self, body _ rfl rfl rfl rfl rfl ⟨rfl, S.nd, rfl, rfl, hr, PassesOwn.never⟩ (fun _ => rfl) vs H Q E h⟩
theorem dk_of {P : Program} {w : World} {K : PySem.W.Frag} {mg : Str → Option Value} {base : Heap} {x qual : Str} {st : Stmt} {N ps : List Str} {k : Nat} {sp : Sp} (hx : ∃ f fd, L2.Fun K x qual st f fd ∧ mg x = some (.ref f)) (S : FnScope N ps (defScope st))
    (hb : ∀ (kV doc pm : Value) (an : Option Addr) (cdv ct : Value) (us : List Value), us.length = ps.length → bindArgs (PySem.W.fnOf x qual (defArgs st) (defBody st) (defScope st) .none kV doc pm an cdv ct) ⟨us, []⟩ = pure (ps.zip us))
    (len : ∀ vs H Q E, sp vs H Q E → vs.length = ps.length)
    (body : ∀ X : Cx, X.prog = P → X.w = w → X.K = K → X.mg = mg → X.base = base → Bd X N (defScope st) k → (∀ x, X.fn x = true) → ∀ vs H Q E, sp vs H Q E → wB X (defBody st) { nx := fun _ H' => Q .non H', rt := Q } (start N vs) H) : Dk P w K mg base x (k + 1) ps sp := by
  obtain ⟨f, fd, F, hm⟩ := hx
  exact ⟨f, fd, fnk_of F S len body, hm, F.kp, F.binds hb⟩
end WX

set_option Elab.async false
set_option linter.all false
set_option maxRecDepth 100000
set_option maxHeartbeats 4000000
namespace WX
open PySem PySem.Spec PyProof.Rows L2
/-! ### data that stand -/
theorem same_tup {K : PySem.W.Frag} {H H' : Hp} {a : Addr} {xs : List V} (e : Same H H') (h : SqT K H a xs) : SqT K H' a xs := by
  rcases h with (h | ⟨o, h⟩) | h
  · exact .inl (.inl (e _ _ h))
  · exact .inl (.inr ⟨o, e _ _ h⟩)
  · exact .inr h
mutual
theorem dp_same {K : PySem.W.Frag} {H H' : Hp} (e : Same H H') : ∀ {v : V} {d : PyData}, Dp K H v d → Dp K H' v d
  | _, _, .non => .non
  | _, _, .bl b => .bl b
  | _, _, .int i => .int i
  | _, _, .str x => .str x
  | _, _, .lst h a => .lst (Same.seq e h) (dpa_same e a)
  | _, _, .tup h a => .tup (same_tup e h) (dpa_same e a)
theorem dpa_same {K : PySem.W.Frag} {H H' : Hp} (e : Same H H') : ∀ {vs : List V} {ds : List PyData}, DpAll K H vs ds → DpAll K H' vs ds
  | _, _, .nil => .nil
  | _, _, .cons h a => .cons (dp_same e h) (dpa_same e a)
end
/-- p is no tuple -/
def NoTup (H : Hp) (p : Addr) : Prop := ∀ xs, H p ≠ some (.tup xs) ∧ ∀ o, H p ≠ some (.frz o (.tup xs))
theorem tup_ch {K : PySem.W.Frag} {H H' : Hp} {p a : Addr} {xs : List V} (c : Ch p H H') (np : NoTup H p) (h : SqT K H a xs) : SqT K H' a xs := by
  rcases h with (h | ⟨o, h⟩) | h
  · exact .inl (.inl (c _ _ (fun e => (np xs).1 (e ▸ h)) h))
  · exact .inl (.inr ⟨o, c _ _ (fun e => (np xs).2 o (e ▸ h)) h⟩)
  · exact .inr h
mutual
def noLst : PyData → Bool
  | .tuple ds => noLstAll ds
  | .list _ => false
  | .dict _ => false
  | _ => true
def noLstAll : List PyData → Bool
  | [] => true
  | d :: ds => noLst d && noLstAll ds
end
mutual
theorem dp_ch {K : PySem.W.Frag} {H H' : Hp} {p : Addr} (c : Ch p H H') (np : NoTup H p) : ∀ {v : V} {d : PyData}, noLst d = true → Dp K H v d → Dp K H' v d
  | _, _, _, .non => .non
  | _, _, _, .bl b => .bl b
  | _, _, _, .int i => .int i
  | _, _, _, .str x => .str x
  | _, _, n, .lst h a => by simp [noLst] at n
  | _, _, n, .tup h a => .tup (tup_ch c np h) (dpa_ch c np (by simpa [noLst] using n) a)
theorem dpa_ch {K : PySem.W.Frag} {H H' : Hp} {p : Addr} (c : Ch p H H') (np : NoTup H p) : ∀ {vs : List V} {ds : List PyData}, noLstAll ds = true → DpAll K H vs ds → DpAll K H' vs ds
  | _, _, _, .nil => .nil
  | _, _, n, .cons h a => by
    simp only [noLstAll, Bool.and_eq_true] at n
    exact .cons (dp_ch c np n.1 h) (dpa_ch c np n.2 a)
end
theorem Dice.noTup {H : Hp} {p : Addr} (d : Dice H p) : NoTup H p := by
  obtain ⟨x, y, z, e⟩ := d
  intro xs
  rw [e]
  refine ⟨?_, ?_⟩
  · intro h
    cases h
  · intro o h
    cases h
theorem dp_get {K : PySem.W.Frag} {H : Hp} : ∀ {vs : List V} {ds : List PyData} {i : Nat} {d : PyData}, DpAll K H vs ds → ds[i]? = some d → ∃ v, vs[i]? = some v ∧ Dp K H v d
  | _, _, _, _, .nil, h => by simp at h
  | _, _, 0, _, .cons a _, h => by simp at h; subst h; exact ⟨_, rfl, a⟩
  | _, _, i + 1, _, .cons _ t, h => by
    obtain ⟨v, h1, h2⟩ := dp_get (i := i) t (by simpa using h)
    exact ⟨v, by simpa using h1, h2⟩
theorem dp_len {K : PySem.W.Frag} {H : Hp} : ∀ {vs : List V} {ds : List PyData}, DpAll K H vs ds → vs.length = ds.length
  | _, _, .nil => rfl
  | _, _, .cons _ t => congrArg (· + 1) (dp_len t)
theorem dp_ints {K : PySem.W.Frag} {H : Hp} : ∀ (ns : List Int), DpAll K H (ns.map V.int) (ns.map PyData.int)
  | [] => .nil
  | n :: ns => .cons (.int n) (dp_ints ns)
theorem dp_of_ints {K : PySem.W.Frag} {H : Hp} : ∀ {vs : List V} (ns : List Int), DpAll K H vs (ns.map PyData.int) → vs = ns.map V.int
  | _, [], h => by cases h; rfl
  | _, n :: ns, h => by
    cases h with
    | cons a t =>
      cases a
      rw [dp_of_ints ns t]
      rfl
/-! ### fields, methods, properties -/
section
variable {X : Cx} {σ : L2.St} {H : Hp} {Q : VK} {D : Ends} {pos : Pos} {e o : Expr} {es : List Expr} {C a dx : Addr} {fs : List (Str × V)} {v : V}
theorem e_fld {f : Str} (h : wE X e σ H fun x H1 => ∃ a C dx fs v, x = .ref a ∧ H1 a = some (.ins C dx fs) ∧ Cls X.K C ∧ NoAttr X.K C f ∧ fs.lookup f = some v ∧ Q v H1) (hb : attributeBase e f X.env (eval e X.env) = eval e X.env := by rfl) : wE X (.Attribute e f pos) σ H Q := toE (pe_fld pe_self hb) h
theorem s_fld {f : Str} {value : Expr} {pos' : Pos} (h : wE X value σ H fun y H1 => wE X o σ H1 fun x H2 => ∃ a C dx fs, x = .ref a ∧ H2 a = some (.ins C dx fs) ∧ Cls X.K C ∧ NoAttr X.K C f ∧ fs.length < 1000 ∧ D.nx σ (upd H2 a (.ins C dx (putF f y fs))))
    (hs : swapsWith value (some (.Attribute o f pos')) pos.line X.env = pure false := by rfl) : wS X (.Assign [.Attribute o f pos'] value pos) D σ H := toS (ps_fld pe_self pe_self hs) h
/-- a method of the class at C -/
structure Md (P : Program) (w : World) (K : PySem.W.Frag) (mg : Str → Option Value) (base : Heap) (C : Addr) (m : Str) (k : Nat) (ps : List Str) (sp : Sp) : Prop where
  ex : ∃ (f : Addr) (fd : FuncData), FnOk P w K mg base CX0 k f fd ps sp ∧ Meth K C m f ∧ Binds K fd ps []
theorem e_meth {m : Str} {pl : Sem Bool} {apos : Pos} {k : Nat} {ps : List Str} {sp : Sp} (F : Md X.prog X.w X.K X.mg X.base C m k ps sp) (c : Cls X.K C) (hr : Room k X.A) (h : wE X o σ H fun x H1 => ∃ a dx fs, x = .ref a ∧ H1 a = some (.ins C dx fs) ∧ fs.lookup m = none ∧ wA X (e :: es) σ H1 fun vs H2 => sp (x :: vs) H2 Q E0)
    (hst : starEach (e :: es) X.env = (false, eval e X.env) :: starEach es X.env := by rfl) (hpl : (backTo pos (starEach es X.env)).any (·.1) = false := by rfl)
    (ht : eval (.Call (.Attribute o m apos) (e :: es) [] pos) X.env = (do
      let ov ← eval o X.env
      standAt apos.atName
      let (f, first) ← holding [ov] (getMethod ov m pl)
      callWith pos f first (backTo pos (starEach (e :: es) X.env)) (backToKw pos (keywordEach [] X.env))) := by rfl) : wE X (.Call (.Attribute o m apos) (e :: es) [] pos) σ H Q := by
  obtain ⟨f, fd, G, hm, hb⟩ := F.ex
  refine toE (pe_meth (pl := pl) pe_self c hm G hr hb .nil pass0 pa_self hst hpl ht) ?_
  refine wE_mono h ?_
  rintro x H1 ⟨a, dx, fs, rfl, ha, hl, k⟩
  refine ⟨a, dx, fs, rfl, ha, hl, ?_⟩
  have e1 : (fun vs (H2 : Hp) => sp (V.ref a :: (vs ++ [])) H2 Q E0) = fun vs H2 => sp (V.ref a :: vs) H2 Q E0 := by
    funext vs H2
    rw [List.append_nil]
  show wA X (e :: es) σ H1 (fun vs (H2 : Hp) => sp (V.ref a :: (vs ++ [])) H2 Q E0)
  rw [e1]
  exact k
/-- a property -/
structure Pd (P : Program) (w : World) (K : PySem.W.Frag) (mg : Str → Option Value) (base : Heap) (C : Addr) (m : Str) (k : Nat) (sp : Sp) : Prop where
  ex : ∃ (p f : Addr) (fd : FuncData), FnOk P w K mg base CX0 k f fd ["self"] sp ∧ PropOf K C m p f ∧ Binds K fd ["self"] []
theorem e_prop {m : Str} {k : Nat} {sp : Sp} (F : Pd X.prog X.w X.K X.mg X.base C m k sp) (c : Cls X.K C) (hr : Room (k + 1) X.A) (h : wE X e σ H fun x H1 => ∃ a dx fs, x = .ref a ∧ H1 a = some (.ins C dx fs) ∧ sp [.ref a] H1 Q E0)
    (hab : attributeBase e m X.env (eval e X.env) = eval e X.env := by rfl) : wE X (.Attribute e m pos) σ H Q := by
  obtain ⟨p, f, fd, G, hp, hb⟩ := F.ex
  exact toE (pe_prop pe_self c hp G hr hb .nil (fun _ _ _ _ _ _ _ h => h.elim) hab) h
/-- a class of the text, made -/
structure Ckd (P : Program) (w : World) (K : PySem.W.Frag) (mg : Str → Option Value) (base : Heap) (C : Addr) (x : Str) (k : Nat) (ps : List Str) (dvs : List V) (sp : Sp) : Prop where
  ex : ∃ (f : Addr) (fd : FuncData) (ds : List Value), FnOk P w K mg base CX0 k f fd ps sp ∧ mg x = some (.ref C) ∧ Mk K C f ∧ Vals dvs ds ∧ Binds K fd ps ds
theorem e_make {x : Str} {p : Pos} {k : Nat} {ps : List Str} {dvs : List V} {sp : Sp} (F : Ckd X.prog X.w X.K X.mg X.base C x k ps dvs sp) (hr : Room (k + 1) X.A) (hg : Gl X x)
    (h : wA X (e :: es) σ H fun vs H1 => ∀ x dx, H1 x = none → H1 dx = none → dx ≠ x → sp (.ref x :: (vs ++ dvs)) (upd (upd H1 dx (.own x)) x (.ins C dx [])) (fun v H2 => v = .non ∧ Q (.ref x) H2) E0) (hdb : (x == ("__debug__" : Str)) = false := by decide)
    (he : starEach (e :: es) X.env = (false, eval e X.env) :: starEach es X.env := by rfl) (hpl : (backTo pos (starEach es X.env)).any (·.1) = false := by rfl) : wE X (.Call (.Name x p) (e :: es) [] pos) σ H Q := by
  obtain ⟨f, fd, ds, G, hm, M, hd, hb⟩ := F.ex
  exact toE (pe_make M G hr hg hm hb hd pass0 pa_self hdb he hpl) h
/-! ### own operators -/
theorem ins_at {pins : List (Addr × Obj)} {s : Shared} (I : Inv X pins σ H s) (h : H a = some (.ins C dx fs)) : ∃ od, PySem.W.InstAt s.heap a (PySem.W.instObj C dx) C (some od) := by
  obtain ⟨mA, J, _⟩ := ins_get I.hok h
  obtain ⟨od, J, _⟩ := J.look
  exact ⟨od, J⟩
theorem md_run {m : Str} {k : Nat} {ps : List Str} {sp : Sp} {b : V} {pins : List (Addr × Obj)} {s : Shared} {us : List Value} {vs : List V} {f : Addr} {fd : FuncData} (G : FnOk X.prog X.w X.K X.mg X.base CX0 k f fd ps sp) (hb : Binds X.K fd ps []) (hr : Room k X.A) (I : Inv X pins σ H s) (r : Vals vs us) (h : sp vs H Q E0) :
    wpAny (model X.prog X.w) X.A (call (.ref f) us) (EP X pins σ Q) X.xe s := by
  have e1 : sp (vs ++ []) H Q E0 := by rw [List.append_nil]; exact h
  exact run_fn G hr hb .nil pass0 I r e1
/-- a op b, op a def of the class of both -/
theorem o_own {op : Operator} {b dy : Addr} {gs : List (Str × V)} {k : Nat} {ps : List Str} {sp : Sp} (F : Md X.prog X.w X.K X.mg X.base C (PySem.dunder op.info.2) k ps sp) (hc : PySem.W.selfFirst X.K C = true) (hr : Room k X.A) (ha : H a = some (.ins C dx fs)) (hb : H b = some (.ins C dy gs))
    (h : sp [.ref a, .ref b] H (fun v H' => (∃ c, v = .ref c) ∧ Q v H') E0) : wO X (binaryOp op) (.ref a) (.ref b) H Q := by
  obtain ⟨f, fd, G, hm, bd⟩ := F.ex
  constructor
  intro pins s σ v u I rx ry
  cases rx
  cases ry
  obtain ⟨od, J⟩ := ins_at I ha
  obtain ⟨od', J'⟩ := ins_at I hb
  obtain ⟨m, hF⟩ := I.fr
  refine PySem.W.binop_K hF I.ok.mod.kin J J'.type hc hm.at_ hm.fn ?_
  refine thn (md_run (m := PySem.dunder op.info.2) (b := .ref b) G bd hr I (vs := [.ref a, .ref b]) (.cons (show RelV (.ref a) (.ref a) from rfl) (.cons (show RelV (.ref b) (.ref b) from rfl) .nil)) h) ?_
  rintro z s' ⟨y, H', I', ry, ⟨c, rfl⟩, q⟩
  cases ry
  exact ⟨.ref c, H', I', rfl, q⟩
/-- a == b -/
theorem o_eqOwn {b dy : Addr} {gs : List (Str × V)} {k : Nat} {ps : List Str} {sp : Sp} (F : Md X.prog X.w X.K X.mg X.base C "__eq__" k ps sp) (hr : Room k X.A) (ha : H a = some (.ins C dx fs)) (hb : H b = some (.ins C dy gs))
    (h : sp [.ref a, .ref b] H (fun v H' => (∃ c, v = .bl c) ∧ Q v H') E0) : wO X (compareOp .Eq) (.ref a) (.ref b) H Q := by
  obtain ⟨f, fd, G, hm, bd⟩ := F.ex
  constructor
  intro pins s σ v u I rx ry
  cases rx
  cases ry
  obtain ⟨od, J⟩ := ins_at I ha
  obtain ⟨od', J'⟩ := ins_at I hb
  obtain ⟨m, hF⟩ := I.fr
  show wpAny _ _ (richCompare .Eq _ _) _ _ _
  refine PySem.W.cmp_K (op := .Eq) (tb := .ref C) hr.units0 hF I.ok.mod.kin J J'.type (by simp [PySem.W.notFirst]) hm.at_ hm.fn ?_
  refine thn (md_run (m := "__eq__") (b := .ref b) G bd hr I (vs := [.ref a, .ref b]) (.cons (show RelV (.ref a) (.ref a) from rfl) (.cons (show RelV (.ref b) (.ref b) from rfl) .nil)) h) ?_
  rintro z s' ⟨y, H', I', ry, ⟨c, rfl⟩, q⟩
  cases ry
  exact ⟨.bl c, H', I', rfl, q⟩
end
end WX
namespace WX
open PySem PySem.Spec PyProof.Rows L2
theorem wB_run {X : Cx} {sts : List Stmt} {D : Ends} {σ : L2.St} {H : Hp} (h : wB X sts D σ H) : wB X sts D σ H := h
end WX
namespace WX
open PySem PySem.Spec PyProof.Rows L2
theorem ty_tup {K : PySem.W.Frag} {H : Hp} {a : Addr} {xs : List V} (h : SqT K H a xs) : TyX K H (.ref a) (.type "tuple") := by
  rcases h with (h | ⟨o, h⟩) | ⟨o, its, n, h, c, _⟩
  · exact .base (.tup h)
  · exact .fTuple h
  · exact .kTuple h c
theorem ty_lst {K : PySem.W.Frag} {H : Hp} {a : Addr} {xs : List V} (h : SqL K H a xs) : TyX K H (.ref a) (.type "list") := by
  rcases h with (h | ⟨o, h⟩) | ⟨o, its, n, h, c, _⟩
  · exact .base (.lst h)
  · exact .base (.frz h)
  · exact .kList h c
section
variable {X : Cx} {σ : L2.St} {H : Hp} {Q : VK} {pos p2 : Pos} {e b c : Expr}
/-- t[i:j] of a tuple: the whole of it, or a new one -/
def kSl (K : PySem.W.Frag) (x : V) (lo hi : Option Int) (H : Hp) (Q : VK) : Prop := ∃ a xs, x = .ref a ∧ SqT K H a xs ∧ ∀ p H', Same H H' → SqT K H' p (cutV xs lo hi) → Q (.ref p) H'
theorem rSl_of {x : V} {lo hi : Option Int} (h : kSl X.K x lo hi H Q) : rSlA X.K x lo hi H Q := by
  obtain ⟨a, xs, rfl, hs, k⟩ := h
  refine ⟨a, xs, rfl, hs, ?_, ?_⟩
  · rintro ⟨e1, e2⟩
    refine k a H (Same.refl H) ?_
    have e3 : cutV xs lo hi = xs := by
      show (xs.drop (HT.sIx xs.length 0 lo)).take (HT.sIx xs.length xs.length hi - HT.sIx xs.length 0 lo) = xs
      rw [e1, e2, List.drop_zero, Nat.sub_zero, List.take_length]
    rw [e3]
    exact hs
  · intro _ p hp
    exact k p _ (fun b o q => upd_keep hp q) (Or.inl (Or.inl upd_same))
theorem e_slNS (h : wE X e σ H fun x H1 => wE X b σ H1 fun y H2 => ∃ i, y = .int i ∧ kSl X.K x none (some i) H2 Q) : wE X (.Subscript e (.Slice none (some b) none p2) pos) σ H Q :=
  toE (pe_slice sl_tupA pe_self po_none (po_some pe_self)) (wE_mono h fun _ _ k => wE_mono k fun _ _ ⟨i, e1, k2⟩ => ⟨i, e1, rSl_of k2⟩)
theorem e_slSN (h : wE X e σ H fun x H1 => wE X b σ H1 fun y H2 => ∃ i, y = .int i ∧ kSl X.K x (some i) none H2 Q) : wE X (.Subscript e (.Slice (some b) none none p2) pos) σ H Q :=
  toE (pe_slice sl_tupA pe_self (po_some pe_self) po_none) (wE_mono h fun _ _ k => wE_mono k fun _ _ ⟨i, e1, k2⟩ => ⟨i, e1, rSl_of k2⟩)
theorem e_slSS (h : wE X e σ H fun x H1 => wE X b σ H1 fun y H2 => ∃ i, y = .int i ∧ wE X c σ H2 fun z H3 => ∃ j, z = .int j ∧ kSl X.K x (some i) (some j) H3 Q) : wE X (.Subscript e (.Slice (some b) (some c) none p2) pos) σ H Q :=
  toE (pe_slice sl_tupA pe_self (po_some pe_self) (po_some pe_self)) (wE_mono h fun _ _ k => wE_mono k fun _ _ ⟨i, e1, k2⟩ => ⟨i, e1, wE_mono k2 fun _ _ ⟨j, e2, k3⟩ => ⟨j, e2, rSl_of k3⟩⟩)
theorem c_all {a : Addr} {bs : List Bool} (hc : X.calm = true) (h1 : SqL X.K H a (bs.map V.bl)) (h : Q (.bl (bs.all id)) H) : wC X (.builtin "all") [.ref a] H Q := toC (cr_all hc) ⟨a, bs, rfl, h1, h⟩
theorem c_tupL {a : Addr} {xs : List V} (h1 : SqL X.K H a xs) (h : ∀ p, H p = none → Q (.ref p) (upd H p (.tup xs))) : wC X (.type "tuple") [.ref a] H Q := toC call_tuple_of ⟨a, xs, rfl, Or.inl ⟨h1, h⟩⟩
theorem c_lstL {a : Addr} {xs : List V} (h1 : SqL X.K H a xs ∨ SqT X.K H a xs) (h : ∀ p, H p = none → Q (.ref p) (upd H p (.lst xs))) : wC X (.type "list") [.ref a] H Q := toC call_list_of ⟨a, xs, rfl, h1, h⟩
/-- list(range(a)), tuple(range(a)) -/
theorem e_lstR1 {p p3 p4 : Pos} (hc : X.calm = true) (hg : Gl X "list") (hm : X.mg "list" = none) (hg2 : Gl X "range") (hm2 : X.mg "range" = none) (h : wE X b σ H fun y H1 => ∃ n : Nat, y = .int (n : Int) ∧ n ≤ 10000 ∧ ∀ q, H1 q = none → Q (.ref q) (upd H1 q (.lst ((List.range n).map fun (i : Nat) => V.int (i : Int)))))
    (n1 : starEach [b] X.env = (false, eval b X.env) :: starEach [] X.env := by rfl) (n2 : starEach [.Call (.Name "range" p3) [b] [] p4] X.env = (false, eval (.Call (.Name "range" p3) [b] [] p4) X.env) :: starEach [] X.env := by rfl) :
    wE X (.Call (.Name "list" p) [.Call (.Name "range" p3) [b] [] p4] [] pos) σ H Q := by
  refine toE (pe_listRg hc hg hm (prg_1 hg2 hm2 pe_self n1) n2) (wE_mono h ?_)
  rintro y H1 ⟨n, rfl, hn, k⟩
  refine ⟨(n : Int), rfl, RgOk.of_le (by omega) (by omega) (by omega) (by omega), fun q hq => ?_⟩
  have e1 : rgV 0 (n : Int) = (List.range n).map fun (i : Nat) => V.int (i : Int) := by
    unfold rgV
    rw [show ((n : Int) - 0).toNat = n by omega]
    congr 1
    funext i
    rw [Int.zero_add]
  rw [e1]
  exact k q hq
/-- o.append(e) -/
theorem e_app {o : Expr} {apos cpos : Pos} (h : wE X o σ H fun x H1 => tyV X.K "list" x H1 ∧ wE X e σ H1 fun y H2 => ∃ l xs, x = .ref l ∧ H2 l = some (.lst xs) ∧ xs.length < sizeLine ∧ Q .non (upd H2 l (.lst (xs ++ [y]))))
    (n1 : starEach [e] X.env = (false, eval e X.env) :: starEach [] X.env := by rfl) (n2 : attributeBase o "append" X.env (eval o X.env) = eval o X.env := by rfl) (n3 : ((((backTo cpos (starEach [e] X.env)).all fun x => !x.fst) && (backToKw cpos (keywordEach [] X.env)).all fun x => x.fst.isSome) && decide (([e].length + ([] : List Keyword).length + if ([] : List Keyword).isEmpty = true then 0 else 1) < 30)) = true := by rfl) (n4 : (apos.endLine == cpos.line) = true := by rfl) (n5 : ((backTo cpos (starEach [] X.env)).any fun x => x.fst) = false := by rfl) : wE X (.Call (.Attribute o "append" apos) [e] [] cpos) σ H Q := by
  refine toE (pe_bm PySem.F.plainAttrs_list PySem.F.slot_list_append PySem.F.type_list_append mt_append pe_self (pa_cons pe_self pa_nil n1) n2 n3 n4 n1 n5) ?_
  refine wE_mono h ?_
  rintro x H1 ⟨t, k⟩
  refine ⟨t, wE_mono k ?_⟩
  rintro y H2 ⟨l, xs, rfl, hl, hz, q⟩
  exact ⟨l, xs, y, rfl, rfl, hl, hz, q⟩
end
end WX

set_option Elab.async false
set_option linter.all false
set_option maxRecDepth 100000
set_option maxHeartbeats 4000000
namespace WX
open PySem PySem.Spec PyProof.Rows L2
section
variable {X : Cx} {σ : L2.St} {H : Hp} {Q : VK} {D : Ends} {pos : Pos} {e elt iter : Expr} {scope : Scope} {x : Str} {j : Nat} {px : Pos}
theorem noTup_lst {H : Hp} {p : Addr} {xs : List V} (h : H p = some (.lst xs)) : NoTup H p := by
  intro ys
  rw [h]
  refine ⟨?_, ?_⟩
  · intro z
    cases z
  · intro o z
    cases z
/-- for x in a tuple -/
theorem s_forT (i : Nat) {body : List Stmt} (hp : PassesOwn (model X.prog X.w) X.A X.env X.xe) (hc : X.calm = true) (hN : X.N.Nodup) (hi : X.N[i]? = some x) (hx : Loc X.env.scope x)
    (h : wE X e σ H fun v H1 => ∃ a xs, v = .ref a ∧ SqT X.K H1 a xs ∧ ∃ Pv : Nat → L2.St → Hp → Prop, Pv 0 σ H1 ∧ (∀ k σ H, k ≤ xs.length → Pv k σ H → SqT X.K H a xs) ∧
      (∀ k v σ H, xs[k]? = some v → Pv k σ H → wB X body { D with nx := Pv (k + 1), ct := Pv (k + 1), bk := D.nx } (σ.set i (some v)) H) ∧ ∀ σ H, Pv xs.length σ H → D.nx σ H)
    (hs : ∀ x, foldedSetIterable e X.env x = pure x := by intro _; rfl)
    (hf : X.fn x = true ∨ X.env.scope.names.lookup x = some .local := by first | exact .inl rfl | exact .inr rfl | assumption) : wS X (.For (.Name x px) e body [] pos) D σ H := by
  refine toS (ps_for hp hc (pi_tup pe_self) (pg_name hN hi hx hf) pss_self hs) ?_
  refine wE_mono h ?_
  rintro v H1 ⟨a, xs, rfl, hs, Pv, h0, hl, ht, he⟩
  exact ⟨a, rfl, ⟨xs, hs⟩, for_tup Pv h0 hl ht he⟩
/-- for x in a list -/
theorem s_forL (i : Nat) {body : List Stmt} (hp : PassesOwn (model X.prog X.w) X.A X.env X.xe) (hc : X.calm = true) (hN : X.N.Nodup) (hi : X.N[i]? = some x) (hx : Loc X.env.scope x)
    (h : wE X e σ H fun v H1 => ∃ a xs, v = .ref a ∧ SqL X.K H1 a xs ∧ ∃ Pv : Nat → L2.St → Hp → Prop, Pv 0 σ H1 ∧ (∀ k σ H, k ≤ xs.length → Pv k σ H → SqL X.K H a xs) ∧
      (∀ k v σ H, xs[k]? = some v → Pv k σ H → wB X body { D with nx := Pv (k + 1), ct := Pv (k + 1), bk := D.nx } (σ.set i (some v)) H) ∧ ∀ σ H, Pv xs.length σ H → D.nx σ H)
    (hs : ∀ x, foldedSetIterable e X.env x = pure x := by intro _; rfl)
    (hf : X.fn x = true ∨ X.env.scope.names.lookup x = some .local := by first | exact .inl rfl | exact .inr rfl | assumption) : wS X (.For (.Name x px) e body [] pos) D σ H := by
  refine toS (ps_for hp hc (pi_list pe_self) (pg_name hN hi hx hf) pss_self hs) ?_
  refine wE_mono h ?_
  rintro v H1 ⟨a, xs, rfl, hs, Pv, h0, hl, ht, he⟩
  exact ⟨a, rfl, ⟨xs, hs⟩, for_list Pv h0 hl ht he⟩
/-- what is told of the elements, and stands -/
def Stays (R : Nat → V → Hp → Prop) : Prop := ∀ i y p H4 H5, R i y H4 → NoTup H4 p → Ch p H4 H5 → R i y H5
/-- the list under way -/
def Way (R : Nat → V → Hp → Prop) (H1 : Hp) (D : Addr) (i : Nat) (H : Hp) : Prop := Same H1 H ∧ ∃ acc, H D = some (.lst acc) ∧ acc.length = i ∧ ∀ k y, acc[k]? = some y → R k y H
theorem way_0 {R : Nat → V → Hp → Prop} {H1 : Hp} {D : Addr} (h : H1 D = none) : Way R H1 D 0 (upd H1 D (.lst [])) := ⟨(Same.refl H1).new h, [], upd_same, rfl, fun k y z => by simp at z⟩
theorem way_s {R : Nat → V → Hp → Prop} (st : Stays R) {H1 H H4 : Hp} {D : Addr} {i : Nat} {y : V} (h0 : H1 D = none) (hz : i < sizeLine) (w : Way R H1 D i H) (s : Same H H4) (r : R i y H4) :
    ∃ acc, H4 D = some (.lst acc) ∧ acc.length < sizeLine ∧ Way R H1 D (i + 1) (upd H4 D (.lst (acc ++ [y]))) := by
  obtain ⟨sm, acc, hd, hl, ha⟩ := w
  have d4 := s _ _ hd
  refine ⟨acc, d4, by omega, (sm.trans s).ch h0 Ch.refl.put, acc ++ [y], upd_same, by simp [hl], fun k z hk => ?_⟩
  rw [List.getElem?_append] at hk
  split at hk
  · exact st _ _ D _ _ (st _ _ D _ _ (ha k z hk) (noTup_lst hd) (Ch.of s)) (noTup_lst d4) Ch.refl.put
  · rename_i h
    have e1 : k = i := by
      have := (List.getElem?_eq_some_iff.mp hk).1
      simp at this
      omega
    subst e1
    rw [hl, Nat.sub_self] at hk
    simp at hk
    subst hk
    exact st _ _ D _ _ r (noTup_lst d4) Ch.refl.put
theorem lcT_same (h : wE X iter σ H fun v H1 => ∃ a xs, ∃ R : Nat → V → Hp → Prop, v = .ref a ∧ SqT X.K H1 a xs ∧ xs.length < sizeLine ∧ Stays R ∧
      (∀ (i : Nat) (v : V) (H2 : Hp), xs[i]? = some v → Same H1 H2 → wEb X scope elt (σ.set j (some v)) H2 fun y H4 => Same H2 H4 ∧ R i y H4) ∧
      ∀ D H' ys, H1 D = none → Same H1 H' → H' D = some (.lst ys) → ys.length = xs.length → (∀ i y, ys[i]? = some y → R i y H') → Q (.ref D) H') :
    tLc (iTup X.K (wE X iter)) (gName j) tYes (wEb X scope elt) [j] σ H Q := by
  refine lcT_read (wE_mono h ?_)
  rintro v H1 ⟨a, xs, R, rfl, hs, hz, st, k1, k2⟩
  refine ⟨a, xs, rfl, hs, fun D hD => ⟨Way R H1 D, way_0 hD, fun i H _ w => same_tup w.1 hs, fun i v H hv w X' bk => ?_, fun H w => ?_⟩⟩
  · refine wE_mono (k1 i v H hv w.1 X' bk) ?_
    rintro y H4 ⟨s, r⟩
    have := (List.getElem?_eq_some_iff.mp hv).1
    exact way_s st hD (by omega) w s r
  · obtain ⟨sm, acc, hd, hl, ha⟩ := w
    exact k2 D H acc hD sm hd hl ha
theorem lcL_same (h : wE X iter σ H fun v H1 => ∃ a xs, ∃ R : Nat → V → Hp → Prop, v = .ref a ∧ SqL X.K H1 a xs ∧ xs.length < sizeLine ∧ Stays R ∧
      (∀ (i : Nat) (v : V) (H2 : Hp), xs[i]? = some v → Same H1 H2 → wEb X scope elt (σ.set j (some v)) H2 fun y H4 => Same H2 H4 ∧ R i y H4) ∧
      ∀ D H' ys, H1 D = none → Same H1 H' → H' D = some (.lst ys) → ys.length = xs.length → (∀ i y, ys[i]? = some y → R i y H') → Q (.ref D) H') :
    tLc (iList X.K (wE X iter)) (gName j) tYes (wEb X scope elt) [j] σ H Q := by
  refine lcL_read (wE_mono h ?_)
  rintro v H1 ⟨a, xs, R, rfl, hs, hz, st, k1, k2⟩
  refine ⟨a, xs, rfl, hs, fun D hD => ⟨Way R H1 D, way_0 hD, fun i H _ w => w.1.seq hs, fun i v H hv w X' bk => ?_, fun H w => ?_⟩⟩
  · refine wE_mono (k1 i v H hv w.1 X' bk) ?_
    rintro y H4 ⟨s, r⟩
    have := (List.getElem?_eq_some_iff.mp hv).1
    exact way_s st hD (by omega) w s r
  · obtain ⟨sm, acc, hd, hl, ha⟩ := w
    exact k2 D H acc hD sm hd hl ha
/-- [elt for x in range(a)] -/
theorem lcR_same {a : Expr} (h : wE X a σ H fun v H1 => ∃ n : Nat, ∃ R : Nat → V → Hp → Prop, v = .int (n : Int) ∧ n < 10000 ∧ Stays R ∧
      (∀ (i : Nat) (H2 : Hp), i < n → Same H1 H2 → wEb X scope elt (σ.set j (some (.int (i : Int)))) H2 fun y H4 => Same H2 H4 ∧ R i y H4) ∧
      ∀ D H' ys, H1 D = none → Same H1 H' → H' D = some (.lst ys) → ys.length = n → (∀ i y, ys[i]? = some y → R i y H') → Q (.ref D) H')
    (hst : starEach [a] X.env = [(false, eval a X.env)] := by rfl) :
    tLc (iRng1 (wA X [a])) (gName j) tYes (wEb X scope elt) [j] σ H Q := by
  show wA X [a] σ H _
  refine a_cons (wE_mono h ?_) hst
  rintro v H1 ⟨n, R, rfl, hn, st, k1, k2⟩
  refine a_nil ⟨(n : Int), rfl, by omega, by omega, fun D hD => ?_⟩
  have e1 : (n : Int).toNat = n := by omega
  rw [e1]
  refine lc_range (Way R H1 D) (way_0 hD) (fun i H hi w => ?_) (fun H w => ?_)
  · obtain ⟨e2, e3⟩ := wipe_one (σ := σ) (v := .int (i : Int)) (j := j)
    have e4 : (0 : Int) + (i : Int) = (i : Int) := Int.zero_add _
    rw [e4]
    refine ⟨e2, ?_⟩
    rw [e3]
    intro X' bk
    refine wE_mono (k1 i H hi w.1 X' bk) ?_
    rintro y H4 ⟨s, r⟩
    exact way_s st hD (by have : (10000 : Nat) ≤ sizeLine := by decide
                          omega) w s r
  · obtain ⟨sm, acc, hd, hl, ha⟩ := w
    exact k2 D H acc hD sm hd hl ha
variable {N : List Str} {sc : Scope} {k : Nat}
theorem e_lcR {a : Expr} {p1 p2 : Pos} (j : Nat) (B : Bd X N sc k) (ok : BlkOk N sc scope [(x, j)]) (hg : Gl X "range") (hm : X.mg "range" = none) (hj : N[j]? = some x) (hx : scope.names.lookup x = some .local) (h : tLc (iRng1 (wA X [a])) (gName j) tYes (wEb X scope elt) [j] σ H Q) (hst : starEach [a] X.env = [(false, eval a X.env)] := by rfl) (hs : ∀ x, foldedSetIterable (.Call (.Name "range" p1) [a] [] p2) X.env x = pure x := by intro _; rfl) :
    wE X (.ListComp elt [⟨.Name x px, .Call (.Name "range" p1) [a] [] p2, [], 0⟩] scope pos) σ H Q :=
  toE (pe_lc (own := [(x, j)]) B.calm B.nd (pi_range1 hg hm pa_self hst) (by rw [B.hN, B.sc]; exact ok) (pgb_name B.nd (B.slot j hj) hx) (fun _ _ _ _ _ => pts_nil) peb_self hs) h
theorem s_lcR {a : Expr} {p1 p2 : Pos} (j : Nat) {D : Ends} {y : Str} {py spos : Pos} (i : Nat) (B : Bd X N sc k) (ok : BlkOk N sc scope [(x, j)]) (hg : Gl X "range") (hm : X.mg "range" = none) (hj : N[j]? = some x) (hx : scope.names.lookup x = some .local) (hy : X.N[i]? = some y) (hyl : X.env.scope.names.lookup y = some .local)
    (hsw : swapsWith (.ListComp elt [⟨.Name x px, .Call (.Name "range" p1) [a] [] p2, [], 0⟩] scope pos) (some (.Name y py)) spos.line X.env = pure true)
    (h : tLc (iRng1 (wA X [a])) (gName j) tYes (wEb X scope elt) [j] σ H fun v H1 => D.nx (σ.set i (some v)) H1) (hst : starEach [a] X.env = [(false, eval a X.env)] := by rfl) (hs : ∀ x, foldedSetIterable (.Call (.Name "range" p1) [a] [] p2) X.env x = pure x := by intro _; rfl) : wS X (.Assign [.Name y py] (.ListComp elt [⟨.Name x px, .Call (.Name "range" p1) [a] [] p2, [], 0⟩] scope pos) spos) D σ H :=
  toS (ps_setLc (own := [(x, j)]) B.calm B.nd hy hyl hsw (pi_range1 hg hm pa_self hst) (by rw [B.hN, B.sc]; exact ok) (pgb_name B.nd (B.slot j hj) hx) (fun _ _ _ _ _ => pts_nil) peb_self hs) h
end
end WX

set_option Elab.async false
set_option linter.all false
set_option maxRecDepth 100000
set_option maxHeartbeats 4000000
namespace WX
open PySem PySem.Spec PyProof.Rows L2 HT
section
variable {prog : Program} {w : World} {A : Around} {E : Value → Shared → Prop} {s : Shared}
theorem sliceApplied_rev {sl : Addr} {vs : Value} {n : Nat} {Q : Int × Int × Nat → Shared → Prop} (hs : s.heap.IsSliceOf sl .none .none vs) (ps : IsPart vs (some (-1)))
    (h : Q ((n : Int) - 1, -1, n) s) : wpAny (model prog w) A (Builtin.Slice.sliceApplied (.ref sl) (pure (n : Int))) Q E s := by
  obtain ⟨os, hos, hcs, hds⟩ := id hs
  unfold Builtin.Slice.sliceApplied Builtin.Slice.sliceFields
  refine wpAny_bind (wpAny_bind (wpAny_field hos hds (x := .none) rfl (wpAny_bind (wpAny_field hos hds (x := .none) rfl (wpAny_bind (wpAny_field hos hds (x := vs) rfl (wpAny_pure ?_)))))))
  refine wpAny_bind (slicePart_ ps ?_)
  show wpAny _ _ (if ((-1 : Int) == 0) = true then _ else _) _ _ s
  rw [if_neg (by decide)]
  refine wpAny_bind (slicePart_none (wpAny_bind (slicePart_none (wpAny_bind (wpAny_pure ?_)))))
  show wpAny _ _ (match Builtin.Slice.sliceAdjust none none (-1) (n : Int) with | (lo, hi) => pure (lo, (-1 : Int), Builtin.Slice.slicePlaces lo hi (-1))) _ _ s
  have e1 : Builtin.Slice.sliceAdjust none none (-1) (n : Int) = ((n : Int) - 1, -1) := by
    unfold Builtin.Slice.sliceAdjust
    simp
  rw [e1]
  show wpAny _ _ (pure ((n : Int) - 1, (-1 : Int), Builtin.Slice.slicePlaces ((n : Int) - 1) (-1) (-1))) _ _ s
  have e2 : Builtin.Slice.slicePlaces ((n : Int) - 1) (-1) (-1) = n := by
    unfold Builtin.Slice.slicePlaces
    simp
    omega
  rw [e2]
  exact wpAny_pure h
theorem fm_congr {α β : Type} {f g : α → Option β} : ∀ {l : List α}, (∀ m ∈ l, f m = g m) → l.filterMap f = l.filterMap g
  | [], _ => rfl
  | a :: l, h => by
    rw [List.filterMap_cons, List.filterMap_cons, h a (List.mem_cons_self ..), fm_congr (l := l) fun m hm => h m (List.mem_cons_of_mem _ hm)]
theorem fm_all {α : Type} : ∀ (ys : List α), (List.range ys.length).filterMap (fun m => ys[m]?) = ys
  | [] => rfl
  | y :: ys => by
    rw [List.length_cons, List.range_succ_eq_map, List.filterMap_cons, List.filterMap_map]
    show y :: List.filterMap (fun m => ys[m]?) (List.range ys.length) = _
    rw [fm_all ys]
theorem pick_rev (xs : Array Value) : ((List.range xs.size).filterMap fun (m : Nat) => xs[((xs.size : Int) - 1 + (m : Int) * -1).toNat]?).toArray = xs.toList.reverse.toArray := by
  congr 1
  have e1 : ∀ m ∈ List.range xs.size, xs[((xs.size : Int) - 1 + (m : Int) * -1).toNat]? = xs.toList.reverse[m]? := by
    intro m hm
    have hm := List.mem_range.mp hm
    have e2 : ((xs.size : Int) - 1 + (m : Int) * -1).toNat = xs.size - 1 - m := by omega
    rw [e2, List.getElem?_reverse (by simpa using hm), Array.length_toList]
    simp
  rw [fm_congr e1]
  have e3 : xs.size = xs.toList.reverse.length := by simp
  rw [e3]
  exact fm_all _
theorem getItem_tuple_rev {t sl : Addr} {items : Array Value} {vs : Value} {Q : Value → Shared → Prop} (ht : IsTup s.heap t items) (hs : s.heap.IsSliceOf sl .none .none vs) (ps : IsPart vs (some (-1)))
    (h : Q (.ref s.heap.objs.size) { s with heap := s.heap.push { cls := .type "tuple", data := .seq items.toList.reverse.toArray } })
    (hsz : items.size ≤ sizeLine) : wpAny (model prog w) A (getItem (.ref t) (.ref sl)) Q E s := by
  have htake : sizeOk (.seq items.toList.reverse.toArray) := by
    show items.toList.reverse.toArray.size ≤ sizeLine
    rw [List.size_toArray, List.length_reverse, Array.length_toList]
    exact hsz
  obtain ⟨os, hos, hcs, hds⟩ := id hs
  have hTs : s.TypeIs (.ref sl) "slice" := ⟨os, hos, hcs⟩
  unfold getItem
  try with_reducible refine wpAny_holding ?_
  first | refine wpAny_bind (wpAny_pure ?_) | skip
  refine wpAny_bind (wpAny_sequenceKey ht.typeIs (by decide) ?_)
  refine wpAny_bind (wpAny_callSpecial?_slot (name := Str.ofString "__getitem__") ht.typeIs PyProof.Rows.slot_tuple_getitem
    (wpAny_call_entry PyProof.Rows.slot_tuple_getitem ht.typeIs entry_tuple_getitem ?_ (args_tuple_getitem _ _)))
  show wpAny _ _ (Builtin.Tuple.tupleItemsOf (.ref t) >>= _) _ _ s
  refine wpAny_bind (tupleItemsOf_ ht ?_)
  refine wpAny_bind (wpAny_typeOf hTs ?_)
  rw [if_pos (by decide)]
  refine wpAny_bind (sliceApplied_rev hs ps ?_)
  have hno : ¬ ((((items.size : Int) - 1) == 0 && (-1 : Int) == 1 && items.size == items.size) = true) := by
    intro q
    rw [Bool.and_eq_true, Bool.and_eq_true] at q
    exact absurd q.1.2 (by decide)
  show wpAny _ _ (if (((items.size : Int) - 1) == 0 && (-1 : Int) == 1 && items.size == items.size) = true then _ else _) _ _ s
  rw [if_neg hno, pick_rev]
  first
    | exact wpAny_bind (m := Builtin.Tuple.tupleExact _) (wpAny_newObj_type (wpAny_pure ⟨_, rfl, wpAny_pure h⟩) htake)
    | exact wpAny_bind (m := Builtin.Tuple.tupleExact _) (wpAny_newObj_type (wpAny_bind (wpAny_pure (wpAny_pure ⟨_, rfl, wpAny_pure h⟩))) htake)
end
section
variable {X : Cx} {σ : L2.St} {H : Hp} {Q : VK}
/-- t[::-1] -/
theorem e_revT {e : Expr} {k : Nat} {p1 p2 p3 pos : Pos} (h0 : wE X e σ H fun x H1 => ∃ a xs, x = .ref a ∧ SqT X.K H1 a xs ∧ ∀ p, H1 p = none → Q (.ref p) (upd H1 p (.tup xs.reverse))) : wE X (.Subscript e (.Slice none none (some (.UnaryOp .USub (.Constant (.int 1) k p1) p2)) p3) pos) σ H Q := by
  refine ⟨fun pins s I => ?_⟩
  refine Subscript_ (thn (h0.run pins s I) fun v s1 ⟨x, H1, I1, r1, q1⟩ => ?_)
  obtain ⟨a, xs, ex, hx, q⟩ := q1
  subst ex
  cases r1
  have hst : PO X (some (.UnaryOp .USub (.Constant (.int 1) k p1) p2)) (tPart (tUn (rU fun i => .int (-i)) (tC (.int 1)))) := po_some (pe_un un_neg pe_int)
  refine wpAny_Slice (thn (po_none.run pins s1 σ H1 (fun o H2 => o = none ∧ H2 = H1) I1 ⟨rfl, rfl⟩) fun vl s2 ⟨l, H2, I2, pl, el, e2⟩ => ?_)
  subst el e2
  refine thn (po_none.run pins s2 σ H2 (fun o H3 => o = none ∧ H3 = H2) I2 ⟨rfl, rfl⟩) fun vu s3 ⟨u, H3, I3, pu, eu, e3⟩ => ?_
  subst eu e3
  refine thn (hst.run pins s3 σ H3 (fun o H4 => o = some (-1) ∧ H4 = H3) I3 ⟨1, rfl, -1, rfl, rfl, rfl⟩) fun vs s4 ⟨o, H4, I4, ps, eo, e4⟩ => ?_
  subst eo e4
  have I5 : Inv X pins σ H4 { s4 with heap := s4.heap.push { cls := .type "slice", data := .fields #[vl, vu, vs] } } := I4.kept (t' := s4.toks) fun b ob q => Heap.get?_push_of_some _ q
  obtain ⟨its, r, ht, hz⟩ := I5.tuple hx
  have hlen := r.length
  cases pl
  cases pu
  show wpAny (model X.prog X.w) X.A (subscriptTail e (.Slice none none (some (.UnaryOp .USub (.Constant (.int 1) k p1) p2)) p3) (.ref a) (.ref s4.heap.objs.size)) (EP X pins σ Q) X.xe { s4 with heap := s4.heap.push { cls := .type "slice", data := .fields #[.none, .none, vs] } }
  refine tail_any (ops := [.ref a, .ref s4.heap.objs.size]) ht.typeIs (PyProof.Rows.slot_tuple_getitem.lookup) ?_ (by with_unfolding_all rfl)
  refine getItem_tuple_rev ht (Heap.IsSliceOf.new _ .none .none vs) ps ?_ (by rw [List.size_toArray]; omega)
  refine ⟨.ref _, _, I5.laid (t' := s4.toks) (o := .tup xs.reverse) (fun b ob q => Heap.get?_push_of_some _ q) (Nat.le_refl _) ?_, rfl, q _ (I5.hok.fresh (Nat.le_refl _))⟩
  exact ⟨by rw [List.length_reverse]; exact hz, _, r.reverse, IsTup.new _ _⟩
end
end WX
namespace WX
open PySem PySem.Spec PyProof.Rows L2 HT
/-- isinstance of the instances of C -/
structure IsiC (K : PySem.W.Frag) (C : Addr) : Prop where
  cl : PySem.W.findIn K (.ref C) "__class__" = some (some (.builtin "object.__class__"))
  gt : PySem.W.specialIn K (.builtin "object.__class__") "__get__" = some (some (.builtin "getset_descriptor.__get__"))
  tk : PySem.W.takesIn K (.builtin "object.__class__") = some true
  mr : PySem.W.mroIn K C (.type "object") = some true
section
variable {X : Cx} {σ : L2.St} {H : Hp} {Q : VK} {pos : Pos}
theorem ty_ins {K : PySem.W.Frag} {H : Hp} {a C dx : Addr} {fs : List (Str × V)} (c : Cls K C) (i : IsiC K C) (h : H a = some (.ins C dx fs)) : TyX K H (.ref a) (.ref C) := .base (.ins h c i.cl i.gt i.tk i.mr)
theorem kit_own {K : PySem.W.Frag} {C : Addr} : PySem.W.kitOne K (.ref C) (.ref C) = some true := by
  unfold PySem.W.kitOne
  rw [if_pos (beq_self_eq_true _)]
/-- isinstance(x, C) of an instance of C -/
theorem c_isC {a C dx : Addr} {fs : List (Str × V)} (c : Cls X.K C) (i : IsiC X.K C) (h : H a = some (.ins C dx fs)) (q : Q (.bl true) H) : wC X (.builtin "isinstance") [.ref a, .ref C] H Q := toC call_isi ⟨_, _, _, _, true, rfl, .own C, ty_ins c i h, kit_own, q⟩
/-- a name of the top that is a place -/
theorem e_gref {x : Str} {a : Addr} (hg : Gl X x) (hm : X.mg x = some (.ref a)) (h : Q (.ref a) H) (hd : (x == ("__debug__" : Str)) = false := by decide) : wE X (.Name x pos) σ H Q := e_glob hg hm (show RelV (.ref a) (Value.ref a) from rfl) h hd
/-! ### slices with places of the list -/
theorem cut_ij (xs : List V) {i j : Nat} (hi : i ≤ j) (hj : j ≤ xs.length) : cutV xs (some (i : Int)) (some (j : Int)) = (xs.drop i).take (j - i) := by
  unfold cutV
  rw [sIx_nat, sIx_nat, Nat.min_eq_left hj, Nat.min_eq_left (Nat.le_trans hi hj)]
theorem cut_j (xs : List V) {j : Nat} (hj : j ≤ xs.length) : cutV xs none (some (j : Int)) = xs.take j := by
  unfold cutV
  rw [sIx_nat, sIx_none, Nat.min_eq_left hj, List.drop_zero, Nat.sub_zero]
theorem cut_i (xs : List V) {i : Nat} (hi : i ≤ xs.length) : cutV xs (some (i : Int)) none = xs.drop i := by
  unfold cutV
  rw [sIx_nat, sIx_none, Nat.min_eq_left hi, List.take_of_length_le]
  rw [List.length_drop]; omega
/-- t + u -/
theorem o_cat {a b : Addr} {xs ys : List V} (h1 : SqT X.K H a xs) (h2 : SqT X.K H b ys) (hz : xs.length + ys.length ≤ sizeLine) (h : ∀ p H', Same H H' → SqT X.K H' p (xs ++ ys) → Q (.ref p) H') : wO X (binaryOp .Add) (.ref a) (.ref b) H Q := by
  refine toO op_catA ⟨a, b, xs, ys, rfl, rfl, h1, h2, hz, ?_, ?_, ?_⟩
  · rintro rfl
    exact h b H (Same.refl H) h2
  · rintro _ rfl
    exact h a H (Same.refl H) (by rw [List.append_nil]; exact h1)
  · intro _ _ p hp
    exact h p _ ((Same.refl H).new hp) (Or.inl (Or.inl upd_same))
/-! ### equality of data -/
theorem dpa_drop {K : PySem.W.Frag} {H : Hp} : ∀ {xs : List V} {ds : List PyData} (i : Nat), DpAll K H xs ds → DpAll K H (xs.drop i) (ds.drop i)
  | _, _, 0, h => h
  | _, _, i + 1, .nil => .nil
  | _, _, i + 1, .cons _ t => dpa_drop i t
theorem dpa_take {K : PySem.W.Frag} {H : Hp} : ∀ {xs : List V} {ds : List PyData} (i : Nat), DpAll K H xs ds → DpAll K H (xs.take i) (ds.take i)
  | _, _, 0, _ => .nil
  | _, _, i + 1, .nil => .nil
  | _, _, i + 1, .cons a t => .cons a (dpa_take i t)
theorem dpa_app {K : PySem.W.Frag} {H : Hp} : ∀ {xs ys : List V} {ds es : List PyData}, DpAll K H xs ds → DpAll K H ys es → DpAll K H (xs ++ ys) (ds ++ es)
  | _, _, _, _, .nil, h => h
  | _, _, _, _, .cons a t, h => .cons a (dpa_app t h)
end
end WX

set_option Elab.async false
set_option linter.all false
set_option maxRecDepth 100000
set_option maxHeartbeats 4000000
namespace WX
open PySem PySem.Spec PyProof.Rows L2
section
variable {X : Cx} {σ : L2.St} {H : Hp} {Q : VK} {D : Ends} {pos : Pos} {e : Expr} {x y z : Str} {px py pz pt : Pos} {kt : Nat}
theorem pg_t2 (i j : Nat) (hc : X.calm = true) (hN : X.N.Nodup) (hi : X.N[i]? = some x) (hj : X.N[j]? = some y) (hx : X.env.scope.names.lookup x = some .local) (hy : X.env.scope.names.lookup y = some .local) :
    PG X (.Tuple [.Name x px, .Name y py] kt pt) (gTup X.K 2 (gCons (gName i) (gCons (gName j) gNil))) :=
  pg_tup hc (pgs_cons (pg_name hN hi (Or.inl hx) (.inr hx)) (pgs_cons (pg_name hN hj (Or.inl hy) (.inr hy)) pgs_nil))
theorem pg_t3 (i j l : Nat) (hc : X.calm = true) (hN : X.N.Nodup) (hi : X.N[i]? = some x) (hj : X.N[j]? = some y) (hl : X.N[l]? = some z) (hx : X.env.scope.names.lookup x = some .local) (hy : X.env.scope.names.lookup y = some .local) (hz : X.env.scope.names.lookup z = some .local) :
    PG X (.Tuple [.Name x px, .Name y py, .Name z pz] kt pt) (gTup X.K 3 (gCons (gName i) (gCons (gName j) (gCons (gName l) gNil)))) :=
  pg_tup hc (pgs_cons (pg_name hN hi (Or.inl hx) (.inr hx)) (pgs_cons (pg_name hN hj (Or.inl hy) (.inr hy)) (pgs_cons (pg_name hN hl (Or.inl hz) (.inr hz)) pgs_nil)))
theorem pg_t2g (i j : Nat) (hc : X.calm = true) (hN : X.N.Nodup) (hi : X.N[i]? = some x) (hj : X.N[j]? = some y) (F : ∀ x, X.fn x = true) (hx : L2.Loc X.env.scope x) (hy : L2.Loc X.env.scope y) :
    PG X (.Tuple [.Name x px, .Name y py] kt pt) (gTup X.K 2 (gCons (gName i) (gCons (gName j) gNil))) :=
  pg_tup hc (pgs_cons (pg_name hN hi hx (.inl (F x))) (pgs_cons (pg_name hN hj hy (.inl (F y))) pgs_nil))
theorem g2 {i j : Nat} {a : Addr} {u v : V} {R : L2.St → Hp → Prop} (h : SqT X.K H a [u, v]) (q : R ((σ.set i (some u)).set j (some v)) H) : gTup X.K 2 (gCons (gName i) (gCons (gName j) gNil)) (.ref a) σ H R :=
  ⟨a, [u, v], rfl, h, rfl, u, [v], rfl, v, [], rfl, rfl, q⟩
theorem g3 {i j l : Nat} {a : Addr} {u v w : V} {R : L2.St → Hp → Prop} (h : SqT X.K H a [u, v, w]) (q : R (((σ.set i (some u)).set j (some v)).set l (some w)) H) : gTup X.K 3 (gCons (gName i) (gCons (gName j) (gCons (gName l) gNil))) (.ref a) σ H R :=
  ⟨a, [u, v, w], rfl, h, rfl, u, [v, w], rfl, v, [w], rfl, w, [], rfl, rfl, q⟩
/-- x, y = e -/
theorem s_unp2 (i j : Nat) (hc : X.calm = true) (hN : X.N.Nodup) (hi : X.N[i]? = some x) (hj : X.N[j]? = some y) (hx : X.env.scope.names.lookup x = some .local) (hy : X.env.scope.names.lookup y = some .local)
    (h : wE X e σ H fun v H1 => ∃ a u w, v = .ref a ∧ SqT X.K H1 a [u, w] ∧ D.nx ((σ.set i (some u)).set j (some w)) H1)
    (hw : swappedStores [.Tuple [.Name x px, .Name y py] kt pt] e X.env = pure none := by rfl) (hs : swapsWithSole [.Tuple [.Name x px, .Name y py] kt pt] e pos.line X.env = pure false := by rfl) : wS X (.Assign [.Tuple [.Name x px, .Name y py] kt pt] e pos) D σ H := by
  refine toS (ps_asg pe_self (pg_t2 i j hc hN hi hj hx hy) hs hw) ?_
  refine wE_mono h ?_
  rintro v H1 ⟨a, u, w, rfl, h1, h2⟩
  exact g2 h1 h2
/-- x, y, z = a, b, c -/
theorem s_par3 (i j l : Nat) {a b c : Expr} {k2 : Nat} {pt2 : Pos} (hc : X.calm = true) (hN : X.N.Nodup) (hi : X.N[i]? = some x) (hj : X.N[j]? = some y) (hl : X.N[l]? = some z) (hij : i ≠ j) (hil : i ≠ l) (hjl : j ≠ l) (hx : X.env.scope.names.lookup x = some .local) (hy : X.env.scope.names.lookup y = some .local) (hz : X.env.scope.names.lookup z = some .local)
    (hw : swappedStores [.Tuple [.Name x px, .Name y py, .Name z pz] kt pt] (.Tuple [a, b, c] k2 pt2) X.env = pure (some [x, y, z]))
    (h : wA X [a, b, c] σ H fun vs H1 => ∃ u v w, vs = [u, v, w] ∧ D.nx (((σ.set i (some u)).set j (some v)).set l (some w)) H1)
    (hs : swapsWithSole [.Tuple [.Name x px, .Name y py, .Name z pz] kt pt] (.Tuple [a, b, c] k2 pt2) pos.line X.env = pure false := by rfl) : wS X (.Assign [.Tuple [.Name x px, .Name y py, .Name z pz] kt pt] (.Tuple [a, b, c] k2 pt2) pos) D σ H :=
  toS (ps_par3 hc hN hi hj hl hij hil hjl hx hy hz pa_self hw hs) h
/-- for (tg) in a list -/
theorem s_forLg {tg : Expr} {g : TG} {body : List Stmt} (pg : PG X tg g) (hp : PassesOwn (model X.prog X.w) X.A X.env X.xe) (hc : X.calm = true)
    (h : wE X e σ H fun v H1 => ∃ a xs, v = .ref a ∧ SqL X.K H1 a xs ∧ ∃ Pv : Nat → L2.St → Hp → Prop, Pv 0 σ H1 ∧ (∀ k σ H, k ≤ xs.length → Pv k σ H → SqL X.K H a xs) ∧
      (∀ k v σ H, xs[k]? = some v → Pv k σ H → g v σ H fun σ2 H2 => wB X body { D with nx := Pv (k + 1), ct := Pv (k + 1), bk := D.nx } σ2 H2) ∧ ∀ σ H, Pv xs.length σ H → D.nx σ H)
    (hs : ∀ x, foldedSetIterable e X.env x = pure x := by intro _; rfl) : wS X (.For tg e body [] pos) D σ H := by
  refine toS (ps_for hp hc (pi_list pe_self) pg pss_self hs) ?_
  refine wE_mono h ?_
  rintro v H1 ⟨a, xs, rfl, hs, Pv, h0, hl, ht, he⟩
  exact ⟨a, rfl, ⟨xs, hs⟩, for_list Pv h0 hl ht he⟩
theorem s_forTg {tg : Expr} {g : TG} {body : List Stmt} (pg : PG X tg g) (hp : PassesOwn (model X.prog X.w) X.A X.env X.xe) (hc : X.calm = true)
    (h : wE X e σ H fun v H1 => ∃ a xs, v = .ref a ∧ SqT X.K H1 a xs ∧ ∃ Pv : Nat → L2.St → Hp → Prop, Pv 0 σ H1 ∧ (∀ k σ H, k ≤ xs.length → Pv k σ H → SqT X.K H a xs) ∧
      (∀ k v σ H, xs[k]? = some v → Pv k σ H → g v σ H fun σ2 H2 => wB X body { D with nx := Pv (k + 1), ct := Pv (k + 1), bk := D.nx } σ2 H2) ∧ ∀ σ H, Pv xs.length σ H → D.nx σ H)
    (hs : ∀ x, foldedSetIterable e X.env x = pure x := by intro _; rfl) : wS X (.For tg e body [] pos) D σ H := by
  refine toS (ps_for hp hc (pi_tup pe_self) pg pss_self hs) ?_
  refine wE_mono h ?_
  rintro v H1 ⟨a, xs, rfl, hs, Pv, h0, hl, ht, he⟩
  exact ⟨a, rfl, ⟨xs, hs⟩, for_tup Pv h0 hl ht he⟩
/-- for i, x in enumerate(list) -/
theorem s_forEn (i j : Nat) {p2 p3 : Pos} {body : List Stmt} (hg : Gl X "enumerate") (hm : X.mg "enumerate" = none) (hp : PassesOwn (model X.prog X.w) X.A X.env X.xe) (hc : X.calm = true) (hN : X.N.Nodup) (hi : X.N[i]? = some x) (hj : X.N[j]? = some y) (F : ∀ x, X.fn x = true) (hx : L2.Loc X.env.scope x) (hy : L2.Loc X.env.scope y)
    (h : wE X e σ H fun v H1 => ∃ a xs, v = .ref a ∧ SqL X.K H1 a xs ∧ ∃ Pv : Nat → L2.St → Hp → Prop, Pv 0 σ H1 ∧ (∀ k σ H, k ≤ xs.length → Pv k σ H → SqL X.K H a xs) ∧
      (∀ k v σ H T, xs[k]? = some v → Pv k σ H → H T = none → wB X body { D with nx := Pv (k + 1), ct := Pv (k + 1), bk := D.nx } ((σ.set i (some (.int (k : Int)))).set j (some v)) (upd H T (.tup [.int (k : Int), v]))) ∧ ∀ σ H, Pv xs.length σ H → D.nx σ H)
    (hst : starEach [e] X.env = [(false, eval e X.env)] := by rfl)
    (hs : ∀ z, foldedSetIterable (.Call (.Name "enumerate" p2) [e] [] p3) X.env z = pure z := by intro _; rfl) : wS X (.For (.Tuple [.Name x px, .Name y py] kt pt) (.Call (.Name "enumerate" p2) [e] [] p3) body [] pos) D σ H := by
  refine toS (ps_for hp hc (pi_enum hg hm pa_self hst) (pg_t2g i j hc hN hi hj F hx hy) pss_self hs) ?_
  show wA X [e] σ H _
  refine a_cons (wE_mono h ?_) hst
  rintro v H1 ⟨a, xs, rfl, hs, Pv, h0, hl, ht, he⟩
  refine a_nil ⟨a, xs, rfl, hs, for_it walk_enum Pv h0 hl ?_ he⟩
  rintro k v σ H H' hk hP ⟨T, u, w, rfl, hT, rfl, hu, hw⟩
  cases hu
  exact g2 (SqT.of upd_same) (ht k w σ H T hw hP hT)
/-- x, y = e, names of cells among them -/
theorem s_unp2g (i j : Nat) (hc : X.calm = true) (hN : X.N.Nodup) (hi : X.N[i]? = some x) (hj : X.N[j]? = some y) (F : ∀ x, X.fn x = true) (hx : L2.Loc X.env.scope x) (hy : L2.Loc X.env.scope y)
    (hw : swappedStores [.Tuple [.Name x px, .Name y py] kt pt] e X.env = pure none)
    (h : wE X e σ H fun v H1 => ∃ a u w, v = .ref a ∧ SqT X.K H1 a [u, w] ∧ D.nx ((σ.set i (some u)).set j (some w)) H1)
    (hs : swapsWithSole [.Tuple [.Name x px, .Name y py] kt pt] e pos.line X.env = pure false := by rfl) : wS X (.Assign [.Tuple [.Name x px, .Name y py] kt pt] e pos) D σ H := by
  refine toS (ps_asg pe_self (pg_t2g i j hc hN hi hj F hx hy) hs hw) ?_
  refine wE_mono h ?_
  rintro v H1 ⟨a, u, w, rfl, h1, h2⟩
  exact g2 h1 h2
/-- xs.index(e) -/
theorem e_index {o : Expr} {apos cpos : Pos} (h : wE X o σ H fun x H1 => tyV X.K "list" x H1 ∧ wE X e σ H1 fun y H2 => ∃ (a : Addr) (ys : List V) (j : Nat) (z : V), x = .ref a ∧ SqL X.K H2 a ys ∧ flatV y = true ∧ ys.all flatV = true ∧ ys[j]? = some z ∧ eqV z y = true ∧ (∀ (m : Nat) (z' : V), m < j → ys[m]? = some z' → eqV z' y = false) ∧ Q (.int (j : Int)) H2)
    (n1 : starEach [e] X.env = (false, eval e X.env) :: starEach [] X.env := by rfl) (n2 : attributeBase o "index" X.env (eval o X.env) = eval o X.env := by rfl) (n3 : ((((backTo cpos (starEach [e] X.env)).all fun x => !x.fst) && (backToKw cpos (keywordEach [] X.env)).all fun x => x.fst.isSome) && decide (([e].length + ([] : List Keyword).length + if ([] : List Keyword).isEmpty = true then 0 else 1) < 30)) = true := by rfl) (n4 : (apos.endLine == cpos.line) = true := by rfl) (n5 : ((backTo cpos (starEach [] X.env)).any fun x => x.fst) = false := by rfl) : wE X (.Call (.Attribute o "index" apos) [e] [] cpos) σ H Q := by
  refine toE (pe_bm PySem.F.plainAttrs_list PySem.F.slot_list_index PySem.F.type_list_index mt_index pe_self (pa_cons pe_self pa_nil n1) n2 n3 n4 n1 n5) ?_
  refine wE_mono h ?_
  rintro x H1 ⟨t, k⟩
  refine ⟨t, wE_mono k ?_⟩
  rintro y H2 ⟨a, ys, j, z, rfl, h1, h2, h3, h4, h5, h6, q⟩
  exact ⟨a, ys, y, j, z, rfl, rfl, h1, h2, h3, h4, h5, h6, q⟩
/-- xs[:-1] -/
theorem cut_m1 (xs : List V) : cutV xs none (some (-1)) = xs.take (xs.length - 1) := by
  unfold cutV
  have e : HT.sIx xs.length xs.length (some (-1)) = xs.length - 1 := by
    show (if (-1 : Int) < 0 then ((-1 : Int) + (xs.length : Int)).toNat else min (-1 : Int).toNat xs.length) = _
    rw [if_pos (by decide)]
    omega
  rw [e, HT.sIx_none, List.drop_zero, Nat.sub_zero]
theorem eqv_ints : ∀ ns ms : List Int, PyData.eqvAll (ns.map PyData.int) (ms.map PyData.int) = decide (ns = ms)
  | [], [] => by rfl
  | [], t :: ts => by rfl
  | s :: ss, [] => by rfl
  | s :: ss, t :: ts => by
    show ((s == t) && PyData.eqvAll (ss.map PyData.int) (ts.map PyData.int)) = _
    rw [eqv_ints ss ts, Bool.eq_iff_iff]
    simp
theorem lay_ints : ∀ ns : List Int, PyData.canLayAll0 (ns.map PyData.int) = true
  | [] => rfl
  | s :: ss => by
    show (true && PyData.canLayAll0 (ss.map PyData.int)) = true
    rw [lay_ints ss]; rfl
theorem depth_ints : ∀ ns : List Int, PyData.depthAll (ns.map PyData.int) ≤ 10
  | [] => by decide
  | s :: ss => by
    have := depth_ints ss
    have e : PyData.depth (PyData.int s) ≤ 10 := by simp [PyData.depth]
    simp only [List.map_cons, PyData.depthAll]
    omega
theorem shaped_intsT (ns : List Int) : SeqAt.shaped (.tuple (ns.map PyData.int)) = true := by
  unfold SeqAt.shaped
  rw [show PyData.canLay0 (.tuple (ns.map PyData.int)) = true by show PyData.canLayAll0 _ = true; exact lay_ints ns, Bool.true_and]
  have := depth_ints ns
  exact decide_eq_true (by simp only [PyData.depth]; omega)
theorem shaped_intsL (ns : List Int) : SeqAt.shaped (.list (ns.map PyData.int)) = true := by
  unfold SeqAt.shaped
  rw [show PyData.canLay0 (.list (ns.map PyData.int)) = true by show PyData.canLayAll0 _ = true; exact lay_ints ns, Bool.true_and]
  have := depth_ints ns
  exact decide_eq_true (by simp only [PyData.depth]; omega)
/-- tuples and lists of integers, one against the other -/
theorem o_neT {a b : Addr} {ns ms : List Int} (hu : X.A.units + 64 < cLine) (h1 : SqT X.K H a (ns.map V.int)) (h2 : SqT X.K H b (ms.map V.int)) (h : Q (.bl (!decide (ns = ms))) H) : wO X (compareOp .NotEq) (.ref a) (.ref b) H Q := by
  refine o_neD hu (.tup h1 (dp_ints ns)) (.tup h2 (dp_ints ms)) (shaped_intsT ns) (shaped_intsT ms) ?_
  rw [show PyData.eqv (.tuple (ns.map PyData.int)) (.tuple (ms.map PyData.int)) = decide (ns = ms) from eqv_ints ns ms]
  exact h
theorem o_neL {a b : Addr} {ns ms : List Int} (hu : X.A.units + 64 < cLine) (h1 : SqL X.K H a (ns.map V.int)) (h2 : SqL X.K H b (ms.map V.int)) (h : Q (.bl (!decide (ns = ms))) H) : wO X (compareOp .NotEq) (.ref a) (.ref b) H Q := by
  refine o_neD hu (.lst h1 (dp_ints ns)) (.lst h2 (dp_ints ms)) (shaped_intsL ns) (shaped_intsL ms) ?_
  rw [show PyData.eqv (.list (ns.map PyData.int)) (.list (ms.map PyData.int)) = decide (ns = ms) from eqv_ints ns ms]
  exact h
end
end WX

set_option Elab.async false
set_option linter.all false
set_option maxRecDepth 100000
set_option maxHeartbeats 4000000
namespace WX
open PySem PySem.Spec PyProof.Rows L2 HT SrtO
section
variable {prog : Program} {w : World} {A : Around} {E : Value → Shared → Prop} {s : Shared}
theorem collect_tup {l : Addr} {vs : List Value} {Q : List Value → Shared → Prop} (hl : IsTup s.heap l vs.toArray)
    (h : Q vs { s with heap := (s.heap.push (seqObj "list" #[] 0)).update s.heap.objs.size (Obj.mapSeq (· ++ vs.toArray)) }) (hsz : vs.length ≤ sizeLine) :
    wpAny (model prog w) A (collect (.ref l)) Q E s := by
  obtain ⟨o, ho, hc, n, hd⟩ := id hl
  unfold collect
  refine wpAny_bind (wpAny_runValue (codeAny_builtin entry_proto_collect' ?_))
  show wpAny _ _ (do again (.builtin "list.__iadd__" ⟨[← newList [], .ref l], []⟩)) _ _ s
  refine wpAny_bind (wpAny_newList (wpAny_pure ⟨Code.quiet_builtin _ (by decide +kernel), codeAny_builtin entry_list_iadd' ?_⟩))
  show wpAny _ _ (Builtin.List.listExtendWith (.ref s.heap.objs.size) (.ref l) (.ref s.heap.objs.size)) _ _ { s with heap := s.heap.push (seqObj "list" #[] 0) }
  unfold Builtin.List.listExtendWith
  have ho' : (s.heap.push (seqObj "list" #[] 0)).get? l = some o := Heap.get?_push_of_some _ ho
  refine wpAny_bind (wpAny_typeOf (T := "tuple") ⟨o, ho', hc⟩ ?_)
  have ht : (Value.type "tuple" == Value.type "tuple") = true := by rfl
  rw [if_pos (by rw [ht]; simp)]
  refine wpAny_bind (listItems_at ho' hd ?_)
  refine wpAny_bind (listItems_at (xs := #[]) (n := 0) (Heap.get?_push_size _ rfl) rfl ?_)
  rw [if_neg (by simp)]
  refine wpAny_bind (listUpdate_at (xs := #[]) (n := 0) (Heap.get?_push_size _ rfl) rfl ?_ (Nat.zero_le _) (by show (#[] ++ vs.toArray).size ≤ sizeLine + 1; simp only [Array.size_append, List.size_toArray, List.length_nil]; omega))
  refine wpAny_pure ?_
  show wpAny (model prog w) A (do
      let o ← load s.heap.objs.size
      match o.data with
      | .seq xs _ => pure xs.toList
      | _ => unsupported "internal:collect") Q E { s with heap := (s.heap.push (seqObj "list" #[] 0)).update s.heap.objs.size (Obj.mapSeq (· ++ vs.toArray)) }
  refine wpAny_bind (wpAny_load (get?_update_seq (Heap.get?_push_size _ rfl) _) ?_)
  show wpAny _ _ (pure ((#[] : Array Value) ++ vs.toArray).toList) Q E _
  rw [show ((#[] : Array Value) ++ vs.toArray).toList = vs by simp]
  exact wpAny_pure h
theorem sorted_ordT {l : Addr} {vs : List Value} {ltv : Value → Value → Bool} {Q : Value → Shared → Prop} (O : Swo ltv) (hl : IsTup s.heap l vs.toArray) (hz : vs.length ≤ sizeLine)
    (hS : 2 ≤ vs.length → ∀ (h₁ : Heap) (a : Addr), h₁.get? a = some (seqObj "list" vs.toArray 0) → (∀ b o, s.heap.get? b = some o → b ≠ a ∧ h₁.get? b = some o) → SortableO prog w A.in1.in1 { s with heap := h₁ } a vs ltv)
    (h : ∀ out : List Value, Srtd ltv out → Stb ltv out vs → Q (.ref (s.heap.objs.size + 1)) { s with heap := sortedAll s.heap vs out.toArray }) :
    wpAny (model prog w) A (call (.builtin "sorted") [.ref l]) Q E s := by
  refine Calls.call_function_entry kind_sorted plain_sorted entry_sorted (args_sorted1 _) ?_
  unfold Builtin.«sorted»
  refine wpAny_bind (m := checkCount "sorted" 1 1 _) (wpAny_pure ?_)
  refine wpAny_bind (collect_tup hl ?_ hz)
  refine wpAny_bind (wpAny_newList ?_ hz)
  have hsz : ((s.heap.push (seqObj "list" #[] 0)).update s.heap.objs.size (Obj.mapSeq (· ++ vs.toArray))).objs.size = s.heap.objs.size + 1 := by
    rw [Heap.size_update, size_push']
  have hoL : (((s.heap.push (seqObj "list" #[] 0)).update s.heap.objs.size (Obj.mapSeq (· ++ vs.toArray))).push (seqObj "list" vs.toArray 0)).get? (s.heap.objs.size + 1) = some (seqObj "list" vs.toArray 0) := by
    rw [← hsz]; exact Heap.get?_push_size _ rfl
  have keep : ∀ b o, s.heap.get? b = some o → b ≠ s.heap.objs.size + 1 ∧ (((s.heap.push (seqObj "list" #[] 0)).update s.heap.objs.size (Obj.mapSeq (· ++ vs.toArray))).push (seqObj "list" vs.toArray 0)).get? b = some o := fun b o q => by
    have hlt : b < s.heap.objs.size := Heap.lt_size q
    refine ⟨Nat.ne_of_lt (Nat.lt_succ_of_lt hlt), Heap.get?_push_of_some _ ?_⟩
    rw [Heap.get?_update_ne _ _ _ _ (Nat.ne_of_lt hlt)]
    exact Heap.get?_push_of_some _ q
  show wpAny _ _ _ _ _ { s with heap := ((s.heap.push (seqObj "list" #[] 0)).update s.heap.objs.size (Obj.mapSeq (· ++ vs.toArray))).push (seqObj "list" vs.toArray 0) }
  rw [hsz]
  refine wpAny_bind (wpAny_holding (wpAny_call_entry slot_list_sort ⟨_, hoL, rfl⟩ entry_list_sort (list_sort_ord O hoL hz (fun h2 => hS h2 _ _ hoL keep) fun out hs hb => ⟨_, rfl, ?_⟩) (args_list_sort _)))
  exact wpAny_pure ⟨_, rfl, h out hs hb⟩
end
section
variable {X : Cx} {H : Hp} {Q : VK}
/-- sorted(t), t a tuple of integers -/
theorem c_sortT {a : Addr} {ns : List Int} (hs : SqT X.K H a (ns.map V.int)) (q : ∀ (ns' : List Int) (p : Addr), ns'.Perm ns → ns'.Pairwise (· ≤ ·) → H p = none → Q (.ref p) (upd H p (.lst (ns'.map V.int)))) : wC X (.builtin "sorted") [.ref a] H Q := by
  refine ⟨fun pins s σ us I r => ?_⟩
  obtain ⟨its, rv, hl, hz⟩ := I.tuple hs
  rw [Vals.ref1 r]
  have hi := rv.ints
  refine sorted_ordT SrtO.swo_int hl (by rw [← rv.length]; exact hz) (fun h2 h₁ a' _ _ => SrtO.ints_sortable hi h2) fun out h1 h2 => ?_
  obtain ⟨k1, k2, k3⟩ := SrtO.ints_out hi h1 h2
  obtain ⟨ep, he'⟩ := PyProof.Rows.sortedAll_at s.heap its out.toArray
  have hlen : ((out.map SrtO.iv).map V.int).length ≤ sizeLine := by
    rw [List.length_map, k2.length_eq]
    rw [List.length_map] at hz
    exact hz
  exact ⟨.ref _, upd H (s.heap.objs.size + 1) (.lst ((out.map SrtO.iv).map V.int)), I.laid (t' := s.toks) (fun _ _ => PyProof.Rows.sortedAll_old) (Nat.le_succ _) ⟨hlen, out, ep, vals_of_ints k1, he'⟩, rfl, q _ _ k2 k3 (I.hok.fresh (Nat.le_succ _))⟩
/-- sorted(xs), xs a list of integers -/
theorem c_sortL {a : Addr} {ns : List Int} (hs : SqL X.K H a (ns.map V.int)) (q : ∀ (ns' : List Int) (p : Addr), ns'.Perm ns → ns'.Pairwise (· ≤ ·) → H p = none → Q (.ref p) (upd H p (.lst (ns'.map V.int)))) : wC X (.builtin "sorted") [.ref a] H Q := toC cr_sortedI ⟨a, ns, rfl, hs, q⟩
theorem wPS_mono {o i v : V} {R S : Hp → Prop} (h : wPS X o i v H R) (k : ∀ H', R H' → S H') : wPS X o i v H S := ⟨fun pins s σ ov iv u I r1 r2 r3 => thn (h.run pins s σ ov iv u I r1 r2 r3) fun _ _ ⟨H', I', r⟩ => ⟨H', I', k _ r⟩⟩
/-- o[i], o'[i'] = e -/
theorem s_swS {σ : L2.St} {D : Ends} {e o1 i1 o2 i2 : Expr} {q1 q2 pt pos : Pos} {kt : Nat} (hc : X.calm = true)
    (hw : swappedStores [.Tuple [.Subscript o1 i1 q1, .Subscript o2 i2 q2] kt pt] e X.env = pure none)
    (h : wE X e σ H fun v H1 => ∃ a u w, v = .ref a ∧ SqT X.K H1 a [u, w] ∧ wE X o1 σ H1 fun ov H2 => wE X i1 σ H2 fun iv H3 => wPS X ov iv u H3 fun H4 =>
      wE X o2 σ H4 fun ov2 H5 => wE X i2 σ H5 fun iv2 H6 => wPS X ov2 iv2 w H6 fun H7 => D.nx σ H7)
    (ha : ∀ v, assign (.Subscript o1 i1 q1) X.env v = (do
      let ov ← holding [v] (eval o1 X.env)
      let iv ← holding [v, ov] (eval i1 X.env)
      standAt q1
      holding [v, ov, iv] (setItem ov iv v)
      release [v, ov, iv] []) := by intro _; rfl)
    (hb : ∀ v, assign (.Subscript o2 i2 q2) X.env v = (do
      let ov ← holding [v] (eval o2 X.env)
      let iv ← holding [v, ov] (eval i2 X.env)
      standAt q2
      holding [v, ov, iv] (setItem ov iv v)
      release [v, ov, iv] []) := by intro _; rfl)
    (hs : swapsWithSole [.Tuple [.Subscript o1 i1 q1, .Subscript o2 i2 q2] kt pt] e pos.line X.env = pure false := by rfl) : wS X (.Assign [.Tuple [.Subscript o1 i1 q1, .Subscript o2 i2 q2] kt pt] e pos) D σ H := by
  refine toS (ps_asg pe_self (pg_tup (n := 2) hc (pgs_cons (pg_sub pe_self pe_self set_self ha) (pgs_cons (pg_sub pe_self pe_self set_self hb) pgs_nil))) hs hw) ?_
  refine wE_mono h ?_
  rintro v H1 ⟨a, u, w, rfl, h1, k⟩
  exact ⟨a, [u, w], rfl, h1, rfl, u, [w], rfl, wE_mono k fun ov H2 k2 => wE_mono k2 fun iv H3 k3 => wPS_mono k3 fun H4 k4 => ⟨w, [], rfl, wE_mono k4 fun ov2 H5 k5 => wE_mono k5 fun iv2 H6 k6 => wPS_mono k6 fun H7 k7 => ⟨rfl, k7⟩⟩⟩
/-- xs.pop(e) -/
theorem e_pop {σ : L2.St} {o e : Expr} {apos cpos : Pos} (h : wE X o σ H fun x H1 => tyV X.K "list" x H1 ∧ wE X e σ H1 fun y H2 => ∃ (l : Addr) (xs : List V) (k : Nat) (v : V), x = .ref l ∧ y = .int (k : Int) ∧ H2 l = some (.lst xs) ∧ xs[k]? = some v ∧ xs.length < 2 ^ 60 ∧ Q v (upd H2 l (.lst (xs.eraseIdx k))))
    (n1 : starEach [e] X.env = (false, eval e X.env) :: starEach [] X.env := by rfl) (n2 : attributeBase o "pop" X.env (eval o X.env) = eval o X.env := by rfl) (n3 : ((((backTo cpos (starEach [e] X.env)).all fun x => !x.fst) && (backToKw cpos (keywordEach [] X.env)).all fun x => x.fst.isSome) && decide (([e].length + ([] : List Keyword).length + if ([] : List Keyword).isEmpty = true then 0 else 1) < 30)) = true := by rfl) (n4 : (apos.endLine == cpos.line) = true := by rfl) (n5 : ((backTo cpos (starEach [] X.env)).any fun x => x.fst) = false := by rfl) : wE X (.Call (.Attribute o "pop" apos) [e] [] cpos) σ H Q := by
  refine toE (pe_bm PySem.F.plainAttrs_list PySem.F.slot_list_pop PySem.F.type_list_pop mt_popAt pe_self (pa_cons pe_self pa_nil n1) n2 n3 n4 n1 n5) ?_
  refine wE_mono h ?_
  rintro x H1 ⟨t, h2⟩
  refine ⟨t, wE_mono h2 ?_⟩
  rintro y H2 ⟨l, xs, k, v, ex, ey, hl, hk, hz, q⟩
  subst ex ey
  have hlt := (List.getElem?_eq_some_iff.mp hk).1
  have e1 : ixN xs.length (k : Int) = some k := by
    unfold ixN
    simp
    omega
  obtain ⟨e2, _⟩ := ixN_seq e1
  exact ⟨l, xs, (k : Int), k, v, rfl, rfl, hl, by omega, by omega, e2, hk, q⟩
end
end WX

set_option Elab.async false
set_option linter.all false
set_option maxRecDepth 100000
set_option maxHeartbeats 4000000
namespace WX
open PySem PySem.Spec PyProof.Rows L2 HT
section
variable {X : Cx} {σ : L2.St} {H : Hp} {Q : VK}
/-! ### comprehensions over whatever walk -/
theorem lcG {J : It} {n : Nat} {G : Hp → Prop} {Y : Nat → Hp → V → Hp → Prop} (w : Walk J n G Y) {g : TG} {tt : TT} {te : TE} {vs : List Nat} {H1 : Hp} {D : Addr} {Qd : Hp → Prop} (Pv : Nat → List V → Hp → Prop) (h0 : Pv 0 [] (upd H1 D (.lst [])))
    (hG : ∀ i acc H, i ≤ n → Pv i acc H → G H)
    (hs : ∀ i x acc H H', i < n → H D = some (.lst acc) → Pv i acc H → Y i H x H' → g x (wipe σ vs) H' fun σ2 H2 => wipe σ2 vs = wipe σ vs ∧ tt σ2 H2 fun b H3 =>
      if b = true then te σ2 H3 fun y H4 => H4 D = some (.lst acc) ∧ acc.length < sizeLine ∧ Pv (i + 1) (acc ++ [y]) (upd H4 D (.lst (acc ++ [y]))) else H3 D = some (.lst acc) ∧ Pv (i + 1) acc H3)
    (hd : ∀ acc H, H D = some (.lst acc) → Pv n acc H → Qd H)
    (mg : ∀ x σ H (A B : L2.St → Hp → Prop), (∀ s h, A s h → B s h) → g x σ H A → g x σ H B) (mt : ∀ σ H (A B : Bool → Hp → Prop), (∀ b h, A b h → B b h) → tt σ H A → tt σ H B) (me : ∀ σ H (A B : VK), (∀ v h, A v h → B v h) → te σ H A → te σ H B) :
    ∃ W : Nat → Nat → Hp → Prop, (∃ m, W 0 m (upd H1 D (.lst []))) ∧ ∀ i m H, W i m H →
      (J.stop i H ∧ Qd H) ∨ (J.go i H ∧ ∃ Nx : Hp → Prop, (∀ H', Nx H' → ∃ m', m' < m ∧ W (i + 1) m' H') ∧ ∀ x H', J.yld i H x H' → g x (wipe σ vs) H' fun σ2 H2 => wipe σ2 vs = wipe σ vs ∧ tt σ2 H2 fun b H3 =>
        if b = true then te σ2 H3 fun y H4 => ∃ acc, H4 D = some (.lst acc) ∧ acc.length < sizeLine ∧ Nx (upd H4 D (.lst (acc ++ [y]))) else Nx H3) := by
  refine lc_it w (fun i H => ∃ acc, H D = some (.lst acc) ∧ Pv i acc H) ⟨[], upd_same, h0⟩ (fun i H hi ⟨acc, _, p⟩ => hG i acc H hi p) ?_ (fun H ⟨acc, e, p⟩ => hd acc H e p)
  rintro i x H H' hi ⟨acc, e, p⟩ y
  refine mg _ _ _ _ _ ?_ (hs i x acc H H' hi e p y)
  rintro σ2 H2 ⟨e1, k⟩
  refine ⟨e1, mt _ _ _ _ ?_ k⟩
  rintro b H3 k3
  cases b with
  | true =>
    rw [if_pos rfl] at k3 ⊢
    exact me _ _ _ _ (fun y H4 ⟨a1, a2, a3⟩ => ⟨acc, a1, a2, _, upd_same, a3⟩) k3
  | false =>
    rw [if_neg Bool.false_ne_true] at k3 ⊢
    exact ⟨acc, k3⟩
theorem mg_name {j : Nat} : ∀ x σ H (A B : L2.St → Hp → Prop), (∀ s h, A s h → B s h) → gName j x σ H A → gName j x σ H B := fun x σ H A B k h => k _ _ h
theorem mt_yes : ∀ σ H (A B : Bool → Hp → Prop), (∀ b h, A b h → B b h) → tYes σ H A → tYes σ H B := fun σ H A B k h => k _ _ h
theorem mt_wTb {scope : Scope} {c : Expr} : ∀ σ H (A B : Bool → Hp → Prop), (∀ b h, A b h → B b h) → wTb X scope c σ H A → wTb X scope c σ H B := fun σ H A B k h X' bk => wT_mono (h X' bk) k
theorem me_wEb {scope : Scope} {c : Expr} : ∀ σ H (A B : VK), (∀ v h, A v h → B v h) → wEb X scope c σ H A → wEb X scope c σ H B := fun σ H A B k h X' bk => wE_mono (h X' bk) k
theorem wipe_two {σ : L2.St} {u v : V} {i j : Nat} (h : i ≠ j) : wipe (((wipe σ [i, j]).set i (some u)).set j (some v)) [i, j] = wipe σ [i, j] ∧ ((wipe σ [i, j]).set i (some u)).set j (some v) = (σ.set i (some u)).set j (some v) := by
  show (((((σ.set j none).set i none).set i (some u)).set j (some v)).set j none).set i none = (σ.set j none).set i none ∧ (((σ.set j none).set i none).set i (some u)).set j (some v) = _
  constructor
  · rw [List.set_set, List.set_set, List.set_comm (some u) none h, List.set_set, List.set_set]
  · rw [List.set_set, List.set_comm none (some u) (Ne.symm h), List.set_set]
section
variable {X : Cx} {σ : L2.St} {H : Hp} {Q : VK} {D : Ends} {pos : Pos} {e elt iter : Expr} {scope : Scope} {x : Str} {j : Nat} {px : Pos}
/-! the items that a condition lets through; nothing is changed -/
/-- i turns are done: what was let through -/
def Kept (H1 : Hp) (p : Nat → Bool) (f : Nat → V) (i : Nat) (acc : List V) (H : Hp) : Prop := Same H1 H ∧ acc = ((List.range i).filter p).map f
theorem kept_s {H1 H : Hp} {p : Nat → Bool} {f : Nat → V} {i : Nat} {acc : List V} (h : acc = ((List.range i).filter p).map f) : acc.length ≤ i ∧ (p i = true → acc ++ [f i] = ((List.range (i + 1)).filter p).map f) ∧ (p i = false → acc = ((List.range (i + 1)).filter p).map f) := by
  subst h
  refine ⟨?_, fun e => ?_, fun e => ?_⟩
  · rw [List.length_map]
    exact Nat.le_trans (List.length_filter_le ..) (by rw [List.length_range]; exact Nat.le_refl _)
  · rw [List.range_succ, List.filter_append, List.map_append]
    simp [e]
  · rw [List.range_succ, List.filter_append, List.map_append]
    simp [e]
/-- one name -/
theorem lcP {J : It} {n : Nat} {G : Hp → Prop} {Y : Nat → Hp → V → Hp → Prop} (w : Walk J n G Y) {tt : TT} {te : TE} {H1 : Hp} {Qd : Addr → Hp → Prop} (hz : n < sizeLine) (p : Nat → Bool) (f : Nat → V) (hG : ∀ H, Same H1 H → G H)
    (mt : ∀ σ H (A B : Bool → Hp → Prop), (∀ b h, A b h → B b h) → tt σ H A → tt σ H B) (me : ∀ σ H (A B : VK), (∀ v h, A v h → B v h) → te σ H A → te σ H B)
    (hs : ∀ i x H H', i < n → Same H1 H → Y i H x H' → Same H H' ∧ tt (σ.set j (some x)) H' fun b H3 => b = p i ∧ Same H' H3 ∧ (p i = true → te (σ.set j (some x)) H3 fun y H4 => y = f i ∧ Same H3 H4))
    (hd : ∀ D H', H1 D = none → Same H1 H' → H' D = some (.lst (((List.range n).filter p).map f)) → Qd D H') (D : Addr) (hD : H1 D = none) :
    ∃ W : Nat → Nat → Hp → Prop, (∃ m, W 0 m (upd H1 D (.lst []))) ∧ ∀ i m H, W i m H →
      (J.stop i H ∧ Qd D H) ∨ (J.go i H ∧ ∃ Nx : Hp → Prop, (∀ H', Nx H' → ∃ m', m' < m ∧ W (i + 1) m' H') ∧ ∀ x H', J.yld i H x H' → gName j x (wipe σ [j]) H' fun σ2 H2 => wipe σ2 [j] = wipe σ [j] ∧ tt σ2 H2 fun b H3 =>
        if b = true then te σ2 H3 fun y H4 => ∃ acc, H4 D = some (.lst acc) ∧ acc.length < sizeLine ∧ Nx (upd H4 D (.lst (acc ++ [y]))) else Nx H3) := by
  refine lcG w (Kept H1 p f) ⟨(Same.refl H1).new hD, rfl⟩ (fun i acc H _ k => hG H k.1) ?_ (fun acc H e k => hd D H hD k.1 (by rw [e, k.2])) mg_name mt me
  rintro i x acc H H' hi e ⟨sm, ea⟩ y
  obtain ⟨e1, e2⟩ := wipe_one (σ := σ) (v := x) (j := j)
  show wipe ((wipe σ [j]).set j (some x)) [j] = _ ∧ _
  refine ⟨e1, ?_⟩
  rw [e2]
  obtain ⟨s1, k⟩ := hs i x H H' hi sm y
  obtain ⟨l1, l2, l3⟩ := kept_s (H1 := H1) (H := H) ea
  refine mt _ _ _ _ ?_ k
  rintro b H3 ⟨rfl, s2, k3⟩
  have s13 := (sm.trans s1).trans s2
  cases hp : p i with
  | true =>
    rw [if_pos rfl]
    refine me _ _ _ _ ?_ (k3 hp)
    rintro y H4 ⟨rfl, s4⟩
    exact ⟨s4 _ _ (s2 _ _ (s1 _ _ e)), by omega, (s13.trans s4).ch hD Ch.refl.put, l2 hp⟩
  | false =>
    rw [if_neg Bool.false_ne_true]
    exact ⟨s2 _ _ (s1 _ _ e), s13, l3 hp⟩
/-- a pair of names -/
theorem lcP2 {j2 : Nat} (hj : j ≠ j2) {J : It} {n : Nat} {G : Hp → Prop} {Y : Nat → Hp → V → Hp → Prop} (w : Walk J n G Y) {tt : TT} {te : TE} {H1 : Hp} {Qd : Addr → Hp → Prop} (hz : n < sizeLine) (p : Nat → Bool) (f : Nat → V) (hG : ∀ H, Same H1 H → G H)
    (mt : ∀ σ H (A B : Bool → Hp → Prop), (∀ b h, A b h → B b h) → tt σ H A → tt σ H B) (me : ∀ σ H (A B : VK), (∀ v h, A v h → B v h) → te σ H A → te σ H B)
    (hs : ∀ i x H H', i < n → Same H1 H → Y i H x H' → Same H H' ∧ ∃ a u v, x = .ref a ∧ SqT X.K H' a [u, v] ∧ tt ((σ.set j (some u)).set j2 (some v)) H' fun b H3 => b = p i ∧ Same H' H3 ∧ (p i = true → te ((σ.set j (some u)).set j2 (some v)) H3 fun y H4 => y = f i ∧ Same H3 H4))
    (hd : ∀ D H', H1 D = none → Same H1 H' → H' D = some (.lst (((List.range n).filter p).map f)) → Qd D H') (D : Addr) (hD : H1 D = none) :
    ∃ W : Nat → Nat → Hp → Prop, (∃ m, W 0 m (upd H1 D (.lst []))) ∧ ∀ i m H, W i m H →
      (J.stop i H ∧ Qd D H) ∨ (J.go i H ∧ ∃ Nx : Hp → Prop, (∀ H', Nx H' → ∃ m', m' < m ∧ W (i + 1) m' H') ∧ ∀ x H', J.yld i H x H' → gTup X.K 2 (gCons (gName j) (gCons (gName j2) gNil)) x (wipe σ [j, j2]) H' fun σ2 H2 => wipe σ2 [j, j2] = wipe σ [j, j2] ∧ tt σ2 H2 fun b H3 =>
        if b = true then te σ2 H3 fun y H4 => ∃ acc, H4 D = some (.lst acc) ∧ acc.length < sizeLine ∧ Nx (upd H4 D (.lst (acc ++ [y]))) else Nx H3) := by
  refine lcG w (Kept H1 p f) ⟨(Same.refl H1).new hD, rfl⟩ (fun i acc H _ k => hG H k.1) ?_ (fun acc H e k => hd D H hD k.1 (by rw [e, k.2])) ?_ mt me
  · rintro i x acc H H' hi e ⟨sm, ea⟩ y
    obtain ⟨s1, a, u, v, rfl, ht, k⟩ := hs i x H H' hi sm y
    obtain ⟨e1, e2⟩ := wipe_two (σ := σ) (u := u) (v := v) hj
    refine g2 ht ⟨e1, ?_⟩
    rw [e2]
    obtain ⟨l1, l2, l3⟩ := kept_s (H1 := H1) (H := H) ea
    refine mt _ _ _ _ ?_ k
    rintro b H3 ⟨rfl, s2, k3⟩
    have s13 := (sm.trans s1).trans s2
    cases hp : p i with
    | true =>
      rw [if_pos rfl]
      refine me _ _ _ _ ?_ (k3 hp)
      rintro y H4 ⟨rfl, s4⟩
      exact ⟨s4 _ _ (s2 _ _ (s1 _ _ e)), by omega, (s13.trans s4).ch hD Ch.refl.put, l2 hp⟩
    | false =>
      rw [if_neg Bool.false_ne_true]
      exact ⟨s2 _ _ (s1 _ _ e), s13, l3 hp⟩
  · rintro x σ H A B k ⟨a, xs, e1, e2, e3, u, r1, e4, v, r2, e5, e6, q⟩
    exact ⟨a, xs, e1, e2, e3, u, r1, e4, v, r2, e5, e6, k _ _ q⟩
/-- the elements change the dice at p -/
theorem lcDice {J : It} {n : Nat} {G : Hp → Prop} {Y : Nat → Hp → V → Hp → Prop} (w : Walk J n G Y) {te : TE} {H1 : Hp} {Qd : Addr → Hp → Prop} {p : Addr} (hz : n < sizeLine) (R : Nat → V → Prop) (hp : Dice H1 p) (hG : ∀ H, Ch p H1 H → G H)
    (me : ∀ σ H (A B : VK), (∀ v h, A v h → B v h) → te σ H A → te σ H B)
    (hs : ∀ i x H H', i < n → Ch p H1 H → Dice H p → Y i H x H' → Same H H' ∧ te (σ.set j (some x)) H' fun y H4 => R i y ∧ Ch p H' H4 ∧ Dice H4 p)
    (hd : ∀ D H' ys, H1 D = none → Ch p H1 H' → Dice H' p → H' D = some (.lst ys) → ys.length = n → (∀ i y, ys[i]? = some y → R i y) → Qd D H') (D : Addr) (hD : H1 D = none) :
    ∃ W : Nat → Nat → Hp → Prop, (∃ m, W 0 m (upd H1 D (.lst []))) ∧ ∀ i m H, W i m H →
      (J.stop i H ∧ Qd D H) ∨ (J.go i H ∧ ∃ Nx : Hp → Prop, (∀ H', Nx H' → ∃ m', m' < m ∧ W (i + 1) m' H') ∧ ∀ x H', J.yld i H x H' → gName j x (wipe σ [j]) H' fun σ2 H2 => wipe σ2 [j] = wipe σ [j] ∧ tYes σ2 H2 fun b H3 =>
        if b = true then te σ2 H3 fun y H4 => ∃ acc, H4 D = some (.lst acc) ∧ acc.length < sizeLine ∧ Nx (upd H4 D (.lst (acc ++ [y]))) else Nx H3) := by
  have pD : D ≠ p := by
    obtain ⟨x, y, z, e⟩ := hp
    rintro rfl
    rw [e] at hD
    cases hD
  refine lcG w (fun i acc H => Ch p H1 H ∧ Dice H p ∧ acc.length = i ∧ ∀ k y, acc[k]? = some y → R k y) ⟨Ch.refl.new hD, hp.new hD, rfl, fun k y z => by simp at z⟩ (fun i acc H _ k => hG H k.1) ?_ (fun acc H e k => hd D H acc hD k.1 k.2.1 e k.2.2.1 k.2.2.2) mg_name mt_yes me
  rintro i x acc H H' hi e ⟨c, d, hl, hr⟩ y
  obtain ⟨e1, e2⟩ := wipe_one (σ := σ) (v := x) (j := j)
  show wipe ((wipe σ [j]).set j (some x)) [j] = _ ∧ _
  refine ⟨e1, ?_⟩
  rw [e2]
  obtain ⟨s1, k⟩ := hs i x H H' hi c d y
  unfold tYes
  with_reducible refine iteT ?_
  refine me _ _ _ _ ?_ k
  rintro y H4 ⟨r, c4, d4⟩
  have c14 := (c.trans (Ch.of s1)).trans c4
  have dd : Dice (upd H4 D (.lst (acc ++ [y]))) p := by
    obtain ⟨x, y, z, e⟩ := d4
    exact ⟨x, y, z, upd_keep2 (Ne.symm pD) e⟩
  have cc : Ch p H1 (upd H4 D (.lst (acc ++ [y]))) := fun b u hb e => upd_keep2 (ne_of_none e hD) (c14 b u hb e)
  refine ⟨c4 _ _ pD (s1 _ _ e), by omega, cc, dd, by simp [hl], fun k z hk => ?_⟩
  rw [List.getElem?_append] at hk
  split at hk
  · exact hr k z hk
  · rename_i h
    have e1 : k = i := by
      have := (List.getElem?_eq_some_iff.mp hk).1
      simp at this
      omega
    subst e1
    rw [hl, Nat.sub_self] at hk
    simp at hk
    subst hk
    exact r
end
end
end WX

set_option Elab.async false
set_option linter.all false
set_option maxRecDepth 100000
set_option maxHeartbeats 4000000
namespace WX
open PySem PySem.Spec PyProof.Rows L2 HT
section
variable {X : Cx} {σ : L2.St} {H : Hp} {Q : VK} {D : Ends} {pos : Pos} {e elt iter c : Expr} {scope : Scope} {x x2 : Str} {j j2 : Nat} {px px2 : Pos} {N : List Str} {sc : Scope} {k : Nat}
/-- [elt for x in a tuple if c] -/
abbrev fT (X : Cx) (iter c elt : Expr) (scope : Scope) (j : Nat) (σ : L2.St) (H : Hp) (Q : VK) : Prop := wE X iter σ H fun v H1 => ∃ a xs, ∃ (p : Nat → Bool) (f : Nat → V), v = .ref a ∧ SqT X.K H1 a xs ∧ xs.length < sizeLine ∧
  (∀ i v H2, xs[i]? = some v → Same H1 H2 → wTb X scope c (σ.set j (some v)) H2 fun b H3 => b = p i ∧ Same H2 H3 ∧ (p i = true → wEb X scope elt (σ.set j (some v)) H3 fun y H4 => y = f i ∧ Same H3 H4)) ∧
  ∀ D H', H1 D = none → Same H1 H' → H' D = some (.lst (((List.range xs.length).filter p).map f)) → Q (.ref D) H'
theorem fT_tLc (h : fT X iter c elt scope j σ H Q) : tLc (iTup X.K (wE X iter)) (gName j) (wTb X scope c) (wEb X scope elt) [j] σ H Q := by
  refine wE_mono h ?_
  rintro v H1 ⟨a, xs, p, f, rfl, hs, hz, k1, k2⟩
  refine ⟨a, rfl, ⟨xs, hs⟩, fun D hD => ?_⟩
  refine lcP (Qd := fun D H => Q (.ref D) H) walk_tup hz p f (fun H s => same_tup s hs) mt_wTb me_wEb ?_ k2 D hD
  rintro i x H H' hi sm ⟨rfl, hx⟩
  exact ⟨Same.refl _, k1 i x _ hx sm⟩
theorem e_fT (j : Nat) (B : Bd X N sc k) (ok : BlkOk N sc scope [(x, j)]) (hj : N[j]? = some x) (hx : scope.names.lookup x = some .local) (h : fT X iter c elt scope j σ H Q) (hs : ∀ x, foldedSetIterable iter X.env x = pure x := by intro _; rfl) :
    wE X (.ListComp elt [⟨.Name x px, iter, [c], 0⟩] scope pos) σ H Q :=
  toE (pe_lc (own := [(x, j)]) B.calm B.nd (pi_tup pe_self) (by rw [B.hN, B.sc]; exact ok) (pgb_name B.nd (B.slot j hj) hx) (fun _ _ _ _ _ => pts_one (ptb_self ..)) peb_self hs) (fT_tLc h)
/-- [elt for x in a list if c] -/
abbrev fL (X : Cx) (iter c elt : Expr) (scope : Scope) (j : Nat) (σ : L2.St) (H : Hp) (Q : VK) : Prop := wE X iter σ H fun v H1 => ∃ a xs, ∃ (p : Nat → Bool) (f : Nat → V), v = .ref a ∧ SqL X.K H1 a xs ∧ xs.length < sizeLine ∧
  (∀ i v H2, xs[i]? = some v → Same H1 H2 → wTb X scope c (σ.set j (some v)) H2 fun b H3 => b = p i ∧ Same H2 H3 ∧ (p i = true → wEb X scope elt (σ.set j (some v)) H3 fun y H4 => y = f i ∧ Same H3 H4)) ∧
  ∀ D H', H1 D = none → Same H1 H' → H' D = some (.lst (((List.range xs.length).filter p).map f)) → Q (.ref D) H'
theorem fL_tLc (h : fL X iter c elt scope j σ H Q) : tLc (iList X.K (wE X iter)) (gName j) (wTb X scope c) (wEb X scope elt) [j] σ H Q := by
  refine wE_mono h ?_
  rintro v H1 ⟨a, xs, p, f, rfl, hs, hz, k1, k2⟩
  refine ⟨a, rfl, ⟨xs, hs⟩, fun D hD => ?_⟩
  refine lcP (Qd := fun D H => Q (.ref D) H) walk_list hz p f (fun H s => s.seq hs) mt_wTb me_wEb ?_ k2 D hD
  rintro i x H H' hi sm ⟨rfl, hx⟩
  exact ⟨Same.refl _, k1 i x _ hx sm⟩
theorem e_fL (j : Nat) (B : Bd X N sc k) (ok : BlkOk N sc scope [(x, j)]) (hj : N[j]? = some x) (hx : scope.names.lookup x = some .local) (h : fL X iter c elt scope j σ H Q) (hs : ∀ x, foldedSetIterable iter X.env x = pure x := by intro _; rfl) :
    wE X (.ListComp elt [⟨.Name x px, iter, [c], 0⟩] scope pos) σ H Q :=
  toE (pe_lc (own := [(x, j)]) B.calm B.nd (pi_list pe_self) (by rw [B.hN, B.sc]; exact ok) (pgb_name B.nd (B.slot j hj) hx) (fun _ _ _ _ _ => pts_one (ptb_self ..)) peb_self hs) (fL_tLc h)
/-- [elt for x in range(a, b) if c], over i .. j -/
abbrev fR2 (X : Cx) (a b c elt : Expr) (scope : Scope) (j : Nat) (σ : L2.St) (H : Hp) (Q : VK) : Prop := wE X a σ H fun u H0 => wE X b σ H0 fun v H1 => ∃ (lo hi : Int), ∃ (p : Nat → Bool) (f : Nat → V), u = .int lo ∧ v = .int hi ∧ -(2 ^ 62) ≤ lo ∧ lo < 2 ^ 62 ∧ -(2 ^ 62) ≤ hi ∧ hi < 2 ^ 62 ∧ (hi - lo).toNat < sizeLine ∧
  (∀ i H2, i < (hi - lo).toNat → Same H1 H2 → wTb X scope c (σ.set j (some (.int (lo + (i : Nat))))) H2 fun b H3 => b = p i ∧ Same H2 H3 ∧ (p i = true → wEb X scope elt (σ.set j (some (.int (lo + (i : Nat))))) H3 fun y H4 => y = f i ∧ Same H3 H4)) ∧
  ∀ D H', H1 D = none → Same H1 H' → H' D = some (.lst (((List.range (hi - lo).toNat).filter p).map f)) → Q (.ref D) H'
theorem fR2_tLc {a b : Expr} (h : fR2 X a b c elt scope j σ H Q) (h1 : starEach [a, b] X.env = (false, eval a X.env) :: starEach [b] X.env := by rfl) (h2 : starEach [b] X.env = (false, eval b X.env) :: starEach [] X.env := by rfl) : tLc (iRng2 (wA X [a, b])) (gName j) (wTb X scope c) (wEb X scope elt) [j] σ H Q := by
  show wA X [a, b] σ H _
  refine a_cons (wE_mono h fun u H0 k => a_cons (wE_mono k ?_) h2) h1
  rintro v H1 ⟨lo, hi, p, f, rfl, rfl, l1, l2, l3, l4, hz, k1, k2⟩
  refine a_nil ⟨lo, hi, rfl, ⟨l1, l2, l3, l4⟩, fun D hD => ?_⟩
  refine lcP (Qd := fun D H => Q (.ref D) H) walk_range hz p f (fun H s => True.intro) mt_wTb me_wEb ?_ k2 D hD
  rintro i x H H' hi sm ⟨rfl, rfl⟩
  exact ⟨Same.refl _, k1 i _ hi sm⟩
theorem s_fR2 {a b : Expr} {p1 p2 : Pos} (j : Nat) {y : Str} {py spos : Pos} (i : Nat) (B : Bd X N sc k) (ok : BlkOk N sc scope [(x, j)]) (hg : Gl X "range") (hm : X.mg "range" = none) (hj : N[j]? = some x) (hx : scope.names.lookup x = some .local) (hy : X.N[i]? = some y) (hyl : X.env.scope.names.lookup y = some .local)
    (hsw : swapsWith (.ListComp elt [⟨.Name x px, .Call (.Name "range" p1) [a, b] [] p2, [c], 0⟩] scope pos) (some (.Name y py)) spos.line X.env = pure true)
    (h : fR2 X a b c elt scope j σ H fun v H1 => D.nx (σ.set i (some v)) H1) (h1 : starEach [a, b] X.env = (false, eval a X.env) :: starEach [b] X.env := by rfl) (h2 : starEach [b] X.env = (false, eval b X.env) :: starEach [] X.env := by rfl) (h3 : starEach [a, b] X.env = [(false, eval a X.env), (false, eval b X.env)] := by rfl) (hs : ∀ x, foldedSetIterable (.Call (.Name "range" p1) [a, b] [] p2) X.env x = pure x := by intro _; rfl) : wS X (.Assign [.Name y py] (.ListComp elt [⟨.Name x px, .Call (.Name "range" p1) [a, b] [] p2, [c], 0⟩] scope pos) spos) D σ H :=
  toS (ps_setLc (own := [(x, j)]) B.calm B.nd hy hyl hsw (pi_range2 hg hm pa_self h3 h2) (by rw [B.hN, B.sc]; exact ok) (pgb_name B.nd (B.slot j hj) hx) (fun _ _ _ _ _ => pts_one (ptb_self ..)) peb_self hs) (fR2_tLc h h1 h2)
theorem pgb_pair {kt : Nat} {pt : Pos} (hc : X.calm = true) (nd : X.N.Nodup) (hj : X.N[j]? = some x) (hx : scope.names.lookup x = some .local) (hj2 : X.N[j2]? = some x2) (hx2 : scope.names.lookup x2 = some .local) (s : Shared) (H : Hp) (C : Addr) (cl : List (Str × Addr)) (fp : List Addr) : PG (X.blk s H scope (compEnvC scope cl C X.env) fp) (.Tuple [.Name x px, .Name x2 px2] kt pt) (gTup X.K 2 (gCons (gName j) (gCons (gName j2) gNil))) := by
  have hl : (relS scope X.env.scope).names.lookup x = some .local := lookup_relS_keep (by decide) hx
  have hl2 : (relS scope X.env.scope).names.lookup x2 = some .local := lookup_relS_keep (by decide) hx2
  exact pg_tup (X := X.blk s H scope (compEnvC scope cl C X.env) fp) hc (pgs_cons (pg_name nd hj (Or.inl hl) (.inr hl)) (pgs_cons (pg_name nd hj2 (Or.inl hl2) (.inr hl2)) pgs_nil))
/-- [elt for x, y in enumerate(a list)] -/
abbrev eEn (X : Cx) (iter elt : Expr) (scope : Scope) (j j2 : Nat) (σ : L2.St) (H : Hp) (Q : VK) : Prop := wE X iter σ H fun v H1 => ∃ a xs, ∃ (f : Nat → V), v = .ref a ∧ SqL X.K H1 a xs ∧ xs.length < sizeLine ∧
  (∀ i v H2, xs[i]? = some v → Same H1 H2 → wEb X scope elt ((σ.set j (some (.int (i : Nat)))).set j2 (some v)) H2 fun y H4 => y = f i ∧ Same H2 H4) ∧
  ∀ D H', H1 D = none → Same H1 H' → H' D = some (.lst ((List.range xs.length).map f)) → Q (.ref D) H'
theorem eEn_tLc (hj : j ≠ j2) (h : eEn X iter elt scope j j2 σ H Q) (h1 : starEach [iter] X.env = (false, eval iter X.env) :: starEach [] X.env := by rfl) : tLc (iEnum X.K (wA X [iter])) (gTup X.K 2 (gCons (gName j) (gCons (gName j2) gNil))) tYes (wEb X scope elt) [j, j2] σ H Q := by
  show wA X [iter] σ H _
  refine a_cons (wE_mono h ?_) h1
  rintro v H1 ⟨a, xs, f, rfl, hs, hz, k1, k2⟩
  refine a_nil ⟨a, xs, rfl, hs, fun D hD => ?_⟩
  have ef : (List.range xs.length).filter (fun _ => true) = List.range xs.length := List.filter_eq_self.mpr fun _ _ => rfl
  refine lcP2 (X := X) (Qd := fun D H => Q (.ref D) H) hj walk_enum hz (fun _ => true) f (fun H s => s.seq hs) mt_yes me_wEb ?_ (by rw [ef]; exact k2) D hD
  rintro i x H H' hi sm ⟨T, u, v, rfl, hT, rfl, hu, hv⟩
  cases hu
  refine ⟨(Same.refl H).new hT, T, _, v, rfl, SqT.of upd_same, ?_⟩
  exact ⟨rfl, Same.refl _, fun _ => k1 i v _ hv (sm.new hT)⟩
theorem e_en {kt : Nat} {pt p1 p2 : Pos} (j j2 : Nat) (hjj : j ≠ j2) (B : Bd X N sc k) (ok : BlkOk N sc scope [(x, j), (x2, j2)]) (hg : Gl X "enumerate") (hm : X.mg "enumerate" = none) (hj : N[j]? = some x) (hx : scope.names.lookup x = some .local) (hj2 : N[j2]? = some x2) (hx2 : scope.names.lookup x2 = some .local) (h : eEn X iter elt scope j j2 σ H Q)
    (h1 : starEach [iter] X.env = (false, eval iter X.env) :: starEach [] X.env := by rfl) (h3 : starEach [iter] X.env = [(false, eval iter X.env)] := by rfl) (hs : ∀ x, foldedSetIterable (.Call (.Name "enumerate" p1) [iter] [] p2) X.env x = pure x := by intro _; rfl) :
    wE X (.ListComp elt [⟨.Tuple [.Name x px, .Name x2 px2] kt pt, .Call (.Name "enumerate" p1) [iter] [] p2, [], 0⟩] scope pos) σ H Q :=
  toE (pe_lc (own := [(x, j), (x2, j2)]) B.calm B.nd (pi_enum hg hm pa_self h3) (by rw [B.hN, B.sc]; exact ok) (pgb_pair B.calm B.nd (B.slot j hj) hx (B.slot j2 hj2) hx2) (fun _ _ _ _ _ => pts_nil) peb_self hs) (eEn_tLc hjj h h1)
/-- [elt for x in range(a)], the elements change the dice at p -/
abbrev dR1 (X : Cx) (a elt : Expr) (scope : Scope) (j : Nat) (σ : L2.St) (H : Hp) (Q : VK) : Prop := wE X a σ H fun v H1 => ∃ (n : Nat) (p : Addr) (R : Nat → V → Prop), v = .int (n : Int) ∧ n < 10000 ∧ Dice H1 p ∧
  (∀ i H2, i < n → Ch p H1 H2 → Dice H2 p → wEb X scope elt (σ.set j (some (.int (i : Int)))) H2 fun y H4 => R i y ∧ Ch p H2 H4 ∧ Dice H4 p) ∧
  ∀ D H' ys, H1 D = none → Ch p H1 H' → Dice H' p → H' D = some (.lst ys) → ys.length = n → (∀ i y, ys[i]? = some y → R i y) → Q (.ref D) H'
theorem dR1_tLc {a : Expr} (h : dR1 X a elt scope j σ H Q) (h1 : starEach [a] X.env = (false, eval a X.env) :: starEach [] X.env := by rfl) : tLc (iRng1 (wA X [a])) (gName j) tYes (wEb X scope elt) [j] σ H Q := by
  show wA X [a] σ H _
  refine a_cons (wE_mono h ?_) h1
  rintro v H1 ⟨n, p, R, rfl, hn, hd, k1, k2⟩
  refine a_nil ⟨(n : Int), rfl, by omega, by omega, fun D hD => ?_⟩
  have e1 : (n : Int).toNat = n := by omega
  rw [e1]
  refine lcDice (Qd := fun D H => Q (.ref D) H) walk_range (Nat.lt_of_lt_of_le hn (show (10000 : Nat) ≤ sizeLine by decide)) R hd (fun H _ => True.intro) me_wEb ?_ k2 D hD
  rintro i x H H' hi c d ⟨rfl, rfl⟩
  refine ⟨Same.refl _, ?_⟩
  simp only [Int.zero_add]
  exact k1 i _ hi c d
theorem e_dR {a : Expr} {p1 p2 : Pos} (j : Nat) (B : Bd X N sc k) (ok : BlkOk N sc scope [(x, j)]) (hg : Gl X "range") (hm : X.mg "range" = none) (hj : N[j]? = some x) (hx : scope.names.lookup x = some .local) (h : dR1 X a elt scope j σ H Q) (h1 : starEach [a] X.env = (false, eval a X.env) :: starEach [] X.env := by rfl) (hst : starEach [a] X.env = [(false, eval a X.env)] := by rfl) (hs : ∀ x, foldedSetIterable (.Call (.Name "range" p1) [a] [] p2) X.env x = pure x := by intro _; rfl) :
    wE X (.ListComp elt [⟨.Name x px, .Call (.Name "range" p1) [a] [] p2, [], 0⟩] scope pos) σ H Q :=
  toE (pe_lc (own := [(x, j)]) B.calm B.nd (pi_range1 hg hm pa_self hst) (by rw [B.hN, B.sc]; exact ok) (pgb_name B.nd (B.slot j hj) hx) (fun _ _ _ _ _ => pts_nil) peb_self hs) (dR1_tLc h h1)
/-! ### operations -/
theorem o_isnotB {a b : Bool} (h : Q (.bl (!decide (a = b))) H) : wO X (compareOp .IsNot) (.bl a) (.bl b) H Q := toO op_isnot_bl ⟨a, b, rfl, rfl, h⟩
theorem o_isB {a b : Bool} (h : Q (.bl (decide (a = b))) H) : wO X (compareOp .Is) (.bl a) (.bl b) H Q := toO op_is_bl ⟨a, b, rfl, rfl, h⟩
theorem o_catL {a b : Addr} {xs ys : List V} (h1 : H a = some (.lst xs)) (h2 : H b = some (.lst ys)) (hz : xs.length + ys.length ≤ sizeLine) (h : ∀ p, H p = none → Q (.ref p) (upd H p (.lst (xs ++ ys)))) : wO X (binaryOp .Add) (.ref a) (.ref b) H Q := toO op_cat ⟨a, b, xs, ys, rfl, rfl, h1, h2, hz, h⟩
theorem c_sum {a : Addr} {ns : List Int} (hc : X.calm = true) (h1 : SqL X.K H a (ns.map V.int)) (h : Q (.int ns.sum) H) : wC X (.builtin "sum") [.ref a] H Q := toC (cr_sum hc) ⟨a, ns, rfl, h1, h⟩
theorem c_comb {a b : Int} (h0 : 0 ≤ b) (h1 : b ≤ a) (ha : a < 9000) (h : Q (.int (PySem.W.mcComb a b)) H) : wC X (.builtin "math.comb") [.int a, .int b] H Q := by
  refine ⟨fun pins s σ us I r => ?_⟩
  obtain ⟨t, u, rfl⟩ := Vals.int2 r
  exact PySem.W.mc_comb_v (c := PySem.W.mcComb a b) (by omega) h0 (by omega) (Or.inl (by omega)) rfl ⟨.int _, H, I.tok _, ⟨_, rfl⟩, h⟩
/-- f(e, ..), f a module's name for a built-in function -/
theorem e_callM {id : String} {es : List Expr} {p : Pos} (hg : Gl X x) (hm : X.mg x = some (.builtin id)) (h : wA X (e :: es) σ H fun vs H1 => wC X (.builtin id) vs H1 Q) (hdb : (x == ("__debug__" : Str)) = false := by decide)
    (he : starEach (e :: es) X.env = (false, eval e X.env) :: starEach es X.env := by rfl) (hpl : (backTo pos (starEach es X.env)).any (·.1) = false := by rfl) : wE X (.Call (.Name x p) (e :: es) [] pos) σ H Q := toE (pe_callBfun call_self hg hm pa_self hdb he hpl) h
/-- xs.index(e), a tuple of integers -/
theorem mt_indexT : MtR X "tuple.index" (fun x xs H Q => ∃ (a : Addr) (ns : List Int) (i : Int), x = .ref a ∧ xs = [.int i] ∧ SqT X.K H a (ns.map V.int) ∧ i ∈ ns ∧ Q (.int (ns.idxOf i : Nat)) H) := by
  intro pins s σ H x xs v us Q I rx rxs h
  obtain ⟨a, ns, i, rfl, rfl, hs, hi, q⟩ := h
  cases rx
  cases rxs with
  | cons ry rt =>
    cases rt
    obtain ⟨t, rfl⟩ := ry
    obtain ⟨its, rv, hl, hz⟩ := I.tuple hs
    exact PySem.SeqAt.tuple_index_ints (vs := its) hl rv.ints hi ⟨.int _, H, I.tok _, ⟨_, rfl⟩, q⟩
end
end WX

set_option Elab.async false
set_option linter.all false
set_option maxRecDepth 100000
set_option maxHeartbeats 4000000
namespace WX
open PySem PySem.Spec PyProof.Rows L2 HT
/-- t * 1 is t -/
theorem tmul_one (l : Addr) (its : Array Value) (n : Nat) (dd : Option Addr) (sl : Array (Option Value)) (u : Tok) :
    Meets (Builtin.«tuple.__mul__» ⟨[.ref l, .int 1 u], []⟩)
      (fun _ R s => s.heap.get? l = some ⟨.type "tuple", dd, .seq its n, sl⟩ ∧ R (.ok (.ret (Value.ref l))) s) := by
  refine .of_wp fun prog w A R s h => ?_
  obtain ⟨hp, g, d, tk, os⟩ := s
  obtain ⟨hl, h⟩ := h
  have c0 : (decide ((1 : Int) < -(2 ^ 63)) || decide ((1 : Int) ≥ 2 ^ 63)) = false := by decide
  have c1 : (its.isEmpty || (1 : Int) == 1) = true := by simp
  wp_walk using wpAny_loadPart' hl
  all_goals (repeat (first
    | (refine wpAny_ite_false (decide_eq_false (by rw [c0]; exact Bool.false_ne_true)) ?_
       wp_walk using wpAny_loadPart' hl)
    | (refine wpAny_ite_true (decide_eq_true (by rw [c1])) ?_
       wp_walk using wpAny_loadPart' hl)))
  exact ⟨_, rfl, h⟩
/-- t * k, k at most 0 -/
theorem tmul_zero (l : Addr) (its : Array Value) (n : Nat) (dd : Option Addr) (sl : Array (Option Value)) (x : Int) (u : Tok) (c0 : (decide (x < -(2 ^ 63)) || decide (x ≥ 2 ^ 63)) = false) (c1 : (its.isEmpty || x == 1) = false) (c2 : (decide (x ≤ 0) || its.isEmpty) = true) :
    Meets (Builtin.«tuple.__mul__» ⟨[.ref l, .int x u], []⟩)
      (fun _ R s => s.heap.get? l = some ⟨.type "tuple", dd, .seq its n, sl⟩ ∧ R (.ok (.ret (Value.ref s.heap.objs.size))) { s with heap := s.heap.push { cls := Value.type "tuple", data := Data.seq #[] }, toks := s.toks }) := by
  refine .of_wp fun prog w A R s h => ?_
  obtain ⟨hp, g, d, tk, os⟩ := s
  obtain ⟨hl, h⟩ := h
  wp_walk using wpAny_loadPart' hl
  all_goals (repeat (first
    | (refine wpAny_ite_false (decide_eq_false (by rw [c0]; exact Bool.false_ne_true)) ?_
       wp_walk using wpAny_loadPart' hl)
    | (refine wpAny_ite_false (decide_eq_false (by rw [c1]; exact Bool.false_ne_true)) ?_
       wp_walk using wpAny_loadPart' hl)
    | (refine wpAny_ite_true (decide_eq_true (by rw [c2])) ?_
       wp_walk using wpAny_loadPart' hl)))
  exact ⟨_, rfl, h⟩
section
variable {X : Cx} {σ : L2.St} {H : Hp} {Q : VK}
/-- t * k -/
theorem o_repT {l : Addr} {xs : List V} {k : Int} (hT : SqT X.K H l xs) (hne : xs ≠ []) (h1 : -1000 ≤ k) (h2 : k ≤ 1000) (hz : xs.length ≤ 1000) (q : ∀ p H', Same H H' → SqT X.K H' p (List.replicate k.toNat xs).flatten → Q (.ref p) H') : wO X (binaryOp .Mult) (.ref l) (.int k) H Q := by
  by_cases hk : 2 ≤ k
  · exact toO op_repT ⟨l, k, xs, rfl, rfl, hT, hne, hk, h2, hz, fun p hp => q p _ ((Same.refl H).new hp) (SqT.of upd_same)⟩
  refine ⟨fun pins s σ v u I rx ry => ?_⟩
  cases rx
  obtain ⟨t, rfl⟩ := ry
  obtain ⟨its, r, ⟨⟨cls, dd, data, sl⟩, ho, hc, n, hd⟩, hs⟩ := I.tuple hT
  dsimp only at hc hd
  subst hc hd
  have hle : its.length = xs.length := r.length.symm
  have hi : its.toArray.isEmpty = false := by
    cases its with
    | nil => exact absurd (List.eq_nil_of_length_eq_zero hle.symm) hne
    | cons a b => rfl
  have c0 : (decide (k < -(2 ^ 63)) || decide (k ≥ 2 ^ 63)) = false := by
    rw [decide_eq_false (show ¬ k < -(2 ^ 63) by omega), decide_eq_false (show ¬ k ≥ 2 ^ 63 by omega)]
    rfl
  have go : ∀ {R : Result → Shared → Prop}, True → True := fun _ => True.intro
  by_cases e : k = 1
  · subst e
    have q1 : EP X pins σ Q (Value.ref l) s := ⟨.ref l, H, I, rfl, q l H (Same.refl H) (by
      show SqT X.K H l (List.replicate 1 xs).flatten
      simpa using hT)⟩
    refine wpAny_binaryOp_repeat_ref (T := "tuple") (U := "int") (by decide) ⟨_, ho, rfl⟩ (fun s' => typeIs_int s' 1 t) noFill_tuple_mul
      F.fills_int_mul F.slot_int_rmul repeat_tuple F.slot_int_index.lookup ?_
    refine call_meets F.slot_int_rmul (typeIs_int s 1 t) F.entry_int_rmul (F.args_int_rmul_2 _ _) (int_rmul_tuple 1 t l its.toArray n dd sl) ?_
    exact ⟨ho, rfl, ⟨_, ho, rfl⟩, call_meets F.slot_tuple_mul ⟨_, ho, rfl⟩ F.entry_tuple_mul (F.args_tuple_mul_2 _ _) (tmul_one l its.toArray n dd sl t) ⟨ho, q1⟩⟩
  · have c1 : (its.toArray.isEmpty || k == 1) = false := by
      rw [hi, Bool.false_or]
      exact beq_eq_false_iff_ne.mpr e
    have c2 : (decide (k ≤ 0) || its.toArray.isEmpty) = true := by
      rw [decide_eq_true (show k ≤ 0 by omega)]
      rfl
    have ek : k.toNat = 0 := by omega
    have q0 : EP X pins σ Q (Value.ref s.heap.objs.size) { s with heap := s.heap.push { cls := Value.type "tuple", data := Data.seq #[] }, toks := s.toks } := by
      have hf := I.hok.fresh (Nat.le_refl s.heap.objs.size)
      refine ⟨.ref s.heap.objs.size, upd H s.heap.objs.size (.tup []), I.laid (t' := s.toks) (o := .tup []) (fun b ob z => Heap.get?_push_of_some _ z) (Nat.le_refl _) ⟨Nat.zero_le _, [], .nil, IsTup.new _ _⟩, rfl, q _ _ ((Same.refl H).new hf) ?_⟩
      rw [ek]
      exact SqT.of upd_same
    refine wpAny_binaryOp_repeat_ref (T := "tuple") (U := "int") (by decide) ⟨_, ho, rfl⟩ (fun s' => typeIs_int s' k t) noFill_tuple_mul
      F.fills_int_mul F.slot_int_rmul repeat_tuple F.slot_int_index.lookup ?_
    refine call_meets F.slot_int_rmul (typeIs_int s k t) F.entry_int_rmul (F.args_int_rmul_2 _ _) (int_rmul_tuple k t l its.toArray n dd sl) ?_
    exact ⟨ho, rfl, ⟨_, ho, rfl⟩, call_meets F.slot_tuple_mul ⟨_, ho, rfl⟩ F.entry_tuple_mul (F.args_tuple_mul_2 _ _) (tmul_zero l its.toArray n dd sl k t c0 c1 c2) ⟨ho, q0⟩⟩
/-- a tuple that a method can be asked of -/
def TupM (H : Hp) (a : Addr) (xs : List V) : Prop := ∃ o, H a = some (.frz o (.tup xs)) ∧ o.cls = .type "tuple" ∧ o.dict = none
theorem TupM.sq {K : PySem.W.Frag} {a : Addr} {xs : List V} (h : TupM H a xs) : SqT K H a xs := Or.inl (Or.inr ⟨h.choose, h.choose_spec.1⟩)
theorem TupM.same {H' : Hp} {a : Addr} {xs : List V} (h : TupM H a xs) (s : Same H H') : TupM H' a xs := by
  obtain ⟨o, e, r⟩ := h
  exact ⟨o, s _ _ e, r⟩
/-- tuple(range(b)) -/
theorem e_tupR1 {b : Expr} {p p3 p4 pos : Pos} (hc : X.calm = true) (hg : Gl X "tuple") (hm : X.mg "tuple" = none) (hg2 : Gl X "range") (hm2 : X.mg "range" = none) (h : wE X b σ H fun y H1 => ∃ n : Nat, y = .int (n : Int) ∧ n ≤ 10000 ∧ ∀ q H', Same H1 H' → TupM H' q ((List.range n).map fun (i : Nat) => V.int (i : Int)) → Q (.ref q) H')
    (n1 : starEach [b] X.env = (false, eval b X.env) :: starEach [] X.env := by rfl) (n2 : starEach [.Call (.Name "range" p3) [b] [] p4] X.env = (false, eval (.Call (.Name "range" p3) [b] [] p4) X.env) :: starEach [] X.env := by rfl) :
    wE X (.Call (.Name "tuple" p) [.Call (.Name "range" p3) [b] [] p4] [] pos) σ H Q := by
  refine ⟨fun pins s I => Call_ (ld_blt I hg hm boot_tuple (PyProof.Rows.callWith_type1 (args_cons ?_ n2) n2))⟩
  have k := prg_1 (X := X) (p := p3) (pos := p4) hg2 hm2 pe_self n1 pins s σ H (fun a b' H1 => a = 0 ∧ ∃ n : Nat, b' = (n : Int) ∧ n ≤ 10000 ∧ ∀ q H', Same H1 H' → TupM H' q ((List.range n).map fun (i : Nat) => V.int (i : Int)) → Q (.ref q) H') I (wE_mono h fun y H1 ⟨n, e, hn, q⟩ => ⟨(n : Int), e, rfl, n, rfl, hn, q⟩)
  refine thn k fun x s1 hx => args_nil ?_
  obtain ⟨r, a, b', t, u, v, H1, ex, hr, I1, ea, n, eb, hn, q⟩ := hx
  subst ex ea eb
  have lim : (((n : Int) - 0).toNat) ≤ 2 ^ 24 := by omega
  refine call_tuple_range (n := ((n : Int) - 0).toNat) (I1.ok.hd hc) hr
    (small_one (by omega) (by omega) (by omega) (by omega)) (rangeSize_nat 0 (n : Int)) lim fun h' tk acc hk hi => ?_
  have J : Inv X pins σ H1 { s1 with heap := h', toks := tk } := I1.kept hk
  have ev : rgV 0 (n : Int) = (List.range n).map fun (i : Nat) => V.int (i : Int) := by
    unfold rgV
    rw [show ((n : Int) - 0).toNat = n by omega]
    congr 1
    funext i
    rw [Int.zero_add]
  have hf := J.hok.fresh (Nat.le_refl h'.objs.size)
  have hget : (h'.push { cls := .type "tuple", data := .seq acc }).get? h'.objs.size = some { cls := .type "tuple", data := .seq acc } := Heap.get?_push_size _ rfl
  refine ⟨.ref h'.objs.size, upd H1 h'.objs.size (.frz { cls := .type "tuple", data := .seq acc } (.tup (rgV 0 (n : Int)))), ?_, rfl, q _ _ ((Same.refl H1).new hf) ⟨_, by rw [upd_same, ev], rfl, rfl⟩⟩
  refine J.laid (t' := tk) (fun c o z => Heap.get?_push_of_some _ z) (Nat.le_refl _) ⟨hget, ?_, acc.toList, vals_rg hi, ?_⟩
  · rw [rgV_length, sizeLine_eq]
    omega
  · rw [Array.toArray_toList]
    exact IsTup.new _ _
/-- xs.index(e), a tuple of integers -/
theorem e_indexT {o e : Expr} {apos cpos : Pos} (h : wE X o σ H fun x H1 => ∃ (a : Addr) (ns : List Int), x = .ref a ∧ TupM H1 a (ns.map V.int) ∧ wE X e σ H1 fun y H2 => ∃ i : Int, y = .int i ∧ SqT X.K H2 a (ns.map V.int) ∧ i ∈ ns ∧ Q (.int (ns.idxOf i : Nat)) H2)
    (n1 : starEach [e] X.env = (false, eval e X.env) :: starEach [] X.env := by rfl) (n2 : attributeBase o "index" X.env (eval o X.env) = eval o X.env := by rfl) (n3 : ((((backTo cpos (starEach [e] X.env)).all fun x => !x.fst) && (backToKw cpos (keywordEach [] X.env)).all fun x => x.fst.isSome) && decide (([e].length + ([] : List Keyword).length + if ([] : List Keyword).isEmpty = true then 0 else 1) < 30)) = true := by rfl) (n4 : (apos.endLine == cpos.line) = true := by rfl) (n5 : ((backTo cpos (starEach [] X.env)).any fun x => x.fst) = false := by rfl) : wE X (.Call (.Attribute o "index" apos) [e] [] cpos) σ H Q := by
  refine ⟨fun pins s I => wpAny_Call_method_late n2 n3 n4 rfl (thn (h.run pins s I) fun v s1 hv => ?_)⟩
  obtain ⟨x, H1, I1, r1, a, ns, ex, ⟨ob, ho, hcl, hdi⟩, k⟩ := hv
  subst ex
  cases r1
  have hob : s1.heap.get? a = some ob := (I1.hok a _ ho).1
  refine ⟨"tuple", "tuple.index", PySem.F.plainAttrs_tuple, PySem.F.slot_tuple_index, PySem.F.type_tuple_index, ⟨ob, hob, hcl⟩, fun c ec => ?_, ?_⟩
  · cases ec
    exact ⟨ob, hob, hdi⟩
  have hA : wA X [e] σ H1 fun vs H2 => ∃ i : Int, vs = [V.int i] ∧ SqT X.K H2 a (ns.map V.int) ∧ i ∈ ns ∧ Q (.int (ns.idxOf i : Nat)) H2 :=
    a_cons (wE_mono k fun y H2 ⟨i, e1, z⟩ => a_nil ⟨i, by rw [e1], z⟩) n1
  have hB := hA.run cpos pins s1 I1
  rw [n1] at hB ⊢
  refine Calls.callWith_builtin (by show (false || (backTo cpos (starEach [] X.env)).any (·.1)) = false; rw [Bool.false_or, n5]) (Calls.evalArgs_plain ?_)
  refine thn hB fun us s2 hu => ?_
  obtain ⟨vs, H2, I2, r2, i, ev, hs, hi, q⟩ := hu
  subst ev
  exact mt_indexT pins s2 σ H2 (.ref a) [.int i] (.ref a) us Q I2 rfl r2 ⟨a, ns, i, rfl, rfl, hs, hi, q⟩
end
end WX
namespace WX
open PySem PySem.Spec PyProof.Rows L2 HT
section
variable {X : Cx} {σ : L2.St} {H : Hp} {Q : VK} {D : Ends}
theorem wS_nx {st : Stmt} {J : L2.St → Hp → Prop} (h : wS X st { D with nx := J } σ H) (k : ∀ σ' H', J σ' H' → D.nx σ' H') : wS X st D σ H := ⟨fun pins s I => thn (h.run pins s I) fun f s1 q => by
  cases f with
  | next =>
    obtain ⟨σ', H', I', q'⟩ := q
    exact ⟨σ', H', I', k _ _ q'⟩
  | brk => exact q
  | cont => exact q
  | ret u => exact q⟩
/-- what stands between two statements -/
theorem b_mid {st : Stmt} {sts : List Stmt} (J : L2.St → Hp → Prop) (h : wS X st { D with nx := J } σ H) (k : ∀ σ' H', J σ' H' → wB X sts D σ' H') : wB X (st :: sts) D σ H := b_cons (wS_nx (J := J) h k)
/-- repr of a bool -/
theorem c_reprB {b : Bool} (hG : X.A.guards = some []) (hu : X.A.units + 64 < cLine) (h : Q (.str (PyData.bool b).shown) H) : wC X (.builtin "repr") [.bl b] H Q :=
  c_repr hG (by show X.A.units + (0 + 1) < cLine; omega) (.bl b) rfl rfl (by cases b <;> decide) h
theorem shown_b {a b : Bool} : (PyData.bool a).shown = (PyData.bool b).shown ↔ a = b := by
  cases a <;> cases b <;> decide
end
/-! ### values of any kind -/
inductive Okv (K : PySem.W.Frag) (H : Hp) : V → Prop where
  | non : Okv K H .non
  | bl (b : Bool) : Okv K H (.bl b)
  | int (i : Int) : Okv K H (.int i)
  | str (x : Str) : Okv K H (.str x)
  | lst {a : Addr} {xs : List V} (e : SqL K H a xs) : Okv K H (.ref a)
  | tup {a : Addr} {xs : List V} (e : SqT K H a xs) : Okv K H (.ref a)
  | dK {a : Addr} {kvs : List (L2.Key × V)} (e : H a = some (.dK kvs)) : Okv K H (.ref a)
theorem Okv.same {K : PySem.W.Frag} {H H' : Hp} {v : V} (h : Okv K H v) (s : Same H H') : Okv K H' v := by
  cases h with
  | non => exact .non
  | bl b => exact .bl b
  | int i => exact .int i
  | str x => exact .str x
  | lst e => exact .lst (s.seq e)
  | tup e => exact .tup (same_tup s e)
  | dK e => exact .dK (s _ _ e)
/-- a value that is no tuple -/
inductive NoTp (K : PySem.W.Frag) (H : Hp) : V → Prop where
  | non : NoTp K H .non
  | bl (b : Bool) : NoTp K H (.bl b)
  | int (i : Int) : NoTp K H (.int i)
  | str (x : Str) : NoTp K H (.str x)
  | lst {a : Addr} {xs : List V} (e : SqL K H a xs) : NoTp K H (.ref a)
  | dK {a : Addr} {kvs : List (L2.Key × V)} (e : H a = some (.dK kvs)) : NoTp K H (.ref a)
theorem NoTp.same {K : PySem.W.Frag} {H H' : Hp} {v : V} (h : NoTp K H v) (s : Same H H') : NoTp K H' v := by
  cases h with
  | non => exact .non
  | bl b => exact .bl b
  | int i => exact .int i
  | str x => exact .str x
  | lst e => exact .lst (s.seq e)
  | dK e => exact .dK (s _ _ e)
/-! ### lists of values by their places -/
theorem stays_eq (f : Nat → V) : Stays (fun i y _ => y = f i) := fun _ _ _ _ _ e _ _ => e
theorem ys_eq {ys : List V} {n : Nat} {f : Nat → V} (hl : ys.length = n) (h : ∀ i y, ys[i]? = some y → y = f i) : ys = (List.range n).map f := by
  refine List.ext_getElem? fun i => ?_
  rw [List.getElem?_map]
  by_cases hi : i < n
  · have hi2 : i < ys.length := by omega
    rw [List.getElem?_range hi, List.getElem?_eq_getElem hi2, h i _ (List.getElem?_eq_getElem hi2)]; rfl
  · rw [List.getElem?_eq_none (by omega), List.getElem?_eq_none (by simpa using hi)]; rfl
theorem map_at {α β : Type} (xs : List α) (d : α) (f : α → β) : (List.range xs.length).map (fun i => f (xs.getD i d)) = xs.map f := by
  refine List.ext_getElem? fun i => ?_
  rw [List.getElem?_map, List.getElem?_map]
  by_cases hi : i < xs.length
  · rw [List.getElem?_range hi, List.getElem?_eq_getElem hi]
    show some (f (xs.getD i d)) = some (f xs[i])
    rw [List.getD_eq_getElem?_getD, List.getElem?_eq_getElem hi]; rfl
  · rw [List.getElem?_eq_none (by simpa using hi), List.getElem?_eq_none (by omega)]; rfl
theorem getD_of {α : Type} {xs : List α} {i : Nat} {x d : α} (h : xs[i]? = some x) : xs.getD i d = x := by rw [List.getD_eq_getElem?_getD, h]; rfl
theorem filt_at {α β : Type} (xs : List α) (d : α) (p : α → Bool) (f : α → β) : ((List.range xs.length).filter fun i => p (xs.getD i d)).map (fun i => f (xs.getD i d)) = (xs.filter p).map f := by
  induction xs with
  | nil => rfl
  | cons x xs ih =>
    rw [List.length_cons, List.range_succ_eq_map, List.filter_cons, List.filter_map]
    rw [List.filter_cons]
    have e : (List.map (fun i => f ((x :: xs).getD i d)) (List.map Nat.succ (List.filter ((fun i => p ((x :: xs).getD i d)) ∘ Nat.succ) (List.range xs.length)))) = (xs.filter p).map f := by
      rw [List.map_map, ← ih]; rfl
    have e0 : p ((x :: xs).getD 0 d) = p x := rfl
    rw [e0]
    split
    · rw [List.map_cons, List.map_cons, e]; rfl
    · exact e
theorem ix0 {a : V} {as : List V} : atI (a :: as) 0 = some a := atI_nat (xs := a :: as) (j := 0) rfl
theorem ix1 {a b : V} {as : List V} : atI (a :: b :: as) 1 = some b := atI_nat (xs := a :: b :: as) (j := 1) rfl
theorem ix2 {a b c : V} {as : List V} : atI (a :: b :: c :: as) 2 = some c := atI_nat (xs := a :: b :: c :: as) (j := 2) rfl
theorem at_intsN {ns : List Int} {j : Nat} (h : j < ns.length) : atI (ns.map V.int) (j : Int) = some (.int (ns.getD j 0)) := by
  refine atI_nat ?_
  rw [List.getElem?_map, List.getElem?_eq_getElem h, List.getD_eq_getElem?_getD, List.getElem?_eq_getElem h]; rfl
/-- 0, 1, .. -/
def iota (n : Nat) : List Int := (List.range n).map fun (i : Nat) => (i : Int)
theorem iota_v (n : Nat) : ((List.range n).map fun (i : Nat) => V.int (i : Int)) = (iota n).map V.int := by unfold iota; rw [List.map_map]; rfl
theorem iota_len (n : Nat) : (iota n).length = n := by unfold iota; rw [List.length_map, List.length_range]
theorem iota_mem {n : Nat} {x : Int} : x ∈ iota n ↔ 0 ≤ x ∧ x < (n : Int) := by
  unfold iota
  rw [List.mem_map]
  constructor
  · rintro ⟨i, hi, rfl⟩
    have := List.mem_range.mp hi
    omega
  · rintro ⟨h0, h1⟩
    exact ⟨x.toNat, List.mem_range.mpr (by omega), by omega⟩
theorem iota_get {n i : Nat} (h : i < n) : (iota n)[i]? = some (i : Int) := by
  unfold iota
  rw [List.getElem?_map, List.getElem?_range h]; rfl
theorem iota_nodup (n : Nat) : (iota n).Nodup := by
  unfold iota
  rw [List.Nodup, List.pairwise_map]
  exact List.Pairwise.imp (fun h => by omega) List.pairwise_lt_range
theorem iota_idx {n : Nat} {x : Int} (h : x ∈ iota n) : ((iota n).idxOf x : Int) = x := by
  have hl := List.idxOf_lt_length_of_mem h
  have e : (iota n)[(iota n).idxOf x]'hl = x := List.getElem_idxOf hl
  have e2 := iota_get (n := n) (i := (iota n).idxOf x) (by rw [iota_len] at hl; exact hl)
  rw [List.getElem?_eq_getElem hl, e] at e2
  exact (Option.some.inj e2).symm
end WX

set_option Elab.async false
set_option linter.all false
set_option maxRecDepth 100000
set_option maxHeartbeats 4000000
namespace WX
open PySem PySem.Spec PyProof.Rows L2 HT
section
variable {X : Cx} {σ : L2.St} {H : Hp} {Q : VK} {D : Ends} {pos : Pos} {elt : Expr} {scope : Scope} {x : Str} {j : Nat} {px : Pos} {N : List Str} {sc : Scope} {k : Nat}
/-- the name is a cell of the comprehension's own -/
theorem pgb_cell {pos : Pos} (nd : X.N.Nodup) (hj : X.N[j]? = some x) (hx : scope.names.lookup x = some .cell) (s : Shared) (H : Hp) (C : Addr) (cl : List (Str × Addr)) (fp : List Addr) : PG (X.blk s H scope (compEnvC scope cl C X.env) fp) (.Name x pos) (gName j) := by
  have hl : (relS scope X.env.scope).names.lookup x = some .cell := lookup_relS_keep (by decide) hx
  exact pg_name (X := X.blk s H scope (compEnvC scope cl C X.env) fp) nd hj (Or.inr hl) (.inl (by show (scope.names.lookup x == some .cell) = true; rw [hx]; rfl))
theorem e_lcRc {a : Expr} {p1 p2 : Pos} (j : Nat) (B : Bd X N sc k) (ok : BlkOk N sc scope [(x, j)]) (hg : Gl X "range") (hm : X.mg "range" = none) (hj : N[j]? = some x) (hx : scope.names.lookup x = some .cell) (h : tLc (iRng1 (wA X [a])) (gName j) tYes (wEb X scope elt) [j] σ H Q) (hst : starEach [a] X.env = [(false, eval a X.env)] := by rfl) (hs : ∀ x, foldedSetIterable (.Call (.Name "range" p1) [a] [] p2) X.env x = pure x := by intro _; rfl) :
    wE X (.ListComp elt [⟨.Name x px, .Call (.Name "range" p1) [a] [] p2, [], 0⟩] scope pos) σ H Q :=
  toE (pe_lc (own := [(x, j)]) B.calm B.nd (pi_range1 hg hm pa_self hst) (by rw [B.hN, B.sc]; exact ok) (pgb_cell B.nd (B.slot j hj) hx) (fun _ _ _ _ _ => pts_nil) peb_self hs) h
theorem o_eqL {a b : Addr} {ns ms : List Int} (hu : X.A.units + 64 < cLine) (h1 : SqL X.K H a (ns.map V.int)) (h2 : SqL X.K H b (ms.map V.int)) (h : Q (.bl (decide (ns = ms))) H) : wO X (compareOp .Eq) (.ref a) (.ref b) H Q := by
  refine o_eqD hu (d := .list (ns.map PyData.int)) (e := .list (ms.map PyData.int)) (.lst h1 (dp_ints ns)) (.lst h2 (dp_ints ms)) (shaped_intsL ns) (shaped_intsL ms) ?_
  rw [show PyData.eqv (.list (ns.map PyData.int)) (.list (ms.map PyData.int)) = decide (ns = ms) from eqv_ints ns ms]
  exact h
theorem filt_first {m i0 : Nat} {p : Nat → Bool} {r : List Nat} (h : (List.range m).filter p = i0 :: r) : i0 < m ∧ p i0 = true ∧ ∀ i, i < i0 → p i = false := by
  have h1 : i0 ∈ (List.range m).filter p := by rw [h]; exact List.mem_cons_self ..
  rw [List.mem_filter, List.mem_range] at h1
  refine ⟨h1.1, h1.2, fun i hi => ?_⟩
  cases e : p i with
  | false => rfl
  | true =>
    have h2 : i ∈ (List.range m).filter p := List.mem_filter.mpr ⟨List.mem_range.mpr (by omega), e⟩
    have h3 : ((List.range m).filter p).Pairwise (· < ·) := List.Pairwise.filter p List.pairwise_lt_range
    rw [h] at h2 h3
    have h4 := (List.pairwise_cons.mp h3).1
    rcases List.mem_cons.mp h2 with e2 | e2
    · omega
    · have := h4 i e2
      omega
theorem e_dict0 {dpos : Pos} (h : ∀ p, H p = none → Q (.ref p) (upd H p (.dK []))) : wE X (.Dict [] [] dpos) σ H Q := toE pe_dnewK h
end
end WX

set_option Elab.async false
set_option linter.all false
set_option maxRecDepth 100000
set_option maxHeartbeats 4000000
/-! WXZ: zip of a list or a tuple and a text. -/
namespace WX
open PySem PySem.Spec PyProof.Rows L2 HT
/-- the signs of a text -/
def signs (y : Str) : List V := y.cps.toList.map fun c => V.str ⟨#[c]⟩
theorem signs_len (y : Str) : (signs y).length = y.length := by
  unfold signs
  rw [List.length_map, Array.length_toList]
  rfl
/-- xs, ys side by side, while G stands -/
def Itg (G : Hp → Prop) (xs ys : List V) : It :=
  ⟨fun i H => G H ∧ i < xs.length ∧ i < ys.length,
   fun i H v H' => ∃ T x y, v = .ref T ∧ H T = none ∧ H' = upd H T (.tup [x, y]) ∧ xs[i]? = some x ∧ ys[i]? = some y,
   fun i H => G H ∧ i ≤ xs.length ∧ i ≤ ys.length ∧ (i = xs.length ∨ i = ys.length)⟩
theorem walk_g {G : Hp → Prop} {xs ys : List V} {n : Nat} (hx : xs.length = n) (hy : ys.length = n) : Walk (Itg G xs ys) n G (YPair (fun i => xs[i]?) (fun i => ys[i]?)) :=
  ⟨fun i H hi g => ⟨g, by omega, by omega⟩, fun H g => ⟨g, by omega, by omega, .inl hx.symm⟩, fun i H x H' _ _ y => y⟩
/-- the first of both: an iterator at i1 over what lies at a -/
structure Src1 (P : Program) (w : World) (K : PySem.W.Frag) (i1 a : Addr) (xs : List V) (G : Hp → Prop) (At : Nat → Heap → Prop) : Prop where
  ob : ∀ i h, At i h → ∃ o, h.get? i1 = some o ∧ ∀ v, o.data ≠ .cell v
  kp : ∀ i h h', At i h → (∀ o, h.get? i1 = some o → h'.get? i1 = some o) → At i h'
  dr : ∀ (X : Cx), X.prog = P → X.w = w → X.K = K → X.calm = true → ∀ (pins : List (Addr × Obj)) (s : Shared) (σ : L2.St) (H : Hp), Inv X pins σ H s → G H →
    ∃ (its : List Value) (Ob : Heap → Prop), Vals xs its ∧ Draws P w X.A.in1 i1 [i1, a] its.length (fun i v => its[i]? = some v) (fun i h => At i h ∧ Ob h) ∧ Ob s.heap
theorem turn_g {P : Program} {w : World} {K : PySem.W.Frag} {elts : List Expr} {kk : Nat} {tpos : Pos} {a z TI TO i1 i2 : Addr} {xs : List V} {y : Str} {t : Tok} {G : Hp → Prop} {At : Nat → Heap → Prop}
    (S : ZipSep2 z TI TO i1 i2 [i1, a] [i2]) (src : Src1 P w K i1 a xs G At) :
    Turn P w K (.Tuple elts kk tpos) (Itg G xs (signs y)) [z, TI, TO, i1, i2] z
      (fun i h => IsZip h z TI TO .none ∧ IsTupOf2 h TI (.ref i1) (.ref i2) ∧ (∃ p q, IsTupOf2 h TO p q) ∧ At i h ∧ h.IsStrIter i2 (strIterType y) y t i) where
  mem := by simp
  obj := fun i h st c hc => by
    obtain ⟨s1, s2, ⟨p, q, s3⟩, s4, ⟨o2, e2, _, d2⟩⟩ := st
    obtain ⟨o1, e1, d1⟩ := src.ob i h s4
    rcases (show c = z ∨ c = TI ∨ c = TO ∨ c = i1 ∨ c = i2 by simpa using hc) with e | e | e | e | e
    · subst e; exact ⟨_, s1, fun v n => nomatch n⟩
    · subst e; exact ⟨_, s2, fun v n => nomatch n⟩
    · subst e; exact ⟨_, s3, fun v n => nomatch n⟩
    · subst e; exact ⟨o1, e1, d1⟩
    · subst e; exact ⟨o2, e2, fun v n => by rw [d2] at n; cases n⟩
  keep := fun i h h' st k => by
    obtain ⟨s1, s2, ⟨p, q, s3⟩, s4, s5⟩ := st
    exact ⟨k z (by simp) _ s1, k TI (by simp) _ s2, ⟨p, q, k TO (by simp) _ s3⟩, src.kp i h h' s4 fun o e => k i1 (by simp) o e, (let ⟨o, e, r⟩ := s5; ⟨o, k i2 (by simp) o e, r⟩)⟩
  item := by
    intro X e1 e2 e3 hc i pins s σ H E I hf st hg
    obtain ⟨gH, l1, l2⟩ := hg
    obtain ⟨s1, s2, ⟨p, q, s3⟩, s4, s5⟩ := st
    obtain ⟨its, Ob, rv, D1, ob⟩ := src.dr X e1 e2 e3 hc pins s σ H I gH
    have D2 : Draws P w X.A.in1 i2 [i2] y.cps.size _ _ := Draws.text (show X.A.in1.handled = none from I.ok.hd hc) i2 y t
    have lits := rv.length
    have ly : (signs y).length = y.cps.size := signs_len y
    have hzl : z < s.heap.objs.size := Heap.lt_size s1
    subst e1 e2 e3
    refine wpAny_pyNext_zipD2_item S D1 D2 s1 s2 s3 ⟨s4, ob⟩ s5 (by omega) (by omega) fun x1 x2 h' tk y1 y2 b1 b2 g1 g2 b5 b6 b7 => ?_
    refine ⟨_, rfl, wpAny_letOwnedTupleGo_zip (s := { s with heap := h', toks := tk }) b1 fun h'' z'' sb => ?_⟩
    have hx : xs[i]? = some xs[i] := List.getElem?_eq_getElem l1
    obtain ⟨u, hu, ru⟩ := rv.get hx
    rw [hu] at y1
    cases y1
    obtain ⟨c, u2, hcy, rfl⟩ := y2
    have hy : (signs y)[i]? = some (.str ⟨#[c]⟩) := by
      unfold signs
      rw [List.getElem?_map, Array.getElem?_toList, hcy]
      rfl
    have hT2 := (sb.2 _ (Nat.ne_of_gt hzl)).trans b5
    have new : ObjOk X.prog X.w (upd H s.heap.objs.size (.tup [xs[i], .str ⟨#[c]⟩])) h'' s.heap.objs.size (.tup [xs[i], .str ⟨#[c]⟩]) :=
      ⟨by show 2 ≤ sizeLine; decide, [x1, .str ⟨#[c]⟩ u2], .cons ru (.cons ⟨u2, rfl⟩ .nil), ⟨_, hT2, rfl, _, rfl⟩⟩
    have I1 := I.turnedNew (t' := tk) (h' := h'') (ch := [z, TI, TO, i1, i2]) (fun c o hb e => by
      have n := fun (q : Addr) (hq : q ∈ [z, TI, TO, i1, i2]) => fun (ec : c = q) => hb (ec ▸ hq)
      exact (sb.2 c (n z (by simp))).trans (b7 c o (n z (by simp)) (n TO (by simp)) (n i1 (by simp)) (n i2 (by simp)) e)) hf (Nat.le_refl _) new
    have i1z : i1 ≠ z := fun e => S.zf1 (e ▸ S.mem1)
    have i2z : i2 ≠ z := fun e => S.zf2 (e ▸ S.mem2)
    refine ⟨.ref s.heap.objs.size, _, I1, rfl, ⟨_, _, _, rfl, I.hok.fresh (Nat.le_refl _), rfl, hx, hy⟩, ⟨z'', ?_, ⟨_, _, (sb.2 _ S.TOz).trans b2⟩, ?_, ?_⟩, fun c hcm => ?_⟩
    · exact (sb.2 _ S.TIz).trans (b7 _ _ S.TIz S.TITO S.TIi1 S.TIi2 s2)
    · exact src.kp _ _ _ g1.1 fun o e => (sb.2 _ i1z).trans e
    · exact (let ⟨o, e, r⟩ := g2; ⟨o, (sb.2 _ i2z).trans e, r⟩)
    · have hlt : c < s.heap.objs.size := by
        obtain ⟨o1, e1, _⟩ := src.ob i _ s4
        obtain ⟨o2, e2, _⟩ := s5
        rcases (show c = z ∨ c = TI ∨ c = TO ∨ c = i1 ∨ c = i2 by simpa using hcm) with e | e | e | e | e
        · subst e; exact hzl
        · subst e; exact Heap.lt_size s2
        · subst e; exact Heap.lt_size s3
        · subst e; exact Heap.lt_size e1
        · subst e; exact Heap.lt_size e2
      rw [upd_ne (Nat.ne_of_lt hlt)]
      exact (hf c hcm).1
  done := by
    intro X e1 e2 e3 hc i pins s σ H E I hf st hg
    obtain ⟨gH, l1, l2, hend⟩ := hg
    obtain ⟨s1, s2, ⟨p, q, s3⟩, s4, s5⟩ := st
    obtain ⟨its, Ob, rv, D1, ob⟩ := src.dr X e1 e2 e3 hc pins s σ H I gH
    have D2 : Draws P w X.A.in1 i2 [i2] y.cps.size _ _ := Draws.text (show X.A.in1.handled = none from I.ok.hd hc) i2 y t
    have lits := rv.length
    have ly : (signs y).length = y.cps.size := signs_len y
    subst e1 e2 e3
    refine wpAny_pyNext_zipD2_end S D1 D2 s1 s2 s3 ⟨s4, ob⟩ s5 (by omega) (by omega) (by omega) fun h' tk hk => ⟨rfl, ?_⟩
    have J := I.turnedL (t' := tk) (h' := h') (ch := [z, TI, TO, i1, i2]) (fun c o hb e => by
      have n := fun (q : Addr) (hq : q ∈ [z, TI, TO, i1, i2]) => fun (ec : c = q) => hb (ec ▸ hq)
      exact hk c o (n z (by simp)) (n TO (by simp)) (n i1 (by simp)) (n i2 (by simp)) e) hf
    exact J
  self := fun A i s Q E st h => wpAny_pyIter_zip st.1 h
theorem src_tup {P : Program} {w : World} {K : PySem.W.Frag} {i1 a : Addr} {xs : List V} (hne : a ≠ i1) : Src1 P w K i1 a xs (fun H => SqT K H a xs) (fun i h => h.IsTupleIter i1 a i) where
  ob := fun i h st => by
    obtain ⟨o, e, _, d⟩ := st
    exact ⟨o, e, fun v n => by rw [d] at n; cases n⟩
  kp := fun i h h' st k => by
    obtain ⟨o, e, r⟩ := st
    exact ⟨o, k o e, r⟩
  dr := by
    intro X e1 e2 e3 hc pins s σ H I hq
    subst e1 e2 e3
    obtain ⟨its, rv, pl, _⟩ := I.tuple hq
    have D := Draws.tuple (prog := X.prog) (w := X.w) (show X.A.in1.handled = none from I.ok.hd hc) i1 a hne its.toArray
    refine ⟨its, fun h => h.IsTuple a its.toArray, rv, ?_, pl⟩
    simpa using D
theorem src_lst {P : Program} {w : World} {K : PySem.W.Frag} {i1 a : Addr} {xs : List V} (hne : a ≠ i1) : Src1 P w K i1 a xs (fun H => SqL K H a xs) (fun i h => h.IsListIter i1 a i) where
  ob := fun i h st => by
    obtain ⟨o, e, _, d⟩ := st
    exact ⟨o, e, fun v n => by rw [d] at n; cases n⟩
  kp := fun i h h' st k => by
    obtain ⟨o, e, r⟩ := st
    exact ⟨o, k o e, r⟩
  dr := by
    intro X e1 e2 e3 hc pins s σ H I hq
    subst e1 e2 e3
    obtain ⟨its, rv, pl, _⟩ := I.list hq
    have D := Draws.list (prog := X.prog) (w := X.w) (show X.A.in1.handled = none from I.ok.hd hc) i1 a hne its.toArray
    refine ⟨its, fun h => h.IsList a its.toArray, rv, ?_, pl.isList⟩
    simpa using D
def iZipS (K : PySem.W.Frag) (ta : TA) : TI := fun σ H R => ta σ H fun vs H1 => ∃ a xs y, vs = [.ref a, .str y] ∧ ((SqT K H1 a xs ∧ R (Itg (fun H => SqT K H a xs) xs (signs y)) H1) ∨ (SqL K H1 a xs ∧ R (Itg (fun H => SqL K H a xs) xs (signs y)) H1))
theorem pi_zipS {X : Cx} {e e2 : Expr} {ta : TA} {p pos tpos : Pos} {elts : List Expr} {kk : Nat} (hg : Gl X "zip") (hm : X.mg "zip" = none) (ha : PA X [e, e2] ta)
    (h1 : starEach [e, e2] X.env = (false, eval e X.env) :: starEach [e2] X.env := by rfl) (h2 : (backTo pos (starEach [e2] X.env)).any (·.1) = false := by rfl) :
    PI X (.Tuple elts kk tpos) (.Call (.Name "zip" p) [e, e2] [] pos) (iZipS X.K ta) := by
  refine ⟨fun pins s σ H R I h => Call_ (ld_blt I hg hm PyProof.Rows.boot_zip (PyProof.Rows.callWith_type1 (thn (ha.run pos pins s σ H _ I h) fun us s1 hu => ?_) h1 h2))⟩
  obtain ⟨vs, H1, I1, r1, a, xs, y, ex, q1⟩ := hu
  subst ex
  cases r1 with
  | cons ra rr =>
  cases rr with
  | cons rb rr =>
  cases rr
  cases ra
  obtain ⟨t, rfl⟩ := rb
  have fresh : ∀ c ∈ [s1.heap.objs.size + 4, s1.heap.objs.size + 2, s1.heap.objs.size + 3, s1.heap.objs.size, s1.heap.objs.size + 1], FpOk X pins H1 c := fun c hcm => by
    have hle : s1.heap.objs.size ≤ c := by
      simp only [List.mem_cons, List.not_mem_nil, or_false] at hcm
      rcases hcm with z | z | z | z | z <;> (subst z; first | exact Nat.le_refl _ | exact Nat.le_add_right _ _)
    exact I1.fpOk hle (I1.hok.fresh hle)
  have begun : ∀ (h' : Heap), h'.get? (s1.heap.objs.size + 1) = some ({ cls := .type (strIterType y), data := .fields #[.str y t, .int 0 0] } : Obj) → h'.IsStrIter (s1.heap.objs.size + 1) (strIterType y) y t 0 := fun h' e => ⟨_, e, rfl, rfl⟩
  rcases q1 with ⟨hq, q⟩ | ⟨hq, q⟩
  · obtain ⟨its, rv, pl, _⟩ := I1.tuple hq
    have la : a < s1.heap.objs.size := by
      obtain ⟨o, ho, _⟩ := id pl
      exact Heap.lt_size ho
    refine zip_begins2 (begins_tuple a its.toArray) (begins_text y t) pl trivial fun h' z1 z2 z3 g1 g2 _ hk => wpAny_pyIter_zip z1 ?_
    refine ⟨s1.heap.objs.size + 4, [s1.heap.objs.size + 4, s1.heap.objs.size + 2, s1.heap.objs.size + 3, s1.heap.objs.size, s1.heap.objs.size + 1], _, _, H1, rfl, I1.kept (t' := s1.toks) hk, turn_g (t := t) (zip_sep2 (fp1 := [a]) (fp2 := []) ?_ ?_) (src_tup (Nat.ne_of_lt la)), ?_, fresh, q⟩
    · intro b hb
      rw [List.mem_singleton] at hb
      subst hb
      exact la
    · intro b hb
      cases hb
    · exact ⟨z1, z2, ⟨_, _, z3⟩, ⟨_, g1, rfl, rfl⟩, begun h' g2⟩
  · obtain ⟨its, rv, pl, _⟩ := I1.list hq
    have la : a < s1.heap.objs.size := pl.lt
    refine zip_begins2 (begins_list a its.toArray) (begins_text y t) pl.isList trivial fun h' z1 z2 z3 g1 g2 _ hk => wpAny_pyIter_zip z1 ?_
    refine ⟨s1.heap.objs.size + 4, [s1.heap.objs.size + 4, s1.heap.objs.size + 2, s1.heap.objs.size + 3, s1.heap.objs.size, s1.heap.objs.size + 1], _, _, H1, rfl, I1.kept (t' := s1.toks) hk, turn_g (t := t) (zip_sep2 (fp1 := [a]) (fp2 := []) ?_ ?_) (src_lst (Nat.ne_of_lt la)), ?_, fresh, q⟩
    · intro b hb
      rw [List.mem_singleton] at hb
      subst hb
      exact la
    · intro b hb
      cases hb
    · exact ⟨z1, z2, ⟨_, _, z3⟩, ⟨_, g1, rfl, rfl⟩, begun h' g2⟩
/-! ### comprehensions over them -/
section
variable {X : Cx} {σ : L2.St} {H : Hp} {Q : VK} {D : Ends} {pos : Pos} {e e2 elt iter : Expr} {scope : Scope} {x x2 : Str} {j j2 : Nat} {px px2 : Pos} {N : List Str} {sc : Scope} {k : Nat}
/-- the elements make new things, told by a relation -/
theorem lcR2 (hj : j ≠ j2) {J : It} {n : Nat} {G : Hp → Prop} {Y : Nat → Hp → V → Hp → Prop} (w : Walk J n G Y) {te : TE} {H1 : Hp} {Qd : Addr → Hp → Prop} (hz : n < sizeLine) (R : Nat → V → Hp → Prop) (st : Stays R) (hG : ∀ H, Same H1 H → G H)
    (me : ∀ σ H (A B : VK), (∀ v h, A v h → B v h) → te σ H A → te σ H B)
    (hs : ∀ i x H H', i < n → Same H1 H → Y i H x H' → Same H H' ∧ ∃ a u v, x = .ref a ∧ SqT X.K H' a [u, v] ∧ te ((σ.set j (some u)).set j2 (some v)) H' fun y H4 => Same H' H4 ∧ R i y H4)
    (hd : ∀ D H' ys, H1 D = none → Same H1 H' → H' D = some (.lst ys) → ys.length = n → (∀ i y, ys[i]? = some y → R i y H') → Qd D H') (D : Addr) (hD : H1 D = none) :
    ∃ W : Nat → Nat → Hp → Prop, (∃ m, W 0 m (upd H1 D (.lst []))) ∧ ∀ i m H, W i m H →
      (J.stop i H ∧ Qd D H) ∨ (J.go i H ∧ ∃ Nx : Hp → Prop, (∀ H', Nx H' → ∃ m', m' < m ∧ W (i + 1) m' H') ∧ ∀ x H', J.yld i H x H' → gTup X.K 2 (gCons (gName j) (gCons (gName j2) gNil)) x (wipe σ [j, j2]) H' fun σ2 H2 => wipe σ2 [j, j2] = wipe σ [j, j2] ∧ tYes σ2 H2 fun b H3 =>
        if b = true then te σ2 H3 fun y H4 => ∃ acc, H4 D = some (.lst acc) ∧ acc.length < sizeLine ∧ Nx (upd H4 D (.lst (acc ++ [y]))) else Nx H3) := by
  refine lc_it w (Way R H1 D) (way_0 hD) (fun i H _ k => hG H k.1) ?_ (fun H ⟨sm, acc, e, hl, ha⟩ => hd D H acc hD sm e hl ha)
  rintro i x H H' hi wy y
  obtain ⟨s1, a, u, v, rfl, ht, k⟩ := hs i x H H' hi wy.1 y
  obtain ⟨e1, e2⟩ := wipe_two (σ := σ) (u := u) (v := v) hj
  refine g2 ht ⟨e1, ?_⟩
  rw [e2]
  unfold tYes
  with_reducible refine iteT ?_
  refine me _ _ _ _ ?_ k
  rintro y H4 ⟨s4, r⟩
  exact way_s st hD (by omega) wy (s1.trans s4) r
abbrev zS (X : Cx) (e e2 elt : Expr) (scope : Scope) (j j2 : Nat) (σ : L2.St) (H : Hp) (Q : VK) : Prop := wE X e σ H fun v H0 => wE X e2 σ H0 fun u H1 => ∃ a xs y, ∃ R : Nat → V → Hp → Prop, v = .ref a ∧ u = .str y ∧ (SqT X.K H1 a xs ∨ SqL X.K H1 a xs) ∧ xs.length < sizeLine ∧ (signs y).length = xs.length ∧ Stays R ∧
  (∀ i v s H2, xs[i]? = some v → (signs y)[i]? = some s → Same H1 H2 → wEb X scope elt ((σ.set j (some v)).set j2 (some s)) H2 fun z H4 => Same H2 H4 ∧ R i z H4) ∧
  ∀ D H' ys, H1 D = none → Same H1 H' → H' D = some (.lst ys) → ys.length = xs.length → (∀ i y, ys[i]? = some y → R i y H') → Q (.ref D) H'
theorem zS_tLc (hj : j ≠ j2) (h : zS X e e2 elt scope j j2 σ H Q) (h1 : starEach [e, e2] X.env = (false, eval e X.env) :: starEach [e2] X.env := by rfl) (h2 : starEach [e2] X.env = (false, eval e2 X.env) :: starEach [] X.env := by rfl) : tLc (iZipS X.K (wA X [e, e2])) (gTup X.K 2 (gCons (gName j) (gCons (gName j2) gNil))) tYes (wEb X scope elt) [j, j2] σ H Q := by
  show wA X [e, e2] σ H _
  refine a_cons (wE_mono h fun v H0 k => a_cons (wE_mono k ?_) h2) h1
  rintro u H1 ⟨a, xs, y, R, rfl, rfl, hq, hz, hl, st, k1, k2⟩
  refine a_nil ⟨a, xs, y, rfl, ?_⟩
  have step : ∀ i x H H', Same H1 H → YPair (fun i => xs[i]?) (fun i => (signs y)[i]?) i H x H' → Same H H' ∧ ∃ a u v, x = .ref a ∧ SqT X.K H' a [u, v] ∧ wEb X scope elt ((σ.set j (some u)).set j2 (some v)) H' fun y H4 => Same H' H4 ∧ R i y H4 := by
    rintro i x H H' sm ⟨T, u, v, rfl, hT, rfl, hu, hv⟩
    exact ⟨(Same.refl H).new hT, T, u, v, rfl, SqT.of upd_same, k1 i u v _ hu hv (sm.new hT)⟩
  rcases hq with hq | hq
  · exact .inl ⟨hq, fun D hD => lcR2 (X := X) (Qd := fun D H => Q (.ref D) H) hj (walk_g rfl hl) hz R st (fun H s => same_tup s hq) me_wEb (fun i x H H' _ sm y => step i x H H' sm y) k2 D hD⟩
  · exact .inr ⟨hq, fun D hD => lcR2 (X := X) (Qd := fun D H => Q (.ref D) H) hj (walk_g rfl hl) hz R st (fun H s => s.seq hq) me_wEb (fun i x H H' _ sm y => step i x H H' sm y) k2 D hD⟩
theorem e_zS {kt : Nat} {pt p1 p2 : Pos} (j j2 : Nat) (hjj : j ≠ j2) (B : Bd X N sc k) (ok : BlkOk N sc scope [(x, j), (x2, j2)]) (hg : Gl X "zip") (hm : X.mg "zip" = none) (hj : N[j]? = some x) (hx : scope.names.lookup x = some .local) (hj2 : N[j2]? = some x2) (hx2 : scope.names.lookup x2 = some .local) (h : zS X e e2 elt scope j j2 σ H Q)
    (h1 : starEach [e, e2] X.env = (false, eval e X.env) :: starEach [e2] X.env := by rfl) (h2 : starEach [e2] X.env = (false, eval e2 X.env) :: starEach [] X.env := by rfl) (h3 : (backTo p2 (starEach [e2] X.env)).any (·.1) = false := by rfl) (hs : ∀ x, foldedSetIterable (.Call (.Name "zip" p1) [e, e2] [] p2) X.env x = pure x := by intro _; rfl) :
    wE X (.ListComp elt [⟨.Tuple [.Name x px, .Name x2 px2] kt pt, .Call (.Name "zip" p1) [e, e2] [] p2, [], 0⟩] scope pos) σ H Q :=
  toE (pe_lc (own := [(x, j), (x2, j2)]) B.calm B.nd (pi_zipS hg hm pa_self h1 h3) (by rw [B.hN, B.sc]; exact ok) (pgb_pair B.calm B.nd (B.slot j hj) hx (B.slot j2 hj2) hx2) (fun _ _ _ _ _ => pts_nil) peb_self hs) (zS_tLc hjj h h1 h2)
/-- name = [.. for x, y in zip(..)] -/
theorem s_zS {kt : Nat} {pt p1 p2 : Pos} (j j2 : Nat) (hjj : j ≠ j2) {y : Str} {py spos : Pos} (i : Nat) (B : Bd X N sc k) (ok : BlkOk N sc scope [(x, j), (x2, j2)]) (hg : Gl X "zip") (hm : X.mg "zip" = none) (hj : N[j]? = some x) (hx : scope.names.lookup x = some .local) (hj2 : N[j2]? = some x2) (hx2 : scope.names.lookup x2 = some .local) (hy : X.N[i]? = some y) (hyl : X.env.scope.names.lookup y = some .local)
    (hsw : swapsWith (.ListComp elt [⟨.Tuple [.Name x px, .Name x2 px2] kt pt, .Call (.Name "zip" p1) [e, e2] [] p2, [], 0⟩] scope pos) (some (.Name y py)) spos.line X.env = pure true) (h : zS X e e2 elt scope j j2 σ H fun v H1 => D.nx (σ.set i (some v)) H1)
    (h1 : starEach [e, e2] X.env = (false, eval e X.env) :: starEach [e2] X.env := by rfl) (h2 : starEach [e2] X.env = (false, eval e2 X.env) :: starEach [] X.env := by rfl) (h3 : (backTo p2 (starEach [e2] X.env)).any (·.1) = false := by rfl) (hs : ∀ x, foldedSetIterable (.Call (.Name "zip" p1) [e, e2] [] p2) X.env x = pure x := by intro _; rfl) :
    wS X (.Assign [.Name y py] (.ListComp elt [⟨.Tuple [.Name x px, .Name x2 px2] kt pt, .Call (.Name "zip" p1) [e, e2] [] p2, [], 0⟩] scope pos) spos) D σ H :=
  toS (ps_setLc (own := [(x, j), (x2, j2)]) B.calm B.nd hy hyl hsw (pi_zipS hg hm pa_self h1 h3) (by rw [B.hN, B.sc]; exact ok) (pgb_pair B.calm B.nd (B.slot j hj) hx (B.slot j2 hj2) hx2) (fun _ _ _ _ _ => pts_nil) peb_self hs) (zS_tLc hjj h h1 h2)
/-- [elt for c in a text] -/
abbrev tX (X : Cx) (e elt : Expr) (scope : Scope) (j : Nat) (σ : L2.St) (H : Hp) (Q : VK) : Prop := wE X e σ H fun v H1 => ∃ y, ∃ f : Nat → V, v = .str y ∧ y.length < sizeLine ∧
  (∀ i c H2, y.cps[i]? = some c → Same H1 H2 → wEb X scope elt (σ.set j (some (.str ⟨#[c]⟩))) H2 fun z H4 => z = f i ∧ Same H2 H4) ∧
  ∀ D H', H1 D = none → Same H1 H' → H' D = some (.lst ((List.range y.length).map f)) → Q (.ref D) H'
theorem e_tX (j : Nat) (B : Bd X N sc k) (ok : BlkOk N sc scope [(x, j)]) (hj : N[j]? = some x) (hx : scope.names.lookup x = some .local) (h : tX X e elt scope j σ H Q) (hs : ∀ x, foldedSetIterable e X.env x = pure x := by intro _; rfl) : wE X (.ListComp elt [⟨.Name x px, e, [], 0⟩] scope pos) σ H Q := by
  refine toE (pe_lc (own := [(x, j)]) B.calm B.nd (pi_str pe_self) (by rw [B.hN, B.sc]; exact ok) (pgb_name B.nd (B.slot j hj) hx) (fun _ _ _ _ _ => pts_nil) peb_self hs) ?_
  refine wE_mono h ?_
  rintro v H1 ⟨y, f, rfl, hz, k1, k2⟩
  refine ⟨y, rfl, fun D hD => ?_⟩
  have ef : (List.range y.length).filter (fun _ => true) = List.range y.length := List.filter_eq_self.mpr fun _ _ => rfl
  refine lcP (Qd := fun D H => Q (.ref D) H) walk_str hz (fun _ => true) f (fun H s => True.intro) mt_yes me_wEb ?_ (by rw [show y.cps.size = y.length from rfl, ef]; exact k2) D hD
  rintro i x H H' hi sm ⟨rfl, c, hc, rfl⟩
  exact ⟨Same.refl _, rfl, Same.refl _, fun _ => k1 i c _ hc sm⟩
end
end WX

set_option Elab.async false
set_option linter.all false
set_option maxRecDepth 100000
set_option maxHeartbeats 4000000
/-! WXL: parts of lists, join, != of own instances. -/
namespace WX
open PySem PySem.Spec PyProof.Rows L2 HT
section
variable {prog : Program} {w : World} {A : Around} {E : Value → Shared → Prop} {s : Shared} {K : PySem.W.Frag} {h₀ : Heap} {x y C f : Addr} {ox : Obj} {od : Option Obj}
/-- a slot of object, bound to an instance and called -/
theorem ifBound_ne {args : List Value} {Q : Option Value → Shared → Prop} (X : K.In s.heap) (I : PySem.W.InstAt s.heap x ox C od) (hs : PySem.W.findIn K (.ref C) "__ne__" = some (some (.builtin "object.__ne__")))
    (h : wpAny (model prog w) A (call (.builtin "object.__ne__") (.ref x :: args)) (fun v => Q (some v)) E s) : wpAny (model prog w) A (callSpecialIfBound? (.ref x) "__ne__" args) Q E s := by
  simp only [callSpecialIfBound?, bindSpecialIfBound?]
  refine wpAny_holding (wpAny_bind (wpAny_bind (wpAny_bind (I.type.here ((PySem.W.looks_findIn X hs).here ?_)))))
  refine wpAny_bind (wpAny_askSetting (wpAny_ite ?_))
  have fin : wpAny (model prog w) A (call (.builtin "object.__ne__") ([.ref x] ++ args) >>= fun v => pure (some v)) Q E s := wpAny_bind (wpAny_mono h (fun v s' h' => wpAny_pure h') fun _ _ h' => h')
  have bd := PySem.F.cmp_object.ne.bind (.ref x)
  rw [bd]
  split
  · first
      | exact wpAny_bind (wpAny_bind (wpAny_pure (wpAny_pure fin)))
      | exact wpAny_bind (wpAny_pure fin)
      | exact wpAny_bind (wpAny_pure (wpAny_pure fin))
  · first
      | exact wpAny_bind (wpAny_tryCatch (wpAny_bind (wpAny_pure (wpAny_pure fin))))
      | exact wpAny_tryCatch (wpAny_bind (wpAny_pure (wpAny_pure fin)))
theorem ne_K {Q : Value → Shared → Prop} (hu : A.units + 1 < cLine) (X : K.In s.heap) (I : PySem.W.InstAt s.heap x ox C od) (hb : PySem.W.Looks (model prog w) s.heap (typeOf (.ref y)) (.ref C))
    (hn : PySem.W.findIn K (.ref C) "__ne__" = some (some (.builtin "object.__ne__"))) (he : PySem.W.findIn K (.ref C) "__eq__" = some (some (.ref f))) (hf : PySem.W.isFn K (.ref f) = true) (hm : PySem.W.mroIn K C (.type "object") = some true)
    (h : wpAny (model prog w) A.in1 (call (.ref f) [.ref x, .ref y]) (fun v s' => ∃ b, v = .bool b ∧ Q (.bool (!b)) s') E s) : wpAny (model prog w) A (richCompare .NotEq (.ref x) (.ref y)) Q E s := by
  have sub : PySem.W.Looks (model prog w) s.heap (isInstance (.ref x) (.type "object")) true := I.type.andThen (PySem.W.looks_mroIn X hm)
  unfold richCompare
  simp only [oneThing_ref]
  refine wpAny_holding (wpAny_bind (wpAny_cRoomFor (Nat.lt_of_succ_lt hu) ?_))
  rw [cmpInfo_NotEq]
  dsimp only
  refine wpAny_bind (I.type.here (wpAny_bind (hb.here ?_)))
  rw [show (Value.ref C != Value.ref C) = false from by simp]
  simp only [Bool.false_eq_true, if_false]
  refine wpAny_bind (wpAny_pure ?_)
  simp only [Bool.false_eq_true, if_false]
  simp only [tryCompare]
  refine wpAny_bind (wpAny_bind (ifBound_ne X I hn (wpAny_call (codeAny_call_builtin PySem.F.cmp_object.ne.plain PySem.F.cmpEntry_ne
    (PySem.W.check_slot PySem.F.cmpKind_ne PySem.F.cmpSplit_ne sub (PySem.F.cmpArgs_ne _ _) ?_)))))
  unfold Builtin.«object.__ne__»
  refine wpAny_bind (wpAny_of_eq (a := (Value.ref x, [Value.ref y])) (by first | rfl | (simp only [slotArgs]; rfl)) ?_)
  refine wpAny_bind (wpAny_cRoomFor hu ?_)
  refine wpAny_bind (PySem.W.ifBound_K X I he hf (wpAny_mono h (fun v s' hv => ?_) fun _ _ e => e))
  obtain ⟨b, rfl, q⟩ := hv
  have fin : ∀ {Q' : Fin → Shared → Prop}, Q' (.done (.ret (.bool (!b)))) s' → wpAny (model prog w) A.in1 (do let __do_lift ← truthy (.bool b); ret (Value.bool !__do_lift)) Q' E s' := fun k => wpAny_bind (wpAny_truthy_bool (wpAny_pure k))
  refine fin ?_
  first
    | exact wpAny_pure (wpAny_pure q)
    | exact wpAny_pure q
    | exact q
end
section
variable {X : Cx} {σ : L2.St} {H : Hp} {Q : VK} {D : Ends} {pos : Pos} {e b c elt iter : Expr} {scope : Scope} {x : Str} {j : Nat} {px p2 : Pos} {N : List Str} {sc : Scope} {k : Nat}
/-- a != b, by the class's own __eq__ -/
theorem o_neOwn {a d dx dy C : Addr} {fs gs : List (Str × V)} {k : Nat} {ps : List Str} {sp : Sp} (F : Md X.prog X.w X.K X.mg X.base C "__eq__" k ps sp) (hn : PySem.W.findIn X.K (.ref C) "__ne__" = some (some (.builtin "object.__ne__"))) (hm : PySem.W.mroIn X.K C (.type "object") = some true) (hr : Room (k + 1) X.A)
    (ha : H a = some (.ins C dx fs)) (hb : H d = some (.ins C dy gs)) (h : sp [.ref a, .ref d] H (fun v H' => ∃ t, v = .bl t ∧ Q (.bl (!t)) H') E0) : wO X (compareOp .NotEq) (.ref a) (.ref d) H Q := by
  obtain ⟨f, fd, G, hm2, bd⟩ := F.ex
  refine ⟨fun pins s σ v u I rx ry => ?_⟩
  cases rx
  cases ry
  obtain ⟨od, J⟩ := ins_at I ha
  obtain ⟨od', J'⟩ := ins_at I hb
  show wpAny _ _ (richCompare .NotEq _ _) _ _ _
  refine ne_K (by have := hr.un; omega) I.kIn J J'.type hn hm2.at_ hm2.fn hm ?_
  have r : Vals [V.ref a, V.ref d] [Value.ref a, Value.ref d] := .cons (show RelV (.ref a) (.ref a) from rfl) (.cons (show RelV (.ref d) (.ref d) from rfl) .nil)
  have hl : [Value.ref a, Value.ref d].length = ps.length := by rw [← r.length]; exact G.len _ _ _ _ h
  have bt := bd s [Value.ref a, Value.ref d] I.kIn (by rw [List.append_nil]; exact hl)
  rw [List.append_nil] at bt
  refine wpAny_call (codeAny_mono (G.run X.A.in1 X.stack s H ⟨[Value.ref a, Value.ref d], []⟩ _ [V.ref a, V.ref d] _ E0 hr.in1 I.env0.in1 bt r h) fun res s' hq => ?_)
  cases res with
  | error er => exact pass0 pins σ H s er s' I hq
  | ok fl =>
    cases fl with
    | next => exact False.elim hq
    | brk => exact False.elim hq
    | cont => exact False.elim hq
    | ret u =>
      obtain ⟨v, H', I', rv, t, rfl, q⟩ := I.after hq
      cases (show u = Value.bool t from rv)
      exact ⟨t, rfl, .bl (!t), H', I', rfl, q⟩
/-- a part of a list -/
def kSlL (K : PySem.W.Frag) (x : V) (lo hi : Option Int) (H : Hp) (Q : VK) : Prop := ∃ a xs, x = .ref a ∧ SqL K H a xs ∧ ∀ p, H p = none → Q (.ref p) (upd H p (.lst (cutV xs lo hi)))
theorem e_llNS (h : wE X e σ H fun x H1 => wE X b σ H1 fun y H2 => ∃ i, y = .int i ∧ kSlL X.K x none (some i) H2 Q) : wE X (.Subscript e (.Slice none (some b) none p2) pos) σ H Q :=
  toE (pe_slice sl_list pe_self po_none (po_some pe_self)) h
theorem e_llSN (h : wE X e σ H fun x H1 => wE X b σ H1 fun y H2 => ∃ i, y = .int i ∧ kSlL X.K x (some i) none H2 Q) : wE X (.Subscript e (.Slice (some b) none none p2) pos) σ H Q :=
  toE (pe_slice sl_list pe_self (po_some pe_self) po_none) h
theorem e_llSS (h : wE X e σ H fun x H1 => wE X b σ H1 fun y H2 => ∃ i, y = .int i ∧ wE X c σ H2 fun z H3 => ∃ j, z = .int j ∧ kSlL X.K x (some i) (some j) H3 Q) : wE X (.Subscript e (.Slice (some b) (some c) none p2) pos) σ H Q :=
  toE (pe_slice sl_list pe_self (po_some pe_self) (po_some pe_self)) h
/-- xs[::-1] -/
theorem e_revL {m : Nat} {p1 p3 p4 : Pos} (h : wE X e σ H fun x H1 => ∃ a xs, x = .ref a ∧ SqL X.K H1 a xs ∧ ∀ p, H1 p = none → Q (.ref p) (upd H1 p (.lst xs.reverse))) : wE X (.Subscript e (.Slice none none (some (.UnaryOp .USub (.Constant (.int 1) m p1) p3)) p4) pos) σ H Q := toE (pe_revL pe_self) h
/-- s.join(e) -/
theorem e_join {o : Expr} {apos cpos : Pos} (h : wE X o σ H fun x H1 => ∃ a, x = .str a ∧ wE X e σ H1 fun y H2 => ∃ p, ∃ ys : List Str, y = .ref p ∧ (SqL X.K H2 p (ys.map V.str) ∨ SqT X.K H2 p (ys.map V.str)) ∧ (ys.map (·.length)).sum + ys.length * a.length ≤ 16777216 ∧ Q (.str (Txt.join a ys)) H2)
    (n1 : starEach [e] X.env = (false, eval e X.env) :: starEach [] X.env := by rfl) (n2 : attributeBase o "join" X.env (eval o X.env) = eval o X.env := by rfl) (n3 : ((((backTo cpos (starEach [e] X.env)).all fun x => !x.fst) && (backToKw cpos (keywordEach [] X.env)).all fun x => x.fst.isSome) && decide (([e].length + ([] : List Keyword).length + if ([] : List Keyword).isEmpty = true then 0 else 1) < 30)) = true := by rfl) (n4 : (apos.endLine == cpos.line) = true := by rfl) (n5 : ((backTo cpos (starEach [] X.env)).any fun x => x.fst) = false := by rfl) : wE X (.Call (.Attribute o "join" apos) [e] [] cpos) σ H Q := by
  refine toE (pe_bm PySem.F.plainAttrs_str PySem.F.slot_str_join PySem.F.type_str_join mt_join pe_self (pa_cons pe_self pa_nil n1) n2 n3 n4 n1 n5) ?_
  refine wE_mono h ?_
  rintro x H1 ⟨a, rfl, k⟩
  refine ⟨rfl, wE_mono k ?_⟩
  rintro y H2 ⟨p, ys, rfl, h1, h2, q⟩
  exact ⟨a, p, ys, rfl, rfl, h1, h2, q⟩
/-- [elt for x in a list], the elements change the dice at p -/
abbrev dL1 (X : Cx) (a elt : Expr) (scope : Scope) (j : Nat) (σ : L2.St) (H : Hp) (Q : VK) : Prop := wE X a σ H fun v H1 => ∃ (l p : Addr) (xs : List V) (R : Nat → V → Prop), v = .ref l ∧ H1 l = some (.lst xs) ∧ l ≠ p ∧ xs.length < sizeLine ∧ Dice H1 p ∧
  (∀ i v H2, xs[i]? = some v → Ch p H1 H2 → Dice H2 p → wEb X scope elt (σ.set j (some v)) H2 fun y H4 => R i y ∧ Ch p H2 H4 ∧ Dice H4 p) ∧
  ∀ D H' ys, H1 D = none → Ch p H1 H' → Dice H' p → H' D = some (.lst ys) → ys.length = xs.length → (∀ i y, ys[i]? = some y → R i y) → Q (.ref D) H'
theorem e_dL {a : Expr} (j : Nat) (B : Bd X N sc k) (ok : BlkOk N sc scope [(x, j)]) (hj : N[j]? = some x) (hx : scope.names.lookup x = some .local) (h : dL1 X a elt scope j σ H Q) (hs : ∀ x, foldedSetIterable a X.env x = pure x := by intro _; rfl) :
    wE X (.ListComp elt [⟨.Name x px, a, [], 0⟩] scope pos) σ H Q := by
  refine toE (pe_lc (own := [(x, j)]) B.calm B.nd (pi_list pe_self) (by rw [B.hN, B.sc]; exact ok) (pgb_name B.nd (B.slot j hj) hx) (fun _ _ _ _ _ => pts_nil) peb_self hs) ?_
  refine wE_mono h ?_
  rintro v H1 ⟨l, p, xs, R, rfl, hl, hlp, hz, hd, k1, k2⟩
  refine ⟨l, rfl, ⟨xs, SqL.of hl⟩, fun D hD => ?_⟩
  refine lcDice (Qd := fun D H => Q (.ref D) H) walk_list hz R hd (fun H c => SqL.of (c _ _ hlp hl)) me_wEb ?_ k2 D hD
  rintro i x H H' hi c d ⟨rfl, hx⟩
  exact ⟨Same.refl _, k1 i x _ hx c d⟩
/-- [elt for x in range(a) if c] -/
abbrev fR1 (X : Cx) (a c elt : Expr) (scope : Scope) (j : Nat) (σ : L2.St) (H : Hp) (Q : VK) : Prop := wE X a σ H fun v H1 => ∃ (n : Nat) (p : Nat → Bool) (f : Nat → V), v = .int (n : Int) ∧ n < 10000 ∧
  (∀ i H2, i < n → Same H1 H2 → wTb X scope c (σ.set j (some (.int (i : Int)))) H2 fun b H3 => b = p i ∧ Same H2 H3 ∧ (p i = true → wEb X scope elt (σ.set j (some (.int (i : Int)))) H3 fun y H4 => y = f i ∧ Same H3 H4)) ∧
  ∀ D H', H1 D = none → Same H1 H' → H' D = some (.lst (((List.range n).filter p).map f)) → Q (.ref D) H'
theorem e_fR1 {a : Expr} {p1 p3 : Pos} (j : Nat) (B : Bd X N sc k) (ok : BlkOk N sc scope [(x, j)]) (hg : Gl X "range") (hm : X.mg "range" = none) (hj : N[j]? = some x) (hx : scope.names.lookup x = some .local) (h : fR1 X a c elt scope j σ H Q) (h1 : starEach [a] X.env = (false, eval a X.env) :: starEach [] X.env := by rfl) (hst : starEach [a] X.env = [(false, eval a X.env)] := by rfl) (hs : ∀ x, foldedSetIterable (.Call (.Name "range" p1) [a] [] p3) X.env x = pure x := by intro _; rfl) :
    wE X (.ListComp elt [⟨.Name x px, .Call (.Name "range" p1) [a] [] p3, [c], 0⟩] scope pos) σ H Q := by
  refine toE (pe_lc (own := [(x, j)]) B.calm B.nd (pi_range1 hg hm pa_self hst) (by rw [B.hN, B.sc]; exact ok) (pgb_name B.nd (B.slot j hj) hx) (fun _ _ _ _ _ => pts_one (ptb_self ..)) peb_self hs) ?_
  show wA X [a] σ H _
  refine a_cons (wE_mono h ?_) h1
  rintro v H1 ⟨n, p, f, rfl, hn, k1, k2⟩
  refine a_nil ⟨(n : Int), rfl, by omega, by omega, fun D hD => ?_⟩
  have e1 : (n : Int).toNat = n := by omega
  rw [e1]
  refine lcP (Qd := fun D H => Q (.ref D) H) walk_range (Nat.lt_of_lt_of_le hn (show (10000 : Nat) ≤ sizeLine by decide)) p f (fun H s => True.intro) mt_wTb me_wEb ?_ k2 D hD
  rintro i x H H' hi sm ⟨rfl, rfl⟩
  refine ⟨Same.refl _, ?_⟩
  simp only [Int.zero_add]
  exact k1 i _ hi sm
/-- tuple(a list), one that a method can be asked of -/
theorem c_tupLm {a : Addr} {xs : List V} (h1 : SqL X.K H a xs) (h : ∀ p H', H p = none → Same H H' → TupM H' p xs → Q (.ref p) H') : wC X (.type "tuple") [.ref a] H Q := by
  refine ⟨fun pins s σ us I r => ?_⟩
  rw [Vals.ref1 r]
  obtain ⟨its, rv, pl, hz⟩ := I.list h1
  refine call_tuple_list pl.isList (fun h' hk => ?_) (by rw [List.size_toArray, ← rv.length]; exact hz)
  have J : Inv X pins σ H { s with heap := h' } := I.kept (t' := s.toks) hk
  have hf := J.hok.fresh (Nat.le_refl h'.objs.size)
  have hget : (h'.push { cls := .type "tuple", data := .seq its.toArray }).get? h'.objs.size = some { cls := .type "tuple", data := .seq its.toArray } := Heap.get?_push_size _ rfl
  refine ⟨.ref h'.objs.size, upd H h'.objs.size (.frz { cls := .type "tuple", data := .seq its.toArray } (.tup xs)), ?_, rfl, h _ _ hf ((Same.refl H).new hf) ⟨_, upd_same, rfl, rfl⟩⟩
  refine J.laid (t' := s.toks) (fun c o z => Heap.get?_push_of_some _ z) (Nat.le_refl _) ⟨hget, hz, its, rv, ?_⟩
  exact IsTup.new _ _
end
end WX

set_option Elab.async false
set_option linter.all false
set_option maxRecDepth 100000
set_option maxHeartbeats 4000000
namespace K11
open PySem PySem.Spec PyProof.Rows L2 WX
def top (i : Nat) : Stmt := PySem.Challenge.pw_renamedown_k11_whole_rows_changed.main.body.getD i (.Pass ⟨0, 0, 0, 0⟩)
def big__TOO_LONG : Int := 100000000000000000000000000000000000000000000000000000000000000000000000000000000000000000000000000000000000000000000000000000000000000000000000000000000000000000000000000000000000000000000000000000000
abbrev S_is_integer : Stmt := top 11
abbrev N_is_integer : List Str := ["value"]
theorem sc_is_integer : FnScope N_is_integer ["value"] (defScope S_is_integer) := ⟨rfl, rfl, rfl, by decide +kernel, rfl, by decide +kernel, by decide +kernel⟩
abbrev S_is_owner : Stmt := top 12
abbrev N_is_owner : List Str := ["value"]
theorem sc_is_owner : FnScope N_is_owner ["value"] (defScope S_is_owner) := ⟨rfl, rfl, rfl, by decide +kernel, rfl, by decide +kernel, by decide +kernel⟩
abbrev S_is_number_of_places : Stmt := top 13
abbrev N_is_number_of_places : List Str := ["value"]
theorem sc_is_number_of_places : FnScope N_is_number_of_places ["value"] (defScope S_is_number_of_places) := ⟨rfl, rfl, rfl, by decide +kernel, rfl, by decide +kernel, by decide +kernel⟩
abbrev S_is_below : Stmt := top 14
abbrev N_is_below : List Str := ["limit", "value"]
theorem sc_is_below : FnScope N_is_below ["limit", "value"] (defScope S_is_below) := ⟨rfl, rfl, rfl, by decide +kernel, rfl, by decide +kernel, by decide +kernel⟩
abbrev S_check_number : Stmt := top 15
abbrev N_check_number : List Str := ["value", "least", "most"]
theorem sc_check_number : FnScope N_check_number ["value", "least", "most"] (defScope S_check_number) := ⟨rfl, rfl, rfl, by decide +kernel, rfl, by decide +kernel, by decide +kernel⟩
abbrev S_check_places : Stmt := top 16
abbrev N_check_places : List Str := ["places"]
theorem sc_check_places : FnScope N_check_places ["places"] (defScope S_check_places) := ⟨rfl, rfl, rfl, by decide +kernel, rfl, by decide +kernel, by decide +kernel⟩
abbrev S_is_exchange : Stmt := top 17
abbrev N_is_exchange : List Str := ["places", "value"]
theorem sc_is_exchange : FnScope N_is_exchange ["places", "value"] (defScope S_is_exchange) := ⟨rfl, rfl, rfl, by decide +kernel, rfl, by decide +kernel, by decide +kernel⟩
abbrev S_is_step : Stmt := top 18
abbrev N_is_step : List Str := ["places", "value"]
theorem sc_is_step : FnScope N_is_step ["places", "value"] (defScope S_is_step) := ⟨rfl, rfl, rfl, by decide +kernel, rfl, by decide +kernel, by decide +kernel⟩
abbrev S_place_behind : Stmt := top 19
abbrev N_place_behind : List Str := ["place", "exchange"]
theorem sc_place_behind : FnScope N_place_behind ["place", "exchange"] (defScope S_place_behind) := ⟨rfl, rfl, rfl, by decide +kernel, rfl, by decide +kernel, by decide +kernel⟩
abbrev S_is_deed : Stmt := top 22
abbrev N_is_deed : List Str := ["value", "place"]
theorem sc_is_deed : FnScope N_is_deed ["value"] (defScope S_is_deed) := ⟨rfl, rfl, rfl, by decide +kernel, rfl, by decide +kernel, by decide +kernel⟩
abbrev S__are_steps : Stmt := top 24
abbrev N__are_steps : List Str := ["places", "value", "step"]
theorem sc__are_steps : FnScope N__are_steps ["places", "value"] (defScope S__are_steps) := ⟨rfl, rfl, rfl, by decide +kernel, rfl, by decide +kernel, by decide +kernel⟩
abbrev S__step_named : Stmt := top 25
abbrev N__step_named : List Str := ["step", "names", "first", "second"]
theorem sc__step_named : FnScope N__step_named ["step", "names"] (defScope S__step_named) := ⟨rfl, rfl, rfl, by decide +kernel, rfl, by decide +kernel, by decide +kernel⟩
abbrev S__law_dice : Stmt := top 28
abbrev N__law_dice : List Str := ["script", "spot", "cell", "left"]
theorem sc__law_dice : FnScope N__law_dice ["script", "spot"] (defScope S__law_dice) := ⟨rfl, rfl, rfl, by decide +kernel, rfl, by decide +kernel, by decide +kernel⟩
abbrev S__law_roll : Stmt := top 29
abbrev N__law_roll : List Str := ["dice", "total", "found", "one", "two"]
theorem sc__law_roll : FnScope N__law_roll ["dice", "total"] (defScope S__law_roll) := ⟨rfl, rfl, rfl, by decide +kernel, rfl, by decide +kernel, by decide +kernel⟩
abbrev S__law_pick : Stmt := top 30
abbrev N__law_pick : List Str := ["dice", "items"]
theorem sc__law_pick : FnScope N__law_pick ["dice", "items"] (defScope S__law_pick) := ⟨rfl, rfl, rfl, by decide +kernel, rfl, by decide +kernel, by decide +kernel⟩
abbrev S__law_mixed : Stmt := top 31
abbrev N__law_mixed : List Str := ["dice", "items", "left", "found", "turn"]
theorem sc__law_mixed : FnScope N__law_mixed ["dice", "items"] (defScope S__law_mixed) := ⟨rfl, rfl, rfl, by decide +kernel, rfl, by decide +kernel, by decide +kernel⟩
abbrev S__law_exchange : Stmt := top 32
abbrev N__law_exchange : List Str := ["dice", "places", "one", "other"]
theorem sc__law_exchange : FnScope N__law_exchange ["dice", "places"] (defScope S__law_exchange) := ⟨rfl, rfl, rfl, by decide +kernel, rfl, by decide +kernel, by decide +kernel⟩
abbrev S__law_drawn_steps : Stmt := top 33
abbrev N__law_drawn_steps : List Str := ["dice", "places", "many", "owners", "found", "turn", "one", "other"]
theorem sc__law_drawn_steps : FnScope N__law_drawn_steps ["dice", "places", "many", "owners"] (defScope S__law_drawn_steps) := ⟨rfl, rfl, rfl, by decide +kernel, rfl, by decide +kernel, by decide +kernel⟩
abbrev S__law_small : Stmt := top 34
abbrev N__law_small : List Str := ["dice", "most", "many", "places", "owners"]
theorem sc__law_small : FnScope N__law_small ["dice", "most", "many"] (defScope S__law_small) := ⟨rfl, rfl, rfl, by decide +kernel, rfl, by decide +kernel, by decide +kernel⟩
abbrev S__law_great : Stmt := top 35
abbrev N__law_great : List Str := ["dice", "places", "many", "owners", "found", "cut", "turn", "low", "one", "other"]
theorem sc__law_great : FnScope N__law_great ["dice"] (defScope S__law_great) := ⟨rfl, rfl, rfl, by decide +kernel, rfl, by decide +kernel, by decide +kernel⟩
abbrev S__law_deed : Stmt := top 36
abbrev N__law_deed : List Str := ["places", "steps", "lies", "one", "other", "owner", "found", "place"]
theorem sc__law_deed : FnScope N__law_deed ["places", "steps"] (defScope S__law_deed) := ⟨rfl, rfl, rfl, by decide +kernel, rfl, by decide +kernel, by decide +kernel⟩
abbrev S__law_made_row : Stmt := top 37
abbrev N__law_made_row : List Str := ["places", "steps"]
theorem sc__law_made_row : FnScope N__law_made_row ["places", "steps"] (defScope S__law_made_row) := ⟨rfl, rfl, rfl, by decide +kernel, rfl, by decide +kernel, by decide +kernel⟩
abbrev S__law_row_here : Stmt := top 38
abbrev N__law_row_here : List Str := ["dice"]
theorem sc__law_row_here : FnScope N__law_row_here ["dice"] (defScope S__law_row_here) := ⟨rfl, rfl, rfl, by decide +kernel, rfl, by decide +kernel, by decide +kernel⟩
abbrev S__law_names : Stmt := top 39
abbrev N__law_names : List Str := ["dice", "places"]
theorem sc__law_names : FnScope N__law_names ["dice", "places"] (defScope S__law_names) := ⟨rfl, rfl, rfl, by decide +kernel, rfl, by decide +kernel, by decide +kernel⟩
abbrev S__law_step_named : Stmt := top 40
abbrev N__law_step_named : List Str := ["step", "names", "ends"]
theorem sc__law_step_named : FnScope N__law_step_named ["step", "names"] (defScope S__law_step_named) := ⟨rfl, rfl, rfl, by decide +kernel, rfl, by decide +kernel, by decide +kernel⟩
abbrev S__law_next : Stmt := top 41
abbrev N__law_next : List Str := ["dice", "places", "steps", "row", "way", "many", "index", "step", "last", "more", "names", "owners", "fresh", "wide", "sign"]
theorem sc__law_next : FnScope N__law_next ["dice", "places", "steps", "row"] (defScope S__law_next) := ⟨rfl, rfl, rfl, by decide +kernel, rfl, by decide +kernel, by decide +kernel⟩
abbrev S__law_going_right : Stmt := top 42
abbrev N__law_going_right : List Str := ["dice", "places", "steps", "row", "one", "other", "both", "back", "deed", "place"]
theorem sc__law_going_right : FnScope N__law_going_right ["dice", "places", "steps", "row"] (defScope S__law_going_right) := ⟨rfl, rfl, rfl, by decide +kernel, rfl, by decide +kernel, by decide +kernel⟩
abbrev S_law : Stmt := top 43
abbrev N_law : List Str := ["script", "spot", "dice", "places", "steps", "row", "turn", "fresh", "later", "changed", "told", "trio"]
theorem sc_law : FnScope N_law ["script"] (defScope S_law) := ⟨rfl, rfl, rfl, by decide +kernel, rfl, by decide +kernel, by decide +kernel⟩
abbrev S_Row___init__ : Stmt := inClass (top 26) 0
abbrev N_Row___init__ : List Str := ["self", "places", "steps"]
theorem sc_Row___init__ : FnScope N_Row___init__ ["self", "places", "steps"] (defScope S_Row___init__) := ⟨rfl, rfl, rfl, by decide +kernel, rfl, by decide +kernel, by decide +kernel⟩
abbrev S_Row_places : Stmt := inClass (top 26) 2
abbrev N_Row_places : List Str := ["self"]
theorem sc_Row_places : FnScope N_Row_places ["self"] (defScope S_Row_places) := ⟨rfl, rfl, rfl, by decide +kernel, rfl, by decide +kernel, by decide +kernel⟩
abbrev S_Row_steps : Stmt := inClass (top 26) 3
abbrev N_Row_steps : List Str := ["self"]
theorem sc_Row_steps : FnScope N_Row_steps ["self"] (defScope S_Row_steps) := ⟨rfl, rfl, rfl, by decide +kernel, rfl, by decide +kernel, by decide +kernel⟩
abbrev S_Row_exchanges : Stmt := inClass (top 26) 5
abbrev N_Row_exchanges : List Str := ["self", "step"]
theorem sc_Row_exchanges : FnScope N_Row_exchanges ["self"] (defScope S_Row_exchanges) := ⟨rfl, rfl, rfl, by decide +kernel, rfl, by decide +kernel, by decide +kernel⟩
abbrev S_Row_deed : Stmt := inClass (top 26) 7
abbrev N_Row_deed : List Str := ["self", "place"]
theorem sc_Row_deed : FnScope N_Row_deed ["self"] (defScope S_Row_deed) := ⟨rfl, rfl, rfl, by decide +kernel, rfl, by decide +kernel, by decide +kernel⟩
abbrev S_Row_path : Stmt := inClass (top 26) 8
abbrev N_Row_path : List Str := ["self", "place", "stops", "step"]
theorem sc_Row_path : FnScope N_Row_path ["self", "place"] (defScope S_Row_path) := ⟨rfl, rfl, rfl, by decide +kernel, rfl, by decide +kernel, by decide +kernel⟩
abbrev S_Row_with_step : Stmt := inClass (top 26) 10
abbrev N_Row_with_step : List Str := ["self", "index", "step"]
theorem sc_Row_with_step : FnScope N_Row_with_step ["self", "index", "step"] (defScope S_Row_with_step) := ⟨rfl, rfl, rfl, by decide +kernel, rfl, by decide +kernel, by decide +kernel⟩
abbrev S_Row_without_step : Stmt := inClass (top 26) 11
abbrev N_Row_without_step : List Str := ["self", "index"]
theorem sc_Row_without_step : FnScope N_Row_without_step ["self", "index"] (defScope S_Row_without_step) := ⟨rfl, rfl, rfl, by decide +kernel, rfl, by decide +kernel, by decide +kernel⟩
abbrev S_Row_part : Stmt := inClass (top 26) 12
abbrev N_Row_part : List Str := ["self", "first", "last"]
theorem sc_Row_part : FnScope N_Row_part ["self", "first", "last"] (defScope S_Row_part) := ⟨rfl, rfl, rfl, by decide +kernel, rfl, by decide +kernel, by decide +kernel⟩
abbrev S_Row_backwards : Stmt := inClass (top 26) 13
abbrev N_Row_backwards : List Str := ["self"]
theorem sc_Row_backwards : FnScope N_Row_backwards ["self"] (defScope S_Row_backwards) := ⟨rfl, rfl, rfl, by decide +kernel, rfl, by decide +kernel, by decide +kernel⟩
abbrev S_Row_renamed : Stmt := inClass (top 26) 14
abbrev N_Row_renamed : List Str := ["self", "names", "step"]
theorem sc_Row_renamed : FnScope N_Row_renamed ["self", "names"] (defScope S_Row_renamed) := ⟨rfl, rfl, rfl, by decide +kernel, rfl, by decide +kernel, by decide +kernel⟩
abbrev S_Row_owned : Stmt := inClass (top 26) 15
abbrev N_Row_owned : List Str := ["self", "owners", "steps", "step", "owner", "letter"]
theorem sc_Row_owned : FnScope N_Row_owned ["self", "owners"] (defScope S_Row_owned) := ⟨rfl, rfl, rfl, by decide +kernel, rfl, by decide +kernel, by decide +kernel⟩
abbrev S_Row_wider : Stmt := inClass (top 26) 16
abbrev N_Row_wider : List Str := ["self", "places"]
theorem sc_Row_wider : FnScope N_Row_wider ["self", "places"] (defScope S_Row_wider) := ⟨rfl, rfl, rfl, by decide +kernel, rfl, by decide +kernel, by decide +kernel⟩
abbrev S_Row___add__ : Stmt := inClass (top 26) 18
abbrev N_Row___add__ : List Str := ["self", "other"]
theorem sc_Row___add__ : FnScope N_Row___add__ ["self", "other"] (defScope S_Row___add__) := ⟨rfl, rfl, rfl, by decide +kernel, rfl, by decide +kernel, by decide +kernel⟩
abbrev S_Row___eq__ : Stmt := inClass (top 26) 23
abbrev N_Row___eq__ : List Str := ["self", "other"]
theorem sc_Row___eq__ : FnScope N_Row___eq__ ["self", "other"] (defScope S_Row___eq__) := ⟨rfl, rfl, rfl, by decide +kernel, rfl, by decide +kernel, by decide +kernel⟩
/-- what the top has left -/
structure Tx (K : PySem.W.Frag) (mg : Str → Option Value) (C_Row : Addr) : Prop where
  z_abs : mg "abs" = none
  z_all : mg "all" = none
  z_bool : mg "bool" = none
  z_int : mg "int" = none
  z_isinstance : mg "isinstance" = none
  z_len : mg "len" = none
  z_list : mg "list" = none
  z_max : mg "max" = none
  z_min : mg "min" = none
  z_range : mg "range" = none
  z_repr : mg "repr" = none
  z_sorted : mg "sorted" = none
  z_str : mg "str" = none
  z_tuple : mg "tuple" = none
  z_zip : mg "zip" = none
  c_MAX_PLACES : ∃ t : Tok, mg "MAX_PLACES" = some (Value.int 12 t)
  c_MAX_STEPS : ∃ t : Tok, mg "MAX_STEPS" = some (Value.int 24 t)
  c__TOO_LONG : ∃ t : Tok, mg "_TOO_LONG" = some (Value.int big__TOO_LONG t)
  k_Row : mg "Row" = some (.ref C_Row)
  cl_Row : Cls K C_Row
  na_Row__places : NoAttr K C_Row "_places"
  na_Row__steps : NoAttr K C_Row "_steps"
  ic_Row : IsiC K C_Row
  sf_Row : PySem.W.selfFirst K C_Row = true
  ne_Row : PySem.W.findIn K (.ref C_Row) "__ne__" = some (some (.builtin "object.__ne__"))
  d_is_integer : ∃ f fd, L2.Fun K "is_integer" "is_integer" S_is_integer f fd ∧ mg "is_integer" = some (.ref f)
  d_is_owner : ∃ f fd, L2.Fun K "is_owner" "is_owner" S_is_owner f fd ∧ mg "is_owner" = some (.ref f)
  d_is_number_of_places : ∃ f fd, L2.Fun K "is_number_of_places" "is_number_of_places" S_is_number_of_places f fd ∧ mg "is_number_of_places" = some (.ref f)
  d_is_below : ∃ f fd, L2.Fun K "is_below" "is_below" S_is_below f fd ∧ mg "is_below" = some (.ref f)
  d_check_number : ∃ f fd, L2.Fun K "check_number" "check_number" S_check_number f fd ∧ mg "check_number" = some (.ref f)
  d_check_places : ∃ f fd, L2.Fun K "check_places" "check_places" S_check_places f fd ∧ mg "check_places" = some (.ref f)
  d_is_exchange : ∃ f fd, L2.Fun K "is_exchange" "is_exchange" S_is_exchange f fd ∧ mg "is_exchange" = some (.ref f)
  d_is_step : ∃ f fd, L2.Fun K "is_step" "is_step" S_is_step f fd ∧ mg "is_step" = some (.ref f)
  d_place_behind : ∃ f fd, L2.Fun K "place_behind" "place_behind" S_place_behind f fd ∧ mg "place_behind" = some (.ref f)
  d_is_deed : ∃ f fd, L2.Fun K "is_deed" "is_deed" S_is_deed f fd ∧ mg "is_deed" = some (.ref f)
  d__are_steps : ∃ f fd, L2.Fun K "_are_steps" "_are_steps" S__are_steps f fd ∧ mg "_are_steps" = some (.ref f)
  d__step_named : ∃ f fd, L2.Fun K "_step_named" "_step_named" S__step_named f fd ∧ mg "_step_named" = some (.ref f)
  d__law_dice : ∃ f fd, L2.Fun K "_law_dice" "_law_dice" S__law_dice f fd ∧ mg "_law_dice" = some (.ref f)
  d__law_roll : ∃ f fd, L2.Fun K "_law_roll" "_law_roll" S__law_roll f fd ∧ mg "_law_roll" = some (.ref f)
  d__law_pick : ∃ f fd, L2.Fun K "_law_pick" "_law_pick" S__law_pick f fd ∧ mg "_law_pick" = some (.ref f)
  d__law_mixed : ∃ f fd, L2.Fun K "_law_mixed" "_law_mixed" S__law_mixed f fd ∧ mg "_law_mixed" = some (.ref f)
  d__law_exchange : ∃ f fd, L2.Fun K "_law_exchange" "_law_exchange" S__law_exchange f fd ∧ mg "_law_exchange" = some (.ref f)
  d__law_drawn_steps : ∃ f fd, L2.Fun K "_law_drawn_steps" "_law_drawn_steps" S__law_drawn_steps f fd ∧ mg "_law_drawn_steps" = some (.ref f)
  d__law_small : ∃ f fd, L2.Fun K "_law_small" "_law_small" S__law_small f fd ∧ mg "_law_small" = some (.ref f)
  d__law_great : ∃ f fd, L2.Fun K "_law_great" "_law_great" S__law_great f fd ∧ mg "_law_great" = some (.ref f)
  d__law_deed : ∃ f fd, L2.Fun K "_law_deed" "_law_deed" S__law_deed f fd ∧ mg "_law_deed" = some (.ref f)
  d__law_made_row : ∃ f fd, L2.Fun K "_law_made_row" "_law_made_row" S__law_made_row f fd ∧ mg "_law_made_row" = some (.ref f)
  d__law_row_here : ∃ f fd, L2.Fun K "_law_row_here" "_law_row_here" S__law_row_here f fd ∧ mg "_law_row_here" = some (.ref f)
  d__law_names : ∃ f fd, L2.Fun K "_law_names" "_law_names" S__law_names f fd ∧ mg "_law_names" = some (.ref f)
  d__law_step_named : ∃ f fd, L2.Fun K "_law_step_named" "_law_step_named" S__law_step_named f fd ∧ mg "_law_step_named" = some (.ref f)
  d__law_next : ∃ f fd, L2.Fun K "_law_next" "_law_next" S__law_next f fd ∧ mg "_law_next" = some (.ref f)
  d__law_going_right : ∃ f fd, L2.Fun K "_law_going_right" "_law_going_right" S__law_going_right f fd ∧ mg "_law_going_right" = some (.ref f)
  d_Row___init__ : ∃ f fd t0, L2.FunD K "__init__" "Row.__init__" (defArgs S_Row___init__) (defBody S_Row___init__) (defScope S_Row___init__) [.ref t0] [] f fd ∧ Mk K C_Row f ∧ ∃ dd sl n0, K.lookup t0 = some ⟨.type "tuple", dd, .seq #[] n0, sl⟩
  d_Row_places : ∃ p f fd, L2.Fun K "places" "Row.places" S_Row_places f fd ∧ PropOf K C_Row "places" p f
  d_Row_steps : ∃ p f fd, L2.Fun K "steps" "Row.steps" S_Row_steps f fd ∧ PropOf K C_Row "steps" p f
  d_Row_exchanges : ∃ p f fd, L2.Fun K "exchanges" "Row.exchanges" S_Row_exchanges f fd ∧ PropOf K C_Row "exchanges" p f
  d_Row_deed : ∃ p f fd, L2.Fun K "deed" "Row.deed" S_Row_deed f fd ∧ PropOf K C_Row "deed" p f
  d_Row_path : ∃ f fd, L2.Fun K "path" "Row.path" S_Row_path f fd ∧ Meth K C_Row "path" f
  d_Row_with_step : ∃ f fd, L2.Fun K "with_step" "Row.with_step" S_Row_with_step f fd ∧ Meth K C_Row "with_step" f
  d_Row_without_step : ∃ f fd, L2.Fun K "without_step" "Row.without_step" S_Row_without_step f fd ∧ Meth K C_Row "without_step" f
  d_Row_part : ∃ f fd, L2.Fun K "part" "Row.part" S_Row_part f fd ∧ Meth K C_Row "part" f
  d_Row_backwards : ∃ f fd, L2.Fun K "backwards" "Row.backwards" S_Row_backwards f fd ∧ Meth K C_Row "backwards" f
  d_Row_renamed : ∃ f fd, L2.Fun K "renamed" "Row.renamed" S_Row_renamed f fd ∧ Meth K C_Row "renamed" f
  d_Row_owned : ∃ f fd, L2.Fun K "owned" "Row.owned" S_Row_owned f fd ∧ Meth K C_Row "owned" f
  d_Row_wider : ∃ f fd, L2.Fun K "wider" "Row.wider" S_Row_wider f fd ∧ Meth K C_Row "wider" f
  d_Row___add__ : ∃ f fd, L2.Fun K "__add__" "Row.__add__" S_Row___add__ f fd ∧ Meth K C_Row "__add__" f
  d_Row___eq__ : ∃ f fd, L2.Fun K "__eq__" "Row.__eq__" S_Row___eq__ f fd ∧ Meth K C_Row "__eq__" f

local macro_rules | `(tactic| walk_at "kit") => `(tactic| with_reducible first | exact kit_NoneType_int | exact kit_NoneType_bool | exact kit_NoneType_str | exact kit_NoneType_tuple | exact kit_NoneType_list | exact kit_NoneType_dict | exact kit_bool_int | exact kit_bool_bool | exact kit_bool_str | exact kit_bool_tuple | exact kit_bool_list | exact kit_bool_dict | exact kit_int_int | exact kit_int_bool | exact kit_int_str | exact kit_int_tuple | exact kit_int_list | exact kit_int_dict | exact kit_str_int | exact kit_str_bool | exact kit_str_str | exact kit_str_tuple | exact kit_str_list | exact kit_str_dict | exact kit_list_int | exact kit_list_bool | exact kit_list_str | exact kit_list_tuple | exact kit_list_list | exact kit_list_dict | exact kit_tuple_int | exact kit_tuple_bool | exact kit_tuple_str | exact kit_tuple_tuple | exact kit_tuple_list | exact kit_tuple_dict | exact kit_dict_int | exact kit_dict_bool | exact kit_dict_str | exact kit_dict_tuple | exact kit_dict_list | exact kit_dict_dict)
local macro_rules | `(tactic| walk_at "nm") => `(tactic| first
  | (refine' e_lo _ ?nm ?lc ?sl ?_; (case nm => with_reducible assumption); (case lc => with_reducible assumption); (case sl => rfl))
  | (refine' e_ce _ ?nm ?lc ?sl ?_; (case nm => with_reducible assumption); (case lc => with_reducible assumption); (case sl => rfl))
  | (refine' e_gi ?g ?m ?_; (case g => with_reducible assumption); (case m => with_reducible assumption))
  | (refine' e_ty ?g ?m ?v ?_; (case g => with_reducible assumption); (case m => with_reducible assumption); (case v => with_reducible assumption)))
local macro_rules | `(tactic| walk_at "ex") => `(tactic| first
  | refine e_int ?_ | refine e_bl ?_ | refine e_str ?_ | refine e_non ?_
  | walk_at "nm"
  | refine e_bin ?_ | refine e_not ?_ | refine e_un ?_ | refine e_cmpn ?_ | refine e_chain ?_
  | refine e_dict_i ?_ | refine e_dict_s ?_ | refine e_one ?_ | refine e_and ?_ | refine e_or ?_ | refine e_if ?_ | refine e_ixp ?_ | refine e_tup ?_ | refine e_lst ?_
  | (refine' e_callB ?g ?m ?v ?_; (case g => with_reducible assumption); (case m => with_reducible assumption); (case v => with_reducible assumption))
  | (refine' e_callT ?g ?m ?v ?_; (case g => with_reducible assumption); (case m => with_reducible assumption); (case v => with_reducible assumption)))
local macro_rules | `(tactic| walk_at "op") => `(tactic| first
  | refine o_add ?_ | refine o_sub ?_ | refine o_lt ?_ | refine o_le ?_ | refine o_gt ?_ | refine o_ge ?_ | refine o_neg ?_
  | refine o_mod (by omega) ?_ | refine o_eq rfl ?_ | refine o_ne rfl ?_
  | refine o_pow ⟨by decide, by decide, by decide⟩ ?_
  | refine c_abs ?_ | refine c_int ?_ | refine c_intb ?_ | refine c_max ‹Bd _ _ _ _›.calm ?_ | refine c_min ‹Bd _ _ _ _›.calm ?_)
local macro_rules | `(tactic| walk_at "st") => `(tactic| first
  | refine b_one ?_ | refine b_cons ?_ | refine b_nil ?_ | refine s_ret ?_ | refine s_expr ?_ | refine s_doc ?_ | refine s_pass ?_ | refine s_if ?_
  | (refine' s_lo _ ‹Bd _ _ _ _› ?nm ?lc ?_; (case nm => with_reducible assumption); (case lc => with_reducible assumption))
  | (refine' s_ce _ ‹Bd _ _ _ _› (by assumption) ?nm ?lc ?_; (case nm => with_reducible assumption); (case lc => with_reducible assumption))
  | refine s_sub ?_)
local macro_rules | `(tactic| walk_at "ts") => `(tactic| first
  | refine t_cmpn ?_ | refine t_chain ?_ | refine t_not ?_ | refine w_and1 ?_ | refine w_or1 ?_ | refine w_and ?_ | refine w_or ?_ | ((with_reducible show wT _ (Expr.BoolOp _ _ _) _ _ _); refine t_w ?_) | refine t_val (fun _ => rfl) ?_)
local macro_rules | `(tactic| walk_at "wx") => `(tactic| first
  | ((with_reducible show wB _ _ _ _ _); walk_at "st") | ((with_reducible show wS _ _ _ _ _); walk_at "st") | ((with_reducible show wE _ _ _ _ _); walk_at "ex") | ((with_reducible show wO _ _ _ _ _ _); walk_at "op") | ((with_reducible show wU _ _ _ _ _); walk_at "op") | ((with_reducible show wC _ _ _ _ _); walk_at "op")
  | ((with_reducible show wT _ _ _ _ _); walk_at "ts") | ((with_reducible show wW _ _ _ _ _); walk_at "ts")
  | ((with_reducible show wA _ _ _ _ _); first | refine a_nil ?_ | refine a_cons ?_))
local macro_rules | `(tactic| walk_at "ws") => `(tactic| repeat (walk_at "wx"))
local macro_rules | `(tactic| walk_at "lg") => `(tactic| first
  | with_reducible refine iteT ?_ | with_reducible refine iteF ?_ | with_reducible refine iteNF ?_ | with_reducible refine iteNT ?_
  | with_reducible refine ⟨_, rfl, ?_⟩)
local macro_rules | `(tactic| walk_at "isi") => `(tactic| ((with_reducible show wC _ (Value.builtin "isinstance") _ _ _); first
  | (refine' c_isi (TyX.base (TyOf.int _)) ?e ?_; (case e => walk_at "kit"))
  | (refine' c_isi (TyX.base (TyOf.bl _)) ?e ?_; (case e => walk_at "kit"))
  | (refine' c_isi (TyX.base TyOf.non) ?e ?_; (case e => walk_at "kit"))
  | (refine' c_isi (TyX.base (TyOf.str _)) ?e ?_; (case e => walk_at "kit"))
  | (refine' c_isi (TyX.base (TyOf.lst ?h)) ?e ?_; (case h => assumption); (case e => walk_at "kit"))
  | (refine' c_isi (TyX.base (TyOf.tup ?h)) ?e ?_; (case h => assumption); (case e => walk_at "kit"))
  | (refine' c_isi (ty_tup ?h) ?e ?_; (case h => assumption); (case e => walk_at "kit"))
  | (refine' c_isi (ty_lst ?h) ?e ?_; (case h => assumption); (case e => walk_at "kit"))
  | (refine' c_isi (TyX.base (TyOf.dK ?h)) ?e ?_; (case h => assumption); (case e => walk_at "kit"))))
local macro_rules | `(tactic| walk_at "wz") => `(tactic| repeat (first | walk_at "wx" | walk_at "isi" | walk_at "lg" | walk_at "cl" | walk_at "sp"))
local macro_rules | `(tactic| walk_at "mul") => `(tactic| first | (refine o_mul (.inr ⟨by decide, by decide⟩) ?_) | (refine o_mul (.inl ⟨by decide, by decide⟩) ?_) | (refine o_mul (.inl ⟨by omega, by omega⟩) ?_) | (refine o_mul (.inr ⟨by omega, by omega⟩) ?_))
local macro_rules | `(tactic| walk_at "nw") => `(tactic| ((refine ⟨?z, ?_⟩); (case z => (simp only [List.length_cons, List.length_nil]; decide)); intro p hp))

/-- a step as data -/
def stp (s : Int × Int × Str) : PyData := .tuple [.int s.1, .int s.2.1, .str s.2.2]
def okO (o : Str) : Prop := o.length = 1 ∧ ¬ (o.cps.toList < ("a" : Str).cps.toList) ∧ ¬ (("z" : Str).cps.toList < o.cps.toList)
def okE (P : Int) (x y : Int) : Prop := 0 ≤ x ∧ x < y ∧ y < P
def okS (P : Int) (s : Int × Int × Str) : Prop := okE P s.1 s.2.1 ∧ okO s.2.2
/-- where an exchange puts the thing of a place -/
def pb (x y p : Int) : Int := if p = x then y else if p = y then x else p
theorem isI_of {i : Int} (h1 : -1000000 ≤ i) (h2 : i ≤ 1000000) : (decide (-big__TOO_LONG < i) && decide (i < big__TOO_LONG)) = true := by
  have hb : (1000000 : Int) < big__TOO_LONG := by decide
  rw [decide_eq_true (by omega), decide_eq_true (by omega)]; rfl
local macro_rules | `(tactic| walk_at "hg") => `(tactic| first | exact upd_same | assumption | (refine upd_keep (by assumption) ?_; walk_at "hg"))
def sp_is_integer (K : PySem.W.Frag) (C_Row : Addr) : Sp := fun vs H Q _ => ∃ i, vs = [.int i] ∧ Q (.bl (decide (-big__TOO_LONG < i) && decide (i < big__TOO_LONG))) H
theorem b_is_integer {X : Cx} {C_Row : Addr} (B : Bd X N_is_integer (defScope S_is_integer) 0) (F : ∀ x, X.fn x = true) (T : Tx X.K X.mg C_Row) {vs : List V} {H : Hp} {Q : VK} {E : XK} (h : sp_is_integer X.K C_Row vs H Q E) :
    wB X (defBody S_is_integer) { nx := fun _ H' => Q .non H', rt := Q } (start N_is_integer vs) H := by
  have n_value : X.N[0]? = some ("value" : Str) := B.slot 0 rfl
  have l_value : X.env.scope.names.lookup ("value" : Str) = some NameKind.local := B.loc rfl
  have g_isinstance : Gl X "isinstance" := B.gl rfl
  have z_isinstance := T.z_isinstance
  have v_isinstance := bb_isinstance
  have g_int : Gl X "int" := B.gl rfl
  have z_int := T.z_int
  have v_int := bb_int
  have g_bool : Gl X "bool" := B.gl rfl
  have z_bool := T.z_bool
  have v_bool := bb_bool
  have g__TOO_LONG : Gl X "_TOO_LONG" := B.gl rfl
  obtain ⟨t__TOO_LONG, c__TOO_LONG⟩ := T.c__TOO_LONG
  obtain ⟨i, rfl, q⟩ := h
  walk_at "wz"
  refine iteD (fun h1 => ?_) (fun h1 => ?_)
  · walk_at "wz"
    rw [decide_eq_true h1, Bool.true_and] at q
    exact q
  · rw [decide_eq_false h1, Bool.false_and] at q
    exact q
theorem len_is_integer {K : PySem.W.Frag} {C_Row : Addr} : ∀ vs H Q E, sp_is_integer K C_Row vs H Q E → vs.length = 1 := by
  intro vs H Q E h
  obtain ⟨_, e, _⟩ := h
  rw [e]; rfl
theorem D_is_integer {P : Program} {w : World} {K : PySem.W.Frag} {mg : Str → Option Value} {base : Heap} {C_Row : Addr} (T : Tx K mg C_Row) : Dk P w K mg base "is_integer" 1 ["value"] (sp_is_integer K C_Row) :=
  dk_of T.d_is_integer sc_is_integer (fun _ _ _ _ _ _ us hl => match us, hl with | [_], _ => rfl) len_is_integer (fun X e1 e2 e3 e4 e5 B F vs H Q E h => by subst e1 e2 e3 e4 e5; exact b_is_integer B F T h)
local macro_rules | `(tactic| walk_at "cl") => `(tactic| (refine' e_callk (D_is_integer ‹Tx _ _ _›) ?rm ?gl ?_; (case rm => exact ‹Bd _ _ _ _›.room.mono (by decide)); (case gl => with_reducible assumption)))
local macro_rules | `(tactic| walk_at "sp") => `(tactic| ((with_reducible show sp_is_integer _ _ _ _ _ _); refine ⟨_, rfl, ?_⟩))
def sp_is_owner (K : PySem.W.Frag) (C_Row : Addr) : Sp := fun vs H Q _ => ∃ o, vs = [.str o] ∧ okO o ∧ Q (.bl true) H
theorem b_is_owner {X : Cx} {C_Row : Addr} (B : Bd X N_is_owner (defScope S_is_owner) 0) (F : ∀ x, X.fn x = true) (T : Tx X.K X.mg C_Row) {vs : List V} {H : Hp} {Q : VK} {E : XK} (h : sp_is_owner X.K C_Row vs H Q E) :
    wB X (defBody S_is_owner) { nx := fun _ H' => Q .non H', rt := Q } (start N_is_owner vs) H := by
  have n_value : X.N[0]? = some ("value" : Str) := B.slot 0 rfl
  have l_value : X.env.scope.names.lookup ("value" : Str) = some NameKind.local := B.loc rfl
  have g_isinstance : Gl X "isinstance" := B.gl rfl
  have z_isinstance := T.z_isinstance
  have v_isinstance := bb_isinstance
  have g_str : Gl X "str" := B.gl rfl
  have z_str := T.z_str
  have v_str := bb_str
  have g_len : Gl X "len" := B.gl rfl
  have z_len := T.z_len
  have v_len := bb_len
  obtain ⟨o, rfl, ⟨h1, h2, h3⟩, q⟩ := h
  walk_at "wz"
  refine c_lenS (by rw [h1]; decide) ?_
  rw [h1]
  walk_at "wz"
  refine iteD (fun _ => ?_) (fun z => absurd rfl z)
  walk_at "wz"
  refine o_les ?_
  walk_at "wz"
  rw [decide_eq_false h2]
  walk_at "wz"
  refine o_les ?_
  rw [decide_eq_false h3]
  exact q
theorem len_is_owner {K : PySem.W.Frag} {C_Row : Addr} : ∀ vs H Q E, sp_is_owner K C_Row vs H Q E → vs.length = 1 := by
  intro vs H Q E h
  obtain ⟨_, e, _⟩ := h
  rw [e]; rfl
theorem D_is_owner {P : Program} {w : World} {K : PySem.W.Frag} {mg : Str → Option Value} {base : Heap} {C_Row : Addr} (T : Tx K mg C_Row) : Dk P w K mg base "is_owner" 1 ["value"] (sp_is_owner K C_Row) :=
  dk_of T.d_is_owner sc_is_owner (fun _ _ _ _ _ _ us hl => match us, hl with | [_], _ => rfl) len_is_owner (fun X e1 e2 e3 e4 e5 B F vs H Q E h => by subst e1 e2 e3 e4 e5; exact b_is_owner B F T h)
local macro_rules | `(tactic| walk_at "cl") => `(tactic| (refine' e_callk (D_is_owner ‹Tx _ _ _›) ?rm ?gl ?_; (case rm => exact ‹Bd _ _ _ _›.room.mono (by decide)); (case gl => with_reducible assumption)))
local macro_rules | `(tactic| walk_at "sp") => `(tactic| ((with_reducible show sp_is_owner _ _ _ _ _ _); refine ⟨_, rfl, by first | assumption | exact And.right (by assumption), ?_⟩))
def sp_is_below (K : PySem.W.Frag) (C_Row : Addr) : Sp := fun vs H Q _ => ∃ l i, vs = [.int l, .int i] ∧ 0 ≤ i ∧ i < l ∧ i ≤ 1000000 ∧ Q (.bl true) H
theorem b_is_below {X : Cx} {C_Row : Addr} (B : Bd X N_is_below (defScope S_is_below) 1) (F : ∀ x, X.fn x = true) (T : Tx X.K X.mg C_Row) {vs : List V} {H : Hp} {Q : VK} {E : XK} (h : sp_is_below X.K C_Row vs H Q E) :
    wB X (defBody S_is_below) { nx := fun _ H' => Q .non H', rt := Q } (start N_is_below vs) H := by
  have n_limit : X.N[0]? = some ("limit" : Str) := B.slot 0 rfl
  have l_limit : X.env.scope.names.lookup ("limit" : Str) = some NameKind.local := B.loc rfl
  have n_value : X.N[1]? = some ("value" : Str) := B.slot 1 rfl
  have l_value : X.env.scope.names.lookup ("value" : Str) = some NameKind.local := B.loc rfl
  have g_is_integer : Gl X "is_integer" := B.gl rfl
  obtain ⟨l, i, rfl, h1, h2, h3, q⟩ := h
  walk_at "wz"
  rw [isI_of (by omega) (by omega)]
  walk_at "wz"
  rw [decide_eq_true h1]
  walk_at "wz"
  rw [decide_eq_true h2]
  exact q
theorem len_is_below {K : PySem.W.Frag} {C_Row : Addr} : ∀ vs H Q E, sp_is_below K C_Row vs H Q E → vs.length = 2 := by
  intro vs H Q E h
  obtain ⟨_, _, e, _⟩ := h
  rw [e]; rfl
theorem D_is_below {P : Program} {w : World} {K : PySem.W.Frag} {mg : Str → Option Value} {base : Heap} {C_Row : Addr} (T : Tx K mg C_Row) : Dk P w K mg base "is_below" 2 ["limit", "value"] (sp_is_below K C_Row) :=
  dk_of T.d_is_below sc_is_below (fun _ _ _ _ _ _ us hl => match us, hl with | [_, _], _ => rfl) len_is_below (fun X e1 e2 e3 e4 e5 B F vs H Q E h => by subst e1 e2 e3 e4 e5; exact b_is_below B F T h)
local macro_rules | `(tactic| walk_at "cl") => `(tactic| (refine' e_callk (D_is_below ‹Tx _ _ _›) ?rm ?gl ?_; (case rm => exact ‹Bd _ _ _ _›.room.mono (by decide)); (case gl => with_reducible assumption)))
local macro_rules | `(tactic| walk_at "sp") => `(tactic| ((with_reducible show sp_is_below _ _ _ _ _ _); refine ⟨_, _, rfl, by omega, by omega, by omega, ?_⟩))
def sp_check_number (K : PySem.W.Frag) (C_Row : Addr) : Sp := fun vs H Q _ => ∃ i l m, vs = [.int i, .int l, .int m] ∧ l ≤ i ∧ i ≤ m ∧ -1000000 ≤ i ∧ i ≤ 1000000 ∧ Q .non H
theorem b_check_number {X : Cx} {C_Row : Addr} (B : Bd X N_check_number (defScope S_check_number) 1) (F : ∀ x, X.fn x = true) (T : Tx X.K X.mg C_Row) {vs : List V} {H : Hp} {Q : VK} {E : XK} (h : sp_check_number X.K C_Row vs H Q E) :
    wB X (defBody S_check_number) { nx := fun _ H' => Q .non H', rt := Q } (start N_check_number vs) H := by
  have n_value : X.N[0]? = some ("value" : Str) := B.slot 0 rfl
  have l_value : X.env.scope.names.lookup ("value" : Str) = some NameKind.local := B.loc rfl
  have n_least : X.N[1]? = some ("least" : Str) := B.slot 1 rfl
  have l_least : X.env.scope.names.lookup ("least" : Str) = some NameKind.local := B.loc rfl
  have n_most : X.N[2]? = some ("most" : Str) := B.slot 2 rfl
  have l_most : X.env.scope.names.lookup ("most" : Str) = some NameKind.local := B.loc rfl
  have g_is_integer : Gl X "is_integer" := B.gl rfl
  have g_InvalidNumber : Gl X "InvalidNumber" := B.gl rfl
  obtain ⟨i, l, m, rfl, h1, h2, h3, h4, q⟩ := h
  walk_at "wz"
  rw [isI_of (by omega) (by omega)]
  walk_at "wz"
  refine iteD (fun z => absurd z (by omega)) (fun _ => ?_)
  walk_at "wz"
  rw [decide_eq_false (by omega)]
  walk_at "wz"
  exact q
theorem len_check_number {K : PySem.W.Frag} {C_Row : Addr} : ∀ vs H Q E, sp_check_number K C_Row vs H Q E → vs.length = 3 := by
  intro vs H Q E h
  obtain ⟨_, _, _, e, _⟩ := h
  rw [e]; rfl
theorem D_check_number {P : Program} {w : World} {K : PySem.W.Frag} {mg : Str → Option Value} {base : Heap} {C_Row : Addr} (T : Tx K mg C_Row) : Dk P w K mg base "check_number" 2 ["value", "least", "most"] (sp_check_number K C_Row) :=
  dk_of T.d_check_number sc_check_number (fun _ _ _ _ _ _ us hl => match us, hl with | [_, _, _], _ => rfl) len_check_number (fun X e1 e2 e3 e4 e5 B F vs H Q E h => by subst e1 e2 e3 e4 e5; exact b_check_number B F T h)
local macro_rules | `(tactic| walk_at "cl") => `(tactic| (refine' e_callk (D_check_number ‹Tx _ _ _›) ?rm ?gl ?_; (case rm => exact ‹Bd _ _ _ _›.room.mono (by decide)); (case gl => with_reducible assumption)))
local macro_rules | `(tactic| walk_at "sp") => `(tactic| ((with_reducible show sp_check_number _ _ _ _ _ _); refine ⟨_, _, _, rfl, by omega, by omega, by omega, by omega, ?_⟩))
def sp_check_places (K : PySem.W.Frag) (C_Row : Addr) : Sp := fun vs H Q _ => ∃ i, vs = [.int i] ∧ 1 ≤ i ∧ i ≤ 12 ∧ Q .non H
theorem b_check_places {X : Cx} {C_Row : Addr} (B : Bd X N_check_places (defScope S_check_places) 2) (F : ∀ x, X.fn x = true) (T : Tx X.K X.mg C_Row) {vs : List V} {H : Hp} {Q : VK} {E : XK} (h : sp_check_places X.K C_Row vs H Q E) :
    wB X (defBody S_check_places) { nx := fun _ H' => Q .non H', rt := Q } (start N_check_places vs) H := by
  have n_places : X.N[0]? = some ("places" : Str) := B.slot 0 rfl
  have l_places : X.env.scope.names.lookup ("places" : Str) = some NameKind.local := B.loc rfl
  have g_check_number : Gl X "check_number" := B.gl rfl
  have g_MAX_PLACES : Gl X "MAX_PLACES" := B.gl rfl
  obtain ⟨t_MAX_PLACES, c_MAX_PLACES⟩ := T.c_MAX_PLACES
  obtain ⟨i, rfl, h1, h2, q⟩ := h
  walk_at "wz"
  exact q
theorem len_check_places {K : PySem.W.Frag} {C_Row : Addr} : ∀ vs H Q E, sp_check_places K C_Row vs H Q E → vs.length = 1 := by
  intro vs H Q E h
  obtain ⟨_, e, _⟩ := h
  rw [e]; rfl
theorem D_check_places {P : Program} {w : World} {K : PySem.W.Frag} {mg : Str → Option Value} {base : Heap} {C_Row : Addr} (T : Tx K mg C_Row) : Dk P w K mg base "check_places" 3 ["places"] (sp_check_places K C_Row) :=
  dk_of T.d_check_places sc_check_places (fun _ _ _ _ _ _ us hl => match us, hl with | [_], _ => rfl) len_check_places (fun X e1 e2 e3 e4 e5 B F vs H Q E h => by subst e1 e2 e3 e4 e5; exact b_check_places B F T h)
local macro_rules | `(tactic| walk_at "cl") => `(tactic| (refine' e_callk (D_check_places ‹Tx _ _ _›) ?rm ?gl ?_; (case rm => exact ‹Bd _ _ _ _›.room.mono (by decide)); (case gl => with_reducible assumption)))
local macro_rules | `(tactic| walk_at "sp") => `(tactic| ((with_reducible show sp_check_places _ _ _ _ _ _); refine ⟨_, rfl, by omega, by omega, ?_⟩))
def sp_is_exchange (K : PySem.W.Frag) (C_Row : Addr) : Sp := fun vs H Q _ => ∃ P v x y, vs = [.int P, v] ∧ 1 ≤ P ∧ P ≤ 12 ∧ Dp K H v (.tuple [.int x, .int y]) ∧ okE P x y ∧ Q (.bl true) H
theorem dp_two {K : PySem.W.Frag} {H : Hp} {v : V} {x y : Int} (h : Dp K H v (.tuple [.int x, .int y])) : ∃ a, v = .ref a ∧ SqT K H a [.int x, .int y] := by
  cases h with
  | tup h a =>
    cases a with
    | cons a1 a2 =>
      cases a2 with
      | cons a3 a4 =>
        cases a1
        cases a3
        cases a4
        exact ⟨_, rfl, h⟩
theorem dp_stp {K : PySem.W.Frag} {H : Hp} {v : V} {s : Int × Int × Str} (h : Dp K H v (stp s)) : ∃ a, v = .ref a ∧ SqT K H a [.int s.1, .int s.2.1, .str s.2.2] := by
  cases h with
  | tup h a =>
    cases a with
    | cons a1 a2 =>
      cases a2 with
      | cons a3 a4 =>
        cases a4 with
        | cons a5 a6 =>
        cases a1
        cases a3
        cases a5
        cases a6
        exact ⟨_, rfl, h⟩
theorem ix0 {a : V} {as : List V} : atI (a :: as) 0 = some a := atI_nat (xs := a :: as) (j := 0) rfl
theorem ix1 {a b : V} {as : List V} : atI (a :: b :: as) 1 = some b := atI_nat (xs := a :: b :: as) (j := 1) rfl
theorem ix2 {a b c : V} {as : List V} : atI (a :: b :: c :: as) 2 = some c := atI_nat (xs := a :: b :: c :: as) (j := 2) rfl
theorem b_is_exchange {X : Cx} {C_Row : Addr} (B : Bd X N_is_exchange (defScope S_is_exchange) 3) (F : ∀ x, X.fn x = true) (T : Tx X.K X.mg C_Row) {vs : List V} {H : Hp} {Q : VK} {E : XK} (h : sp_is_exchange X.K C_Row vs H Q E) :
    wB X (defBody S_is_exchange) { nx := fun _ H' => Q .non H', rt := Q } (start N_is_exchange vs) H := by
  have n_places : X.N[0]? = some ("places" : Str) := B.slot 0 rfl
  have l_places : X.env.scope.names.lookup ("places" : Str) = some NameKind.local := B.loc rfl
  have n_value : X.N[1]? = some ("value" : Str) := B.slot 1 rfl
  have l_value : X.env.scope.names.lookup ("value" : Str) = some NameKind.local := B.loc rfl
  have g_check_places : Gl X "check_places" := B.gl rfl
  have g_isinstance : Gl X "isinstance" := B.gl rfl
  have z_isinstance := T.z_isinstance
  have v_isinstance := bb_isinstance
  have g_tuple : Gl X "tuple" := B.gl rfl
  have z_tuple := T.z_tuple
  have v_tuple := bb_tuple
  have g_len : Gl X "len" := B.gl rfl
  have z_len := T.z_len
  have v_len := bb_len
  have g_is_below : Gl X "is_below" := B.gl rfl
  obtain ⟨P, v, x, y, rfl, h1, h2, hd, ⟨h3, h4, h5⟩, q⟩ := h
  obtain ⟨a, rfl, hs⟩ := dp_two hd
  walk_at "wz"
  refine c_lenT hs ?_
  walk_at "wz"
  refine iteND (fun z => absurd rfl z) (fun _ => ?_)
  walk_at "wz"
  refine x_tup hs ix0 ?_
  walk_at "wz"
  refine x_tup hs ix1 ?_
  walk_at "wz"
  refine x_tup hs ix0 ?_
  walk_at "wz"
  refine x_tup hs ix1 ?_
  walk_at "wz"
  rw [decide_eq_true h4]
  exact q
theorem len_is_exchange {K : PySem.W.Frag} {C_Row : Addr} : ∀ vs H Q E, sp_is_exchange K C_Row vs H Q E → vs.length = 2 := by
  intro vs H Q E h
  obtain ⟨_, _, _, _, e, _⟩ := h
  rw [e]; rfl
theorem D_is_exchange {P : Program} {w : World} {K : PySem.W.Frag} {mg : Str → Option Value} {base : Heap} {C_Row : Addr} (T : Tx K mg C_Row) : Dk P w K mg base "is_exchange" 4 ["places", "value"] (sp_is_exchange K C_Row) :=
  dk_of T.d_is_exchange sc_is_exchange (fun _ _ _ _ _ _ us hl => match us, hl with | [_, _], _ => rfl) len_is_exchange (fun X e1 e2 e3 e4 e5 B F vs H Q E h => by subst e1 e2 e3 e4 e5; exact b_is_exchange B F T h)
local macro_rules | `(tactic| walk_at "cl") => `(tactic| (refine' e_callk (D_is_exchange ‹Tx _ _ _›) ?rm ?gl ?_; (case rm => exact ‹Bd _ _ _ _›.room.mono (by decide)); (case gl => with_reducible assumption)))
def sp_is_step (K : PySem.W.Frag) (C_Row : Addr) : Sp := fun vs H Q _ => ∃ P v s, vs = [.int P, v] ∧ 1 ≤ P ∧ P ≤ 12 ∧ Dp K H v (stp s) ∧ okS P s ∧ ∀ H', Same H H' → Q (.bl true) H'
theorem b_is_step {X : Cx} {C_Row : Addr} (B : Bd X N_is_step (defScope S_is_step) 4) (F : ∀ x, X.fn x = true) (T : Tx X.K X.mg C_Row) {vs : List V} {H : Hp} {Q : VK} {E : XK} (h : sp_is_step X.K C_Row vs H Q E) :
    wB X (defBody S_is_step) { nx := fun _ H' => Q .non H', rt := Q } (start N_is_step vs) H := by
  have n_places : X.N[0]? = some ("places" : Str) := B.slot 0 rfl
  have l_places : X.env.scope.names.lookup ("places" : Str) = some NameKind.local := B.loc rfl
  have n_value : X.N[1]? = some ("value" : Str) := B.slot 1 rfl
  have l_value : X.env.scope.names.lookup ("value" : Str) = some NameKind.local := B.loc rfl
  have g_check_places : Gl X "check_places" := B.gl rfl
  have g_isinstance : Gl X "isinstance" := B.gl rfl
  have z_isinstance := T.z_isinstance
  have v_isinstance := bb_isinstance
  have g_tuple : Gl X "tuple" := B.gl rfl
  have z_tuple := T.z_tuple
  have v_tuple := bb_tuple
  have g_len : Gl X "len" := B.gl rfl
  have z_len := T.z_len
  have v_len := bb_len
  have g_is_exchange : Gl X "is_exchange" := B.gl rfl
  have g_is_owner : Gl X "is_owner" := B.gl rfl
  obtain ⟨P, v, s, rfl, h1, h2, hd, ⟨h3, h4⟩, q⟩ := h
  obtain ⟨a, rfl, hs⟩ := dp_stp hd
  walk_at "wz"
  refine c_lenT hs ?_
  walk_at "wz"
  refine iteND (fun z => absurd rfl z) (fun _ => ?_)
  walk_at "wz"
  refine e_slNS ?_
  walk_at "wz"
  refine ⟨_, _, rfl, hs, fun p H' sm hp => ?_⟩
  walk_at "wz"
  refine ⟨P, _, s.1, s.2.1, rfl, h1, h2, .tup hp (.cons (.int _) (.cons (.int _) .nil)), h3, ?_⟩
  walk_at "wz"
  refine x_tup (same_tup sm hs) ix2 ?_
  walk_at "wz"
  exact q _ sm
theorem len_is_step {K : PySem.W.Frag} {C_Row : Addr} : ∀ vs H Q E, sp_is_step K C_Row vs H Q E → vs.length = 2 := by
  intro vs H Q E h
  obtain ⟨_, _, _, e, _⟩ := h
  rw [e]; rfl
theorem D_is_step {P : Program} {w : World} {K : PySem.W.Frag} {mg : Str → Option Value} {base : Heap} {C_Row : Addr} (T : Tx K mg C_Row) : Dk P w K mg base "is_step" 5 ["places", "value"] (sp_is_step K C_Row) :=
  dk_of T.d_is_step sc_is_step (fun _ _ _ _ _ _ us hl => match us, hl with | [_, _], _ => rfl) len_is_step (fun X e1 e2 e3 e4 e5 B F vs H Q E h => by subst e1 e2 e3 e4 e5; exact b_is_step B F T h)
local macro_rules | `(tactic| walk_at "cl") => `(tactic| (refine' e_callk (D_is_step ‹Tx _ _ _›) ?rm ?gl ?_; (case rm => exact ‹Bd _ _ _ _›.room.mono (by decide)); (case gl => with_reducible assumption)))
def sp_place_behind (K : PySem.W.Frag) (C_Row : Addr) : Sp := fun vs H Q _ => ∃ p a x y r, vs = [.int p, .ref a] ∧ SqT K H a (.int x :: .int y :: r) ∧ Q (.int (pb x y p)) H
theorem b_place_behind {X : Cx} {C_Row : Addr} (B : Bd X N_place_behind (defScope S_place_behind) 0) (F : ∀ x, X.fn x = true) (T : Tx X.K X.mg C_Row) {vs : List V} {H : Hp} {Q : VK} {E : XK} (h : sp_place_behind X.K C_Row vs H Q E) :
    wB X (defBody S_place_behind) { nx := fun _ H' => Q .non H', rt := Q } (start N_place_behind vs) H := by
  have n_place : X.N[0]? = some ("place" : Str) := B.slot 0 rfl
  have l_place : X.env.scope.names.lookup ("place" : Str) = some NameKind.local := B.loc rfl
  have n_exchange : X.N[1]? = some ("exchange" : Str) := B.slot 1 rfl
  have l_exchange : X.env.scope.names.lookup ("exchange" : Str) = some NameKind.local := B.loc rfl
  obtain ⟨p, a, x, y, r, rfl, hs, q⟩ := h
  walk_at "wz"
  refine x_tup hs ix0 ?_
  walk_at "wz"
  by_cases e1 : p = x
  · rw [decide_eq_true (by rw [e1])]
    walk_at "wz"
    refine x_tup hs ix1 ?_
    rw [pb, if_pos e1] at q
    exact q
  · rw [decide_eq_false (by simpa using e1)]
    walk_at "wz"
    refine x_tup hs ix1 ?_
    walk_at "wz"
    by_cases e2 : p = y
    · rw [decide_eq_true (by rw [e2])]
      walk_at "wz"
      refine x_tup hs ix0 ?_
      rw [pb, if_neg e1, if_pos e2] at q
      exact q
    · rw [decide_eq_false (by simpa using e2)]
      walk_at "wz"
      rw [pb, if_neg e1, if_neg e2] at q
      exact q
theorem len_place_behind {K : PySem.W.Frag} {C_Row : Addr} : ∀ vs H Q E, sp_place_behind K C_Row vs H Q E → vs.length = 2 := by
  intro vs H Q E h
  obtain ⟨_, _, _, _, _, e, _⟩ := h
  rw [e]; rfl
theorem D_place_behind {P : Program} {w : World} {K : PySem.W.Frag} {mg : Str → Option Value} {base : Heap} {C_Row : Addr} (T : Tx K mg C_Row) : Dk P w K mg base "place_behind" 1 ["place", "exchange"] (sp_place_behind K C_Row) :=
  dk_of T.d_place_behind sc_place_behind (fun _ _ _ _ _ _ us hl => match us, hl with | [_, _], _ => rfl) len_place_behind (fun X e1 e2 e3 e4 e5 B F vs H Q E h => by subst e1 e2 e3 e4 e5; exact b_place_behind B F T h)
local macro_rules | `(tactic| walk_at "cl") => `(tactic| (refine' e_callk (D_place_behind ‹Tx _ _ _›) ?rm ?gl ?_; (case rm => exact ‹Bd _ _ _ _›.room.mono (by decide)); (case gl => with_reducible assumption)))

theorem noLst_steps : ∀ ss : List (Int × Int × Str), noLstAll (ss.map stp) = true
  | [] => rfl
  | s :: ss => by
    show (noLst (stp s) && noLstAll (ss.map stp)) = true
    rw [noLst_steps ss, Bool.and_true]
    rfl
theorem noLst_ints : ∀ ns : List Int, noLstAll (ns.map PyData.int) = true
  | [] => rfl
  | n :: ns => by
    show (true && noLstAll (ns.map PyData.int)) = true
    rw [noLst_ints ns]; rfl
/-- a Row with these steps -/
def RowAt (K : PySem.W.Frag) (H : Hp) (C a : Addr) (P : Int) (ss : List (Int × Int × Str)) : Prop := (∃ dx v, H a = some (.ins C dx [("_places", .int P), ("_steps", v)]) ∧ Dp K H v (.tuple (ss.map stp))) ∧ 1 ≤ P ∧ P ≤ 12 ∧ ss.length ≤ 24 ∧ ∀ s ∈ ss, okS P s
theorem RowAt.same {K : PySem.W.Frag} {H H' : Hp} {C a : Addr} {P : Int} {ss : List (Int × Int × Str)} (r : RowAt K H C a P ss) (e : Same H H') : RowAt K H' C a P ss := by
  obtain ⟨⟨dx, v, h1, h2⟩, h3⟩ := r
  exact ⟨⟨dx, v, e _ _ h1, dp_same e h2⟩, h3⟩
theorem RowAt.ch {K : PySem.W.Frag} {H H' : Hp} {C a p : Addr} {P : Int} {ss : List (Int × Int × Str)} (r : RowAt K H C a P ss) (c : Ch p H H') {xs : List V} (hp : H p = some (.lst xs)) : RowAt K H' C a P ss := by
  obtain ⟨⟨dx, v, h1, h2⟩, h3⟩ := r
  refine ⟨⟨dx, v, c _ _ ?_ h1, dp_ch c (noTup_lst hp) (by show noLstAll _ = true; exact noLst_steps ss) h2⟩, h3⟩
  rintro rfl
  rw [hp] at h1
  cases h1
theorem dp_tup {K : PySem.W.Frag} {H : Hp} {v : V} {ds : List PyData} (h : Dp K H v (.tuple ds)) : ∃ a xs, v = .ref a ∧ SqT K H a xs ∧ DpAll K H xs ds := by
  cases h with
  | tup h a => exact ⟨_, _, rfl, h, a⟩
theorem dp_at {K : PySem.W.Frag} {H : Hp} : ∀ {xs : List V} {ds : List PyData} {i : Nat} {v : V}, DpAll K H xs ds → xs[i]? = some v → ∃ d, ds[i]? = some d ∧ Dp K H v d
  | _, _, _, _, .nil, h => by simp at h
  | _, _, 0, _, .cons a _, h => by simp at h; subst h; exact ⟨_, rfl, a⟩
  | _, _, i + 1, _, .cons _ t, h => by
    obtain ⟨d, h1, h2⟩ := dp_at (i := i) t (by simpa using h)
    exact ⟨d, by simpa using h1, h2⟩
theorem dp_step {K : PySem.W.Frag} {H : Hp} {xs : List V} {ss : List (Int × Int × Str)} {i : Nat} {v : V} (h : DpAll K H xs (ss.map stp)) (e : xs[i]? = some v) : ∃ s, ss[i]? = some s ∧ Dp K H v (stp s) := by
  obtain ⟨d, h1, h2⟩ := dp_at h e
  rw [List.getElem?_map] at h1
  cases hs : ss[i]? with
  | none => rw [hs] at h1; cases h1
  | some s => rw [hs] at h1; cases h1; exact ⟨s, rfl, h2⟩
def sp__are_steps (K : PySem.W.Frag) (C_Row : Addr) : Sp := fun vs H Q _ => ∃ P v, ∃ ss : List (Int × Int × Str), vs = [.int P, v] ∧ 1 ≤ P ∧ P ≤ 12 ∧ Dp K H v (.tuple (ss.map stp)) ∧ ss.length ≤ 24 ∧ (∀ s ∈ ss, okS P s) ∧ ∀ H', Same H H' → Q (.bl true) H'
theorem b__are_steps {X : Cx} {C_Row : Addr} (B : Bd X N__are_steps (defScope S__are_steps) 5) (F : ∀ x, X.fn x = true) (T : Tx X.K X.mg C_Row) {vs : List V} {H : Hp} {Q : VK} {E : XK} (h : sp__are_steps X.K C_Row vs H Q E) :
    wB X (defBody S__are_steps) { nx := fun _ H' => Q .non H', rt := Q } (start N__are_steps vs) H := by
  have n_places : X.N[0]? = some ("places" : Str) := B.slot 0 rfl
  have l_places : X.env.scope.names.lookup ("places" : Str) = some NameKind.cell := B.cel rfl
  have n_value : X.N[1]? = some ("value" : Str) := B.slot 1 rfl
  have l_value : X.env.scope.names.lookup ("value" : Str) = some NameKind.local := B.loc rfl
  have n_step : X.N[2]? = some ("step" : Str) := B.slot 2 rfl
  have g_isinstance : Gl X "isinstance" := B.gl rfl
  have z_isinstance := T.z_isinstance
  have v_isinstance := bb_isinstance
  have g_tuple : Gl X "tuple" := B.gl rfl
  have z_tuple := T.z_tuple
  have v_tuple := bb_tuple
  have g_len : Gl X "len" := B.gl rfl
  have z_len := T.z_len
  have v_len := bb_len
  have g_MAX_STEPS : Gl X "MAX_STEPS" := B.gl rfl
  obtain ⟨t_MAX_STEPS, c_MAX_STEPS⟩ := T.c_MAX_STEPS
  have g_all : Gl X "all" := B.gl rfl
  have z_all := T.z_all
  have v_all := bb_all
  obtain ⟨P, v, ss, rfl, h1, h2, hd, h3, h4, q⟩ := h
  obtain ⟨a, xs, rfl, hs, da⟩ := dp_tup hd
  have hl : xs.length = ss.length := by rw [dp_len da, List.length_map]
  walk_at "wz"
  refine c_lenT hs ?_
  walk_at "wz"
  refine iteD (fun z => absurd z (by omega)) (fun _ => ?_)
  walk_at "wz"
  refine e_lcT 2 B (blkOk_by (by decide +kernel)) rfl rfl (lcT_same ?_)
  walk_at "wz"
  refine ⟨a, xs, fun _ y _ => y = .bl true, rfl, hs, (by have : (25 : Nat) < sizeLine := (by decide); omega), fun _ _ _ _ _ e _ _ => e, ?_, ?_⟩
  · intro i v H2 hv sm X' bk
    have B' := bk.bd B
    have n_step : X'.N[2]? = some ("step" : Str) := B'.slot 2 rfl
    have l_step : X'.env.scope.names.lookup ("step" : Str) = some NameKind.local := B'.loc rfl
    have n_places : X'.N[0]? = some ("places" : Str) := B'.slot 0 rfl
    have l_places : X'.env.scope.names.lookup ("places" : Str) = some NameKind.cell := B'.cel rfl
    have T' : Tx X'.K X'.mg C_Row := by rw [bk.K, bk.mg]; exact T
    have g_is_step : Gl X' "is_step" := B'.gl rfl
    obtain ⟨s, e1, e2⟩ := dp_step da hv
    walk_at "wz"
    refine ⟨P, _, s, rfl, h1, h2, ?_, h4 s (List.mem_of_getElem? e1), fun H' s2 => ⟨s2, rfl⟩⟩
    rw [bk.K]
    exact dp_same sm e2
  · intro D H' ys h0 sm hD hl hy
    have e : ys = (List.replicate ys.length true).map V.bl := by
      refine List.ext_getElem? fun i => ?_
      rw [List.getElem?_map, List.getElem?_replicate]
      by_cases hi : i < ys.length
      · rw [if_pos hi]
        have := hy i ys[i] (List.getElem?_eq_getElem hi)
        rw [List.getElem?_eq_getElem hi, this]; rfl
      · rw [if_neg hi, List.getElem?_eq_none (by omega)]; rfl
    rw [e] at hD
    walk_at "wz"
    refine c_all B.calm (SqL.of hD) ?_
    rw [show (List.replicate ys.length true).all id = true by rw [List.all_eq_true]; intro x hx; exact (List.mem_replicate.mp hx).2]
    exact q _ sm
theorem len__are_steps {K : PySem.W.Frag} {C_Row : Addr} : ∀ vs H Q E, sp__are_steps K C_Row vs H Q E → vs.length = 2 := by
  intro vs H Q E h
  obtain ⟨_, _, _, e, _⟩ := h
  rw [e]; rfl
theorem D__are_steps {P : Program} {w : World} {K : PySem.W.Frag} {mg : Str → Option Value} {base : Heap} {C_Row : Addr} (T : Tx K mg C_Row) : Dk P w K mg base "_are_steps" 6 ["places", "value"] (sp__are_steps K C_Row) :=
  dk_of T.d__are_steps sc__are_steps (fun _ _ _ _ _ _ us hl => match us, hl with | [_, _], _ => rfl) len__are_steps (fun X e1 e2 e3 e4 e5 B F vs H Q E h => by subst e1 e2 e3 e4 e5; exact b__are_steps B F T h)
local macro_rules | `(tactic| walk_at "cl") => `(tactic| (refine' e_callk (D__are_steps ‹Tx _ _ _›) ?rm ?gl ?_; (case rm => exact ‹Bd _ _ _ _›.room.mono (by decide)); (case gl => with_reducible assumption)))
def sp_Row___init__ (K : PySem.W.Frag) (C_Row : Addr) : Sp := fun vs H Q _ => ∃ a dx P v, ∃ ss : List (Int × Int × Str), vs = [.ref a, .int P, v] ∧ H a = some (.ins C_Row dx []) ∧ 1 ≤ P ∧ P ≤ 12 ∧ Dp K H v (.tuple (ss.map stp)) ∧ ss.length ≤ 24 ∧ (∀ s ∈ ss, okS P s) ∧ ∀ H', Ch a H H' → RowAt K H' C_Row a P ss → Q .non H'
theorem b_Row___init__ {X : Cx} {C_Row : Addr} (B : Bd X N_Row___init__ (defScope S_Row___init__) 6) (F : ∀ x, X.fn x = true) (T : Tx X.K X.mg C_Row) {vs : List V} {H : Hp} {Q : VK} {E : XK} (h : sp_Row___init__ X.K C_Row vs H Q E) :
    wB X (defBody S_Row___init__) { nx := fun _ H' => Q .non H', rt := Q } (start N_Row___init__ vs) H := by
  have n_self : X.N[0]? = some ("self" : Str) := B.slot 0 rfl
  have l_self : X.env.scope.names.lookup ("self" : Str) = some NameKind.local := B.loc rfl
  have n_places : X.N[1]? = some ("places" : Str) := B.slot 1 rfl
  have l_places : X.env.scope.names.lookup ("places" : Str) = some NameKind.local := B.loc rfl
  have n_steps : X.N[2]? = some ("steps" : Str) := B.slot 2 rfl
  have l_steps : X.env.scope.names.lookup ("steps" : Str) = some NameKind.local := B.loc rfl
  have g_check_places : Gl X "check_places" := B.gl rfl
  have g__are_steps : Gl X "_are_steps" := B.gl rfl
  have g_InvalidRow : Gl X "InvalidRow" := B.gl rfl
  obtain ⟨a, dx, P, v, ss, rfl, ha, h1, h2, hd, h3, h4, q⟩ := h
  walk_at "wz"
  refine ⟨P, v, ss, rfl, h1, h2, hd, h3, h4, fun H' sm => ?_⟩
  walk_at "wz"
  refine s_fld ?_
  walk_at "wz"
  refine ⟨a, C_Row, dx, [], rfl, sm _ _ ha, T.cl_Row, T.na_Row__places, by decide, ?_⟩
  walk_at "wz"
  refine s_fld ?_
  walk_at "wz"
  refine ⟨a, C_Row, dx, _, rfl, upd_same, T.cl_Row, T.na_Row__steps, by show 1 < 1000; decide, ?_⟩
  refine q _ (((Ch.of sm).trans Ch.refl.put).trans Ch.refl.put) ⟨⟨dx, v, upd_same, ?_⟩, h1, h2, h3, h4⟩
  refine dp_ch (H := H) (p := a) (((Ch.of sm).trans Ch.refl.put).trans Ch.refl.put) ?_ (by show noLstAll _ = true; exact noLst_steps ss) hd
  intro ys
  rw [ha]
  refine ⟨?_, ?_⟩
  · intro z
    cases z
  · intro o z
    cases z
theorem len_Row___init__ {K : PySem.W.Frag} {C_Row : Addr} : ∀ vs H Q E, sp_Row___init__ K C_Row vs H Q E → vs.length = 3 := by
  intro vs H Q E h
  obtain ⟨_, _, _, _, _, e, _⟩ := h
  rw [e]; rfl
theorem D_Row___init__ {P : Program} {w : World} {K : PySem.W.Frag} {mg : Str → Option Value} {base : Heap} {C_Row : Addr} (T : Tx K mg C_Row) : Ckd P w K mg base C_Row "Row" 7 ["self", "places", "steps"] [] (sp_Row___init__ K C_Row) ∧ ∃ t0, SqT K (fun _ => none) t0 [] ∧ Ckd P w K mg base C_Row "Row" 7 ["self", "places", "steps"] [.ref t0] (sp_Row___init__ K C_Row) := by
  obtain ⟨f, fd, t0, F, M, dd, sl, n0, lt⟩ := T.d_Row___init__
  have ok : FnOk P w K mg base CX0 7 f fd ["self", "places", "steps"] (sp_Row___init__ K C_Row) := F.ok sc_Row___init__ len_Row___init__ fun cdv A outer s H vs Q E hr h => ⟨_, pss_self.nox, wB_run (b_Row___init__ (X := (cxOf CX0 P w K mg base N_Row___init__ "Row.__init__" (defScope S_Row___init__) f cdv A outer s H E).nox) ⟨rfl, sc_Row___init__.nd, rfl, rfl, hr, PassesOwn.never⟩ (fun _ => rfl) T h)⟩
  obtain ⟨d1, v1, b1⟩ := F.binds1 (ps := ["self", "places", "steps"]) 3 1 (by simp) (by rfl) (fun T kV doc pm an cdv ct us its hu hi => match us, hu, its, hi with | [_, _, _], _, [_], _ => ⟨_, rfl, rfl⟩)
  obtain ⟨d2, v2, b2⟩ := F.binds1 (ps := ["self", "places", "steps"]) 2 0 (by simp) (by rfl) (fun T kV doc pm an cdv ct us its hu hi => match us, hu, its, hi with | [_, _], _, [_], _ => ⟨_, rfl, rfl⟩)
  exact ⟨⟨f, fd, d1, ok, T.k_Row, M, v1, b1⟩, t0, Or.inr ⟨_, #[], n0, lt, rfl, rfl, Nat.zero_le _, .nil⟩, f, fd, d2, ok, T.k_Row, M, v2, b2⟩

theorem e_row {X : Cx} {C_Row : Addr} (T : Tx X.K X.mg C_Row) {σ : L2.St} {H : Hp} {Q : VK} {e1 e2 : Expr} {pos p : Pos} (hr : Room 8 X.A) (hg : Gl X "Row")
    (h : wE X e1 σ H fun x H1 => wE X e2 σ H1 fun v H2 => ∃ P, ∃ ss : List (Int × Int × Str), x = .int P ∧ 1 ≤ P ∧ P ≤ 12 ∧ Dp X.K H2 v (.tuple (ss.map stp)) ∧ ss.length ≤ 24 ∧ (∀ s ∈ ss, okS P s) ∧ ∀ a H', H2 a = none → Same H2 H' → RowAt X.K H' C_Row a P ss → Q (.ref a) H')
    (n1 : starEach [e1, e2] X.env = (false, eval e1 X.env) :: starEach [e2] X.env := by rfl) (n2 : starEach [e2] X.env = (false, eval e2 X.env) :: starEach [] X.env := by rfl)
    (n3 : (backTo pos (starEach [e2] X.env)).any (·.1) = false := by rfl) : wE X (.Call (.Name "Row" p) [e1, e2] [] pos) σ H Q := by
  refine e_make (D_Row___init__ T).1 hr hg ?_ (by decide) n1 n3
  refine a_cons (wE_mono h ?_) n1
  intro x H1 k
  refine a_cons (wE_mono k ?_) n2
  rintro v H2 ⟨P, ss, rfl, h1, h2, hd, h3, h4, q⟩
  refine a_nil ?_
  intro a dx ha hdx hne
  have s1 : Same H2 (upd H2 dx (.own a)) := (Same.refl H2).new hdx
  have f1 : upd H2 dx (.own a) a = none := by rw [upd_ne (Ne.symm hne)]; exact ha
  have s2 : Same H2 (upd (upd H2 dx (.own a)) a (.ins C_Row dx [])) := s1.new f1
  refine ⟨a, dx, P, v, ss, rfl, upd_same, h1, h2, dp_same s2 hd, h3, h4, fun H' c r => ⟨rfl, q a H' ha (s2.ch ha c) r⟩⟩
local macro_rules | `(tactic| walk_at "rw") => `(tactic| (refine' e_row ‹Tx _ _ _› ?rm ?gl ?_; (case rm => exact ‹Bd _ _ _ _›.room.mono (by decide)); (case gl => with_reducible assumption)))
/-- where the thing of a place lies behind each step -/
def trail : List (Int × Int × Str) → Int → List Int
  | [], p => [p]
  | s :: ss, p => p :: trail ss (pb s.1 s.2.1 p)
def lastP : List (Int × Int × Str) → Int → Int
  | [], p => p
  | s :: ss, p => lastP ss (pb s.1 s.2.1 p)
theorem lastP_app (ss ts : List (Int × Int × Str)) (p : Int) : lastP (ss ++ ts) p = lastP ts (lastP ss p) := by
  induction ss generalizing p with
  | nil => rfl
  | cons s ss ih => exact ih _
theorem pb_in {P x y p : Int} (h : okE P x y) (h0 : 0 ≤ p) (h1 : p < P) : 0 ≤ pb x y p ∧ pb x y p < P := by
  obtain ⟨a, b, c⟩ := h
  unfold pb
  split
  · omega
  · split <;> omega
theorem lastP_in {P : Int} : ∀ {ss : List (Int × Int × Str)} {p : Int}, (∀ s ∈ ss, okS P s) → 0 ≤ p → p < P → 0 ≤ lastP ss p ∧ lastP ss p < P
  | [], p, _, h0, h1 => ⟨h0, h1⟩
  | s :: ss, p, h, h0, h1 => by
    have := pb_in (h s (List.mem_cons_self ..)).1 h0 h1
    exact lastP_in (ss := ss) (fun t ht => h t (List.mem_cons_of_mem _ ht)) this.1 this.2
theorem trail_len (ss : List (Int × Int × Str)) (p : Int) : (trail ss p).length = ss.length + 1 := by
  induction ss generalizing p with
  | nil => rfl
  | cons s ss ih => show (trail ss _).length + 1 = _; rw [ih]; rfl
theorem trail_at : ∀ (ss : List (Int × Int × Str)) (p : Int) (i : Nat), i ≤ ss.length → (trail ss p)[i]? = some (lastP (ss.take i) p)
  | [], p, 0, _ => rfl
  | [], p, i + 1, h => by simp at h
  | s :: ss, p, 0, _ => rfl
  | s :: ss, p, i + 1, h => by
    show (trail ss _)[i]? = _
    rw [trail_at ss _ i (by simpa using h)]
    rfl
theorem trail_ne (ss : List (Int × Int × Str)) (p : Int) : trail ss p ≠ [] := by cases ss <;> simp [trail]
theorem trail_snoc (ss : List (Int × Int × Str)) (s : Int × Int × Str) (p : Int) : trail (ss ++ [s]) p = trail ss p ++ [pb s.1 s.2.1 (lastP ss p)] := by
  induction ss generalizing p with
  | nil => rfl
  | cons t ss ih => show p :: trail (ss ++ [s]) _ = p :: (trail ss _ ++ _); rw [ih]; rfl
theorem trail_last (ss : List (Int × Int × Str)) (p : Int) : ((trail ss p).map V.int)[ss.length]? = some (.int (lastP ss p)) := by
  rw [List.getElem?_map, trail_at ss p _ (Nat.le_refl _), List.take_length]; rfl
theorem atI_last {xs : List V} {n : Nat} {v : V} (hl : xs.length = n + 1) (h : xs[n]? = some v) : atI xs (-1) = some v := by
  have e : ixN xs.length (-1) = some n := by
    unfold ixN
    rw [hl]
    simp
    omega
  show (ixN xs.length (-1)).bind _ = _
  rw [e]
  exact h
theorem tk_snoc {α : Type} {l : List α} {i : Nat} {a : α} (h : l[i]? = some a) : l.take (i + 1) = l.take i ++ [a] := by rw [List.take_add_one, h]; rfl
def sp_Row_path (K : PySem.W.Frag) (C_Row : Addr) : Sp := fun vs H Q _ => ∃ a p P, ∃ ss : List (Int × Int × Str), vs = [.ref a, .int p] ∧ RowAt K H C_Row a P ss ∧ 0 ≤ p ∧ p < P ∧ ∀ r H', Same H H' → SqT K H' r ((trail ss p).map V.int) → Q (.ref r) H'
theorem b_Row_path {X : Cx} {C_Row : Addr} (B : Bd X N_Row_path (defScope S_Row_path) 2) (F : ∀ x, X.fn x = true) (T : Tx X.K X.mg C_Row) {vs : List V} {H : Hp} {Q : VK} {E : XK} (h : sp_Row_path X.K C_Row vs H Q E) :
    wB X (defBody S_Row_path) { nx := fun _ H' => Q .non H', rt := Q } (start N_Row_path vs) H := by
  have n_self : X.N[0]? = some ("self" : Str) := B.slot 0 rfl
  have l_self : X.env.scope.names.lookup ("self" : Str) = some NameKind.local := B.loc rfl
  have n_place : X.N[1]? = some ("place" : Str) := B.slot 1 rfl
  have l_place : X.env.scope.names.lookup ("place" : Str) = some NameKind.local := B.loc rfl
  have n_stops : X.N[2]? = some ("stops" : Str) := B.slot 2 rfl
  have l_stops : X.env.scope.names.lookup ("stops" : Str) = some NameKind.local := B.loc rfl
  have n_step : X.N[3]? = some ("step" : Str) := B.slot 3 rfl
  have l_step : X.env.scope.names.lookup ("step" : Str) = some NameKind.local := B.loc rfl
  have g_check_number : Gl X "check_number" := B.gl rfl
  have g_place_behind : Gl X "place_behind" := B.gl rfl
  have g_tuple : Gl X "tuple" := B.gl rfl
  have z_tuple := T.z_tuple
  have v_tuple := bb_tuple
  obtain ⟨a, p, P, ss, rfl, ⟨⟨dx, v, ha, hd⟩, h1, h2, h3, h4⟩, p0, p1, q⟩ := h
  obtain ⟨b, xs, rfl, hs, da⟩ := dp_tup hd
  have hl : xs.length = ss.length := by rw [dp_len da, List.length_map]
  walk_at "wz"
  refine e_fld ?_
  walk_at "wz"
  refine ⟨a, C_Row, dx, _, _, rfl, ha, T.cl_Row, T.na_Row__places, rfl, ?_⟩
  walk_at "wz"
  refine ⟨by show 1 ≤ sizeLine; decide, fun l hl0 => ?_⟩
  walk_at "wz"
  refine s_forT 3 B.ps B.calm B.nd n_step (Or.inl l_step) ?_ (hf := .inr l_step)
  refine e_fld ?_
  walk_at "wz"
  refine ⟨a, C_Row, dx, _, _, rfl, upd_keep hl0 ha, T.cl_Row, T.na_Row__steps, rfl, ?_⟩
  refine ⟨b, xs, rfl, same_tup ((Same.refl H).new hl0) hs, fun k σ H1 => ∃ y3, σ = [some (.ref a), some (.int p), some (.ref l), y3] ∧ Same H H1 ∧ H1 l = some (.lst ((trail (ss.take k) p).map V.int)), ?_, ?_, ?_, ?_⟩
  · exact ⟨_, rfl, (Same.refl H).new hl0, upd_same⟩
  · rintro k σ H1 hk ⟨y3, rfl, sm, _⟩
    exact same_tup sm hs
  · rintro k v σ H1 hk ⟨y3, rfl, sm, hll⟩
    obtain ⟨s, e1, e2⟩ := dp_step da hk
    obtain ⟨c, rfl, hc⟩ := dp_stp e2
    have hk2 : k < ss.length := (List.getElem?_eq_some_iff.mp e1).1
    have ht : (ss.take k).length = k := by rw [List.length_take]; omega
    walk_at "st"
    walk_at "st"
    refine e_app ?_
    walk_at "wz"
    refine ⟨Or.inl ⟨rfl, _, SqL.of hll⟩, ?_⟩
    walk_at "wz"
    have hat := trail_last (ss.take k) p
    rw [ht] at hat
    refine x_lst (SqL.of hll) (atI_last (n := k) (by rw [List.length_map, trail_len, ht]) hat) ?_
    walk_at "wz"
    refine ⟨_, c, s.1, s.2.1, [.str s.2.2], rfl, same_tup sm hc, ?_⟩
    refine ⟨l, _, rfl, hll, ?_, ?_⟩
    · rw [List.length_map, trail_len, ht]
      have : (100 : Nat) < sizeLine := by decide
      omega
    · refine ⟨_, rfl, sm.ch hl0 Ch.refl.put, ?_⟩
      rw [upd_same, tk_snoc e1, trail_snoc, List.map_append]
      rfl
  · rintro σ H1 ⟨y3, rfl, sm, hll⟩
    walk_at "wz"
    refine c_tupL (SqL.of hll) fun r hr => ?_
    rw [hl, List.take_length]
    exact q r _ (sm.new hr) (SqT.of upd_same)
theorem len_Row_path {K : PySem.W.Frag} {C_Row : Addr} : ∀ vs H Q E, sp_Row_path K C_Row vs H Q E → vs.length = 2 := by
  intro vs H Q E h
  obtain ⟨_, _, _, _, e, _⟩ := h
  rw [e]; rfl
theorem D_Row_path {P : Program} {w : World} {K : PySem.W.Frag} {mg : Str → Option Value} {base : Heap} {C_Row : Addr} (T : Tx K mg C_Row) : Md P w K mg base C_Row "path" 3 ["self", "place"] (sp_Row_path K C_Row) := by
  obtain ⟨f, fd, F0, M⟩ := T.d_Row_path
  exact ⟨f, fd, fnk_of F0 sc_Row_path len_Row_path (fun X e1 e2 e3 e4 e5 B F vs H Q E h => by subst e1 e2 e3 e4 e5; exact b_Row_path B F T h), M, F0.binds (fun _ _ _ _ _ _ us hl => match us, hl with | [_, _], _ => rfl)⟩

theorem okO_cps {o : Str} (h : okO o) : ∃ c : Nat, o.cps.toList = [c] ∧ c ≤ 122 ∧ 97 ≤ c := by
  obtain ⟨h1, h2, h3⟩ := h
  have hl : o.cps.toList.length = 1 := by rw [Array.length_toList]; exact h1
  match e : o.cps.toList, hl with
  | [c], _ =>
    rw [e] at h2 h3
    have ea : ("a" : Str).cps.toList = [97] := by decide
    have ez : ("z" : Str).cps.toList = [122] := by decide
    rw [ea] at h2
    rw [ez] at h3
    refine ⟨c, rfl, ?_, ?_⟩
    · exact Nat.le_of_not_lt fun z => h3 (List.Lex.rel z)
    · exact Nat.le_of_not_lt fun z => h2 (List.Lex.rel z)
theorem okO_str {o : Str} (h : okO o) : PyData.strOk o = true := by
  obtain ⟨c, e, h1, _⟩ := okO_cps h
  unfold PyData.strOk
  rw [← Array.all_toList, e]
  simp
  omega
theorem lay_steps {P : Int} : ∀ {ss : List (Int × Int × Str)}, (∀ s ∈ ss, okS P s) → PyData.canLayAll0 (ss.map stp) = true
  | [], _ => rfl
  | s :: ss, h => by
    show (PyData.canLay0 (stp s) && PyData.canLayAll0 (ss.map stp)) = true
    rw [lay_steps (ss := ss) fun t ht => h t (List.mem_cons_of_mem _ ht), Bool.and_true]
    show (true && (true && (PyData.strOk s.2.2 && true))) = true
    rw [okO_str (h s (List.mem_cons_self ..)).2]; rfl
theorem depth_steps : ∀ ss : List (Int × Int × Str), PyData.depthAll (ss.map stp) ≤ 10
  | [] => by decide
  | s :: ss => by
    have := depth_steps ss
    have e : PyData.depth (stp s) ≤ 10 := by simp [stp, PyData.depth, PyData.depthAll]
    simp only [List.map_cons, PyData.depthAll]
    omega
theorem shaped_steps {P : Int} {ss : List (Int × Int × Str)} (h : ∀ s ∈ ss, okS P s) : SeqAt.shaped (.tuple (ss.map stp)) = true := by
  unfold SeqAt.shaped
  rw [show PyData.canLay0 (.tuple (ss.map stp)) = true by show PyData.canLayAll0 _ = true; exact lay_steps h, Bool.true_and]
  have := depth_steps ss
  exact decide_eq_true (by simp only [PyData.depth]; omega)
theorem eqv_stp (s t : Int × Int × Str) : PyData.eqv (stp s) (stp t) = decide (s = t) := by
  obtain ⟨a, b, c⟩ := s
  obtain ⟨d, e, f⟩ := t
  show (a == d && (b == e && (c == f && true))) = _
  rw [Bool.and_true, Bool.eq_iff_iff]
  simp
theorem eqv_steps : ∀ ss ts : List (Int × Int × Str), PyData.eqvAll (ss.map stp) (ts.map stp) = decide (ss = ts)
  | [], [] => by rfl
  | [], t :: ts => by rfl
  | s :: ss, [] => by rfl
  | s :: ss, t :: ts => by
    show (PyData.eqv (stp s) (stp t) && PyData.eqvAll (ss.map stp) (ts.map stp)) = _
    rw [eqv_stp, eqv_steps ss ts, Bool.eq_iff_iff]
    simp

def sp_Row_with_step (K : PySem.W.Frag) (C_Row : Addr) : Sp := fun vs H Q _ => ∃ a v P, ∃ i : Nat, ∃ s, ∃ ss : List (Int × Int × Str), vs = [.ref a, .int (i : Int), v] ∧ RowAt K H C_Row a P ss ∧ i ≤ ss.length ∧ Dp K H v (stp s) ∧ okS P s ∧ ss.length < 24 ∧ ∀ r H', Same H H' → RowAt K H' C_Row r P (ss.take i ++ s :: ss.drop i) → Q (.ref r) H'
theorem b_Row_with_step {X : Cx} {C_Row : Addr} (B : Bd X N_Row_with_step (defScope S_Row_with_step) 8) (F : ∀ x, X.fn x = true) (T : Tx X.K X.mg C_Row) {vs : List V} {H : Hp} {Q : VK} {E : XK} (h : sp_Row_with_step X.K C_Row vs H Q E) :
    wB X (defBody S_Row_with_step) { nx := fun _ H' => Q .non H', rt := Q } (start N_Row_with_step vs) H := by
  have n_self : X.N[0]? = some ("self" : Str) := B.slot 0 rfl
  have l_self : X.env.scope.names.lookup ("self" : Str) = some NameKind.local := B.loc rfl
  have n_index : X.N[1]? = some ("index" : Str) := B.slot 1 rfl
  have l_index : X.env.scope.names.lookup ("index" : Str) = some NameKind.local := B.loc rfl
  have n_step : X.N[2]? = some ("step" : Str) := B.slot 2 rfl
  have l_step : X.env.scope.names.lookup ("step" : Str) = some NameKind.local := B.loc rfl
  have g_check_number : Gl X "check_number" := B.gl rfl
  have g_len : Gl X "len" := B.gl rfl
  have z_len := T.z_len
  have v_len := bb_len
  have g_is_step : Gl X "is_step" := B.gl rfl
  have g_InvalidOperation : Gl X "InvalidOperation" := B.gl rfl
  have g_MAX_STEPS : Gl X "MAX_STEPS" := B.gl rfl
  obtain ⟨t_MAX_STEPS, c_MAX_STEPS⟩ := T.c_MAX_STEPS
  have g_TooMany : Gl X "TooMany" := B.gl rfl
  have g_Row : Gl X "Row" := B.gl rfl
  obtain ⟨a, w, P, i, s, ss, rfl, ⟨⟨dx, v, ha, hd⟩, h1, h2, h3, h4⟩, hi, hw, hs0, hz, q⟩ := h
  obtain ⟨b, xs, rfl, hs, da⟩ := dp_tup hd
  have hl : xs.length = ss.length := by rw [dp_len da, List.length_map]
  walk_at "wz"
  refine e_fld ?_
  walk_at "wz"
  refine ⟨a, C_Row, dx, _, _, rfl, ha, T.cl_Row, T.na_Row__steps, rfl, ?_⟩
  walk_at "wz"
  refine c_lenT hs ?_
  walk_at "wz"
  refine e_fld ?_
  walk_at "wz"
  refine ⟨a, C_Row, dx, _, _, rfl, ha, T.cl_Row, T.na_Row__places, rfl, ?_⟩
  walk_at "wz"
  refine ⟨P, w, s, rfl, h1, h2, hw, hs0, fun H1 s1 => ?_⟩
  walk_at "wz"
  refine e_fld ?_
  walk_at "wz"
  refine ⟨a, C_Row, dx, _, _, rfl, s1 _ _ ha, T.cl_Row, T.na_Row__steps, rfl, ?_⟩
  walk_at "wz"
  refine c_lenT (same_tup s1 hs) ?_
  walk_at "wz"
  refine iteD (fun z => absurd (V.int.inj z) (by omega)) (fun _ => ?_)
  walk_at "wz"
  walk_at "rw"
  refine e_fld ?_
  walk_at "wz"
  refine ⟨a, C_Row, dx, _, _, rfl, s1 _ _ ha, T.cl_Row, T.na_Row__places, rfl, ?_⟩
  walk_at "wz"
  refine e_slNS ?_
  refine e_fld ?_
  walk_at "wz"
  refine ⟨a, C_Row, dx, _, _, rfl, s1 _ _ ha, T.cl_Row, T.na_Row__steps, rfl, ?_⟩
  walk_at "wz"
  refine ⟨b, xs, rfl, same_tup s1 hs, fun c H2 s2 hc => ?_⟩
  rw [cut_j xs (by omega)] at hc
  walk_at "wz"
  refine ⟨by show 1 ≤ sizeLine; decide, fun t ht => ?_⟩
  have s3 := s2.new (o := .tup [w]) ht
  refine o_cat (same_tup ((Same.refl H2).new ht) hc) (SqT.of upd_same) (by rw [List.length_take]; show _ + 1 ≤ _; have : (100 : Nat) ≤ sizeLine := (by decide); omega) fun d H4 s4 hd4 => ?_
  refine e_slSN ?_
  refine e_fld ?_
  walk_at "wz"
  have s14 := (s1.trans s3).trans s4
  refine ⟨a, C_Row, dx, _, _, rfl, s14 _ _ ha, T.cl_Row, T.na_Row__steps, rfl, ?_⟩
  walk_at "wz"
  refine ⟨b, xs, rfl, same_tup s14 hs, fun e H5 s5 he => ?_⟩
  rw [cut_i xs (by omega)] at he
  refine o_cat (same_tup s5 hd4) he (by rw [List.length_append, List.length_take, List.length_drop]; show _ + 1 + _ ≤ _; have : (100 : Nat) ≤ sizeLine := (by decide); omega) fun g H6 s6 hg6 => ?_
  have s16 := (s14.trans s5).trans s6
  refine ⟨P, ss.take i ++ s :: ss.drop i, rfl, h1, h2, ?_, by rw [List.length_append, List.length_cons, List.length_take, List.length_drop]; omega, ?_, fun r H7 _ s7 R => q r H7 (s16.trans s7) R⟩
  · rw [List.map_append, List.map_cons, List.map_take, List.map_drop]
    have e1 : xs.take i ++ [w] ++ xs.drop i = xs.take i ++ (w :: xs.drop i) := by rw [List.append_assoc]; rfl
    rw [e1] at hg6
    have da6 := dpa_same s16 da
    exact .tup hg6 (dpa_app (dpa_take _ da6) (.cons (dp_same s16 hw) (dpa_drop _ da6)))
  · intro t ht
    rcases List.mem_append.mp ht with ht | ht
    · exact h4 t (List.mem_of_mem_take ht)
    · rcases List.mem_cons.mp ht with rfl | ht
      · exact hs0
      · exact h4 t (List.mem_of_mem_drop ht)
theorem len_Row_with_step {K : PySem.W.Frag} {C_Row : Addr} : ∀ vs H Q E, sp_Row_with_step K C_Row vs H Q E → vs.length = 3 := by
  intro vs H Q E h
  obtain ⟨_, _, _, _, _, _, e, _⟩ := h
  rw [e]; rfl
theorem D_Row_with_step {P : Program} {w : World} {K : PySem.W.Frag} {mg : Str → Option Value} {base : Heap} {C_Row : Addr} (T : Tx K mg C_Row) : Md P w K mg base C_Row "with_step" 9 ["self", "index", "step"] (sp_Row_with_step K C_Row) := by
  obtain ⟨f, fd, F0, M⟩ := T.d_Row_with_step
  exact ⟨f, fd, fnk_of F0 sc_Row_with_step len_Row_with_step (fun X e1 e2 e3 e4 e5 B F vs H Q E h => by subst e1 e2 e3 e4 e5; exact b_Row_with_step B F T h), M, F0.binds (fun _ _ _ _ _ _ us hl => match us, hl with | [_, _, _], _ => rfl)⟩
def sp_Row_without_step (K : PySem.W.Frag) (C_Row : Addr) : Sp := fun vs H Q _ => ∃ a P, ∃ i : Nat, ∃ ss : List (Int × Int × Str), vs = [.ref a, .int (i : Int)] ∧ RowAt K H C_Row a P ss ∧ i < ss.length ∧ ∀ r H', Same H H' → RowAt K H' C_Row r P (ss.take i ++ ss.drop (i + 1)) → Q (.ref r) H'
theorem b_Row_without_step {X : Cx} {C_Row : Addr} (B : Bd X N_Row_without_step (defScope S_Row_without_step) 8) (F : ∀ x, X.fn x = true) (T : Tx X.K X.mg C_Row) {vs : List V} {H : Hp} {Q : VK} {E : XK} (h : sp_Row_without_step X.K C_Row vs H Q E) :
    wB X (defBody S_Row_without_step) { nx := fun _ H' => Q .non H', rt := Q } (start N_Row_without_step vs) H := by
  have n_self : X.N[0]? = some ("self" : Str) := B.slot 0 rfl
  have l_self : X.env.scope.names.lookup ("self" : Str) = some NameKind.local := B.loc rfl
  have n_index : X.N[1]? = some ("index" : Str) := B.slot 1 rfl
  have l_index : X.env.scope.names.lookup ("index" : Str) = some NameKind.local := B.loc rfl
  have g_check_number : Gl X "check_number" := B.gl rfl
  have g_len : Gl X "len" := B.gl rfl
  have z_len := T.z_len
  have v_len := bb_len
  have g_Row : Gl X "Row" := B.gl rfl
  obtain ⟨a, P, i, ss, rfl, ⟨⟨dx, v, ha, hd⟩, h1, h2, h3, h4⟩, hi, q⟩ := h
  obtain ⟨b, xs, rfl, hs, da⟩ := dp_tup hd
  have hl : xs.length = ss.length := by rw [dp_len da, List.length_map]
  walk_at "wz"
  refine e_fld ?_
  walk_at "wz"
  refine ⟨a, C_Row, dx, _, _, rfl, ha, T.cl_Row, T.na_Row__steps, rfl, ?_⟩
  walk_at "wz"
  refine c_lenT hs ?_
  walk_at "wz"
  walk_at "rw"
  refine e_fld ?_
  walk_at "wz"
  refine ⟨a, C_Row, dx, _, _, rfl, ha, T.cl_Row, T.na_Row__places, rfl, ?_⟩
  walk_at "wz"
  refine e_slNS ?_
  refine e_fld ?_
  walk_at "wz"
  refine ⟨a, C_Row, dx, _, _, rfl, ha, T.cl_Row, T.na_Row__steps, rfl, ?_⟩
  walk_at "wz"
  refine ⟨b, xs, rfl, hs, fun c H2 s2 hc => ?_⟩
  rw [cut_j xs (by omega)] at hc
  refine e_slSN ?_
  refine e_fld ?_
  walk_at "wz"
  refine ⟨a, C_Row, dx, _, _, rfl, s2 _ _ ha, T.cl_Row, T.na_Row__steps, rfl, ?_⟩
  walk_at "wz"
  refine ⟨b, xs, rfl, same_tup s2 hs, fun e H5 s5 he => ?_⟩
  rw [show (i : Int) + 1 = ((i + 1 : Nat) : Int) by omega, cut_i xs (by omega)] at he
  refine o_cat (same_tup s5 hc) he (by rw [List.length_take, List.length_drop]; have : (100 : Nat) ≤ sizeLine := (by decide); omega) fun g H6 s6 hg6 => ?_
  have s16 := (s2.trans s5).trans s6
  have da6 := dpa_same s16 da
  refine ⟨P, ss.take i ++ ss.drop (i + 1), rfl, h1, h2, ?_, by rw [List.length_append, List.length_take, List.length_drop]; omega, ?_, fun r H7 _ s7 R => q r H7 (s16.trans s7) R⟩
  · rw [List.map_append, List.map_take, List.map_drop]
    exact .tup hg6 (dpa_app (dpa_take _ da6) (dpa_drop _ da6))
  · intro t ht
    rcases List.mem_append.mp ht with ht | ht
    · exact h4 t (List.mem_of_mem_take ht)
    · exact h4 t (List.mem_of_mem_drop ht)
theorem len_Row_without_step {K : PySem.W.Frag} {C_Row : Addr} : ∀ vs H Q E, sp_Row_without_step K C_Row vs H Q E → vs.length = 2 := by
  intro vs H Q E h
  obtain ⟨_, _, _, _, e, _⟩ := h
  rw [e]; rfl
theorem D_Row_without_step {P : Program} {w : World} {K : PySem.W.Frag} {mg : Str → Option Value} {base : Heap} {C_Row : Addr} (T : Tx K mg C_Row) : Md P w K mg base C_Row "without_step" 9 ["self", "index"] (sp_Row_without_step K C_Row) := by
  obtain ⟨f, fd, F0, M⟩ := T.d_Row_without_step
  exact ⟨f, fd, fnk_of F0 sc_Row_without_step len_Row_without_step (fun X e1 e2 e3 e4 e5 B F vs H Q E h => by subst e1 e2 e3 e4 e5; exact b_Row_without_step B F T h), M, F0.binds (fun _ _ _ _ _ _ us hl => match us, hl with | [_, _], _ => rfl)⟩
theorem dpa_rev {K : PySem.W.Frag} {H : Hp} : ∀ {xs : List V} {ds : List PyData}, DpAll K H xs ds → DpAll K H xs.reverse ds.reverse
  | _, _, .nil => .nil
  | _, _, .cons a t => by
    rw [List.reverse_cons, List.reverse_cons]
    exact dpa_app (dpa_rev t) (.cons a .nil)
def sp_Row_backwards (K : PySem.W.Frag) (C_Row : Addr) : Sp := fun vs H Q _ => ∃ a P, ∃ ss : List (Int × Int × Str), vs = [.ref a] ∧ RowAt K H C_Row a P ss ∧ ∀ r H', Same H H' → RowAt K H' C_Row r P ss.reverse → Q (.ref r) H'
theorem b_Row_backwards {X : Cx} {C_Row : Addr} (B : Bd X N_Row_backwards (defScope S_Row_backwards) 8) (F : ∀ x, X.fn x = true) (T : Tx X.K X.mg C_Row) {vs : List V} {H : Hp} {Q : VK} {E : XK} (h : sp_Row_backwards X.K C_Row vs H Q E) :
    wB X (defBody S_Row_backwards) { nx := fun _ H' => Q .non H', rt := Q } (start N_Row_backwards vs) H := by
  have n_self : X.N[0]? = some ("self" : Str) := B.slot 0 rfl
  have l_self : X.env.scope.names.lookup ("self" : Str) = some NameKind.local := B.loc rfl
  have g_Row : Gl X "Row" := B.gl rfl
  obtain ⟨a, P, ss, rfl, ⟨⟨dx, v, ha, hd⟩, h1, h2, h3, h4⟩, q⟩ := h
  obtain ⟨b, xs, rfl, hs, da⟩ := dp_tup hd
  walk_at "wz"
  walk_at "rw"
  refine e_fld ?_
  walk_at "wz"
  refine ⟨a, C_Row, dx, _, _, rfl, ha, T.cl_Row, T.na_Row__places, rfl, ?_⟩
  refine e_revT ?_
  refine e_fld ?_
  walk_at "wz"
  refine ⟨a, C_Row, dx, _, _, rfl, ha, T.cl_Row, T.na_Row__steps, rfl, ?_⟩
  refine ⟨b, xs, rfl, hs, fun c hc => ?_⟩
  have s1 : Same H (upd H c (.tup xs.reverse)) := (Same.refl H).new hc
  refine ⟨P, ss.reverse, rfl, h1, h2, ?_, by rw [List.length_reverse]; exact h3, fun s hs => h4 s (List.mem_reverse.mp hs), fun r H7 _ s7 R => q r H7 (s1.trans s7) R⟩
  rw [List.map_reverse]
  exact .tup (SqT.of upd_same) (dpa_rev (dpa_same s1 da))
theorem len_Row_backwards {K : PySem.W.Frag} {C_Row : Addr} : ∀ vs H Q E, sp_Row_backwards K C_Row vs H Q E → vs.length = 1 := by
  intro vs H Q E h
  obtain ⟨_, _, _, e, _⟩ := h
  rw [e]; rfl
theorem D_Row_backwards {P : Program} {w : World} {K : PySem.W.Frag} {mg : Str → Option Value} {base : Heap} {C_Row : Addr} (T : Tx K mg C_Row) : Md P w K mg base C_Row "backwards" 9 ["self"] (sp_Row_backwards K C_Row) := by
  obtain ⟨f, fd, F0, M⟩ := T.d_Row_backwards
  exact ⟨f, fd, fnk_of F0 sc_Row_backwards len_Row_backwards (fun X e1 e2 e3 e4 e5 B F vs H Q E h => by subst e1 e2 e3 e4 e5; exact b_Row_backwards B F T h), M, F0.binds (fun _ _ _ _ _ _ us hl => match us, hl with | [_], _ => rfl)⟩
def sp_Row_wider (K : PySem.W.Frag) (C_Row : Addr) : Sp := fun vs H Q _ => ∃ a P R, ∃ ss : List (Int × Int × Str), vs = [.ref a, .int R] ∧ RowAt K H C_Row a P ss ∧ P ≤ R ∧ R ≤ 12 ∧ ∀ r H', Same H H' → RowAt K H' C_Row r R ss → Q (.ref r) H'
theorem b_Row_wider {X : Cx} {C_Row : Addr} (B : Bd X N_Row_wider (defScope S_Row_wider) 8) (F : ∀ x, X.fn x = true) (T : Tx X.K X.mg C_Row) {vs : List V} {H : Hp} {Q : VK} {E : XK} (h : sp_Row_wider X.K C_Row vs H Q E) :
    wB X (defBody S_Row_wider) { nx := fun _ H' => Q .non H', rt := Q } (start N_Row_wider vs) H := by
  have n_self : X.N[0]? = some ("self" : Str) := B.slot 0 rfl
  have l_self : X.env.scope.names.lookup ("self" : Str) = some NameKind.local := B.loc rfl
  have n_places : X.N[1]? = some ("places" : Str) := B.slot 1 rfl
  have l_places : X.env.scope.names.lookup ("places" : Str) = some NameKind.local := B.loc rfl
  have g_check_number : Gl X "check_number" := B.gl rfl
  have g_MAX_PLACES : Gl X "MAX_PLACES" := B.gl rfl
  obtain ⟨t_MAX_PLACES, c_MAX_PLACES⟩ := T.c_MAX_PLACES
  have g_Row : Gl X "Row" := B.gl rfl
  obtain ⟨a, P, R, ss, rfl, ⟨⟨dx, v, ha, hd⟩, h1, h2, h3, h4⟩, hr, hr2, q⟩ := h
  walk_at "wz"
  refine e_fld ?_
  walk_at "wz"
  refine ⟨a, C_Row, dx, _, _, rfl, ha, T.cl_Row, T.na_Row__places, rfl, ?_⟩
  walk_at "wz"
  walk_at "rw"
  walk_at "wz"
  refine e_fld ?_
  walk_at "wz"
  refine ⟨a, C_Row, dx, _, _, rfl, ha, T.cl_Row, T.na_Row__steps, rfl, ?_⟩
  refine ⟨R, ss, rfl, by omega, hr2, hd, h3, fun s hs => ?_, fun r H7 _ s7 R => q r H7 s7 R⟩
  obtain ⟨⟨x1, x2, x3⟩, o⟩ := h4 s hs
  exact ⟨⟨x1, x2, by omega⟩, o⟩
theorem len_Row_wider {K : PySem.W.Frag} {C_Row : Addr} : ∀ vs H Q E, sp_Row_wider K C_Row vs H Q E → vs.length = 2 := by
  intro vs H Q E h
  obtain ⟨_, _, _, _, e, _⟩ := h
  rw [e]; rfl
theorem D_Row_wider {P : Program} {w : World} {K : PySem.W.Frag} {mg : Str → Option Value} {base : Heap} {C_Row : Addr} (T : Tx K mg C_Row) : Md P w K mg base C_Row "wider" 9 ["self", "places"] (sp_Row_wider K C_Row) := by
  obtain ⟨f, fd, F0, M⟩ := T.d_Row_wider
  exact ⟨f, fd, fnk_of F0 sc_Row_wider len_Row_wider (fun X e1 e2 e3 e4 e5 B F vs H Q E h => by subst e1 e2 e3 e4 e5; exact b_Row_wider B F T h), M, F0.binds (fun _ _ _ _ _ _ us hl => match us, hl with | [_, _], _ => rfl)⟩

theorem perm_sorted_eq : ∀ {l m : List Int}, l.Perm m → l.Pairwise (· ≤ ·) → m.Pairwise (· ≤ ·) → l = m
  | [], m, h, _, _ => h.nil_eq
  | a :: l, [], h, _, _ => by have := h.length_eq; simp at this
  | a :: l, b :: m, h, p, q => by
    obtain ⟨p1, p2⟩ := List.pairwise_cons.mp p
    obtain ⟨q1, q2⟩ := List.pairwise_cons.mp q
    have h1 : a ≤ b := by
      rcases List.mem_cons.mp (h.mem_iff.mpr (List.mem_cons_self ..)) with e | e
      · omega
      · exact p1 b e
    have h2 : b ≤ a := by
      rcases List.mem_cons.mp (h.mem_iff.mp (List.mem_cons_self ..)) with e | e
      · omega
      · exact q1 a e
    have e : a = b := by omega
    subst e
    rw [perm_sorted_eq (List.Perm.cons_inv h) p2 q2]
/-- 0, 1, .. -/
def iota (n : Nat) : List Int := (List.range n).map fun (i : Nat) => (i : Int)
theorem iota_sorted (n : Nat) : (iota n).Pairwise (· ≤ ·) := by
  unfold iota
  rw [List.pairwise_map]
  exact List.Pairwise.imp (fun h => by omega) List.pairwise_lt_range
theorem iota_nodup (n : Nat) : (iota n).Nodup := by
  unfold iota
  rw [List.Nodup, List.pairwise_map]
  exact List.Pairwise.imp (fun h => by omega) List.pairwise_lt_range
theorem mem_iota {n : Nat} {x : Int} (h : x ∈ iota n) : 0 ≤ x ∧ x < (n : Int) := by
  obtain ⟨i, hi, rfl⟩ := List.mem_map.mp h
  have := List.mem_range.mp hi
  omega
/-- a deed of so many places -/
def isD (ns : List Int) : Prop := ns.Perm (iota ns.length) ∧ 1 ≤ ns.length ∧ ns.length ≤ 12
theorem isD.at {ns : List Int} (h : isD ns) {i : Int} (h0 : 0 ≤ i) (h1 : i < (ns.length : Int)) : 0 ≤ ns.getD i.toNat 0 ∧ ns.getD i.toNat 0 < (ns.length : Int) := by
  have h2 : i.toNat < ns.length := by omega
  rw [List.getD_eq_getElem?_getD, List.getElem?_eq_getElem h2]
  exact mem_iota (h.1.mem_iff.mp (List.getElem_mem h2))
theorem isD.ne {ns : List Int} (h : isD ns) {i j : Int} (h0 : 0 ≤ i) (h1 : i < j) (h2 : j < (ns.length : Int)) : ns.getD i.toNat 0 ≠ ns.getD j.toNat 0 := by
  have nd : ns.Nodup := h.1.nodup_iff.mpr (iota_nodup _)
  have a : i.toNat < ns.length := by omega
  have b : j.toNat < ns.length := by omega
  rw [List.getD_eq_getElem?_getD, List.getElem?_eq_getElem a, List.getD_eq_getElem?_getD, List.getElem?_eq_getElem b]
  exact List.pairwise_iff_getElem.mp nd _ _ a b (by omega)
def sp_is_number_of_places (K : PySem.W.Frag) (C_Row : Addr) : Sp := fun vs H Q _ => ∃ i, vs = [.int i] ∧ 1 ≤ i ∧ i ≤ 12 ∧ Q (.bl true) H
theorem b_is_number_of_places {X : Cx} {C_Row : Addr} (B : Bd X N_is_number_of_places (defScope S_is_number_of_places) 1) (F : ∀ x, X.fn x = true) (T : Tx X.K X.mg C_Row) {vs : List V} {H : Hp} {Q : VK} {E : XK} (h : sp_is_number_of_places X.K C_Row vs H Q E) :
    wB X (defBody S_is_number_of_places) { nx := fun _ H' => Q .non H', rt := Q } (start N_is_number_of_places vs) H := by
  have n_value : X.N[0]? = some ("value" : Str) := B.slot 0 rfl
  have l_value : X.env.scope.names.lookup ("value" : Str) = some NameKind.local := B.loc rfl
  have g_is_integer : Gl X "is_integer" := B.gl rfl
  have g_MAX_PLACES : Gl X "MAX_PLACES" := B.gl rfl
  obtain ⟨t_MAX_PLACES, c_MAX_PLACES⟩ := T.c_MAX_PLACES
  obtain ⟨i, rfl, h1, h2, q⟩ := h
  walk_at "wz"
  rw [isI_of (by omega) (by omega)]
  walk_at "wz"
  rw [decide_eq_true h1]
  walk_at "wz"
  rw [decide_eq_true h2]
  exact q
theorem len_is_number_of_places {K : PySem.W.Frag} {C_Row : Addr} : ∀ vs H Q E, sp_is_number_of_places K C_Row vs H Q E → vs.length = 1 := by
  intro vs H Q E h
  obtain ⟨_, e, _⟩ := h
  rw [e]; rfl
theorem D_is_number_of_places {P : Program} {w : World} {K : PySem.W.Frag} {mg : Str → Option Value} {base : Heap} {C_Row : Addr} (T : Tx K mg C_Row) : Dk P w K mg base "is_number_of_places" 2 ["value"] (sp_is_number_of_places K C_Row) :=
  dk_of T.d_is_number_of_places sc_is_number_of_places (fun _ _ _ _ _ _ us hl => match us, hl with | [_], _ => rfl) len_is_number_of_places (fun X e1 e2 e3 e4 e5 B F vs H Q E h => by subst e1 e2 e3 e4 e5; exact b_is_number_of_places B F T h)
local macro_rules | `(tactic| walk_at "cl") => `(tactic| (refine' e_callk (D_is_number_of_places ‹Tx _ _ _›) ?rm ?gl ?_; (case rm => exact ‹Bd _ _ _ _›.room.mono (by decide)); (case gl => with_reducible assumption)))
local macro_rules | `(tactic| walk_at "sp") => `(tactic| ((with_reducible show sp_is_number_of_places _ _ _ _ _ _); refine ⟨_, rfl, by omega, by omega, ?_⟩))
def sp_is_deed (K : PySem.W.Frag) (C_Row : Addr) : Sp := fun vs H Q _ => ∃ a, ∃ ns : List Int, vs = [.ref a] ∧ SqT K H a (ns.map V.int) ∧ isD ns ∧ ∀ H', Same H H' → Q (.bl true) H'
theorem b_is_deed {X : Cx} {C_Row : Addr} (B : Bd X N_is_deed (defScope S_is_deed) 2) (F : ∀ x, X.fn x = true) (T : Tx X.K X.mg C_Row) {vs : List V} {H : Hp} {Q : VK} {E : XK} (h : sp_is_deed X.K C_Row vs H Q E) :
    wB X (defBody S_is_deed) { nx := fun _ H' => Q .non H', rt := Q } (start N_is_deed vs) H := by
  have n_value : X.N[0]? = some ("value" : Str) := B.slot 0 rfl
  have l_value : X.env.scope.names.lookup ("value" : Str) = some NameKind.local := B.loc rfl
  have n_place : X.N[1]? = some ("place" : Str) := B.slot 1 rfl
  have g_isinstance : Gl X "isinstance" := B.gl rfl
  have z_isinstance := T.z_isinstance
  have v_isinstance := bb_isinstance
  have g_tuple : Gl X "tuple" := B.gl rfl
  have z_tuple := T.z_tuple
  have v_tuple := bb_tuple
  have g_is_number_of_places : Gl X "is_number_of_places" := B.gl rfl
  have g_len : Gl X "len" := B.gl rfl
  have z_len := T.z_len
  have v_len := bb_len
  have g_all : Gl X "all" := B.gl rfl
  have z_all := T.z_all
  have v_all := bb_all
  have g_sorted : Gl X "sorted" := B.gl rfl
  have z_sorted := T.z_sorted
  have v_sorted := bb_sorted
  have g_list : Gl X "list" := B.gl rfl
  have z_list := T.z_list
  have v_list := bb_list
  have g_range : Gl X "range" := B.gl rfl
  have z_range := T.z_range
  have v_range := bb_range
  obtain ⟨a, ns, rfl, hs, ⟨hp, h1, h2⟩, q⟩ := h
  walk_at "wz"
  refine c_lenT hs ?_
  rw [List.length_map]
  walk_at "wz"
  refine e_lcT 1 B (blkOk_by (by decide +kernel)) rfl rfl (lcT_same ?_)
  walk_at "wz"
  refine ⟨a, _, fun i y _ => y = .bl true, rfl, hs, by rw [List.length_map]; have : (25 : Nat) < sizeLine := (by decide); omega, fun _ _ _ _ _ e _ _ => e, ?_, ?_⟩
  · intro i v H2 hv sm X' bk
    have B' := bk.bd B
    have n_place : X'.N[1]? = some ("place" : Str) := B'.slot 1 rfl
    have l_place : X'.env.scope.names.lookup ("place" : Str) = some NameKind.local := B'.loc rfl
    have T' : Tx X'.K X'.mg C_Row := by rw [bk.K, bk.mg]; exact T
    have g_is_integer : Gl X' "is_integer" := B'.gl rfl
    rw [List.getElem?_map] at hv
    cases hi : ns[i]? with
    | none => rw [hi] at hv; cases hv
    | some x =>
      rw [hi] at hv
      cases hv
      have := mem_iota (hp.mem_iff.mp (List.mem_of_getElem? hi))
      walk_at "wz"
      rw [isI_of (by omega) (by omega)]
      exact ⟨Same.refl _, rfl⟩
  · intro D H' ys h0 sm hD hl hy
    have e : ys = (List.replicate ys.length true).map V.bl := by
      refine List.ext_getElem? fun i => ?_
      rw [List.getElem?_map, List.getElem?_replicate]
      by_cases hi : i < ys.length
      · rw [if_pos hi]
        have := hy i ys[i] (List.getElem?_eq_getElem hi)
        rw [List.getElem?_eq_getElem hi, this]; rfl
      · rw [if_neg hi, List.getElem?_eq_none (by omega)]; rfl
    rw [e] at hD
    walk_at "wz"
    refine c_all B.calm (SqL.of hD) ?_
    rw [show (List.replicate ys.length true).all id = true by rw [List.all_eq_true]; intro x hx; exact (List.mem_replicate.mp hx).2]
    walk_at "wz"
    refine c_sortT (same_tup sm hs) fun ns' p p1 p2 hp0 => ?_
    refine e_lstR1 B.calm g_list z_list g_range z_range ?_
    walk_at "wz"
    refine c_lenT (same_tup (sm.new hp0) hs) ?_
    rw [List.length_map]
    refine ⟨ns.length, rfl, by omega, fun r hr => ?_⟩
    have e2 : ns' = iota ns.length := perm_sorted_eq (p1.trans hp) p2 (iota_sorted _)
    rw [e2] at hr ⊢
    refine o_eqD B.room.units (d := .list ((iota ns.length).map PyData.int)) (e := .list ((iota ns.length).map PyData.int)) (.lst (SqL.of (upd_keep hr upd_same)) (dp_ints _)) (.lst (SqL.of ?_) (dp_ints _)) (shaped_intsL _) (shaped_intsL _) ?_
    · rw [upd_same]
      unfold iota
      rw [List.map_map]; rfl
    · rw [show PyData.eqv (.list ((iota ns.length).map PyData.int)) (.list ((iota ns.length).map PyData.int)) = true from (eqv_ints _ _).trans (decide_eq_true rfl)]
      exact q _ ((sm.new hp0).new hr)
theorem len_is_deed {K : PySem.W.Frag} {C_Row : Addr} : ∀ vs H Q E, sp_is_deed K C_Row vs H Q E → vs.length = 1 := by
  intro vs H Q E h
  obtain ⟨_, _, e, _⟩ := h
  rw [e]; rfl
theorem D_is_deed {P : Program} {w : World} {K : PySem.W.Frag} {mg : Str → Option Value} {base : Heap} {C_Row : Addr} (T : Tx K mg C_Row) : Dk P w K mg base "is_deed" 3 ["value"] (sp_is_deed K C_Row) :=
  dk_of T.d_is_deed sc_is_deed (fun _ _ _ _ _ _ us hl => match us, hl with | [_], _ => rfl) len_is_deed (fun X e1 e2 e3 e4 e5 B F vs H Q E h => by subst e1 e2 e3 e4 e5; exact b_is_deed B F T h)
local macro_rules | `(tactic| walk_at "cl") => `(tactic| (refine' e_callk (D_is_deed ‹Tx _ _ _›) ?rm ?gl ?_; (case rm => exact ‹Bd _ _ _ _›.room.mono (by decide)); (case gl => with_reducible assumption)))

def nameS (ns : List Int) (s : Int × Int × Str) : Int × Int × Str := (if ns.getD s.2.1.toNat 0 < ns.getD s.1.toNat 0 then ns.getD s.2.1.toNat 0 else ns.getD s.1.toNat 0, if ns.getD s.2.1.toNat 0 > ns.getD s.1.toNat 0 then ns.getD s.2.1.toNat 0 else ns.getD s.1.toNat 0, s.2.2)
theorem at_ns {L : List Int} {i : Int} (h0 : 0 ≤ i) (h1 : i < (L.length : Int)) : atI (L.map V.int) i = some (.int (L.getD i.toNat 0)) := by
  obtain ⟨j, rfl⟩ : ∃ j : Nat, i = (j : Int) := ⟨i.toNat, by omega⟩
  have h2 : j < L.length := by omega
  have e : (L.map V.int)[j]? = some (.int (L.getD j 0)) := by
    rw [List.getElem?_map, List.getD_eq_getElem?_getD, List.getElem?_eq_getElem h2]; rfl
  exact atI_nat e
theorem okS_name {P : Int} {ns : List Int} {s : Int × Int × Str} (h : isD ns) (hl : (ns.length : Int) = P) (ok : okS P s) : okS P (nameS ns s) := by
  obtain ⟨⟨x0, xy, yP⟩, o⟩ := ok
  have a := h.at x0 (by omega)
  have b := h.at (i := s.2.1) (by omega) (by omega)
  have n := h.ne x0 xy (by omega)
  unfold nameS
  generalize ns.getD s.1.toNat 0 = u at *
  generalize ns.getD s.2.1.toNat 0 = v at *
  refine ⟨⟨?_, ?_, ?_⟩, o⟩
  · show 0 ≤ if v < u then v else u
    split <;> omega
  · show (if v < u then v else u) < if v > u then v else u
    split <;> split <;> omega
  · show (if v > u then v else u) < P
    split <;> omega
def sp__step_named (K : PySem.W.Frag) (C_Row : Addr) : Sp := fun vs H Q _ => ∃ v b P s, ∃ ns : List Int, vs = [v, .ref b] ∧ Dp K H v (stp s) ∧ okS P s ∧ SqT K H b (ns.map V.int) ∧ (ns.length : Int) = P ∧ ∀ r H', Same H H' → Dp K H' (.ref r) (stp (nameS ns s)) → Q (.ref r) H'
theorem b__step_named {X : Cx} {C_Row : Addr} (B : Bd X N__step_named (defScope S__step_named) 0) (F : ∀ x, X.fn x = true) (T : Tx X.K X.mg C_Row) {vs : List V} {H : Hp} {Q : VK} {E : XK} (h : sp__step_named X.K C_Row vs H Q E) :
    wB X (defBody S__step_named) { nx := fun _ H' => Q .non H', rt := Q } (start N__step_named vs) H := by
  have n_step : X.N[0]? = some ("step" : Str) := B.slot 0 rfl
  have l_step : X.env.scope.names.lookup ("step" : Str) = some NameKind.local := B.loc rfl
  have n_names : X.N[1]? = some ("names" : Str) := B.slot 1 rfl
  have l_names : X.env.scope.names.lookup ("names" : Str) = some NameKind.local := B.loc rfl
  have n_first : X.N[2]? = some ("first" : Str) := B.slot 2 rfl
  have l_first : X.env.scope.names.lookup ("first" : Str) = some NameKind.local := B.loc rfl
  have n_second : X.N[3]? = some ("second" : Str) := B.slot 3 rfl
  have l_second : X.env.scope.names.lookup ("second" : Str) = some NameKind.local := B.loc rfl
  have g_min : Gl X "min" := B.gl rfl
  have z_min := T.z_min
  have v_min := bb_min
  have g_max : Gl X "max" := B.gl rfl
  have z_max := T.z_max
  have v_max := bb_max
  obtain ⟨v, b, P, s, ns, rfl, hd, ⟨⟨x0, xy, yP⟩, o⟩, hn, hl, q⟩ := h
  obtain ⟨a, rfl, hs⟩ := dp_stp hd
  walk_at "st"
  refine s_par 2 3 B.calm B.nd n_first n_second (by decide) l_first l_second (by rw [env_eta B.sc]; rfl) ?_
  walk_at "wz"
  refine x_tup hs ix0 ?_
  refine x_tup hn (at_ns x0 (by omega)) ?_
  walk_at "wz"
  refine x_tup hs ix1 ?_
  refine x_tup hn (at_ns (by omega) (by omega)) ?_
  walk_at "wz"
  refine x_tup hs ix2 ?_
  walk_at "wz"
  refine ⟨by show 3 ≤ sizeLine; decide, fun r hr => ?_⟩
  exact q r _ ((Same.refl H).new hr) (.tup (SqT.of upd_same) (.cons (.int _) (.cons (.int _) (.cons (.str _) .nil))))
theorem len__step_named {K : PySem.W.Frag} {C_Row : Addr} : ∀ vs H Q E, sp__step_named K C_Row vs H Q E → vs.length = 2 := by
  intro vs H Q E h
  obtain ⟨_, _, _, _, _, e, _⟩ := h
  rw [e]; rfl
theorem D__step_named {P : Program} {w : World} {K : PySem.W.Frag} {mg : Str → Option Value} {base : Heap} {C_Row : Addr} (T : Tx K mg C_Row) : Dk P w K mg base "_step_named" 1 ["step", "names"] (sp__step_named K C_Row) :=
  dk_of T.d__step_named sc__step_named (fun _ _ _ _ _ _ us hl => match us, hl with | [_, _], _ => rfl) len__step_named (fun X e1 e2 e3 e4 e5 B F vs H Q E h => by subst e1 e2 e3 e4 e5; exact b__step_named B F T h)
local macro_rules | `(tactic| walk_at "cl") => `(tactic| (refine' e_callk (D__step_named ‹Tx _ _ _›) ?rm ?gl ?_; (case rm => exact ‹Bd _ _ _ _›.room.mono (by decide)); (case gl => with_reducible assumption)))
def sp_Row_renamed (K : PySem.W.Frag) (C_Row : Addr) : Sp := fun vs H Q _ => ∃ a b P, ∃ ns : List Int, ∃ ss : List (Int × Int × Str), vs = [.ref a, .ref b] ∧ RowAt K H C_Row a P ss ∧ SqT K H b (ns.map V.int) ∧ isD ns ∧ (ns.length : Int) = P ∧ ∀ r H', Same H H' → RowAt K H' C_Row r P (ss.map (nameS ns)) → Q (.ref r) H'
theorem dpa_of {K : PySem.W.Frag} {H : Hp} : ∀ {ys : List V} {ds : List PyData}, ys.length = ds.length → (∀ (i : Nat) (y : V) (d : PyData), ys[i]? = some y → ds[i]? = some d → Dp K H y d) → DpAll K H ys ds
  | [], [], _, _ => .nil
  | [], _ :: _, h, _ => by simp at h
  | _ :: _, [], h, _ => by simp at h
  | y :: ys, d :: ds, h, k => .cons (k 0 y d rfl rfl) (dpa_of (by simpa using h) fun i y d h1 h2 => k (i + 1) y d (by simpa using h1) (by simpa using h2))
theorem b_Row_renamed {X : Cx} {C_Row : Addr} (B : Bd X N_Row_renamed (defScope S_Row_renamed) 8) (F : ∀ x, X.fn x = true) (T : Tx X.K X.mg C_Row) {vs : List V} {H : Hp} {Q : VK} {E : XK} (h : sp_Row_renamed X.K C_Row vs H Q E) :
    wB X (defBody S_Row_renamed) { nx := fun _ H' => Q .non H', rt := Q } (start N_Row_renamed vs) H := by
  have n_self : X.N[0]? = some ("self" : Str) := B.slot 0 rfl
  have l_self : X.env.scope.names.lookup ("self" : Str) = some NameKind.local := B.loc rfl
  have n_names : X.N[1]? = some ("names" : Str) := B.slot 1 rfl
  have l_names : X.env.scope.names.lookup ("names" : Str) = some NameKind.cell := B.cel rfl
  have n_step : X.N[2]? = some ("step" : Str) := B.slot 2 rfl
  have g_is_deed : Gl X "is_deed" := B.gl rfl
  have g_len : Gl X "len" := B.gl rfl
  have z_len := T.z_len
  have v_len := bb_len
  have g_InvalidOperation : Gl X "InvalidOperation" := B.gl rfl
  have g_Row : Gl X "Row" := B.gl rfl
  have g_tuple : Gl X "tuple" := B.gl rfl
  have z_tuple := T.z_tuple
  have v_tuple := bb_tuple
  obtain ⟨a, b, P, ns, ss, rfl, ⟨⟨dx, v, ha, hd⟩, h1, h2, h3, h4⟩, hn, hD, hP, q⟩ := h
  obtain ⟨c, xs, rfl, hs, da⟩ := dp_tup hd
  have hl : xs.length = ss.length := by rw [dp_len da, List.length_map]
  walk_at "wz"
  refine ⟨b, ns, rfl, hn, hD, fun H1 s1 => ?_⟩
  walk_at "wz"
  refine c_lenT (same_tup s1 hn) ?_
  rw [List.length_map]
  refine e_fld ?_
  walk_at "wz"
  refine ⟨a, C_Row, dx, _, _, rfl, s1 _ _ ha, T.cl_Row, T.na_Row__places, rfl, ?_⟩
  walk_at "wz"
  refine iteND (fun z => absurd (by rw [hP]) z) (fun _ => ?_)
  walk_at "wz"
  walk_at "rw"
  refine e_fld ?_
  walk_at "wz"
  refine ⟨a, C_Row, dx, _, _, rfl, s1 _ _ ha, T.cl_Row, T.na_Row__places, rfl, ?_⟩
  walk_at "wz"
  refine e_lcT 2 B (blkOk_by (by decide +kernel)) rfl rfl (lcT_same ?_)
  refine e_fld ?_
  walk_at "wz"
  refine ⟨a, C_Row, dx, _, _, rfl, s1 _ _ ha, T.cl_Row, T.na_Row__steps, rfl, ?_⟩
  refine ⟨c, xs, fun i y H => ∃ s, ss[i]? = some s ∧ Dp X.K H y (stp (nameS ns s)), rfl, same_tup s1 hs, by have : (25 : Nat) < sizeLine := (by decide); omega, ?_, ?_, ?_⟩
  · rintro i y p H4 H5 ⟨s, e1, e2⟩ np c
    exact ⟨s, e1, dp_ch c np rfl e2⟩
  · intro i v H2 hv sm X' bk
    have B' := bk.bd B
    have n_step : X'.N[2]? = some ("step" : Str) := B'.slot 2 rfl
    have l_step : X'.env.scope.names.lookup ("step" : Str) = some NameKind.local := B'.loc rfl
    have n_names : X'.N[1]? = some ("names" : Str) := B'.slot 1 rfl
    have l_names : X'.env.scope.names.lookup ("names" : Str) = some NameKind.cell := B'.cel rfl
    have T' : Tx X'.K X'.mg C_Row := by rw [bk.K, bk.mg]; exact T
    have g__step_named : Gl X' "_step_named" := B'.gl rfl
    obtain ⟨s, e1, e2⟩ := dp_step da hv
    walk_at "wz"
    refine ⟨v, b, P, s, ns, rfl, ?_, h4 s (List.mem_of_getElem? e1), ?_, hP, fun r H' s2 hr => ⟨s2, s, e1, ?_⟩⟩
    · rw [bk.K]
      exact dp_same (s1.trans sm) e2
    · rw [bk.K]
      exact same_tup (s1.trans sm) hn
    · rw [← bk.K]
      exact hr
  · intro D H' ys h0 sm hD0 hyl hy
    walk_at "wz"
    refine c_tupL (SqL.of hD0) fun r hr => ?_
    have s3 := (s1.trans sm).new (o := .tup ys) hr
    refine ⟨P, ss.map (nameS ns), rfl, h1, h2, ?_, by rw [List.length_map]; exact h3, ?_, fun r H7 _ s7 R => q r H7 (s3.trans s7) R⟩
    · refine .tup (SqT.of upd_same) (dpa_of (by rw [List.length_map, List.length_map, hyl, hl]) fun i y d g1 g2 => ?_)
      obtain ⟨s, e1, e2⟩ := hy i y g1
      rw [List.getElem?_map, List.getElem?_map, e1] at g2
      cases g2
      exact dp_same ((Same.refl H').new hr) e2
    · intro s hs0
      obtain ⟨t, ht, rfl⟩ := List.mem_map.mp hs0
      exact okS_name hD hP (h4 t ht)
theorem len_Row_renamed {K : PySem.W.Frag} {C_Row : Addr} : ∀ vs H Q E, sp_Row_renamed K C_Row vs H Q E → vs.length = 2 := by
  intro vs H Q E h
  obtain ⟨_, _, _, _, _, e, _⟩ := h
  rw [e]; rfl
theorem D_Row_renamed {P : Program} {w : World} {K : PySem.W.Frag} {mg : Str → Option Value} {base : Heap} {C_Row : Addr} (T : Tx K mg C_Row) : Md P w K mg base C_Row "renamed" 9 ["self", "names"] (sp_Row_renamed K C_Row) := by
  obtain ⟨f, fd, F0, M⟩ := T.d_Row_renamed
  exact ⟨f, fd, fnk_of F0 sc_Row_renamed len_Row_renamed (fun X e1 e2 e3 e4 e5 B F vs H Q E h => by subst e1 e2 e3 e4 e5; exact b_Row_renamed B F T h), M, F0.binds (fun _ _ _ _ _ _ us hl => match us, hl with | [_, _], _ => rfl)⟩

def sp_Row_places (K : PySem.W.Frag) (C_Row : Addr) : Sp := fun vs H Q _ => ∃ a P, ∃ ss : List (Int × Int × Str), vs = [.ref a] ∧ RowAt K H C_Row a P ss ∧ Q (.int P) H
theorem b_Row_places {X : Cx} {C_Row : Addr} (B : Bd X N_Row_places (defScope S_Row_places) 0) (F : ∀ x, X.fn x = true) (T : Tx X.K X.mg C_Row) {vs : List V} {H : Hp} {Q : VK} {E : XK} (h : sp_Row_places X.K C_Row vs H Q E) :
    wB X (defBody S_Row_places) { nx := fun _ H' => Q .non H', rt := Q } (start N_Row_places vs) H := by
  have n_self : X.N[0]? = some ("self" : Str) := B.slot 0 rfl
  have l_self : X.env.scope.names.lookup ("self" : Str) = some NameKind.local := B.loc rfl
  obtain ⟨a, P, ss, rfl, ⟨⟨dx, v, ha, hd⟩, h1, h2, h3, h4⟩, q⟩ := h
  walk_at "wz"
  refine e_fld ?_
  walk_at "wz"
  exact ⟨a, C_Row, dx, _, _, rfl, ha, T.cl_Row, T.na_Row__places, rfl, q⟩
theorem len_Row_places {K : PySem.W.Frag} {C_Row : Addr} : ∀ vs H Q E, sp_Row_places K C_Row vs H Q E → vs.length = 1 := by
  intro vs H Q E h
  obtain ⟨_, _, _, e, _⟩ := h
  rw [e]; rfl
theorem D_Row_places {P : Program} {w : World} {K : PySem.W.Frag} {mg : Str → Option Value} {base : Heap} {C_Row : Addr} (T : Tx K mg C_Row) : Pd P w K mg base C_Row "places" 1 (sp_Row_places K C_Row) := by
  obtain ⟨p, f, fd, F0, M⟩ := T.d_Row_places
  exact ⟨p, f, fd, fnk_of F0 sc_Row_places len_Row_places (fun X e1 e2 e3 e4 e5 B F vs H Q E h => by subst e1 e2 e3 e4 e5; exact b_Row_places B F T h), M, F0.binds (fun _ _ _ _ _ _ us hl => match us, hl with | [_], _ => rfl)⟩
def sp_Row_steps (K : PySem.W.Frag) (C_Row : Addr) : Sp := fun vs H Q _ => ∃ a P, ∃ ss : List (Int × Int × Str), vs = [.ref a] ∧ RowAt K H C_Row a P ss ∧ ∀ v, Dp K H v (.tuple (ss.map stp)) → Q v H
theorem b_Row_steps {X : Cx} {C_Row : Addr} (B : Bd X N_Row_steps (defScope S_Row_steps) 0) (F : ∀ x, X.fn x = true) (T : Tx X.K X.mg C_Row) {vs : List V} {H : Hp} {Q : VK} {E : XK} (h : sp_Row_steps X.K C_Row vs H Q E) :
    wB X (defBody S_Row_steps) { nx := fun _ H' => Q .non H', rt := Q } (start N_Row_steps vs) H := by
  have n_self : X.N[0]? = some ("self" : Str) := B.slot 0 rfl
  have l_self : X.env.scope.names.lookup ("self" : Str) = some NameKind.local := B.loc rfl
  obtain ⟨a, P, ss, rfl, ⟨⟨dx, v, ha, hd⟩, h1, h2, h3, h4⟩, q⟩ := h
  walk_at "wz"
  refine e_fld ?_
  walk_at "wz"
  exact ⟨a, C_Row, dx, _, _, rfl, ha, T.cl_Row, T.na_Row__steps, rfl, q v hd⟩
theorem len_Row_steps {K : PySem.W.Frag} {C_Row : Addr} : ∀ vs H Q E, sp_Row_steps K C_Row vs H Q E → vs.length = 1 := by
  intro vs H Q E h
  obtain ⟨_, _, _, e, _⟩ := h
  rw [e]; rfl
theorem D_Row_steps {P : Program} {w : World} {K : PySem.W.Frag} {mg : Str → Option Value} {base : Heap} {C_Row : Addr} (T : Tx K mg C_Row) : Pd P w K mg base C_Row "steps" 1 (sp_Row_steps K C_Row) := by
  obtain ⟨p, f, fd, F0, M⟩ := T.d_Row_steps
  exact ⟨p, f, fd, fnk_of F0 sc_Row_steps len_Row_steps (fun X e1 e2 e3 e4 e5 B F vs H Q E h => by subst e1 e2 e3 e4 e5; exact b_Row_steps B F T h), M, F0.binds (fun _ _ _ _ _ _ us hl => match us, hl with | [_], _ => rfl)⟩
def exd (s : Int × Int × Str) : PyData := .tuple [.int s.1, .int s.2.1]
def sp_Row_exchanges (K : PySem.W.Frag) (C_Row : Addr) : Sp := fun vs H Q _ => ∃ a P, ∃ ss : List (Int × Int × Str), vs = [.ref a] ∧ RowAt K H C_Row a P ss ∧ ∀ r H', Same H H' → Dp K H' (.ref r) (.tuple (ss.map exd)) → Q (.ref r) H'
theorem b_Row_exchanges {X : Cx} {C_Row : Addr} (B : Bd X N_Row_exchanges (defScope S_Row_exchanges) 0) (F : ∀ x, X.fn x = true) (T : Tx X.K X.mg C_Row) {vs : List V} {H : Hp} {Q : VK} {E : XK} (h : sp_Row_exchanges X.K C_Row vs H Q E) :
    wB X (defBody S_Row_exchanges) { nx := fun _ H' => Q .non H', rt := Q } (start N_Row_exchanges vs) H := by
  have n_self : X.N[0]? = some ("self" : Str) := B.slot 0 rfl
  have l_self : X.env.scope.names.lookup ("self" : Str) = some NameKind.local := B.loc rfl
  have n_step : X.N[1]? = some ("step" : Str) := B.slot 1 rfl
  have g_tuple : Gl X "tuple" := B.gl rfl
  have z_tuple := T.z_tuple
  have v_tuple := bb_tuple
  obtain ⟨a, P, ss, rfl, ⟨⟨dx, v, ha, hd⟩, h1, h2, h3, h4⟩, q⟩ := h
  obtain ⟨c, xs, rfl, hs, da⟩ := dp_tup hd
  have hl : xs.length = ss.length := by rw [dp_len da, List.length_map]
  walk_at "wz"
  refine e_lcT 1 B (blkOk_by (by decide +kernel)) rfl rfl (lcT_same ?_)
  refine e_fld ?_
  walk_at "wz"
  refine ⟨a, C_Row, dx, _, _, rfl, ha, T.cl_Row, T.na_Row__steps, rfl, ?_⟩
  refine ⟨c, xs, fun i y H => ∃ s, ss[i]? = some s ∧ Dp X.K H y (exd s), rfl, hs, by have : (25 : Nat) < sizeLine := (by decide); omega, ?_, ?_, ?_⟩
  · rintro i y p H4 H5 ⟨s, e1, e2⟩ np c
    exact ⟨s, e1, dp_ch c np rfl e2⟩
  · intro i v H2 hv sm X' bk
    have B' := bk.bd B
    have n_step : X'.N[1]? = some ("step" : Str) := B'.slot 1 rfl
    have l_step : X'.env.scope.names.lookup ("step" : Str) = some NameKind.local := B'.loc rfl
    have T' : Tx X'.K X'.mg C_Row := by rw [bk.K, bk.mg]; exact T
    obtain ⟨s, e1, e2⟩ := dp_step da hv
    obtain ⟨d, rfl, hd2⟩ := dp_stp e2
    refine e_slNS ?_
    walk_at "wz"
    refine ⟨d, _, rfl, by rw [bk.K]; exact same_tup sm hd2, fun p H' s2 hp => ⟨s2, s, e1, ?_⟩⟩
    rw [bk.K] at hp
    exact .tup hp (.cons (.int _) (.cons (.int _) .nil))
  · intro D H' ys h0 sm hD0 hyl hy
    walk_at "wz"
    refine c_tupL (SqL.of hD0) fun r hr => ?_
    refine q r _ (sm.new hr) (.tup (SqT.of upd_same) (dpa_of (by rw [List.length_map, hyl, hl]) fun i y d g1 g2 => ?_))
    obtain ⟨s, e1, e2⟩ := hy i y g1
    rw [List.getElem?_map, e1] at g2
    cases g2
    exact dp_same ((Same.refl H').new hr) e2
theorem len_Row_exchanges {K : PySem.W.Frag} {C_Row : Addr} : ∀ vs H Q E, sp_Row_exchanges K C_Row vs H Q E → vs.length = 1 := by
  intro vs H Q E h
  obtain ⟨_, _, _, e, _⟩ := h
  rw [e]; rfl
theorem D_Row_exchanges {P : Program} {w : World} {K : PySem.W.Frag} {mg : Str → Option Value} {base : Heap} {C_Row : Addr} (T : Tx K mg C_Row) : Pd P w K mg base C_Row "exchanges" 1 (sp_Row_exchanges K C_Row) := by
  obtain ⟨p, f, fd, F0, M⟩ := T.d_Row_exchanges
  exact ⟨p, f, fd, fnk_of F0 sc_Row_exchanges len_Row_exchanges (fun X e1 e2 e3 e4 e5 B F vs H Q E h => by subst e1 e2 e3 e4 e5; exact b_Row_exchanges B F T h), M, F0.binds (fun _ _ _ _ _ _ us hl => match us, hl with | [_], _ => rfl)⟩

def deedL (P : Int) (ss : List (Int × Int × Str)) : List Int := (List.range P.toNat).map fun (i : Nat) => lastP ss (i : Int)
theorem same_T {K : PySem.W.Frag} {H H' : Hp} {a : Addr} {xs : List V} (h : SqT K H a xs) (e : Same H H') : SqT K H' a xs := same_tup e h
theorem stays_eq (f : Nat → V) : Stays (fun i y _ => y = f i) := fun _ _ _ _ _ e _ _ => e
theorem ys_eq {ys : List V} {n : Nat} {f : Nat → V} (hl : ys.length = n) (h : ∀ i y, ys[i]? = some y → y = f i) : ys = (List.range n).map f := by
  refine List.ext_getElem? fun i => ?_
  rw [List.getElem?_map]
  by_cases hi : i < n
  · have hi2 : i < ys.length := by omega
    rw [List.getElem?_range hi, List.getElem?_eq_getElem hi2, h i _ (List.getElem?_eq_getElem hi2)]; rfl
  · rw [List.getElem?_eq_none (by omega), List.getElem?_eq_none (by simpa using hi)]; rfl
def backP (ss : List (Int × Int × Str)) (p : Int) : Int := lastP ss.reverse p
def nextL (s : Int × Int × Str) (l : List Int) : List Int := (l.set s.1.toNat (l.getD s.2.1.toNat 0)).set s.2.1.toNat (l.getD s.1.toNat 0)
def lie0 (P : Int) : List Int := (List.range P.toNat).map fun (i : Nat) => (i : Int)
def lieAt (P : Int) (ss : List (Int × Int × Str)) : List Int := ss.foldl (fun l s => nextL s l) (lie0 P)
theorem lieAt_snoc (P : Int) (ss : List (Int × Int × Str)) (s : Int × Int × Str) : lieAt P (ss ++ [s]) = nextL s (lieAt P ss) := by unfold lieAt; rw [List.foldl_append]; rfl
theorem lie_len (P : Int) (ss : List (Int × Int × Str)) : (lieAt P ss).length = P.toNat := by
  have : ∀ (ss : List (Int × Int × Str)) (l : List Int), (ss.foldl (fun l s => nextL s l) l).length = l.length := by
    intro ss
    induction ss with
    | nil => intro l; rfl
    | cons s ss ih => intro l; show (ss.foldl _ (nextL s l)).length = _; rw [ih]; unfold nextL; rw [List.length_set, List.length_set]
  unfold lieAt
  rw [this]
  unfold lie0
  rw [List.length_map, List.length_range]
theorem ixN_in {n : Nat} {i : Int} (h0 : 0 ≤ i) (h1 : i < (n : Int)) : ixN n i = some i.toNat := by
  obtain ⟨j, rfl⟩ : ∃ j : Nat, i = (j : Int) := ⟨i.toNat, by omega⟩
  unfold ixN
  simp
  omega
theorem at_map {L : List Int} {i : Int} (h0 : 0 ≤ i) (h1 : i < (L.length : Int)) : atI (L.map V.int) i = some (.int (L.getD i.toNat 0)) := by
  unfold atI
  rw [ixN_in h0 (by rw [List.length_map]; exact h1)]
  show (L.map V.int)[i.toNat]? = _
  rw [List.getElem?_map, List.getD_eq_getElem?_getD]
  have h2 : i.toNat < L.length := by omega
  rw [List.getElem?_eq_getElem h2]; rfl
theorem pb_pb (x y p : Int) : pb x y (pb x y p) = p := by
  unfold pb
  split
  · split
    · omega
    · split <;> omega
  · split
    · split <;> omega
    · rfl
theorem last_rev : ∀ (ss : List (Int × Int × Str)) (p : Int), lastP ss.reverse (lastP ss p) = p
  | [], _ => rfl
  | s :: ss, p => by
    show lastP (s :: ss).reverse (lastP ss (pb s.1 s.2.1 p)) = p
    rw [List.reverse_cons, lastP_app, last_rev ss]
    exact pb_pb _ _ _
theorem back_last (ss : List (Int × Int × Str)) (p : Int) : backP ss (lastP ss p) = p := last_rev ss p
theorem last_back (ss : List (Int × Int × Str)) (p : Int) : lastP ss (backP ss p) = p := by
  have := last_rev ss.reverse p
  rw [List.reverse_reverse] at this
  exact this
theorem lie_get {P : Int} {ss : List (Int × Int × Str)} (ok : ∀ s ∈ ss, okS P s) : ∀ k, k ≤ ss.length → ∀ i : Nat, i < P.toNat → (lieAt P (ss.take k))[i]? = some (backP (ss.take k) (i : Int))
  | 0, _, i, hi => by
    show (lie0 P)[i]? = some (i : Int)
    unfold lie0
    rw [List.getElem?_map, List.getElem?_range hi]; rfl
  | k + 1, hk, i, hi => by
    have ih := lie_get ok k (by omega)
    have e1 : ss[k]? = some ss[k] := List.getElem?_eq_getElem (by omega)
    obtain ⟨⟨x0, xy, yP⟩, _⟩ := ok _ (List.mem_of_getElem? e1)
    rw [tk_snoc e1, lieAt_snoc]
    generalize ss[k] = s at *
    have hl := lie_len P (ss.take k)
    have eb : backP (ss.take k ++ [s]) (i : Int) = backP (ss.take k) (pb s.1 s.2.1 (i : Int)) := by
      unfold backP
      rw [List.reverse_append]; rfl
    rw [eb]
    have gx : (lieAt P (ss.take k)).getD s.1.toNat 0 = backP (ss.take k) s.1 := by
      rw [List.getD_eq_getElem?_getD, ih s.1.toNat (by omega), Int.toNat_of_nonneg x0]; rfl
    have gy : (lieAt P (ss.take k)).getD s.2.1.toNat 0 = backP (ss.take k) s.2.1 := by
      rw [List.getD_eq_getElem?_getD, ih s.2.1.toNat (by omega), Int.toNat_of_nonneg (by omega)]; rfl
    unfold nextL
    rw [gx, gy, List.getElem?_set, List.getElem?_set]
    unfold pb
    split
    · rename_i e
      rw [List.length_set, hl, if_pos (show s.2.1.toNat < P.toNat by omega), if_neg (show ¬ (i : Int) = s.1 by omega), if_pos (show (i : Int) = s.2.1 by omega)]
    · split
      · rename_i e
        rw [hl, if_pos (show s.1.toNat < P.toNat by omega), if_pos (show (i : Int) = s.1 by omega)]
      · rw [if_neg (show ¬ (i : Int) = s.1 by omega), if_neg (show ¬ (i : Int) = s.2.1 by omega)]
        exact ih i hi
theorem trail_eq (ss : List (Int × Int × Str)) (p : Int) : (trail ss p).map V.int = (List.range (ss.length + 1)).map fun k => V.int (lastP (ss.take k) p) := by
  refine List.ext_getElem? fun i => ?_
  rw [List.getElem?_map, List.getElem?_map]
  by_cases hi : i ≤ ss.length
  · rw [trail_at ss p i hi, List.getElem?_range (by omega)]; rfl
  · rw [List.getElem?_eq_none (by rw [trail_len]; omega), List.getElem?_eq_none (by rw [List.length_range]; omega)]; rfl
theorem trail_cat (as bs : List (Int × Int × Str)) (p : Int) : trail (as ++ bs) p = (trail as p).take as.length ++ trail bs (lastP as p) := by
  induction as generalizing p with
  | nil => rfl
  | cons s as ih =>
    show p :: trail (as ++ bs) _ = p :: ((trail as _).take as.length ++ _)
    rw [ih]; rfl
theorem deed_at {P t : Int} {ss : List (Int × Int × Str)} (h0 : 0 ≤ t) (h1 : t < P) : atI ((deedL P ss).map V.int) t = some (.int (lastP ss t)) := by
  have hl : (deedL P ss).length = P.toNat := by unfold deedL; rw [List.length_map, List.length_range]
  rw [at_map h0 (by rw [hl]; omega)]
  congr 2
  unfold deedL
  rw [List.getD_eq_getElem?_getD, List.getElem?_map, List.getElem?_range (by omega)]
  show lastP ss ((t.toNat : Nat) : Int) = _
  rw [Int.toNat_of_nonneg h0]
theorem back_in {P : Int} {ss : List (Int × Int × Str)} {p : Int} (ok : ∀ s ∈ ss, okS P s) (h0 : 0 ≤ p) (h1 : p < P) : 0 ≤ backP ss p ∧ backP ss p < P := lastP_in (fun s hs => ok s (List.mem_reverse.mp hs)) h0 h1

/-- the places found so far -/
def fndL (P : Int) (ss : List (Int × Int × Str)) (k : Nat) : List Int := (List.range P.toNat).map fun (t : Nat) => if lastP ss (t : Int) < (k : Int) then lastP ss (t : Int) else 0
theorem fnd_len (P : Int) (ss : List (Int × Int × Str)) (k : Nat) : (fndL P ss k).length = P.toNat := by unfold fndL; rw [List.length_map, List.length_range]
theorem fnd_0 {P : Int} {ss : List (Int × Int × Str)} (ok : ∀ s ∈ ss, okS P s) : (fndL P ss 0).map V.int = List.replicate P.toNat (.int 0) := by
  refine List.ext_getElem? fun i => ?_
  unfold fndL
  rw [List.getElem?_map, List.getElem?_map, List.getElem?_replicate]
  by_cases hi : i < P.toNat
  · have := lastP_in (p := (i : Int)) ok (by omega) (by omega)
    rw [if_pos hi, List.getElem?_range hi]
    show some (V.int (if lastP ss (i : Int) < ((0 : Nat) : Int) then _ else _)) = _
    rw [if_neg (by omega)]
  · rw [if_neg hi, List.getElem?_eq_none (by rw [List.length_range]; omega)]; rfl
theorem fnd_s {P : Int} {ss : List (Int × Int × Str)} (ok : ∀ s ∈ ss, okS P s) {k : Nat} (hk : k < P.toNat) : (fndL P ss k).set (backP ss (k : Int)).toNat (k : Int) = fndL P ss (k + 1) := by
  have b := back_in (p := (k : Int)) ok (by omega) (by omega)
  refine List.ext_getElem? fun i => ?_
  rw [List.getElem?_set, fnd_len]
  by_cases hi : i < P.toNat
  · unfold fndL
    rw [List.getElem?_map, List.getElem?_map, List.getElem?_range hi]
    show _ = some (if lastP ss (i : Int) < ((k + 1 : Nat) : Int) then lastP ss (i : Int) else 0)
    split
    · rename_i e
      have e2 : lastP ss (i : Int) = (k : Int) := by
        have := last_back ss (k : Int)
        rw [show backP ss (k : Int) = (i : Int) by omega] at this
        exact this
      rw [if_pos (show (backP ss (k : Int)).toNat < P.toNat by omega), e2, if_pos (by omega)]
    · rename_i e
      show some (if lastP ss (i : Int) < (k : Int) then _ else _) = _
      have e2 : lastP ss (i : Int) ≠ (k : Int) := fun z => by
        have := back_last ss (i : Int)
        rw [z] at this
        omega
      by_cases h : lastP ss (i : Int) < (k : Int)
      · rw [if_pos h, if_pos (by omega)]
      · rw [if_neg h, if_neg (by omega)]
  · have h1 : (fndL P ss (k + 1)).length ≤ i := by rw [fnd_len]; omega
    have h2 : (fndL P ss k).length ≤ i := by rw [fnd_len]; omega
    rw [List.getElem?_eq_none h1, List.getElem?_eq_none h2]
    split
    · rw [if_neg (by omega)]
    · rfl
theorem fnd_all {P : Int} {ss : List (Int × Int × Str)} (ok : ∀ s ∈ ss, okS P s) : fndL P ss P.toNat = deedL P ss := by
  unfold fndL deedL
  refine List.map_congr_left fun t ht => ?_
  have ht := List.mem_range.mp ht
  have := lastP_in (p := (t : Int)) ok (by omega) (by omega)
  rw [if_pos (by omega)]
def sp__law_deed (K : PySem.W.Frag) (C_Row : Addr) : Sp := fun vs H Q _ => ∃ P l xs, ∃ ss : List (Int × Int × Str), vs = [.int P, .ref l] ∧ SqL K H l xs ∧ DpAll K H xs (ss.map stp) ∧ (∀ s ∈ ss, okS P s) ∧ 1 ≤ P ∧ P ≤ 12 ∧ ∀ r H', Same H H' → SqT K H' r ((deedL P ss).map V.int) → Q (.ref r) H'
theorem b__law_deed {X : Cx} {C_Row : Addr} (B : Bd X N__law_deed (defScope S__law_deed) 0) (F : ∀ x, X.fn x = true) (G : X.A.guards = some []) (T : Tx X.K X.mg C_Row) {vs : List V} {H : Hp} {Q : VK} {E : XK} (h : sp__law_deed X.K C_Row vs H Q E) :
    wB X (defBody S__law_deed) { nx := fun _ H' => Q .non H', rt := Q } (start N__law_deed vs) H := by
  have n_places : X.N[0]? = some ("places" : Str) := B.slot 0 rfl
  have l_places : X.env.scope.names.lookup ("places" : Str) = some NameKind.local := B.loc rfl
  have n_steps : X.N[1]? = some ("steps" : Str) := B.slot 1 rfl
  have l_steps : X.env.scope.names.lookup ("steps" : Str) = some NameKind.local := B.loc rfl
  have n_lies : X.N[2]? = some ("lies" : Str) := B.slot 2 rfl
  have l_lies : X.env.scope.names.lookup ("lies" : Str) = some NameKind.local := B.loc rfl
  have n_one : X.N[3]? = some ("one" : Str) := B.slot 3 rfl
  have l_one : X.env.scope.names.lookup ("one" : Str) = some NameKind.local := B.loc rfl
  have n_other : X.N[4]? = some ("other" : Str) := B.slot 4 rfl
  have l_other : X.env.scope.names.lookup ("other" : Str) = some NameKind.local := B.loc rfl
  have n_owner : X.N[5]? = some ("owner" : Str) := B.slot 5 rfl
  have l_owner : X.env.scope.names.lookup ("owner" : Str) = some NameKind.local := B.loc rfl
  have n_found : X.N[6]? = some ("found" : Str) := B.slot 6 rfl
  have l_found : X.env.scope.names.lookup ("found" : Str) = some NameKind.local := B.loc rfl
  have n_place : X.N[7]? = some ("place" : Str) := B.slot 7 rfl
  have l_place : X.env.scope.names.lookup ("place" : Str) = some NameKind.local := B.loc rfl
  have g_list : Gl X "list" := B.gl rfl
  have z_list := T.z_list
  have v_list := bb_list
  have g_range : Gl X "range" := B.gl rfl
  have z_range := T.z_range
  have v_range := bb_range
  have g_tuple : Gl X "tuple" := B.gl rfl
  have z_tuple := T.z_tuple
  have v_tuple := bb_tuple
  obtain ⟨P, l, xs, ss, rfl, hx, da, ok, h1, h2, q⟩ := h
  have hln : xs.length = ss.length := by rw [dp_len da, List.length_map]
  have hPn : ((P.toNat : Nat) : Int) = P := Int.toNat_of_nonneg (by omega)
  walk_at "st"
  walk_at "st"
  refine e_lstR1 B.calm g_list z_list g_range z_range ?_
  walk_at "wz"
  refine ⟨P.toNat, by rw [hPn], by omega, fun b hb => ?_⟩
  have sm0 : Same H (upd H b (.lst ((List.range P.toNat).map fun (i : Nat) => V.int (i : Int)))) := (Same.refl H).new hb
  have b0 : H b = none := hb
  walk_at "st"
  refine s_forLg (pg_t3 3 4 5 B.calm B.nd n_one n_other n_owner l_one l_other l_owner) B.ps B.calm ?_
  walk_at "wz"
  refine ⟨l, xs, rfl, sm0.seq hx, fun k σ H1 => ∃ y3 y4 y5 y6 y7, σ = [some (.int P), some (.ref l), some (.ref b), y3, y4, y5, y6, y7] ∧ Same H H1 ∧ H1 b = some (.lst ((lieAt P (ss.take k)).map V.int)), ?_, ?_, ?_, ?_⟩
  · refine ⟨_, _, _, _, _, rfl, sm0, ?_⟩
    rw [upd_same]
    show _ = some (HO.lst ((lie0 P).map V.int))
    unfold lie0
    rw [List.map_map]; rfl
  · rintro k σ H1 hk ⟨y3, y4, y5, y6, y7, rfl, sm, _⟩
    exact sm.seq hx
  · rintro k v σ H1 hk ⟨y3, y4, y5, y6, y7, rfl, sm, hbb⟩
    obtain ⟨s, e1, e2⟩ := dp_step da hk
    obtain ⟨c, rfl, hc⟩ := dp_stp e2
    obtain ⟨⟨x0, xy, yP⟩, oo⟩ := ok s (List.mem_of_getElem? e1)
    have L1 := lie_len P (ss.take k)
    refine g3 (same_tup sm hc) ?_
    walk_at "st"
    refine s_swS B.calm (by rw [env_eta B.sc]; rfl) ?_
    walk_at "wz"
    refine x_lst (SqL.of hbb) (at_map (by omega) (by rw [L1]; omega)) ?_
    walk_at "wz"
    refine x_lst (SqL.of hbb) (at_map (by omega) (by rw [L1]; omega)) ?_
    walk_at "wz"
    refine ⟨by show 2 ≤ sizeLine; decide, fun t ht => ?_⟩
    refine ⟨t, _, _, rfl, SqT.of upd_same, ?_⟩
    walk_at "wz"
    refine ps_set_list ⟨b, _, s.1, s.1.toNat, rfl, rfl, upd_keep ht hbb, ixN_in x0 (by rw [List.length_map, L1]; omega), ?_⟩
    walk_at "wz"
    refine ps_set_list ⟨b, _, s.2.1, s.2.1.toNat, rfl, rfl, upd_same, ixN_in (by omega) (by rw [List.length_set, List.length_map, L1]; omega), ?_⟩
    refine ⟨_, _, _, _, _, rfl, ((sm.new ht).ch b0 Ch.refl.put).ch b0 Ch.refl.put, ?_⟩
    rw [upd_same, tk_snoc e1, lieAt_snoc]
    unfold nextL
    rw [List.map_set, List.map_set]
  · rintro σ H1 ⟨y3, y4, y5, y6, y7, rfl, sm, hbb⟩
    rw [hln, List.take_length] at hbb
    walk_at "wz"
    refine ⟨by show 1 ≤ sizeLine; decide, fun f0 hf0 => ?_⟩
    walk_at "wz"
    refine o_rep upd_same (by omega) (by omega) (by show 1 * P.toNat ≤ _; have : (100 : Nat) ≤ sizeLine := (by decide); omega) fun f hf => ?_
    have ef : (List.replicate P.toNat [V.int 0]).flatten = (fndL P ss 0).map V.int := by
      rw [fnd_0 ok]
      generalize P.toNat = n
      induction n with
      | zero => rfl
      | succ n ih => rw [List.replicate_succ, List.flatten_cons, ih]; rfl
    rw [ef]
    have sm1 : Same H (upd (upd H1 f0 (.lst [.int 0])) f (.lst ((fndL P ss 0).map V.int))) := (sm.new hf0).new hf
    have f0n : H f = none := sm.free (by
      cases e : H1 f with
      | none => rfl
      | some o =>
        rw [upd_keep hf0 e] at hf
        cases hf)
    have bb1 : upd (upd H1 f0 (.lst [.int 0])) f (.lst ((fndL P ss 0).map V.int)) b = some (.lst ((lieAt P ss).map V.int)) := upd_keep hf (upd_keep hf0 hbb)
    have bf : b ≠ f := ne_of_none (upd_keep hf0 hbb) hf
    have ff1 : upd (upd H1 f0 (.lst [.int 0])) f (.lst ((fndL P ss 0).map V.int)) f = some (.lst ((fndL P ss 0).map V.int)) := upd_same
    generalize upd (upd H1 f0 (.lst [.int 0])) f (.lst ((fndL P ss 0).map V.int)) = Hb at sm1 bb1 ff1
    walk_at "st"
    refine s_forR1 7 B.ps B.calm g_range z_range B.nd n_place (Or.inl l_place) ?_ (hf := .inr l_place)
    walk_at "wz"
    refine ⟨P.toNat, by rw [hPn], by omega, fun k σ H1 => ∃ y4 y5 y6 y7, σ = [some (.int P), some (.ref l), some (.ref b), y4, y5, y6, some (.ref f), y7] ∧ Same H H1 ∧ H1 b = some (.lst ((lieAt P ss).map V.int)) ∧ H1 f = some (.lst ((fndL P ss k).map V.int)), ?_, ?_, ?_⟩
    · exact ⟨_, _, _, _, rfl, sm1, bb1, ff1⟩
    · rintro k σ H2 hk ⟨y4, y5, y6, y7, rfl, sm2, hb2, hf2⟩
      have bi := back_in (p := (k : Int)) ok (by omega) (by omega)
      have eb : atI ((lieAt P ss).map V.int) (k : Int) = some (.int (backP ss (k : Int))) := by
        have g := lie_get ok ss.length (Nat.le_refl _) k hk
        rw [List.take_length] at g
        refine atI_nat ?_
        rw [List.getElem?_map, g]; rfl
      walk_at "wz"
      refine x_lst (SqL.of hb2) eb ?_
      walk_at "wz"
      refine ps_set_list ⟨f, _, _, _, rfl, rfl, hf2, ixN_in bi.1 (by rw [List.length_map, fnd_len]; omega), ?_⟩
      refine ⟨_, _, _, _, rfl, sm2.ch f0n Ch.refl.put, upd_keep2 bf hb2, ?_⟩
      rw [upd_same, ← fnd_s ok hk, List.map_set]
    · rintro σ H2 ⟨y4, y5, y6, y7, rfl, sm2, hb2, hf2⟩
      walk_at "wz"
      rw [fnd_all ok] at hf2
      refine c_tupL (SqL.of hf2) fun r hr => ?_
      exact q r _ (sm2.new hr) (SqT.of upd_same)
theorem len__law_deed {K : PySem.W.Frag} {C_Row : Addr} : ∀ vs H Q E, sp__law_deed K C_Row vs H Q E → vs.length = 2 := by
  intro vs H Q E h
  obtain ⟨_, _, _, _, e, _⟩ := h
  rw [e]; rfl
theorem D__law_deed {P : Program} {w : World} {K : PySem.W.Frag} {mg : Str → Option Value} {base : Heap} {C_Row : Addr} (T : Tx K mg C_Row) : Df P w K mg base "_law_deed" 1 ["places", "steps"] (sp__law_deed K C_Row) :=
  df_of T.d__law_deed sc__law_deed (fun _ _ _ _ _ _ us hl => match us, hl with | [_, _], _ => rfl) len__law_deed (fun X e1 e2 e3 e4 e5 B F G vs H Q E h => by subst e1 e2 e3 e4 e5; exact b__law_deed B F G T h)
local macro_rules | `(tactic| walk_at "cl") => `(tactic| (refine' e_call (D__law_deed ‹Tx _ _ _›) (by assumption) ?rm ?gl ?_; (case rm => exact ‹Bd _ _ _ _›.room.mono (by decide)); (case gl => with_reducible assumption)))

theorem _root_.WX.Ch.at {p l : Addr} {H H1 : Hp} {o : HO} (a : Ch p H H1) (h : H l = none) : Ch p H (upd H1 l o) := fun b u hb e => upd_keep2 (ne_of_none e h) (a b u hb e)
theorem _root_.WX.Dice.at {H : Hp} {p l : Addr} {o : HO} (d : Dice H p) (h : l ≠ p) : Dice (upd H l o) p := by
  obtain ⟨x, y, z, e⟩ := d
  exact ⟨x, y, z, upd_keep2 (Ne.symm h) e⟩
theorem _root_.WX.Dice.off {H : Hp} {p q : Addr} (d : Dice H p) (h : H q = none) : q ≠ p := by
  obtain ⟨x, y, z, e⟩ := d
  rintro rfl
  rw [e] at h
  cases h
theorem at_str {z : Str} {r : Int} (h0 : 0 ≤ r) (h : r < (z.length : Int)) : ∃ c : Nat, c ∈ z.cps.toList ∧ atI z.cps.toList r = some c := by
  obtain ⟨n, rfl⟩ : ∃ n : Nat, r = (n : Int) := ⟨r.toNat, by omega⟩
  have h2 : n < z.cps.toList.length := by
    have : z.length = z.cps.toList.length := by show z.cps.size = _; simp
    omega
  exact ⟨z.cps.toList[n], List.getElem_mem h2, atI_nat (List.getElem?_eq_getElem h2)⟩
def sp__law_dice (K : PySem.W.Frag) (C_Row : Addr) : Sp := fun vs H Q _ => ∃ a ns, vs = [.ref a, .int (ns : Int)] ∧ (∃ xs : List Int, SqL K H a (xs.map V.int)) ∧ (ns : Int) = ns ∧ 0 ≤ (ns : Int) ∧ ∀ p x y, H p = none → Q (.ref p) (upd H p (.lst [.int x, .int y, .int 0]))
theorem b__law_dice {X : Cx} {C_Row : Addr} (B : Bd X N__law_dice (defScope S__law_dice) 0) (F : ∀ x, X.fn x = true) (G : X.A.guards = some []) (T : Tx X.K X.mg C_Row) {vs : List V} {H : Hp} {Q : VK} {E : XK} (h : sp__law_dice X.K C_Row vs H Q E) :
    wB X (defBody S__law_dice) { nx := fun _ H' => Q .non H', rt := Q } (start N__law_dice vs) H := by
  have n_script : X.N[0]? = some ("script" : Str) := B.slot 0 rfl
  have l_script : X.env.scope.names.lookup ("script" : Str) = some NameKind.local := B.loc rfl
  have n_spot : X.N[1]? = some ("spot" : Str) := B.slot 1 rfl
  have l_spot : X.env.scope.names.lookup ("spot" : Str) = some NameKind.local := B.loc rfl
  have n_cell : X.N[2]? = some ("cell" : Str) := B.slot 2 rfl
  have l_cell : X.env.scope.names.lookup ("cell" : Str) = some NameKind.local := B.loc rfl
  have n_left : X.N[3]? = some ("left" : Str) := B.slot 3 rfl
  have l_left : X.env.scope.names.lookup ("left" : Str) = some NameKind.local := B.loc rfl
  have g_len : Gl X "len" := B.gl rfl
  have z_len := T.z_len
  have v_len := bb_len
  have g_int : Gl X "int" := B.gl rfl
  have z_int := T.z_int
  have v_int := bb_int
  have g_max : Gl X "max" := B.gl rfl
  have z_max := T.z_max
  have v_max := bb_max
  have g_abs : Gl X "abs" := B.gl rfl
  have z_abs := T.z_abs
  have v_abs := bb_abs
  obtain ⟨a, i, rfl, ⟨xs, hs⟩, _, hi, q⟩ := h
  walk_at "st"
  walk_at "st"
  refine wE_mono (R := fun v H' => H' = H ∧ ∃ c : Int, v = .int c) ?_ ?_
  · walk_at "wz"
    refine c_lenL hs ?_
    walk_at "wz"
    refine iteD (fun h1 => ?_) (fun h1 => ?_)
    · obtain ⟨c, g⟩ := at_ints hi h1
      walk_at "wz"
      refine x_lst hs g ?_
      walk_at "wz"
      exact ⟨rfl, _, rfl⟩
    · walk_at "wz"
      walk_at "mul"
      walk_at "wz"
      exact ⟨rfl, _, rfl⟩
  · rintro v H' ⟨rfl, c, rfl⟩
    walk_at "wz"
    refine o_mulW (show _ < _ by decide +kernel) ?_
    refine o_mod (by decide +kernel) ?_
    walk_at "wz"
    walk_at "mul"
    walk_at "wz"
    walk_at "mul"
    walk_at "wz"
    walk_at "mul"
    walk_at "wz"
    refine ⟨by show 3 ≤ sizeLine; decide, fun p hp => q p _ _ hp⟩
theorem len__law_dice {K : PySem.W.Frag} {C_Row : Addr} : ∀ vs H Q E, sp__law_dice K C_Row vs H Q E → vs.length = 2 := by
  intro vs H Q E h
  obtain ⟨_, _, e, _⟩ := h
  rw [e]; rfl
theorem D__law_dice {P : Program} {w : World} {K : PySem.W.Frag} {mg : Str → Option Value} {base : Heap} {C_Row : Addr} (T : Tx K mg C_Row) : Df P w K mg base "_law_dice" 1 ["script", "spot"] (sp__law_dice K C_Row) :=
  df_of T.d__law_dice sc__law_dice (fun _ _ _ _ _ _ us hl => match us, hl with | [_, _], _ => rfl) len__law_dice (fun X e1 e2 e3 e4 e5 B F G vs H Q E h => by subst e1 e2 e3 e4 e5; exact b__law_dice B F G T h)
local macro_rules | `(tactic| walk_at "cl") => `(tactic| (refine' e_call (D__law_dice ‹Tx _ _ _›) (by assumption) ?rm ?gl ?_; (case rm => exact ‹Bd _ _ _ _›.room.mono (by decide)); (case gl => with_reducible assumption)))
def sp__law_roll (K : PySem.W.Frag) (C_Row : Addr) : Sp := fun vs H Q _ => ∃ p t, vs = [.ref p, .int t] ∧ Dice H p ∧ 0 < t ∧ t < 1073741824 ∧ ∀ (r : Int) (H' : Hp), 0 ≤ r → r < t → Ch p H H' → Dice H' p → Q (.int r) H'
theorem b__law_roll {X : Cx} {C_Row : Addr} (B : Bd X N__law_roll (defScope S__law_roll) 0) (F : ∀ x, X.fn x = true) (G : X.A.guards = some []) (T : Tx X.K X.mg C_Row) {vs : List V} {H : Hp} {Q : VK} {E : XK} (h : sp__law_roll X.K C_Row vs H Q E) :
    wB X (defBody S__law_roll) { nx := fun _ H' => Q .non H', rt := Q } (start N__law_roll vs) H := by
  have n_dice : X.N[0]? = some ("dice" : Str) := B.slot 0 rfl
  have l_dice : X.env.scope.names.lookup ("dice" : Str) = some NameKind.local := B.loc rfl
  have n_total : X.N[1]? = some ("total" : Str) := B.slot 1 rfl
  have l_total : X.env.scope.names.lookup ("total" : Str) = some NameKind.local := B.loc rfl
  have n_found : X.N[2]? = some ("found" : Str) := B.slot 2 rfl
  have l_found : X.env.scope.names.lookup ("found" : Str) = some NameKind.local := B.loc rfl
  have n_one : X.N[3]? = some ("one" : Str) := B.slot 3 rfl
  have l_one : X.env.scope.names.lookup ("one" : Str) = some NameKind.local := B.loc rfl
  have n_two : X.N[4]? = some ("two" : Str) := B.slot 4 rfl
  have l_two : X.env.scope.names.lookup ("two" : Str) = some NameKind.local := B.loc rfl
  have g_int : Gl X "int" := B.gl rfl
  have z_int := T.z_int
  have v_int := bb_int
  obtain ⟨p, t, rfl, ⟨x, y, z, hp⟩, h0, h1, q⟩ := h
  walk_at "wz"
  refine x_lst (SqL.of hp) ix0 ?_
  walk_at "wz"
  refine iteD (fun h2 => ?_) (fun h2 => ?_)
  · walk_at "wz"
    refine x_lst (SqL.of hp) ix0 ?_
    walk_at "wz"
    refine x_lst (SqL.of hp) ix0 ?_
    walk_at "wz"
    refine o_fdiv ⟨h0, h1⟩ ?_
    walk_at "wz"
    refine ps_set_list ⟨p, _, 0, 0, rfl, rfl, hp, rfl, ?_⟩
    walk_at "wz"
    exact q _ _ (Int.emod_nonneg _ (by omega)) (Int.emod_lt_of_pos _ h0) Ch.refl.put ⟨_, _, _, upd_same⟩
  · walk_at "wz"
    refine x_lst (SqL.of hp) ix2 ?_
    walk_at "wz"
    refine ps_set_list ⟨p, _, 2, 2, rfl, rfl, hp, rfl, ?_⟩
    walk_at "wz"
    refine x_lst (SqL.of upd_same) ix1 ?_
    walk_at "wz"
    refine x_lst (SqL.of upd_same) ix2 ?_
    walk_at "mul"
    walk_at "wz"
    walk_at "mul"
    walk_at "wz"
    refine x_lst (SqL.of upd_same) ix2 ?_
    walk_at "mul"
    walk_at "wz"
    walk_at "mul"
    walk_at "wz"
    refine o_fdiv ⟨by decide, by decide⟩ ?_
    walk_at "wz"
    exact q _ _ (Int.emod_nonneg _ (by omega)) (Int.emod_lt_of_pos _ h0) Ch.refl.put ⟨_, _, _, upd_same⟩
theorem len__law_roll {K : PySem.W.Frag} {C_Row : Addr} : ∀ vs H Q E, sp__law_roll K C_Row vs H Q E → vs.length = 2 := by
  intro vs H Q E h
  obtain ⟨_, _, e, _⟩ := h
  rw [e]; rfl
theorem D__law_roll {P : Program} {w : World} {K : PySem.W.Frag} {mg : Str → Option Value} {base : Heap} {C_Row : Addr} (T : Tx K mg C_Row) : Df P w K mg base "_law_roll" 1 ["dice", "total"] (sp__law_roll K C_Row) :=
  df_of T.d__law_roll sc__law_roll (fun _ _ _ _ _ _ us hl => match us, hl with | [_, _], _ => rfl) len__law_roll (fun X e1 e2 e3 e4 e5 B F G vs H Q E h => by subst e1 e2 e3 e4 e5; exact b__law_roll B F G T h)
local macro_rules | `(tactic| walk_at "cl") => `(tactic| (refine' e_call (D__law_roll ‹Tx _ _ _›) (by assumption) ?rm ?gl ?_; (case rm => exact ‹Bd _ _ _ _›.room.mono (by decide)); (case gl => with_reducible assumption)))
def sp__law_pick (K : PySem.W.Frag) (C_Row : Addr) : Sp := fun vs H Q _ => ∃ p x, vs = [.ref p, x] ∧ Dice H p ∧ ((∃ q xs, x = .ref q ∧ H q = some (.lst xs) ∧ q ≠ p ∧ 0 < xs.length ∧ xs.length < 1073741824 ∧ ∀ (i : Nat) (v : V) (H' : Hp), xs[i]? = some v → Ch p H H' → Dice H' p → Q v H') ∨
  ∃ z : Str, x = .str z ∧ 0 < z.length ∧ z.length ≤ 1000 ∧ ∀ (c : Nat) (H' : Hp), c ∈ z.cps.toList → Ch p H H' → Dice H' p → Q (.str ⟨#[c]⟩) H')
theorem b__law_pick {X : Cx} {C_Row : Addr} (B : Bd X N__law_pick (defScope S__law_pick) 1) (F : ∀ x, X.fn x = true) (G : X.A.guards = some []) (T : Tx X.K X.mg C_Row) {vs : List V} {H : Hp} {Q : VK} {E : XK} (h : sp__law_pick X.K C_Row vs H Q E) :
    wB X (defBody S__law_pick) { nx := fun _ H' => Q .non H', rt := Q } (start N__law_pick vs) H := by
  have n_dice : X.N[0]? = some ("dice" : Str) := B.slot 0 rfl
  have l_dice : X.env.scope.names.lookup ("dice" : Str) = some NameKind.local := B.loc rfl
  have n_items : X.N[1]? = some ("items" : Str) := B.slot 1 rfl
  have l_items : X.env.scope.names.lookup ("items" : Str) = some NameKind.local := B.loc rfl
  have g__law_roll : Gl X "_law_roll" := B.gl rfl
  have g_len : Gl X "len" := B.gl rfl
  have z_len := T.z_len
  have v_len := bb_len
  obtain ⟨p, x, rfl, hd, ⟨q, xs, rfl, hq, hne, h0, h1, k⟩ | ⟨z, rfl, h0, h1, k⟩⟩ := h
  · walk_at "wz"
    refine c_lenL (SqL.of hq) ?_
    walk_at "wz"
    refine ⟨p, _, rfl, hd, by omega, by omega, fun r H' r0 r1 c d => ?_⟩
    obtain ⟨n, v, g1, g2⟩ := at_vs r0 r1
    exact x_lst (SqL.of (c q _ hne hq)) g2 (k n v H' g1 c d)
  · have hz : z.length ≤ sizeLine := by have : (1000 : Nat) ≤ sizeLine := (by decide); omega
    walk_at "wz"
    refine c_lenS hz ?_
    walk_at "wz"
    refine ⟨p, _, rfl, hd, by omega, by omega, fun r H' r0 r1 c d => ?_⟩
    obtain ⟨n, g1, g2⟩ := at_str r0 r1
    exact x_str hz g2 (k n H' g1 c d)
theorem len__law_pick {K : PySem.W.Frag} {C_Row : Addr} : ∀ vs H Q E, sp__law_pick K C_Row vs H Q E → vs.length = 2 := by
  intro vs H Q E h
  obtain ⟨_, _, e, _⟩ := h
  rw [e]; rfl
theorem D__law_pick {P : Program} {w : World} {K : PySem.W.Frag} {mg : Str → Option Value} {base : Heap} {C_Row : Addr} (T : Tx K mg C_Row) : Df P w K mg base "_law_pick" 2 ["dice", "items"] (sp__law_pick K C_Row) :=
  df_of T.d__law_pick sc__law_pick (fun _ _ _ _ _ _ us hl => match us, hl with | [_, _], _ => rfl) len__law_pick (fun X e1 e2 e3 e4 e5 B F G vs H Q E h => by subst e1 e2 e3 e4 e5; exact b__law_pick B F G T h)
local macro_rules | `(tactic| walk_at "cl") => `(tactic| (refine' e_call (D__law_pick ‹Tx _ _ _›) (by assumption) ?rm ?gl ?_; (case rm => exact ‹Bd _ _ _ _›.room.mono (by decide)); (case gl => with_reducible assumption)))
def sp__law_exchange (K : PySem.W.Frag) (C_Row : Addr) : Sp := fun vs H Q _ => ∃ p P, vs = [.ref p, .int P] ∧ Dice H p ∧ 2 ≤ P ∧ P ≤ 1000 ∧ ∀ r x y H', Ch p H H' → Dice H' p → SqT K H' r [.int x, .int y] → okE P x y → Q (.ref r) H'
theorem mod_ne {P a r : Int} (h0 : 0 ≤ a) (h1 : a < P) (h2 : 0 ≤ r) (h3 : r < P - 1) : (a + 1 + r) % P ≠ a ∧ 0 ≤ (a + 1 + r) % P ∧ (a + 1 + r) % P < P := by
  refine ⟨?_, Int.emod_nonneg _ (by omega), Int.emod_lt_of_pos _ (by omega)⟩
  by_cases h : a + 1 + r < P
  · rw [Int.emod_eq_of_lt (by omega) h]
    omega
  · have e : (a + 1 + r) % P = a + 1 + r - P := by
      rw [← Int.sub_emod_right, Int.emod_eq_of_lt (by omega) (by omega)]
    rw [e]
    omega
theorem b__law_exchange {X : Cx} {C_Row : Addr} (B : Bd X N__law_exchange (defScope S__law_exchange) 1) (F : ∀ x, X.fn x = true) (G : X.A.guards = some []) (T : Tx X.K X.mg C_Row) {vs : List V} {H : Hp} {Q : VK} {E : XK} (h : sp__law_exchange X.K C_Row vs H Q E) :
    wB X (defBody S__law_exchange) { nx := fun _ H' => Q .non H', rt := Q } (start N__law_exchange vs) H := by
  have n_dice : X.N[0]? = some ("dice" : Str) := B.slot 0 rfl
  have l_dice : X.env.scope.names.lookup ("dice" : Str) = some NameKind.local := B.loc rfl
  have n_places : X.N[1]? = some ("places" : Str) := B.slot 1 rfl
  have l_places : X.env.scope.names.lookup ("places" : Str) = some NameKind.local := B.loc rfl
  have n_one : X.N[2]? = some ("one" : Str) := B.slot 2 rfl
  have l_one : X.env.scope.names.lookup ("one" : Str) = some NameKind.local := B.loc rfl
  have n_other : X.N[3]? = some ("other" : Str) := B.slot 3 rfl
  have l_other : X.env.scope.names.lookup ("other" : Str) = some NameKind.local := B.loc rfl
  have g__law_roll : Gl X "_law_roll" := B.gl rfl
  have g_min : Gl X "min" := B.gl rfl
  have z_min := T.z_min
  have v_min := bb_min
  have g_max : Gl X "max" := B.gl rfl
  have z_max := T.z_max
  have v_max := bb_max
  obtain ⟨p, P, rfl, hd, h0, h1, q⟩ := h
  walk_at "wz"
  refine ⟨p, _, rfl, hd, by omega, by omega, fun a H1 a0 a1 c1 d1 => ?_⟩
  walk_at "wz"
  refine ⟨p, _, rfl, d1, by omega, by omega, fun b H2 b0 b1 c2 d2 => ?_⟩
  walk_at "wz"
  obtain ⟨m1, m2, m3⟩ := mod_ne a0 a1 b0 b1
  generalize (a + 1 + b) % P = c at m1 m2 m3
  refine ⟨by show 2 ≤ sizeLine; decide, fun r hr => ?_⟩
  refine q r _ _ _ ((c1.trans c2).new hr) (d2.new hr) (SqT.of upd_same) ?_
  refine ⟨?_, ?_, ?_⟩
  · split <;> omega
  · split <;> split <;> omega
  · split <;> omega
theorem len__law_exchange {K : PySem.W.Frag} {C_Row : Addr} : ∀ vs H Q E, sp__law_exchange K C_Row vs H Q E → vs.length = 2 := by
  intro vs H Q E h
  obtain ⟨_, _, e, _⟩ := h
  rw [e]; rfl
theorem D__law_exchange {P : Program} {w : World} {K : PySem.W.Frag} {mg : Str → Option Value} {base : Heap} {C_Row : Addr} (T : Tx K mg C_Row) : Df P w K mg base "_law_exchange" 2 ["dice", "places"] (sp__law_exchange K C_Row) :=
  df_of T.d__law_exchange sc__law_exchange (fun _ _ _ _ _ _ us hl => match us, hl with | [_, _], _ => rfl) len__law_exchange (fun X e1 e2 e3 e4 e5 B F G vs H Q E h => by subst e1 e2 e3 e4 e5; exact b__law_exchange B F G T h)
local macro_rules | `(tactic| walk_at "cl") => `(tactic| (refine' e_call (D__law_exchange ‹Tx _ _ _›) (by assumption) ?rm ?gl ?_; (case rm => exact ‹Bd _ _ _ _›.room.mono (by decide)); (case gl => with_reducible assumption)))
/-- letters that can be owners -/
def okZ (z : Str) : Prop := 0 < z.length ∧ z.length ≤ 1000 ∧ ∀ c ∈ z.cps.toList, okO ⟨#[c]⟩
theorem noTup_dice {H : Hp} {p : Addr} (d : Dice H p) : NoTup H p := d.noTup
def sp__law_drawn_steps (K : PySem.W.Frag) (C_Row : Addr) : Sp := fun vs H Q _ => ∃ p P, ∃ m : Nat, ∃ z, vs = [.ref p, .int P, .int (m : Int), .str z] ∧ Dice H p ∧ 2 ≤ P ∧ P ≤ 1000 ∧ m ≤ 1000 ∧ okZ z ∧ ∀ l xs, ∀ ss : List (Int × Int × Str), ∀ H', Ch p H H' → Dice H' p → H' l = some (.lst xs) → l ≠ p → H l = none → DpAll K H' xs (ss.map stp) → (∀ s ∈ ss, okS P s) → ss.length = m → Q (.ref l) H'
theorem b__law_drawn_steps {X : Cx} {C_Row : Addr} (B : Bd X N__law_drawn_steps (defScope S__law_drawn_steps) 2) (F : ∀ x, X.fn x = true) (G : X.A.guards = some []) (T : Tx X.K X.mg C_Row) {vs : List V} {H : Hp} {Q : VK} {E : XK} (h : sp__law_drawn_steps X.K C_Row vs H Q E) :
    wB X (defBody S__law_drawn_steps) { nx := fun _ H' => Q .non H', rt := Q } (start N__law_drawn_steps vs) H := by
  have n_dice : X.N[0]? = some ("dice" : Str) := B.slot 0 rfl
  have l_dice : X.env.scope.names.lookup ("dice" : Str) = some NameKind.local := B.loc rfl
  have n_places : X.N[1]? = some ("places" : Str) := B.slot 1 rfl
  have l_places : X.env.scope.names.lookup ("places" : Str) = some NameKind.local := B.loc rfl
  have n_many : X.N[2]? = some ("many" : Str) := B.slot 2 rfl
  have l_many : X.env.scope.names.lookup ("many" : Str) = some NameKind.local := B.loc rfl
  have n_owners : X.N[3]? = some ("owners" : Str) := B.slot 3 rfl
  have l_owners : X.env.scope.names.lookup ("owners" : Str) = some NameKind.local := B.loc rfl
  have n_found : X.N[4]? = some ("found" : Str) := B.slot 4 rfl
  have l_found : X.env.scope.names.lookup ("found" : Str) = some NameKind.local := B.loc rfl
  have n_turn : X.N[5]? = some ("turn" : Str) := B.slot 5 rfl
  have l_turn : X.env.scope.names.lookup ("turn" : Str) = some NameKind.local := B.loc rfl
  have n_one : X.N[6]? = some ("one" : Str) := B.slot 6 rfl
  have l_one : X.env.scope.names.lookup ("one" : Str) = some NameKind.local := B.loc rfl
  have n_other : X.N[7]? = some ("other" : Str) := B.slot 7 rfl
  have l_other : X.env.scope.names.lookup ("other" : Str) = some NameKind.local := B.loc rfl
  have g_range : Gl X "range" := B.gl rfl
  have z_range := T.z_range
  have v_range := bb_range
  have g__law_exchange : Gl X "_law_exchange" := B.gl rfl
  have g__law_pick : Gl X "_law_pick" := B.gl rfl
  obtain ⟨p, P, m, z, rfl, hd, h0, h1, hm, ⟨z0, z1, z2⟩, q⟩ := h
  walk_at "wz"
  refine ⟨by show 0 ≤ sizeLine; decide, fun l hl => ?_⟩
  walk_at "wz"
  have lp : l ≠ p := hd.off hl
  refine s_forR1 5 B.ps B.calm g_range z_range B.nd n_turn (Or.inl l_turn) ?_ (hf := .inr l_turn)
  walk_at "wz"
  refine ⟨by omega, fun k σ H1 => ∃ y5 y6 y7, σ = [some (.ref p), some (.int P), some (.int (m : Int)), some (.str z), some (.ref l), y5, y6, y7] ∧ Ch p H H1 ∧ Dice H1 p ∧ ∃ xs, ∃ ss : List (Int × Int × Str), H1 l = some (.lst xs) ∧ DpAll X.K H1 xs (ss.map stp) ∧ (∀ s ∈ ss, okS P s) ∧ ss.length = k, ?_, ?_, ?_⟩
  · exact ⟨_, _, _, rfl, Ch.refl.new hl, hd.new hl, [], [], upd_same, .nil, fun s hs => by simp at hs, rfl⟩
  · rintro k σ H1 hk ⟨y5, y6, y7, rfl, c1, d1, xs, ss, hx, da, ok, hlen⟩
    walk_at "st"
    refine s_unp2 6 7 B.calm B.nd n_one n_other l_one l_other ?_
    walk_at "wz"
    refine ⟨p, P, rfl, d1, h0, h1, fun r x y H2 c2 d2 hr hxy => ?_⟩
    refine ⟨r, _, _, rfl, hr, ?_⟩
    walk_at "st"
    walk_at "st"
    refine e_app ?_
    walk_at "wz"
    have hx2 := c2 l _ lp hx
    refine ⟨Or.inl ⟨rfl, _, SqL.of hx2⟩, ?_⟩
    walk_at "wz"
    refine ⟨p, _, rfl, d2, Or.inr ⟨z, rfl, z0, z1, fun c H3 hc c3 d3 => ?_⟩⟩
    walk_at "wz"
    refine ⟨by show 3 ≤ sizeLine; decide, fun t ht => ?_⟩
    have hx3 := c3 l _ lp hx2
    have hx4 := upd_keep (o := .tup [.int x, .int y, .str ⟨#[c]⟩]) ht hx3
    have hln : xs.length = k := by rw [dp_len da, List.length_map, hlen]
    refine ⟨l, xs, rfl, hx4, by have : (1001 : Nat) ≤ sizeLine := (by decide); omega, ?_⟩
    refine ⟨_, _, _, rfl, (((c1.trans c2).trans c3).new ht).at hl, (d3.new ht).at lp, _, ss ++ [(x, y, ⟨#[c]⟩)], upd_same, ?_, ?_, by rw [List.length_append, hlen]; rfl⟩
    · rw [List.map_append]
      refine dpa_app ?_ (.cons (.tup (ds := [.int x, .int y, .str ⟨#[c]⟩]) (xs := [.int x, .int y, .str ⟨#[c]⟩]) (SqT.of (upd_keep2 (Ne.symm (ne_of_none hx3 ht)) upd_same)) (.cons (.int _) (.cons (.int _) (.cons (.str _) .nil)))) .nil)
      have n := noLst_steps ss
      refine dpa_ch (H := upd H3 t _) Ch.refl.put (noTup_lst hx4) n ?_
      refine dpa_same ((Same.refl H3).new ht) ?_
      exact dpa_ch c3 d2.noTup n (dpa_ch c2 d1.noTup n da)
    · intro s hs
      rcases List.mem_append.mp hs with hs | hs
      · exact ok s hs
      · simp only [List.mem_singleton] at hs
        subst hs
        exact ⟨hxy, z2 c hc⟩
  · rintro σ H1 ⟨y5, y6, y7, rfl, c1, d1, xs, ss, hx, da, ok, hlen⟩
    walk_at "wz"
    exact q l xs ss H1 c1 d1 hx lp hl da ok hlen
theorem len__law_drawn_steps {K : PySem.W.Frag} {C_Row : Addr} : ∀ vs H Q E, sp__law_drawn_steps K C_Row vs H Q E → vs.length = 4 := by
  intro vs H Q E h
  obtain ⟨_, _, _, _, e, _⟩ := h
  rw [e]; rfl
theorem D__law_drawn_steps {P : Program} {w : World} {K : PySem.W.Frag} {mg : Str → Option Value} {base : Heap} {C_Row : Addr} (T : Tx K mg C_Row) : Df P w K mg base "_law_drawn_steps" 3 ["dice", "places", "many", "owners"] (sp__law_drawn_steps K C_Row) :=
  df_of T.d__law_drawn_steps sc__law_drawn_steps (fun _ _ _ _ _ _ us hl => match us, hl with | [_, _, _, _], _ => rfl) len__law_drawn_steps (fun X e1 e2 e3 e4 e5 B F G vs H Q E h => by subst e1 e2 e3 e4 e5; exact b__law_drawn_steps B F G T h)
local macro_rules | `(tactic| walk_at "cl") => `(tactic| (refine' e_call (D__law_drawn_steps ‹Tx _ _ _›) (by assumption) ?rm ?gl ?_; (case rm => exact ‹Bd _ _ _ _›.room.mono (by decide)); (case gl => with_reducible assumption)))

theorem erase_perm : ∀ {xs : List V} {k : Nat} {v : V}, xs[k]? = some v → (v :: xs.eraseIdx k).Perm xs
  | x :: xs, 0, v, h => by simp at h; subst h; exact List.Perm.refl _
  | x :: xs, k + 1, v, h => by
    have ih := erase_perm (xs := xs) (k := k) (v := v) (by simpa using h)
    show (v :: x :: xs.eraseIdx k).Perm (x :: xs)
    exact (List.Perm.swap x v _).trans (List.Perm.cons x ih)
def sp__law_mixed (K : PySem.W.Frag) (C_Row : Addr) : Sp := fun vs H Q _ => ∃ p a xs, vs = [.ref p, .ref a] ∧ Dice H p ∧ H a = some (.lst xs) ∧ a ≠ p ∧ xs.length ≤ 1000 ∧ ∀ r ys H', Ch p H H' → Dice H' p → H' r = some (.lst ys) → r ≠ p → H r = none → ys.Perm xs → Q (.ref r) H'
theorem b__law_mixed {X : Cx} {C_Row : Addr} (B : Bd X N__law_mixed (defScope S__law_mixed) 1) (F : ∀ x, X.fn x = true) (G : X.A.guards = some []) (T : Tx X.K X.mg C_Row) {vs : List V} {H : Hp} {Q : VK} {E : XK} (h : sp__law_mixed X.K C_Row vs H Q E) :
    wB X (defBody S__law_mixed) { nx := fun _ H' => Q .non H', rt := Q } (start N__law_mixed vs) H := by
  have n_dice : X.N[0]? = some ("dice" : Str) := B.slot 0 rfl
  have l_dice : X.env.scope.names.lookup ("dice" : Str) = some NameKind.local := B.loc rfl
  have n_items : X.N[1]? = some ("items" : Str) := B.slot 1 rfl
  have l_items : X.env.scope.names.lookup ("items" : Str) = some NameKind.local := B.loc rfl
  have n_left : X.N[2]? = some ("left" : Str) := B.slot 2 rfl
  have l_left : X.env.scope.names.lookup ("left" : Str) = some NameKind.local := B.loc rfl
  have n_found : X.N[3]? = some ("found" : Str) := B.slot 3 rfl
  have l_found : X.env.scope.names.lookup ("found" : Str) = some NameKind.local := B.loc rfl
  have n_turn : X.N[4]? = some ("turn" : Str) := B.slot 4 rfl
  have l_turn : X.env.scope.names.lookup ("turn" : Str) = some NameKind.local := B.loc rfl
  have g_list : Gl X "list" := B.gl rfl
  have z_list := T.z_list
  have v_list := bb_list
  have g_range : Gl X "range" := B.gl rfl
  have z_range := T.z_range
  have v_range := bb_range
  have g_len : Gl X "len" := B.gl rfl
  have z_len := T.z_len
  have v_len := bb_len
  have g__law_roll : Gl X "_law_roll" := B.gl rfl
  obtain ⟨p, a, xs, rfl, hd, ha, ap, hz, q⟩ := h
  walk_at "st"
  refine s_par 2 3 B.calm B.nd n_left n_found (by decide) l_left l_found (by rw [env_eta B.sc]; rfl) ?_
  walk_at "wz"
  refine c_lstL (Or.inl (SqL.of ha)) fun l hl => ?_
  walk_at "wz"
  refine ⟨by show 0 ≤ sizeLine; decide, fun f hf => ?_⟩
  have lp : l ≠ p := hd.off hl
  have fp : f ≠ p := (hd.new hl).off hf
  have lf : l ≠ f := by
    rintro rfl
    rw [upd_same] at hf
    cases hf
  have f0 : H f = none := by
    cases e : H f with
    | none => rfl
    | some o =>
      rw [upd_keep hl e] at hf
      cases hf
  have al : a ≠ l := ne_of_none ha hl
  have af : a ≠ f := ne_of_none ha f0
  walk_at "st"
  refine s_forR1 4 B.ps B.calm g_range z_range B.nd n_turn (Or.inl l_turn) ?_ (hf := .inr l_turn)
  walk_at "wz"
  refine c_lenL (SqL.of (upd_keep hf (upd_keep hl ha))) ?_
  walk_at "wz"
  refine ⟨by omega, fun k σ H1 => ∃ y4 ls fs, σ = [some (.ref p), some (.ref a), some (.ref l), some (.ref f), y4] ∧ Ch p H H1 ∧ Dice H1 p ∧ H1 l = some (.lst ls) ∧ H1 f = some (.lst fs) ∧ (fs ++ ls).Perm xs ∧ fs.length = k, ?_, ?_, ?_⟩
  · exact ⟨_, xs, [], rfl, (Ch.refl.new hl).new hf, (hd.new hl).new hf, upd_keep hf upd_same, upd_same, List.Perm.refl _, rfl⟩
  · rintro k σ H1 hk ⟨y4, ls, fs, rfl, c1, d1, hll, hff, pm, hfl⟩
    have htot := pm.length_eq
    rw [List.length_append] at htot
    walk_at "st"
    walk_at "st"
    refine e_app ?_
    walk_at "wz"
    refine ⟨Or.inl ⟨rfl, _, SqL.of hff⟩, ?_⟩
    refine e_pop ?_
    walk_at "wz"
    refine ⟨Or.inl ⟨rfl, _, SqL.of hll⟩, ?_⟩
    walk_at "wz"
    refine c_lenL (SqL.of hll) ?_
    walk_at "wz"
    refine ⟨p, _, rfl, d1, by omega, by omega, fun r H2 r0 r1 c2 d2 => ?_⟩
    obtain ⟨n, rfl⟩ : ∃ n : Nat, r = (n : Int) := ⟨r.toNat, by omega⟩
    have hn : n < ls.length := by omega
    have hll2 := c2 l _ lp hll
    have hff2 := c2 f _ fp hff
    refine ⟨l, ls, n, ls[n], rfl, rfl, hll2, List.getElem?_eq_getElem hn, by omega, ?_⟩
    refine ⟨f, fs, rfl, upd_keep2 (Ne.symm lf) hff2, by have : (2000 : Nat) ≤ sizeLine := (by decide); omega, ?_⟩
    refine ⟨_, _, _, rfl, ((c1.trans c2).at hl).at f0, (d2.at lp).at fp, upd_keep2 lf upd_same, upd_same, ?_, by rw [List.length_append, hfl]; rfl⟩
    rw [List.append_assoc]
    exact (List.Perm.append_left fs (erase_perm (List.getElem?_eq_getElem hn))).trans pm
  · rintro σ H1 ⟨y4, ls, fs, rfl, c1, d1, hll, hff, pm, hfl⟩
    walk_at "wz"
    have htot := pm.length_eq
    rw [List.length_append] at htot
    have e : ls = [] := List.eq_nil_of_length_eq_zero (by omega)
    subst e
    rw [List.append_nil] at pm
    exact q f fs H1 c1 d1 hff fp f0 pm
theorem len__law_mixed {K : PySem.W.Frag} {C_Row : Addr} : ∀ vs H Q E, sp__law_mixed K C_Row vs H Q E → vs.length = 2 := by
  intro vs H Q E h
  obtain ⟨_, _, _, e, _⟩ := h
  rw [e]; rfl
theorem D__law_mixed {P : Program} {w : World} {K : PySem.W.Frag} {mg : Str → Option Value} {base : Heap} {C_Row : Addr} (T : Tx K mg C_Row) : Df P w K mg base "_law_mixed" 2 ["dice", "items"] (sp__law_mixed K C_Row) :=
  df_of T.d__law_mixed sc__law_mixed (fun _ _ _ _ _ _ us hl => match us, hl with | [_, _], _ => rfl) len__law_mixed (fun X e1 e2 e3 e4 e5 B F G vs H Q E h => by subst e1 e2 e3 e4 e5; exact b__law_mixed B F G T h)
local macro_rules | `(tactic| walk_at "cl") => `(tactic| (refine' e_call (D__law_mixed ‹Tx _ _ _›) (by assumption) ?rm ?gl ?_; (case rm => exact ‹Bd _ _ _ _›.room.mono (by decide)); (case gl => with_reducible assumption)))
def sp__law_names (K : PySem.W.Frag) (C_Row : Addr) : Sp := fun vs H Q _ => ∃ p P, vs = [.ref p, .int P] ∧ Dice H p ∧ 1 ≤ P ∧ P ≤ 12 ∧ ∀ r H', ∀ ns : List Int, Ch p H H' → Dice H' p → TupM H' r (ns.map V.int) → isD ns → (ns.length : Int) = P → Q (.ref r) H'
theorem perm_ints : ∀ {ys : List V} {ns : List Int}, ys.Perm (ns.map V.int) → ∃ ms : List Int, ys = ms.map V.int ∧ ms.Perm ns := by
  intro ys ns h
  have : ∀ y ∈ ys, ∃ i : Int, y = .int i := fun y hy => by
    obtain ⟨i, _, e⟩ := List.mem_map.mp (h.mem_iff.mp hy)
    exact ⟨i, e.symm⟩
  have ex : ∀ {ys : List V}, (∀ y ∈ ys, ∃ i : Int, y = .int i) → ∃ ms : List Int, ys = ms.map V.int := by
    intro ys
    induction ys with
    | nil => intro _; exact ⟨[], rfl⟩
    | cons y ys ih =>
      intro h
      obtain ⟨i, rfl⟩ := h y (List.mem_cons_self ..)
      obtain ⟨ms, rfl⟩ := ih fun z hz => h z (List.mem_cons_of_mem _ hz)
      exact ⟨i :: ms, rfl⟩
  obtain ⟨ms, rfl⟩ := ex this
  refine ⟨ms, rfl, ?_⟩
  have h2 := h.map (fun v => match v with | .int i => i | _ => 0)
  rw [List.map_map, List.map_map] at h2
  have id1 : ∀ l : List Int, l.map ((fun v : V => match v with | .int i => i | _ => 0) ∘ V.int) = l := fun l => by
    show l.map (fun i => i) = l
    exact List.map_id' l
  rw [id1, id1] at h2
  exact h2
theorem b__law_names {X : Cx} {C_Row : Addr} (B : Bd X N__law_names (defScope S__law_names) 2) (F : ∀ x, X.fn x = true) (G : X.A.guards = some []) (T : Tx X.K X.mg C_Row) {vs : List V} {H : Hp} {Q : VK} {E : XK} (h : sp__law_names X.K C_Row vs H Q E) :
    wB X (defBody S__law_names) { nx := fun _ H' => Q .non H', rt := Q } (start N__law_names vs) H := by
  have n_dice : X.N[0]? = some ("dice" : Str) := B.slot 0 rfl
  have l_dice : X.env.scope.names.lookup ("dice" : Str) = some NameKind.local := B.loc rfl
  have n_places : X.N[1]? = some ("places" : Str) := B.slot 1 rfl
  have l_places : X.env.scope.names.lookup ("places" : Str) = some NameKind.local := B.loc rfl
  have g_tuple : Gl X "tuple" := B.gl rfl
  have z_tuple := T.z_tuple
  have v_tuple := bb_tuple
  have g__law_mixed : Gl X "_law_mixed" := B.gl rfl
  have g_list : Gl X "list" := B.gl rfl
  have z_list := T.z_list
  have v_list := bb_list
  have g_range : Gl X "range" := B.gl rfl
  have z_range := T.z_range
  have v_range := bb_range
  obtain ⟨p, P, rfl, hd, h1, h2, q⟩ := h
  walk_at "st"
  walk_at "st"
  walk_at "ex"
  refine a_cons ?_
  refine e_call (D__law_mixed T) G (B.room.mono (by decide)) g__law_mixed ?_
  walk_at "wx"
  walk_at "wx"
  refine a_cons (e_lstR1 B.calm g_list z_list g_range z_range ?_)
  walk_at "wz"
  refine ⟨P.toNat, by rw [Int.toNat_of_nonneg (by omega)], by omega, fun a ha => ?_⟩
  walk_at "wz"
  refine ⟨p, a, _, rfl, hd.new ha, upd_same, hd.off ha, by rw [List.length_map, List.length_range]; omega, fun r ys H1 c1 d1 hr rp _ pm => ?_⟩
  walk_at "wz"
  refine c_tupLm (SqL.of hr) fun t H2 ht s2 hm => ?_
  have ei : ((List.range P.toNat).map fun (i : Nat) => V.int (i : Int)) = (iota P.toNat).map V.int := by
    unfold iota
    rw [List.map_map]; rfl
  rw [ei] at pm
  obtain ⟨ms, rfl, pm2⟩ := perm_ints pm
  have hl : ms.length = P.toNat := by rw [pm2.length_eq]; unfold iota; rw [List.length_map, List.length_range]
  refine q t _ ms ((Ch.refl.new ha).trans (c1.trans (Ch.of s2))) (by obtain ⟨x, y, z, e⟩ := d1; exact ⟨x, y, z, s2 _ _ e⟩) hm ⟨by rw [hl]; exact pm2, by omega, by omega⟩ (by omega)
theorem len__law_names {K : PySem.W.Frag} {C_Row : Addr} : ∀ vs H Q E, sp__law_names K C_Row vs H Q E → vs.length = 2 := by
  intro vs H Q E h
  obtain ⟨_, _, e, _⟩ := h
  rw [e]; rfl
theorem D__law_names {P : Program} {w : World} {K : PySem.W.Frag} {mg : Str → Option Value} {base : Heap} {C_Row : Addr} (T : Tx K mg C_Row) : Df P w K mg base "_law_names" 3 ["dice", "places"] (sp__law_names K C_Row) :=
  df_of T.d__law_names sc__law_names (fun _ _ _ _ _ _ us hl => match us, hl with | [_, _], _ => rfl) len__law_names (fun X e1 e2 e3 e4 e5 B F G vs H Q E h => by subst e1 e2 e3 e4 e5; exact b__law_names B F G T h)
local macro_rules | `(tactic| walk_at "cl") => `(tactic| (refine' e_call (D__law_names ‹Tx _ _ _›) (by assumption) ?rm ?gl ?_; (case rm => exact ‹Bd _ _ _ _›.room.mono (by decide)); (case gl => with_reducible assumption)))

theorem two_sorted {u v : Int} {l : List Int} (h : l.Perm [u, v]) (p : l.Pairwise (· ≤ ·)) : l = [if v < u then v else u, if v > u then v else u] := by
  have hs : [if v < u then v else u, if v > u then v else u].Pairwise (· ≤ ·) := by
    simp only [List.pairwise_cons, List.mem_singleton, List.not_mem_nil, List.Pairwise.nil, and_true]
    refine ⟨?_, fun _ z => z.elim⟩
    rintro a rfl
    split <;> split <;> omega
  refine perm_sorted_eq (h.trans ?_) p hs
  by_cases e : v < u
  · rw [if_pos e, if_neg (show ¬ v > u by omega)]
    exact List.Perm.swap v u []
  · rw [if_neg e]
    by_cases e2 : v > u
    · rw [if_pos e2]
    · have : u = v := by omega
      subst this
      rw [if_neg e2]
def sp__law_step_named (K : PySem.W.Frag) (C_Row : Addr) : Sp := fun vs H Q _ => ∃ v b P s, ∃ ns : List Int, vs = [v, .ref b] ∧ Dp K H v (stp s) ∧ okS P s ∧ SqT K H b (ns.map V.int) ∧ (ns.length : Int) = P ∧ ∀ r H', Same H H' → Dp K H' (.ref r) (stp (nameS ns s)) → Q (.ref r) H'
theorem b__law_step_named {X : Cx} {C_Row : Addr} (B : Bd X N__law_step_named (defScope S__law_step_named) 0) (F : ∀ x, X.fn x = true) (G : X.A.guards = some []) (T : Tx X.K X.mg C_Row) {vs : List V} {H : Hp} {Q : VK} {E : XK} (h : sp__law_step_named X.K C_Row vs H Q E) :
    wB X (defBody S__law_step_named) { nx := fun _ H' => Q .non H', rt := Q } (start N__law_step_named vs) H := by
  have n_step : X.N[0]? = some ("step" : Str) := B.slot 0 rfl
  have l_step : X.env.scope.names.lookup ("step" : Str) = some NameKind.local := B.loc rfl
  have n_names : X.N[1]? = some ("names" : Str) := B.slot 1 rfl
  have l_names : X.env.scope.names.lookup ("names" : Str) = some NameKind.local := B.loc rfl
  have n_ends : X.N[2]? = some ("ends" : Str) := B.slot 2 rfl
  have l_ends : X.env.scope.names.lookup ("ends" : Str) = some NameKind.local := B.loc rfl
  have g_sorted : Gl X "sorted" := B.gl rfl
  have z_sorted := T.z_sorted
  have v_sorted := bb_sorted
  obtain ⟨v, b, P, s, ns, rfl, hd, ⟨⟨x0, xy, yP⟩, o⟩, hn, hl, q⟩ := h
  obtain ⟨a, rfl, hs⟩ := dp_stp hd
  walk_at "wz"
  refine x_tup hs ix0 ?_
  refine x_tup hn (at_ns x0 (by omega)) ?_
  walk_at "wz"
  refine x_tup hs ix1 ?_
  refine x_tup hn (at_ns (by omega) (by omega)) ?_
  walk_at "wz"
  refine ⟨by show 2 ≤ sizeLine; decide, fun l hl0 => ?_⟩
  walk_at "wz"
  refine c_sortL (ns := [ns.getD s.1.toNat 0, ns.getD s.2.1.toNat 0]) (SqL.of upd_same) fun ms e p1 p2 he => ?_
  rw [two_sorted p1 p2]
  walk_at "wz"
  refine x_lst (SqL.of upd_same) ix0 ?_
  walk_at "wz"
  refine x_lst (SqL.of upd_same) ix1 ?_
  walk_at "wz"
  have s2 : Same H _ := ((Same.refl H).new (o := .lst [.int (ns.getD s.1.toNat 0), .int (ns.getD s.2.1.toNat 0)]) hl0).new (o := .lst [.int (if ns.getD s.2.1.toNat 0 < ns.getD s.1.toNat 0 then ns.getD s.2.1.toNat 0 else ns.getD s.1.toNat 0), .int (if ns.getD s.2.1.toNat 0 > ns.getD s.1.toNat 0 then ns.getD s.2.1.toNat 0 else ns.getD s.1.toNat 0)]) he
  refine x_tup (same_tup s2 hs) ix2 ?_
  walk_at "wz"
  refine ⟨by show 3 ≤ sizeLine; decide, fun r hr => ?_⟩
  exact q r _ (s2.new hr) (.tup (SqT.of upd_same) (.cons (.int _) (.cons (.int _) (.cons (.str _) .nil))))
theorem len__law_step_named {K : PySem.W.Frag} {C_Row : Addr} : ∀ vs H Q E, sp__law_step_named K C_Row vs H Q E → vs.length = 2 := by
  intro vs H Q E h
  obtain ⟨_, _, _, _, _, e, _⟩ := h
  rw [e]; rfl
theorem D__law_step_named {P : Program} {w : World} {K : PySem.W.Frag} {mg : Str → Option Value} {base : Heap} {C_Row : Addr} (T : Tx K mg C_Row) : Df P w K mg base "_law_step_named" 1 ["step", "names"] (sp__law_step_named K C_Row) :=
  df_of T.d__law_step_named sc__law_step_named (fun _ _ _ _ _ _ us hl => match us, hl with | [_, _], _ => rfl) len__law_step_named (fun X e1 e2 e3 e4 e5 B F G vs H Q E h => by subst e1 e2 e3 e4 e5; exact b__law_step_named B F G T h)
local macro_rules | `(tactic| walk_at "cl") => `(tactic| (refine' e_call (D__law_step_named ‹Tx _ _ _›) (by assumption) ?rm ?gl ?_; (case rm => exact ‹Bd _ _ _ _›.room.mono (by decide)); (case gl => with_reducible assumption)))

def sp_Row_deed (K : PySem.W.Frag) (C_Row : Addr) : Sp := fun vs H Q _ => ∃ a P, ∃ ss : List (Int × Int × Str), vs = [.ref a] ∧ RowAt K H C_Row a P ss ∧ ∀ r H', Same H H' → SqT K H' r ((deedL P ss).map V.int) → Q (.ref r) H'
theorem b_Row_deed {X : Cx} {C_Row : Addr} (B : Bd X N_Row_deed (defScope S_Row_deed) 3) (F : ∀ x, X.fn x = true) (T : Tx X.K X.mg C_Row) {vs : List V} {H : Hp} {Q : VK} {E : XK} (h : sp_Row_deed X.K C_Row vs H Q E) :
    wB X (defBody S_Row_deed) { nx := fun _ H' => Q .non H', rt := Q } (start N_Row_deed vs) H := by
  have n_self : X.N[0]? = some ("self" : Str) := B.slot 0 rfl
  have l_self : X.env.scope.names.lookup ("self" : Str) = some NameKind.cell := B.cel rfl
  have n_place : X.N[1]? = some ("place" : Str) := B.slot 1 rfl
  have g_tuple : Gl X "tuple" := B.gl rfl
  have z_tuple := T.z_tuple
  have v_tuple := bb_tuple
  have g_range : Gl X "range" := B.gl rfl
  have z_range := T.z_range
  have v_range := bb_range
  obtain ⟨a, P, ss, rfl, R, q⟩ := h
  obtain ⟨⟨dx, v, ha, hd⟩, h1, h2, h3, h4⟩ := id R
  walk_at "wz"
  refine e_lcR 1 B (blkOk_by (by decide +kernel)) (by assumption) (by assumption) rfl rfl (lcR_same ?_)
  refine e_fld ?_
  walk_at "wz"
  refine ⟨a, C_Row, dx, _, _, rfl, ha, T.cl_Row, T.na_Row__places, rfl, ?_⟩
  refine ⟨P.toNat, fun i y _ => y = .int (lastP ss (i : Int)), by rw [Int.toNat_of_nonneg (by omega)], by omega, stays_eq _, ?_, ?_⟩
  · intro i H2 hi sm X' bk
    have B' := bk.bd B
    have n_place : X'.N[1]? = some ("place" : Str) := B'.slot 1 rfl
    have l_place : X'.env.scope.names.lookup ("place" : Str) = some NameKind.local := B'.loc rfl
    have n_self : X'.N[0]? = some ("self" : Str) := B'.slot 0 rfl
    have l_self : X'.env.scope.names.lookup ("self" : Str) = some NameKind.cell := B'.cel rfl
    have T' : Tx X'.K X'.mg C_Row := by rw [bk.K, bk.mg]; exact T
    walk_at "ex"
    refine e_meth (D_Row_path T') T'.cl_Row (B'.room.mono (by decide)) ?_
    walk_at "wz"
    refine ⟨a, dx, _, rfl, sm _ _ ha, rfl, ?_⟩
    walk_at "wz"
    refine ⟨a, (i : Int), P, ss, rfl, ?_, by omega, by omega, fun r H' s2 hr => ?_⟩
    · rw [bk.K]
      exact R.same sm
    walk_at "wz"
    refine x_tup hr (atI_last (n := ss.length) (by rw [List.length_map, trail_len]) (trail_last ss _)) ?_
    exact ⟨s2, rfl⟩
  · intro D H' ys h0 sm hD hl hy
    walk_at "wz"
    refine c_tupL (SqL.of hD) fun r hr => ?_
    refine q r _ (sm.new hr) ?_
    rw [ys_eq hl hy]
    refine SqT.of ?_
    rw [upd_same]
    unfold deedL
    rw [List.map_map]
    rfl
theorem len_Row_deed {K : PySem.W.Frag} {C_Row : Addr} : ∀ vs H Q E, sp_Row_deed K C_Row vs H Q E → vs.length = 1 := by
  intro vs H Q E h
  obtain ⟨_, _, _, e, _⟩ := h
  rw [e]; rfl
theorem D_Row_deed {P : Program} {w : World} {K : PySem.W.Frag} {mg : Str → Option Value} {base : Heap} {C_Row : Addr} (T : Tx K mg C_Row) : Pd P w K mg base C_Row "deed" 4 (sp_Row_deed K C_Row) := by
  obtain ⟨p, f, fd, F0, M⟩ := T.d_Row_deed
  exact ⟨p, f, fd, fnk_of F0 sc_Row_deed len_Row_deed (fun X e1 e2 e3 e4 e5 B F vs H Q E h => by subst e1 e2 e3 e4 e5; exact b_Row_deed B F T h), M, F0.binds (fun _ _ _ _ _ _ us hl => match us, hl with | [_], _ => rfl)⟩
def sp_Row_part (K : PySem.W.Frag) (C_Row : Addr) : Sp := fun vs H Q _ => ∃ a P, ∃ i j : Nat, ∃ ss : List (Int × Int × Str), vs = [.ref a, .int (i : Int), .int (j : Int)] ∧ RowAt K H C_Row a P ss ∧ i ≤ j ∧ j ≤ ss.length ∧ ∀ r H', Same H H' → RowAt K H' C_Row r P ((ss.drop i).take (j - i)) → Q (.ref r) H'
theorem b_Row_part {X : Cx} {C_Row : Addr} (B : Bd X N_Row_part (defScope S_Row_part) 8) (F : ∀ x, X.fn x = true) (T : Tx X.K X.mg C_Row) {vs : List V} {H : Hp} {Q : VK} {E : XK} (h : sp_Row_part X.K C_Row vs H Q E) :
    wB X (defBody S_Row_part) { nx := fun _ H' => Q .non H', rt := Q } (start N_Row_part vs) H := by
  have n_self : X.N[0]? = some ("self" : Str) := B.slot 0 rfl
  have l_self : X.env.scope.names.lookup ("self" : Str) = some NameKind.local := B.loc rfl
  have n_first : X.N[1]? = some ("first" : Str) := B.slot 1 rfl
  have l_first : X.env.scope.names.lookup ("first" : Str) = some NameKind.local := B.loc rfl
  have n_last : X.N[2]? = some ("last" : Str) := B.slot 2 rfl
  have l_last : X.env.scope.names.lookup ("last" : Str) = some NameKind.local := B.loc rfl
  have g_check_number : Gl X "check_number" := B.gl rfl
  have g_len : Gl X "len" := B.gl rfl
  have z_len := T.z_len
  have v_len := bb_len
  have g_Row : Gl X "Row" := B.gl rfl
  obtain ⟨a, P, i, j, ss, rfl, ⟨⟨dx, v, ha, hd⟩, h1, h2, h3, h4⟩, hi, hj, q⟩ := h
  obtain ⟨b, xs, rfl, hs, da⟩ := dp_tup hd
  have hl : xs.length = ss.length := by rw [dp_len da, List.length_map]
  walk_at "wz"
  refine e_fld ?_
  walk_at "wz"
  refine ⟨a, C_Row, dx, _, _, rfl, ha, T.cl_Row, T.na_Row__steps, rfl, ?_⟩
  walk_at "wz"
  refine c_lenT hs ?_
  walk_at "wz"
  refine e_fld ?_
  walk_at "wz"
  refine ⟨a, C_Row, dx, _, _, rfl, ha, T.cl_Row, T.na_Row__steps, rfl, ?_⟩
  walk_at "wz"
  refine c_lenT hs ?_
  walk_at "wz"
  walk_at "rw"
  refine e_fld ?_
  walk_at "wz"
  refine ⟨a, C_Row, dx, _, _, rfl, ha, T.cl_Row, T.na_Row__places, rfl, ?_⟩
  refine e_slSS ?_
  refine e_fld ?_
  walk_at "wz"
  refine ⟨a, C_Row, dx, _, _, rfl, ha, T.cl_Row, T.na_Row__steps, rfl, ?_⟩
  walk_at "wz"
  refine ⟨b, xs, rfl, hs, fun c H1 sm hc => ?_⟩
  rw [cut_ij xs hi (by omega)] at hc
  refine ⟨P, (ss.drop i).take (j - i), rfl, h1, h2, ?_, by rw [List.length_take, List.length_drop]; omega, fun s hs => h4 s (List.mem_of_mem_drop (List.mem_of_mem_take hs)), fun r H' _ s2 R => q r H' (sm.trans s2) R⟩
  rw [List.map_take, List.map_drop]
  exact .tup hc (dpa_same sm (dpa_take _ (dpa_drop _ da)))
theorem len_Row_part {K : PySem.W.Frag} {C_Row : Addr} : ∀ vs H Q E, sp_Row_part K C_Row vs H Q E → vs.length = 3 := by
  intro vs H Q E h
  obtain ⟨_, _, _, _, _, e, _⟩ := h
  rw [e]; rfl
theorem D_Row_part {P : Program} {w : World} {K : PySem.W.Frag} {mg : Str → Option Value} {base : Heap} {C_Row : Addr} (T : Tx K mg C_Row) : Md P w K mg base C_Row "part" 9 ["self", "first", "last"] (sp_Row_part K C_Row) := by
  obtain ⟨f, fd, F0, M⟩ := T.d_Row_part
  exact ⟨f, fd, fnk_of F0 sc_Row_part len_Row_part (fun X e1 e2 e3 e4 e5 B F vs H Q E h => by subst e1 e2 e3 e4 e5; exact b_Row_part B F T h), M, F0.binds (fun _ _ _ _ _ _ us hl => match us, hl with | [_, _, _], _ => rfl)⟩

def sp_Row___add__ (K : PySem.W.Frag) (C_Row : Addr) : Sp := fun vs H Q _ => ∃ a b P, ∃ ss ts : List (Int × Int × Str), vs = [.ref a, .ref b] ∧ RowAt K H C_Row a P ss ∧ RowAt K H C_Row b P ts ∧ ss.length + ts.length ≤ 24 ∧ ∀ r H', Same H H' → RowAt K H' C_Row r P (ss ++ ts) → Q (.ref r) H'
theorem b_Row___add__ {X : Cx} {C_Row : Addr} (B : Bd X N_Row___add__ (defScope S_Row___add__) 8) (F : ∀ x, X.fn x = true) (T : Tx X.K X.mg C_Row) {vs : List V} {H : Hp} {Q : VK} {E : XK} (h : sp_Row___add__ X.K C_Row vs H Q E) :
    wB X (defBody S_Row___add__) { nx := fun _ H' => Q .non H', rt := Q } (start N_Row___add__ vs) H := by
  have n_self : X.N[0]? = some ("self" : Str) := B.slot 0 rfl
  have l_self : X.env.scope.names.lookup ("self" : Str) = some NameKind.local := B.loc rfl
  have n_other : X.N[1]? = some ("other" : Str) := B.slot 1 rfl
  have l_other : X.env.scope.names.lookup ("other" : Str) = some NameKind.local := B.loc rfl
  have g_isinstance : Gl X "isinstance" := B.gl rfl
  have z_isinstance := T.z_isinstance
  have v_isinstance := bb_isinstance
  have g_Row : Gl X "Row" := B.gl rfl
  have g_InvalidOperation : Gl X "InvalidOperation" := B.gl rfl
  have g_len : Gl X "len" := B.gl rfl
  have z_len := T.z_len
  have v_len := bb_len
  have g_MAX_STEPS : Gl X "MAX_STEPS" := B.gl rfl
  obtain ⟨t_MAX_STEPS, c_MAX_STEPS⟩ := T.c_MAX_STEPS
  have g_TooMany : Gl X "TooMany" := B.gl rfl
  obtain ⟨a, b, P, ss, ts, rfl, ⟨⟨dx, v, ha, hd⟩, h1, h2, h3, h4⟩, ⟨⟨dy, w, hb, he⟩, _, _, h5, h6⟩, hz, q⟩ := h
  obtain ⟨c, xs, rfl, hs, da⟩ := dp_tup hd
  obtain ⟨d, ys, rfl, ht, db⟩ := dp_tup he
  have hl : xs.length = ss.length := by rw [dp_len da, List.length_map]
  have hl2 : ys.length = ts.length := by rw [dp_len db, List.length_map]
  walk_at "wz"
  refine e_gref g_Row T.k_Row ?_
  walk_at "wz"
  refine c_isC T.cl_Row T.ic_Row hb ?_
  walk_at "wz"
  refine e_fld ?_
  walk_at "wz"
  refine ⟨b, C_Row, dy, _, _, rfl, hb, T.cl_Row, T.na_Row__places, rfl, ?_⟩
  refine e_fld ?_
  walk_at "wz"
  refine ⟨a, C_Row, dx, _, _, rfl, ha, T.cl_Row, T.na_Row__places, rfl, ?_⟩
  walk_at "wz"
  refine iteND (fun z => absurd rfl z) (fun _ => ?_)
  walk_at "wz"
  refine e_fld ?_
  walk_at "wz"
  refine ⟨a, C_Row, dx, _, _, rfl, ha, T.cl_Row, T.na_Row__steps, rfl, ?_⟩
  walk_at "wz"
  refine c_lenT hs ?_
  walk_at "wz"
  refine e_fld ?_
  walk_at "wz"
  refine ⟨b, C_Row, dy, _, _, rfl, hb, T.cl_Row, T.na_Row__steps, rfl, ?_⟩
  walk_at "wz"
  refine c_lenT ht ?_
  walk_at "wz"
  refine iteD (fun z => absurd z (by omega)) (fun _ => ?_)
  walk_at "wz"
  walk_at "rw"
  refine e_fld ?_
  walk_at "wz"
  refine ⟨a, C_Row, dx, _, _, rfl, ha, T.cl_Row, T.na_Row__places, rfl, ?_⟩
  walk_at "wz"
  refine e_fld ?_
  walk_at "wz"
  refine ⟨a, C_Row, dx, _, _, rfl, ha, T.cl_Row, T.na_Row__steps, rfl, ?_⟩
  refine e_fld ?_
  walk_at "wz"
  refine ⟨b, C_Row, dy, _, _, rfl, hb, T.cl_Row, T.na_Row__steps, rfl, ?_⟩
  refine o_cat hs ht (by have : (48 : Nat) ≤ sizeLine := (by decide); omega) fun p H' sm hp => ?_
  refine ⟨P, ss ++ ts, rfl, h1, h2, ?_, by rw [List.length_append]; omega, fun s hs => (List.mem_append.mp hs).elim (h4 s) (h6 s), fun r H2 _ s2 R => q r H2 (sm.trans s2) R⟩
  rw [List.map_append]
  exact .tup hp (dpa_same sm (dpa_app da db))
theorem len_Row___add__ {K : PySem.W.Frag} {C_Row : Addr} : ∀ vs H Q E, sp_Row___add__ K C_Row vs H Q E → vs.length = 2 := by
  intro vs H Q E h
  obtain ⟨_, _, _, _, _, e, _⟩ := h
  rw [e]; rfl
theorem D_Row___add__ {P : Program} {w : World} {K : PySem.W.Frag} {mg : Str → Option Value} {base : Heap} {C_Row : Addr} (T : Tx K mg C_Row) : Md P w K mg base C_Row "__add__" 9 ["self", "other"] (sp_Row___add__ K C_Row) := by
  obtain ⟨f, fd, F0, M⟩ := T.d_Row___add__
  exact ⟨f, fd, fnk_of F0 sc_Row___add__ len_Row___add__ (fun X e1 e2 e3 e4 e5 B F vs H Q E h => by subst e1 e2 e3 e4 e5; exact b_Row___add__ B F T h), M, F0.binds (fun _ _ _ _ _ _ us hl => match us, hl with | [_, _], _ => rfl)⟩
def sp_Row___eq__ (K : PySem.W.Frag) (C_Row : Addr) : Sp := fun vs H Q _ => ∃ a b P R, ∃ ss ts : List (Int × Int × Str), vs = [.ref a, .ref b] ∧ RowAt K H C_Row a P ss ∧ RowAt K H C_Row b R ts ∧ Q (.bl (decide (P = R) && decide (ss = ts))) H
theorem b_Row___eq__ {X : Cx} {C_Row : Addr} (B : Bd X N_Row___eq__ (defScope S_Row___eq__) 0) (F : ∀ x, X.fn x = true) (T : Tx X.K X.mg C_Row) {vs : List V} {H : Hp} {Q : VK} {E : XK} (h : sp_Row___eq__ X.K C_Row vs H Q E) :
    wB X (defBody S_Row___eq__) { nx := fun _ H' => Q .non H', rt := Q } (start N_Row___eq__ vs) H := by
  have n_self : X.N[0]? = some ("self" : Str) := B.slot 0 rfl
  have l_self : X.env.scope.names.lookup ("self" : Str) = some NameKind.local := B.loc rfl
  have n_other : X.N[1]? = some ("other" : Str) := B.slot 1 rfl
  have l_other : X.env.scope.names.lookup ("other" : Str) = some NameKind.local := B.loc rfl
  have g_isinstance : Gl X "isinstance" := B.gl rfl
  have z_isinstance := T.z_isinstance
  have v_isinstance := bb_isinstance
  have g_Row : Gl X "Row" := B.gl rfl
  obtain ⟨a, b, P, R, ss, ts, rfl, ⟨⟨dx, v, ha, hd⟩, h1, h2, h3, h4⟩, ⟨⟨dy, w, hb, he⟩, _, _, h5, h6⟩, q⟩ := h
  walk_at "wz"
  refine e_gref g_Row T.k_Row ?_
  walk_at "wz"
  refine c_isC T.cl_Row T.ic_Row hb ?_
  walk_at "wz"
  refine e_fld ?_
  walk_at "wz"
  refine ⟨a, C_Row, dx, _, _, rfl, ha, T.cl_Row, T.na_Row__places, rfl, ?_⟩
  refine e_fld ?_
  walk_at "wz"
  refine ⟨b, C_Row, dy, _, _, rfl, hb, T.cl_Row, T.na_Row__places, rfl, ?_⟩
  walk_at "wz"
  by_cases e : P = R
  · subst e
    rw [decide_eq_true rfl, Bool.true_and] at q
    refine iteD (fun _ => ?_) (fun z => absurd rfl z)
    walk_at "wz"
    refine e_fld ?_
    walk_at "wz"
    refine ⟨a, C_Row, dx, _, _, rfl, ha, T.cl_Row, T.na_Row__steps, rfl, ?_⟩
    refine e_fld ?_
    walk_at "wz"
    refine ⟨b, C_Row, dy, _, _, rfl, hb, T.cl_Row, T.na_Row__steps, rfl, ?_⟩
    refine o_eqD B.room.units hd he (shaped_steps h4) (shaped_steps h6) ?_
    rw [show PyData.eqv (.tuple (ss.map stp)) (.tuple (ts.map stp)) = decide (ss = ts) from eqv_steps ss ts]
    exact q
  · rw [decide_eq_false e, Bool.false_and] at q
    refine iteD (fun z => absurd (V.int.inj z) e) (fun _ => ?_)
    exact q
theorem len_Row___eq__ {K : PySem.W.Frag} {C_Row : Addr} : ∀ vs H Q E, sp_Row___eq__ K C_Row vs H Q E → vs.length = 2 := by
  intro vs H Q E h
  obtain ⟨_, _, _, _, _, _, e, _⟩ := h
  rw [e]; rfl
theorem D_Row___eq__ {P : Program} {w : World} {K : PySem.W.Frag} {mg : Str → Option Value} {base : Heap} {C_Row : Addr} (T : Tx K mg C_Row) : Md P w K mg base C_Row "__eq__" 1 ["self", "other"] (sp_Row___eq__ K C_Row) := by
  obtain ⟨f, fd, F0, M⟩ := T.d_Row___eq__
  exact ⟨f, fd, fnk_of F0 sc_Row___eq__ len_Row___eq__ (fun X e1 e2 e3 e4 e5 B F vs H Q E h => by subst e1 e2 e3 e4 e5; exact b_Row___eq__ B F T h), M, F0.binds (fun _ _ _ _ _ _ us hl => match us, hl with | [_, _], _ => rfl)⟩

/-- a drawn row: its places, and the list of its steps -/
def Drawn (K : PySem.W.Frag) (H H' : Hp) (p r : Addr) (M : Int) (m : Nat) : Prop := Ch p H H' ∧ Dice H' p ∧ ∃ l P xs, ∃ ss : List (Int × Int × Str), SqT K H' r [.int P, .ref l] ∧ H' l = some (.lst xs) ∧ l ≠ p ∧ H l = none ∧ DpAll K H' xs (ss.map stp) ∧ (∀ s ∈ ss, okS P s) ∧ 2 ≤ P ∧ P ≤ M ∧ ss.length ≤ m
theorem Drawn.mono {K : PySem.W.Frag} {H H1 H' : Hp} {p r : Addr} {M M' : Int} {m m' : Nat} (h : Drawn K H1 H' p r M m) (c : Ch p H H1) (d : Dice H p) (a : M ≤ M') (b : m ≤ m') : Drawn K H H' p r M' m' := by
  obtain ⟨c1, d1, l, P, xs, ss, h1, h2, h3, h4, h5, h6, h7, h8, h9⟩ := h
  refine ⟨c.trans c1, d1, l, P, xs, ss, h1, h2, h3, ?_, h5, h6, h7, by omega, by omega⟩
  cases e : H l with
  | none => rfl
  | some o =>
    rw [c l o h3 e] at h4
    cases h4
theorem okZ_a : okZ "a" := ⟨by decide, by decide, by unfold okO; decide +kernel⟩
theorem okZ_ab : okZ "ab" := ⟨by decide, by decide, by unfold okO; decide +kernel⟩
theorem okZ_abz : okZ "abz" := ⟨by decide, by decide, by unfold okO; decide +kernel⟩
theorem okZ_kmk : okZ "kmk" := ⟨by decide, by decide, by unfold okO; decide +kernel⟩
theorem okZ_abc : okZ "abc" := ⟨by decide, by decide, by unfold okO; decide +kernel⟩
theorem okZ_xyzq : okZ "xyzq" := ⟨by decide, by decide, by unfold okO; decide +kernel⟩
def sp__law_small (K : PySem.W.Frag) (C_Row : Addr) : Sp := fun vs H Q _ => ∃ p M, ∃ m : Nat, vs = [.ref p, .int M, .int (m : Int)] ∧ Dice H p ∧ 2 ≤ M ∧ M ≤ 12 ∧ m ≤ 24 ∧ ∀ r H', Drawn K H H' p r M m → Q (.ref r) H'
theorem b__law_small {X : Cx} {C_Row : Addr} (B : Bd X N__law_small (defScope S__law_small) 3) (F : ∀ x, X.fn x = true) (G : X.A.guards = some []) (T : Tx X.K X.mg C_Row) {vs : List V} {H : Hp} {Q : VK} {E : XK} (h : sp__law_small X.K C_Row vs H Q E) :
    wB X (defBody S__law_small) { nx := fun _ H' => Q .non H', rt := Q } (start N__law_small vs) H := by
  have n_dice : X.N[0]? = some ("dice" : Str) := B.slot 0 rfl
  have l_dice : X.env.scope.names.lookup ("dice" : Str) = some NameKind.local := B.loc rfl
  have n_most : X.N[1]? = some ("most" : Str) := B.slot 1 rfl
  have l_most : X.env.scope.names.lookup ("most" : Str) = some NameKind.local := B.loc rfl
  have n_many : X.N[2]? = some ("many" : Str) := B.slot 2 rfl
  have l_many : X.env.scope.names.lookup ("many" : Str) = some NameKind.local := B.loc rfl
  have n_places : X.N[3]? = some ("places" : Str) := B.slot 3 rfl
  have l_places : X.env.scope.names.lookup ("places" : Str) = some NameKind.local := B.loc rfl
  have n_owners : X.N[4]? = some ("owners" : Str) := B.slot 4 rfl
  have l_owners : X.env.scope.names.lookup ("owners" : Str) = some NameKind.local := B.loc rfl
  have g__law_roll : Gl X "_law_roll" := B.gl rfl
  have g__law_pick : Gl X "_law_pick" := B.gl rfl
  have g__law_drawn_steps : Gl X "_law_drawn_steps" := B.gl rfl
  obtain ⟨p, M, m, rfl, hd, h0, h1, hm, q⟩ := h
  walk_at "wz"
  refine ⟨p, _, rfl, hd, by omega, by omega, fun a H1 a0 a1 c1 d1 => ?_⟩
  walk_at "wz"
  refine ⟨by show 5 ≤ sizeLine; decide, fun l1 hl1 => ?_⟩
  walk_at "wz"
  refine ⟨p, _, rfl, d1.new hl1, Or.inl ⟨l1, _, rfl, upd_same, d1.off hl1, by show 0 < 5; decide, by show 5 < _; decide, fun i v H2 hi c2 d2 => ?_⟩⟩
  have hv : ∃ z, v = .str z ∧ okZ z := by
    have hm := List.mem_of_getElem? hi
    simp only [List.mem_cons, List.not_mem_nil, or_false] at hm
    rcases hm with e | e | e | e | e
    · exact ⟨_, e, okZ_a⟩
    · exact ⟨_, e, okZ_ab⟩
    · exact ⟨_, e, okZ_ab⟩
    · exact ⟨_, e, okZ_abz⟩
    · exact ⟨_, e, okZ_kmk⟩
  obtain ⟨z, rfl, hz⟩ := hv
  walk_at "wz"
  refine ⟨p, _, rfl, d2, by omega, by omega, fun b H3 b0 b1 c3 d3 => ?_⟩
  walk_at "wz"
  obtain ⟨k, rfl⟩ : ∃ k : Nat, b = (k : Int) := ⟨b.toNat, by omega⟩
  have c03 : Ch p H H3 := ((c1.new hl1).trans c2).trans c3
  refine ⟨p, _, k, z, rfl, d3, by omega, by omega, by omega, hz, fun l xs ss H4 c4 d4 hx lp hl da ok hlen => ?_⟩
  walk_at "wz"
  refine ⟨by show 2 ≤ sizeLine; decide, fun r hr => ?_⟩
  refine q r _ (Drawn.mono (H1 := H3) ⟨c4.new hr, d4.new hr, l, _, xs, ss, SqT.of upd_same, upd_keep hr hx, lp, hl, dpa_same ((Same.refl H4).new hr) da, ok, by omega, by omega, (by omega : ss.length ≤ m)⟩ c03 hd (Int.le_refl _) (Nat.le_refl _))
theorem len__law_small {K : PySem.W.Frag} {C_Row : Addr} : ∀ vs H Q E, sp__law_small K C_Row vs H Q E → vs.length = 3 := by
  intro vs H Q E h
  obtain ⟨_, _, _, e, _⟩ := h
  rw [e]; rfl
theorem D__law_small {P : Program} {w : World} {K : PySem.W.Frag} {mg : Str → Option Value} {base : Heap} {C_Row : Addr} (T : Tx K mg C_Row) : Df P w K mg base "_law_small" 4 ["dice", "most", "many"] (sp__law_small K C_Row) :=
  df_of T.d__law_small sc__law_small (fun _ _ _ _ _ _ us hl => match us, hl with | [_, _, _], _ => rfl) len__law_small (fun X e1 e2 e3 e4 e5 B F G vs H Q E h => by subst e1 e2 e3 e4 e5; exact b__law_small B F G T h)
local macro_rules | `(tactic| walk_at "cl") => `(tactic| (refine' e_call (D__law_small ‹Tx _ _ _›) (by assumption) ?rm ?gl ?_; (case rm => exact ‹Bd _ _ _ _›.room.mono (by decide)); (case gl => with_reducible assumption)))
theorem okS_mono {P R : Int} {s : Int × Int × Str} (h : okS P s) (e : P ≤ R) : okS R s := ⟨⟨h.1.1, h.1.2.1, by have := h.1.2.2; omega⟩, h.2⟩
def sp__law_great (K : PySem.W.Frag) (C_Row : Addr) : Sp := fun vs H Q _ => ∃ p, vs = [.ref p] ∧ Dice H p ∧ ∀ r H', Drawn K H H' p r 12 24 → Q (.ref r) H'
theorem b__law_great {X : Cx} {C_Row : Addr} (B : Bd X N__law_great (defScope S__law_great) 2) (F : ∀ x, X.fn x = true) (G : X.A.guards = some []) (T : Tx X.K X.mg C_Row) {vs : List V} {H : Hp} {Q : VK} {E : XK} (h : sp__law_great X.K C_Row vs H Q E) :
    wB X (defBody S__law_great) { nx := fun _ H' => Q .non H', rt := Q } (start N__law_great vs) H := by
  have n_dice : X.N[0]? = some ("dice" : Str) := B.slot 0 rfl
  have l_dice : X.env.scope.names.lookup ("dice" : Str) = some NameKind.local := B.loc rfl
  have n_places : X.N[1]? = some ("places" : Str) := B.slot 1 rfl
  have l_places : X.env.scope.names.lookup ("places" : Str) = some NameKind.local := B.loc rfl
  have n_many : X.N[2]? = some ("many" : Str) := B.slot 2 rfl
  have l_many : X.env.scope.names.lookup ("many" : Str) = some NameKind.local := B.loc rfl
  have n_owners : X.N[3]? = some ("owners" : Str) := B.slot 3 rfl
  have l_owners : X.env.scope.names.lookup ("owners" : Str) = some NameKind.local := B.loc rfl
  have n_found : X.N[4]? = some ("found" : Str) := B.slot 4 rfl
  have l_found : X.env.scope.names.lookup ("found" : Str) = some NameKind.local := B.loc rfl
  have n_cut : X.N[5]? = some ("cut" : Str) := B.slot 5 rfl
  have l_cut : X.env.scope.names.lookup ("cut" : Str) = some NameKind.local := B.loc rfl
  have n_turn : X.N[6]? = some ("turn" : Str) := B.slot 6 rfl
  have l_turn : X.env.scope.names.lookup ("turn" : Str) = some NameKind.local := B.loc rfl
  have n_low : X.N[7]? = some ("low" : Str) := B.slot 7 rfl
  have l_low : X.env.scope.names.lookup ("low" : Str) = some NameKind.local := B.loc rfl
  have n_one : X.N[8]? = some ("one" : Str) := B.slot 8 rfl
  have l_one : X.env.scope.names.lookup ("one" : Str) = some NameKind.local := B.loc rfl
  have n_other : X.N[9]? = some ("other" : Str) := B.slot 9 rfl
  have l_other : X.env.scope.names.lookup ("other" : Str) = some NameKind.local := B.loc rfl
  have g__law_roll : Gl X "_law_roll" := B.gl rfl
  have g__law_pick : Gl X "_law_pick" := B.gl rfl
  have g_range : Gl X "range" := B.gl rfl
  have z_range := T.z_range
  have v_range := bb_range
  have g__law_exchange : Gl X "_law_exchange" := B.gl rfl
  obtain ⟨p, rfl, hd, q⟩ := h
  walk_at "wz"
  refine ⟨p, _, rfl, hd, by omega, by omega, fun a H1 a0 a1 c1 d1 => ?_⟩
  walk_at "wz"
  refine s_par3 2 3 4 B.calm B.nd n_many n_owners n_found (by decide) (by decide) (by decide) l_many l_owners l_found (by rw [env_eta B.sc]; rfl) ?_
  walk_at "wz"
  refine ⟨p, _, rfl, d1, by omega, by omega, fun b H2 b0 b1 c2 d2 => ?_⟩
  walk_at "wz"
  refine ⟨by show 4 ≤ sizeLine; decide, fun l1 hl1 => ?_⟩
  walk_at "wz"
  refine ⟨p, _, rfl, d2.new hl1, Or.inl ⟨l1, _, rfl, upd_same, d2.off hl1, by show 0 < 4; decide, by show 4 < _; decide, fun i v H3 hi c3 d3 => ?_⟩⟩
  have hv : ∃ z, v = .str z ∧ okZ z := by
    have hm := List.mem_of_getElem? hi
    simp only [List.mem_cons, List.not_mem_nil, or_false] at hm
    rcases hm with e | e | e | e
    · exact ⟨_, e, okZ_a⟩
    · exact ⟨_, e, okZ_ab⟩
    · exact ⟨_, e, okZ_abc⟩
    · exact ⟨_, e, okZ_xyzq⟩
  obtain ⟨z, rfl, hz⟩ := hv
  obtain ⟨z0, z1, z2⟩ := id hz
  walk_at "wz"
  refine ⟨by show 0 ≤ sizeLine; decide, fun l hl => ?_⟩
  walk_at "wz"
  refine ⟨_, _, _, rfl, ?_⟩
  have c03 : Ch p H H3 := ((c1.trans c2).new hl1).trans c3
  have lp : l ≠ p := d3.off hl
  have hl0 : H l = none := by
    cases e : H l with
    | none => rfl
    | some o =>
      rw [c03 l o lp e] at hl
      cases hl
  walk_at "wz"
  refine ⟨p, _, rfl, d3.new hl, by omega, by omega, fun c H4 e0 e1 c4 d4 => ?_⟩
  walk_at "wz"
  obtain ⟨m, rfl⟩ : ∃ m : Nat, b = (m : Int) := ⟨b.toNat, by omega⟩
  refine s_forR1 6 B.ps B.calm g_range z_range B.nd n_turn (Or.inl l_turn) ?_ (hf := .inr l_turn)
  walk_at "wz"
  refine ⟨by omega, fun k σ H5 => ∃ y6 y7 y8 y9, σ = [some (.ref p), some (.int (2 + a)), some (.int (m : Int)), some (.str z), some (.ref l), some (.int (1 + c)), y6, y7, y8, y9] ∧ Ch p H H5 ∧ Dice H5 p ∧ ∃ xs, ∃ ss : List (Int × Int × Str), H5 l = some (.lst xs) ∧ DpAll X.K H5 xs (ss.map stp) ∧ (∀ s ∈ ss, okS (2 + a) s) ∧ ss.length ≤ k, ?_, ?_, ?_⟩
  · exact ⟨_, _, _, _, rfl, (c03.new hl).trans c4, d4, [], [], c4 l _ lp upd_same, .nil, fun s hs => by simp at hs, Nat.le_refl _⟩
  · rintro k σ H5 hk ⟨y6, y7, y8, y9, rfl, c5, d5, xs, ss, hx, da, ok, hlen⟩
    have hln : xs.length = ss.length := by rw [dp_len da, List.length_map]
    have nls := noLst_steps ss
    walk_at "wz"
    refine ⟨by show 4 ≤ sizeLine; decide, fun l2 hl2 => ?_⟩
    walk_at "wz"
    refine ⟨p, _, rfl, d5.new hl2, Or.inl ⟨l2, _, rfl, upd_same, d5.off hl2, by show 0 < 4; decide, by show 4 < _; decide, fun i v H6 hi c6 d6 => ?_⟩⟩
    have hv : ∃ u : Int, v = .int u := by
      have hm := List.mem_of_getElem? hi
      simp only [List.mem_cons, List.not_mem_nil, or_false] at hm
      rcases hm with e | e | e | e <;> exact ⟨_, e⟩
    obtain ⟨u, rfl⟩ := hv
    have c56 : Ch p H5 H6 := (Ch.refl.new hl2).trans c6
    have hx6 := c56 l _ lp hx
    have da6 := dpa_ch c56 d5.noTup nls da
    have c06 : Ch p H H6 := c5.trans c56
    -- one step more
    have more : ∀ (x y : Int) (H7 : Hp) (w : Nat) (t : Addr), Ch p H6 H7 → Dice H7 p → okE (2 + a) x y → w ∈ z.cps.toList → H7 t = none → ∀ (y6 y7 y8 y9 : Option V) (σ : L2.St), σ = [some (.ref p), some (.int (2 + a)), some (.int (m : Int)), some (.str z), some (.ref l), some (.int (1 + c)), y6, y7, y8, y9] → upd H7 t (.tup [.int x, .int y, .str ⟨#[w]⟩]) l = some (.lst xs) ∧ xs.length < sizeLine ∧
        (∃ y6 y7 y8 y9, σ = [some (.ref p), some (.int (2 + a)), some (.int (m : Int)), some (.str z), some (.ref l), some (.int (1 + c)), y6, y7, y8, y9] ∧ Ch p H (upd (upd H7 t (.tup [.int x, .int y, .str ⟨#[w]⟩])) l (.lst (xs ++ [.ref t]))) ∧ Dice (upd (upd H7 t (.tup [.int x, .int y, .str ⟨#[w]⟩])) l (.lst (xs ++ [.ref t]))) p ∧
          ∃ xs2, ∃ ss2 : List (Int × Int × Str), upd (upd H7 t (.tup [.int x, .int y, .str ⟨#[w]⟩])) l (.lst (xs ++ [.ref t])) l = some (.lst xs2) ∧ DpAll X.K (upd (upd H7 t (.tup [.int x, .int y, .str ⟨#[w]⟩])) l (.lst (xs ++ [.ref t]))) xs2 (ss2.map stp) ∧ (∀ s ∈ ss2, okS (2 + a) s) ∧ ss2.length ≤ k + 1) := by
      intro x y H7 w t c7 d7 hxy hw ht y6 y7 y8 y9 σ hσ
      have hx7 := c7 l _ lp hx6
      have hx8 := upd_keep (o := .tup [.int x, .int y, .str ⟨#[w]⟩]) ht hx7
      refine ⟨hx8, by have : (1001 : Nat) ≤ sizeLine := (by decide); omega, y6, y7, y8, y9, hσ, ((c06.trans c7).new ht).at hl0, (d7.new ht).at lp, _, ss ++ [(x, y, ⟨#[w]⟩)], upd_same, ?_, ?_, by rw [List.length_append]; show ss.length + 1 ≤ _; omega⟩
      · rw [List.map_append]
        refine dpa_app ?_ (.cons (.tup (ds := [.int x, .int y, .str ⟨#[w]⟩]) (xs := [.int x, .int y, .str ⟨#[w]⟩]) (SqT.of (upd_keep2 (Ne.symm (ne_of_none hx7 ht)) upd_same)) (.cons (.int _) (.cons (.int _) (.cons (.str _) .nil)))) .nil)
        refine dpa_ch (H := upd H7 t _) Ch.refl.put (noTup_lst hx8) nls ?_
        refine dpa_same ((Same.refl H7).new ht) ?_
        exact dpa_ch c7 d6.noTup nls da6
      · intro s hs
        rcases List.mem_append.mp hs with hs | hs
        · exact ok s hs
        · simp only [List.mem_singleton] at hs
          subst hs
          exact ⟨hxy, z2 w hw⟩
    have skip : ∃ s6 s7 s8 s9, [some (.ref p), some (.int (2 + a)), some (.int (m : Int)), some (.str z), some (.ref l), some (.int (1 + c)), some (.int (k : Int)), some (.int u), y8, y9] = [some (.ref p), some (.int (2 + a)), some (.int (m : Int)), some (.str z), some (.ref l), some (V.int (1 + c)), s6, s7, s8, s9] ∧ Ch p H H6 ∧ Dice H6 p ∧ ∃ xs, ∃ ss : List (Int × Int × Str), H6 l = some (.lst xs) ∧ DpAll X.K H6 xs (ss.map stp) ∧ (∀ s ∈ ss, okS (2 + a) s) ∧ ss.length ≤ k + 1 := ⟨_, _, _, _, rfl, c06, d6, xs, ss, hx6, da6, ok, by omega⟩
    walk_at "wz"
    refine iteD (fun hu => ?_) (fun hu => ?_)
    · walk_at "wz"
      refine iteD (fun h1 => ?_) (fun h1 => ?_)
      · walk_at "wz"
        refine s_unp2 8 9 B.calm B.nd n_one n_other l_one l_other ?_
        walk_at "wz"
        refine ⟨p, _, rfl, d6, by omega, by omega, fun r x y H7 c7 d7 hr hxy => ?_⟩
        refine ⟨r, _, _, rfl, hr, ?_⟩
        walk_at "st"
        walk_at "st"
        refine e_app ?_
        walk_at "wz"
        refine ⟨Or.inl ⟨rfl, _, SqL.of (c7 l _ lp hx6)⟩, ?_⟩
        walk_at "wz"
        refine ⟨p, _, rfl, d7, Or.inr ⟨z, rfl, z0, z1, fun w H8 hw c8 d8 => ?_⟩⟩
        walk_at "wz"
        refine ⟨by show 3 ≤ sizeLine; decide, fun t ht => ?_⟩
        obtain ⟨m1, m2, m3⟩ := more x y H8 w t (c7.trans c8) d8 ⟨hxy.1, hxy.2.1, by have := hxy.2.2; omega⟩ hw ht _ _ _ _ _ rfl
        exact ⟨l, xs, rfl, m1, m2, m3⟩
      · walk_at "wz"
        refine iteD (fun h2 => ?_) (fun h2 => ?_)
        · walk_at "wz"
          refine s_unp2 8 9 B.calm B.nd n_one n_other l_one l_other ?_
          walk_at "wz"
          refine ⟨p, _, rfl, d6, by omega, by omega, fun r x y H7 c7 d7 hr hxy => ?_⟩
          refine ⟨r, _, _, rfl, hr, ?_⟩
          walk_at "st"
          walk_at "st"
          refine e_app ?_
          walk_at "wz"
          refine ⟨Or.inl ⟨rfl, _, SqL.of (c7 l _ lp hx6)⟩, ?_⟩
          walk_at "wz"
          refine ⟨p, _, rfl, d7, Or.inr ⟨z, rfl, z0, z1, fun w H8 hw c8 d8 => ?_⟩⟩
          walk_at "wz"
          refine ⟨by show 3 ≤ sizeLine; decide, fun t ht => ?_⟩
          obtain ⟨m1, m2, m3⟩ := more (1 + c + x) (1 + c + y) H8 w t (c7.trans c8) d8 ⟨by have := hxy.1; omega, by have := hxy.2.1; omega, by have := hxy.2.2; omega⟩ hw ht _ _ _ _ _ rfl
          exact ⟨l, xs, rfl, m1, m2, m3⟩
        · walk_at "wz"
          exact skip
    · walk_at "wz"
      refine iteD (fun h2 => ?_) (fun h2 => ?_)
      · walk_at "wz"
        refine s_unp2 8 9 B.calm B.nd n_one n_other l_one l_other ?_
        walk_at "wz"
        refine ⟨p, _, rfl, d6, by omega, by omega, fun r x y H7 c7 d7 hr hxy => ?_⟩
        refine ⟨r, _, _, rfl, hr, ?_⟩
        walk_at "st"
        walk_at "st"
        refine e_app ?_
        walk_at "wz"
        refine ⟨Or.inl ⟨rfl, _, SqL.of (c7 l _ lp hx6)⟩, ?_⟩
        walk_at "wz"
        refine ⟨p, _, rfl, d7, Or.inr ⟨z, rfl, z0, z1, fun w H8 hw c8 d8 => ?_⟩⟩
        walk_at "wz"
        refine ⟨by show 3 ≤ sizeLine; decide, fun t ht => ?_⟩
        obtain ⟨m1, m2, m3⟩ := more (1 + c + x) (1 + c + y) H8 w t (c7.trans c8) d8 ⟨by have := hxy.1; omega, by have := hxy.2.1; omega, by have := hxy.2.2; omega⟩ hw ht _ _ _ _ _ rfl
        exact ⟨l, xs, rfl, m1, m2, m3⟩
      · walk_at "wz"
        exact skip
  · rintro σ H5 ⟨y6, y7, y8, y9, rfl, c5, d5, xs, ss, hx, da, ok, hlen⟩
    walk_at "wz"
    refine ⟨by show 2 ≤ sizeLine; decide, fun r hr => ?_⟩
    exact q r _ ⟨c5.new hr, d5.new hr, l, _, xs, ss, SqT.of upd_same, upd_keep hr hx, lp, hl0, dpa_same ((Same.refl H5).new hr) da, ok, by omega, by omega, by omega⟩
theorem len__law_great {K : PySem.W.Frag} {C_Row : Addr} : ∀ vs H Q E, sp__law_great K C_Row vs H Q E → vs.length = 1 := by
  intro vs H Q E h
  obtain ⟨_, e, _⟩ := h
  rw [e]; rfl
theorem D__law_great {P : Program} {w : World} {K : PySem.W.Frag} {mg : Str → Option Value} {base : Heap} {C_Row : Addr} (T : Tx K mg C_Row) : Df P w K mg base "_law_great" 3 ["dice"] (sp__law_great K C_Row) :=
  df_of T.d__law_great sc__law_great (fun _ _ _ _ _ _ us hl => match us, hl with | [_], _ => rfl) len__law_great (fun X e1 e2 e3 e4 e5 B F G vs H Q E h => by subst e1 e2 e3 e4 e5; exact b__law_great B F G T h)
local macro_rules | `(tactic| walk_at "cl") => `(tactic| (refine' e_call (D__law_great ‹Tx _ _ _›) (by assumption) ?rm ?gl ?_; (case rm => exact ‹Bd _ _ _ _›.room.mono (by decide)); (case gl => with_reducible assumption)))

def sp__law_made_row (K : PySem.W.Frag) (C_Row : Addr) : Sp := fun vs H Q _ => ∃ P l xs, ∃ ss : List (Int × Int × Str), vs = [.int P, .ref l] ∧ SqL K H l xs ∧ DpAll K H xs (ss.map stp) ∧ (∀ s ∈ ss, okS P s) ∧ 1 ≤ P ∧ P ≤ 12 ∧ ss.length ≤ 24 ∧ ∀ r H', Same H H' → RowAt K H' C_Row r P ss → Q (.ref r) H'
theorem b__law_made_row {X : Cx} {C_Row : Addr} (B : Bd X N__law_made_row (defScope S__law_made_row) 9) (F : ∀ x, X.fn x = true) (G : X.A.guards = some []) (T : Tx X.K X.mg C_Row) {vs : List V} {H : Hp} {Q : VK} {E : XK} (h : sp__law_made_row X.K C_Row vs H Q E) :
    wB X (defBody S__law_made_row) { nx := fun _ H' => Q .non H', rt := Q } (start N__law_made_row vs) H := by
  have n_places : X.N[0]? = some ("places" : Str) := B.slot 0 rfl
  have l_places : X.env.scope.names.lookup ("places" : Str) = some NameKind.local := B.loc rfl
  have n_steps : X.N[1]? = some ("steps" : Str) := B.slot 1 rfl
  have l_steps : X.env.scope.names.lookup ("steps" : Str) = some NameKind.local := B.loc rfl
  have g_Row : Gl X "Row" := B.gl rfl
  have g_tuple : Gl X "tuple" := B.gl rfl
  have z_tuple := T.z_tuple
  have v_tuple := bb_tuple
  obtain ⟨P, l, xs, ss, rfl, hx, da, ok, h1, h2, h3, q⟩ := h
  walk_at "wz"
  walk_at "rw"
  walk_at "wz"
  refine c_tupL hx fun t ht => ?_
  refine ⟨P, ss, rfl, h1, h2, .tup (SqT.of upd_same) (dpa_same ((Same.refl H).new ht) da), h3, ok, fun a H' _ sm R => q a H' (((Same.refl H).new ht).trans sm) R⟩
theorem len__law_made_row {K : PySem.W.Frag} {C_Row : Addr} : ∀ vs H Q E, sp__law_made_row K C_Row vs H Q E → vs.length = 2 := by
  intro vs H Q E h
  obtain ⟨_, _, _, _, e, _⟩ := h
  rw [e]; rfl
theorem D__law_made_row {P : Program} {w : World} {K : PySem.W.Frag} {mg : Str → Option Value} {base : Heap} {C_Row : Addr} (T : Tx K mg C_Row) : Df P w K mg base "_law_made_row" 10 ["places", "steps"] (sp__law_made_row K C_Row) :=
  df_of T.d__law_made_row sc__law_made_row (fun _ _ _ _ _ _ us hl => match us, hl with | [_, _], _ => rfl) len__law_made_row (fun X e1 e2 e3 e4 e5 B F G vs H Q E h => by subst e1 e2 e3 e4 e5; exact b__law_made_row B F G T h)
local macro_rules | `(tactic| walk_at "cl") => `(tactic| (refine' e_call (D__law_made_row ‹Tx _ _ _›) (by assumption) ?rm ?gl ?_; (case rm => exact ‹Bd _ _ _ _›.room.mono (by decide)); (case gl => with_reducible assumption)))
def sp__law_row_here (K : PySem.W.Frag) (C_Row : Addr) : Sp := fun vs H Q _ => ∃ p, vs = [.ref p] ∧ Dice H p ∧ ∀ r H', Drawn K H H' p r 12 24 → Q (.ref r) H'
theorem b__law_row_here {X : Cx} {C_Row : Addr} (B : Bd X N__law_row_here (defScope S__law_row_here) 4) (F : ∀ x, X.fn x = true) (G : X.A.guards = some []) (T : Tx X.K X.mg C_Row) {vs : List V} {H : Hp} {Q : VK} {E : XK} (h : sp__law_row_here X.K C_Row vs H Q E) :
    wB X (defBody S__law_row_here) { nx := fun _ H' => Q .non H', rt := Q } (start N__law_row_here vs) H := by
  have n_dice : X.N[0]? = some ("dice" : Str) := B.slot 0 rfl
  have l_dice : X.env.scope.names.lookup ("dice" : Str) = some NameKind.local := B.loc rfl
  have g__law_roll : Gl X "_law_roll" := B.gl rfl
  have g__law_small : Gl X "_law_small" := B.gl rfl
  have g__law_great : Gl X "_law_great" := B.gl rfl
  obtain ⟨p, rfl, hd, q⟩ := h
  walk_at "wz"
  refine ⟨p, _, rfl, hd, by omega, by omega, fun a H1 a0 a1 c1 d1 => ?_⟩
  walk_at "wz"
  refine iteD (fun _ => ?_) (fun _ => ?_)
  · walk_at "wz"
    refine ⟨p, 6, 8, rfl, d1, by omega, by omega, by omega, fun r H' D => q r H' (D.mono c1 hd (by omega) (by omega))⟩
  · walk_at "wz"
    exact ⟨p, rfl, d1, fun r H' D => q r H' (D.mono c1 hd (by omega) (by omega))⟩
theorem len__law_row_here {K : PySem.W.Frag} {C_Row : Addr} : ∀ vs H Q E, sp__law_row_here K C_Row vs H Q E → vs.length = 1 := by
  intro vs H Q E h
  obtain ⟨_, e, _⟩ := h
  rw [e]; rfl
theorem D__law_row_here {P : Program} {w : World} {K : PySem.W.Frag} {mg : Str → Option Value} {base : Heap} {C_Row : Addr} (T : Tx K mg C_Row) : Df P w K mg base "_law_row_here" 5 ["dice"] (sp__law_row_here K C_Row) :=
  df_of T.d__law_row_here sc__law_row_here (fun _ _ _ _ _ _ us hl => match us, hl with | [_], _ => rfl) len__law_row_here (fun X e1 e2 e3 e4 e5 B F G vs H Q E h => by subst e1 e2 e3 e4 e5; exact b__law_row_here B F G T h)
local macro_rules | `(tactic| walk_at "cl") => `(tactic| (refine' e_call (D__law_row_here ‹Tx _ _ _›) (by assumption) ?rm ?gl ?_; (case rm => exact ‹Bd _ _ _ _›.room.mono (by decide)); (case gl => with_reducible assumption)))

/-! names, one behind the other -/
abbrev nm (ns : List Int) (x : Int) : Int := ns.getD x.toNat 0
theorem nm_inj {ns : List Int} (h : isD ns) {x y : Int} (x0 : 0 ≤ x) (x1 : x < (ns.length : Int)) (y0 : 0 ≤ y) (y1 : y < (ns.length : Int)) (e : nm ns x = nm ns y) : x = y := by
  rcases Int.lt_trichotomy x y with l | l | l
  · exact absurd e (h.ne x0 l y1)
  · exact l
  · exact absurd e.symm (h.ne y0 l x1)
def compN (n1 n2 : List Int) : List Int := n1.map fun x => nm n2 x
theorem compN_len (n1 n2 : List Int) : (compN n1 n2).length = n1.length := List.length_map ..
theorem compN_at {n1 n2 : List Int} {x : Int} (x0 : 0 ≤ x) (x1 : x < (n1.length : Int)) : nm (compN n1 n2) x = nm n2 (nm n1 x) := by
  have h : x.toNat < n1.length := by omega
  unfold compN nm
  rw [List.getD_eq_getElem?_getD, List.getElem?_map, List.getElem?_eq_getElem h, List.getD_eq_getElem?_getD (l := n1), List.getElem?_eq_getElem h]
  rfl
theorem iota_nm (n2 : List Int) : (iota n2.length).map (fun x => nm n2 x) = n2 := by
  unfold iota
  rw [List.map_map]
  have h := WX.map_at n2 0 (fun x => x)
  rw [List.map_id'] at h
  exact h
theorem isD_comp {n1 n2 : List Int} (h1 : isD n1) (h2 : isD n2) (e : n1.length = n2.length) : isD (compN n1 n2) := by
  refine ⟨?_, by rw [compN_len]; exact h1.2.1, by rw [compN_len]; exact h1.2.2⟩
  rw [compN_len]
  have p : (compN n1 n2).Perm ((iota n1.length).map fun x => nm n2 x) := h1.1.map _
  rw [e, iota_nm] at p
  rw [e]
  exact p.trans h2.1
def backN (n1 : List Int) : List Int := (iota n1.length).map fun x => ((n1.idxOf x : Nat) : Int)
theorem backN_len (n1 : List Int) : (backN n1).length = n1.length := by unfold backN iota; rw [List.length_map, List.length_map, List.length_range]
theorem nodup_isD {n1 : List Int} (h : isD n1) : n1.Nodup := h.1.nodup_iff.mpr (iota_nodup _)
theorem idx_nm {n1 : List Int} (h : isD n1) {x : Int} (x0 : 0 ≤ x) (x1 : x < (n1.length : Int)) : ((n1.idxOf (nm n1 x) : Nat) : Int) = x := by
  have hx : x.toNat < n1.length := by omega
  have e : nm n1 x = n1[x.toNat] := by unfold nm; rw [List.getD_eq_getElem?_getD, List.getElem?_eq_getElem hx]; rfl
  rw [e, (nodup_isD h).idxOf_getElem x.toNat hx]
  omega
theorem isD_back {n1 : List Int} (h : isD n1) : isD (backN n1) := by
  refine ⟨?_, by rw [backN_len]; exact h.2.1, by rw [backN_len]; exact h.2.2⟩
  rw [backN_len]
  have p : (backN n1).Perm (n1.map fun x => ((n1.idxOf x : Nat) : Int)) := (h.1.map _).symm
  have e : (n1.map fun x => ((n1.idxOf x : Nat) : Int)) = iota n1.length := by
    have e1 := WX.map_at n1 0 (fun x => ((n1.idxOf x : Nat) : Int))
    rw [← e1]
    unfold iota
    refine List.map_congr_left fun i hi => ?_
    have hi := List.mem_range.mp hi
    have := idx_nm h (x := (i : Int)) (by omega) (by omega)
    exact this
  rw [e] at p
  exact p
theorem backN_at {n1 : List Int} {x : Int} (x0 : 0 ≤ x) (x1 : x < (n1.length : Int)) : nm (backN n1) x = ((n1.idxOf x : Nat) : Int) := by
  have h : x.toNat < n1.length := by omega
  unfold backN iota nm
  rw [List.map_map, List.getD_eq_getElem?_getD, List.getElem?_map, List.getElem?_range h]
  show ((n1.idxOf ((x.toNat : Nat) : Int) : Nat) : Int) = _
  rw [Int.toNat_of_nonneg x0]
theorem nameS_eq (ns : List Int) (s : Int × Int × Str) : nameS ns s = (if nm ns s.2.1 < nm ns s.1 then nm ns s.2.1 else nm ns s.1, if nm ns s.2.1 > nm ns s.1 then nm ns s.2.1 else nm ns s.1, s.2.2) := rfl
theorem name_name {P : Int} {n1 n2 : List Int} {s : Int × Int × Str} (h1 : isD n1) (h2 : isD n2) (l1 : (n1.length : Int) = P) (l2 : (n2.length : Int) = P) (ok : okS P s) : nameS n2 (nameS n1 s) = nameS (compN n1 n2) s := by
  obtain ⟨⟨x0, xy, yP⟩, _⟩ := ok
  have ne := h1.ne x0 xy (by omega)
  rw [nameS_eq (compN n1 n2), compN_at x0 (by omega), compN_at (by omega) (by omega), nameS_eq n1, nameS_eq]
  show (_, _, s.2.2) = (_, _, s.2.2)
  by_cases e : nm n1 s.2.1 < nm n1 s.1
  · rw [if_pos e, if_neg (show ¬ nm n1 s.2.1 > nm n1 s.1 by omega)]
    generalize nm n2 (nm n1 s.1) = u
    generalize nm n2 (nm n1 s.2.1) = v
    congr 1
    · split <;> split <;> omega
    · congr 1
      split <;> split <;> omega
  · have e2 : nm n1 s.2.1 > nm n1 s.1 := by
      have : nm n1 s.1 ≠ nm n1 s.2.1 := ne
      omega
    rw [if_neg e, if_pos e2]
theorem name_back {P : Int} {n1 : List Int} {s : Int × Int × Str} (h1 : isD n1) (l1 : (n1.length : Int) = P) (ok : okS P s) : nameS (backN n1) (nameS n1 s) = s := by
  obtain ⟨⟨x0, xy, yP⟩, o⟩ := ok
  rw [name_name h1 (isD_back h1) l1 (by rw [backN_len]; exact l1) ⟨⟨x0, xy, yP⟩, o⟩]
  have a := h1.at x0 (by omega)
  have b := h1.at (i := s.2.1) (by omega) (by omega)
  rw [nameS_eq, compN_at x0 (by omega), compN_at (by omega) (by omega), backN_at a.1 a.2, backN_at b.1 b.2, idx_nm h1 x0 (by omega), idx_nm h1 (by omega) (by omega)]
  rw [if_neg (show ¬ s.2.1 < s.1 by omega), if_pos (show s.2.1 > s.1 by omega)]
theorem map_name {P : Int} {n1 n2 : List Int} {ss : List (Int × Int × Str)} (h1 : isD n1) (h2 : isD n2) (l1 : (n1.length : Int) = P) (l2 : (n2.length : Int) = P) (ok : ∀ s ∈ ss, okS P s) : (ss.map (nameS n1)).map (nameS n2) = ss.map (nameS (compN n1 n2)) := by
  rw [List.map_map]
  exact List.map_congr_left fun s hs => name_name h1 h2 l1 l2 (ok s hs)
theorem map_back {P : Int} {n1 : List Int} {ss : List (Int × Int × Str)} (h1 : isD n1) (l1 : (n1.length : Int) = P) (ok : ∀ s ∈ ss, okS P s) : (ss.map (nameS n1)).map (nameS (backN n1)) = ss := by
  rw [List.map_map]
  have : ∀ s ∈ ss, (nameS (backN n1) ∘ nameS n1) s = s := fun s hs => name_back h1 l1 (ok s hs)
  rw [List.map_congr_left this, List.map_id']
theorem pb_sym {u v : Int} (h : u ≠ v) (x : Int) : pb (if v < u then v else u) (if v > u then v else u) x = pb u v x := by
  by_cases e : v < u
  · rw [if_pos e, if_neg (show ¬ v > u by omega)]
    unfold pb
    by_cases a : x = v
    · rw [if_pos a, if_neg (by omega), if_pos a]
    · rw [if_neg a]
      by_cases b : x = u
      · rw [if_pos b, if_pos b]
      · rw [if_neg b, if_neg b, if_neg a]
  · rw [if_neg e, if_pos (show v > u by omega)]
/-- where a renamed thing goes -/
theorem pb_name {P : Int} {n1 : List Int} {s : Int × Int × Str} {p : Int} (h1 : isD n1) (l1 : (n1.length : Int) = P) (ok : okS P s) (p0 : 0 ≤ p) (p1 : p < P) : pb (nameS n1 s).1 (nameS n1 s).2.1 (nm n1 p) = nm n1 (pb s.1 s.2.1 p) := by
  obtain ⟨⟨x0, xy, yP⟩, _⟩ := ok
  have ne : nm n1 s.1 ≠ nm n1 s.2.1 := h1.ne x0 xy (by omega)
  have i1 : nm n1 p = nm n1 s.1 → p = s.1 := fun e => nm_inj h1 p0 (by omega) x0 (by omega) e
  have i2 : nm n1 p = nm n1 s.2.1 → p = s.2.1 := fun e => nm_inj h1 p0 (by omega) (by omega) (by omega) e
  rw [nameS_eq]
  show pb (if nm n1 s.2.1 < nm n1 s.1 then nm n1 s.2.1 else nm n1 s.1) (if nm n1 s.2.1 > nm n1 s.1 then nm n1 s.2.1 else nm n1 s.1) (nm n1 p) = _
  rw [pb_sym ne]
  unfold pb
  by_cases e1 : p = s.1
  · rw [if_pos (by rw [e1]), if_pos e1]
  · rw [if_neg (fun e => e1 (i1 e)), if_neg e1]
    by_cases e2 : p = s.2.1
    · rw [if_pos (by rw [e2]), if_pos e2]
    · rw [if_neg (fun e => e2 (i2 e)), if_neg e2]
theorem last_name {P : Int} {n1 : List Int} (h1 : isD n1) (l1 : (n1.length : Int) = P) : ∀ {ss : List (Int × Int × Str)} {p : Int}, (∀ s ∈ ss, okS P s) → 0 ≤ p → p < P → lastP (ss.map (nameS n1)) (nm n1 p) = nm n1 (lastP ss p)
  | [], p, _, _, _ => rfl
  | s :: ss, p, ok, p0, p1 => by
    have os := ok s (List.mem_cons_self ..)
    have b := pb_in os.1 p0 p1
    show lastP (ss.map (nameS n1)) (pb _ _ (nm n1 p)) = nm n1 (lastP ss (pb s.1 s.2.1 p))
    rw [pb_name h1 l1 os p0 p1]
    exact last_name h1 l1 (fun t ht => ok t (List.mem_cons_of_mem _ ht)) b.1 b.2
theorem deed_rest {P : Int} (ss : List (Int × Int × Str)) : deedL P (ss ++ ss.reverse) = iota P.toNat := by
  unfold deedL iota
  refine List.map_congr_left fun i _ => ?_
  rw [lastP_app, last_rev]

def ownS (ss : List (Int × Int × Str)) (z : Str) : List (Int × Int × Str) := List.zipWith (fun s (c : Nat) => (s.1, s.2.1, (⟨#[c]⟩ : Str))) ss z.cps.toList
theorem ownS_len {ss : List (Int × Int × Str)} {z : Str} (h : z.length = ss.length) : (ownS ss z).length = ss.length := by
  unfold ownS
  rw [List.length_zipWith, Array.length_toList]
  show min ss.length z.length = ss.length
  rw [h, Nat.min_self]
theorem ownS_at {ss : List (Int × Int × Str)} {z : Str} {i : Nat} {s : Int × Int × Str} {c : Nat} (h1 : ss[i]? = some s) (h2 : z.cps.toList[i]? = some c) : (ownS ss z)[i]? = some (s.1, s.2.1, ⟨#[c]⟩) := by
  unfold ownS
  rw [List.getElem?_zipWith, h1, h2]
theorem ownS_ok {P : Int} {ss : List (Int × Int × Str)} {z : Str} (h1 : ∀ s ∈ ss, okS P s) (h2 : ∀ c ∈ z.cps.toList, okO ⟨#[c]⟩) : ∀ s ∈ ownS ss z, okS P s := by
  intro t ht
  unfold ownS at ht
  obtain ⟨i, hi, e⟩ := List.getElem_of_mem ht
  rw [List.getElem_zipWith] at e
  subst e
  exact ⟨(h1 _ (List.getElem_mem _)).1, h2 _ (List.getElem_mem _)⟩
theorem signs_at {z : Str} {i : Nat} {v : V} (h : (WX.signs z)[i]? = some v) : ∃ c, z.cps.toList[i]? = some c ∧ v = .str ⟨#[c]⟩ := by
  unfold WX.signs at h
  rw [List.getElem?_map] at h
  cases e : z.cps.toList[i]? with
  | none => rw [e] at h; cases h
  | some c => rw [e] at h; cases h; exact ⟨c, rfl, rfl⟩
def sp_Row_owned (K : PySem.W.Frag) (C_Row : Addr) : Sp := fun vs H Q _ => ∃ a P z, ∃ ss : List (Int × Int × Str), vs = [.ref a, .str z] ∧ RowAt K H C_Row a P ss ∧ z.length = ss.length ∧ (∀ c ∈ z.cps.toList, okO ⟨#[c]⟩) ∧ ∀ r H', Same H H' → RowAt K H' C_Row r P (ownS ss z) → Q (.ref r) H'
theorem b_Row_owned {X : Cx} {C_Row : Addr} (B : Bd X N_Row_owned (defScope S_Row_owned) 8) (F : ∀ x, X.fn x = true) (T : Tx X.K X.mg C_Row) {vs : List V} {H : Hp} {Q : VK} {E : XK} (h : sp_Row_owned X.K C_Row vs H Q E) :
    wB X (defBody S_Row_owned) { nx := fun _ H' => Q .non H', rt := Q } (start N_Row_owned vs) H := by
  have n_self : X.N[0]? = some ("self" : Str) := B.slot 0 rfl
  have l_self : X.env.scope.names.lookup ("self" : Str) = some NameKind.local := B.loc rfl
  have n_owners : X.N[1]? = some ("owners" : Str) := B.slot 1 rfl
  have l_owners : X.env.scope.names.lookup ("owners" : Str) = some NameKind.local := B.loc rfl
  have n_steps : X.N[2]? = some ("steps" : Str) := B.slot 2 rfl
  have l_steps : X.env.scope.names.lookup ("steps" : Str) = some NameKind.local := B.loc rfl
  have n_step : X.N[3]? = some ("step" : Str) := B.slot 3 rfl
  have n_owner : X.N[4]? = some ("owner" : Str) := B.slot 4 rfl
  have n_letter : X.N[5]? = some ("letter" : Str) := B.slot 5 rfl
  have g_isinstance : Gl X "isinstance" := B.gl rfl
  have z_isinstance := T.z_isinstance
  have v_isinstance := bb_isinstance
  have g_str : Gl X "str" := B.gl rfl
  have z_str := T.z_str
  have v_str := bb_str
  have g_len : Gl X "len" := B.gl rfl
  have z_len := T.z_len
  have v_len := bb_len
  have g_InvalidOperation : Gl X "InvalidOperation" := B.gl rfl
  have g_all : Gl X "all" := B.gl rfl
  have z_all := T.z_all
  have v_all := bb_all
  have g_zip : Gl X "zip" := B.gl rfl
  have z_zip := T.z_zip
  have g_Row : Gl X "Row" := B.gl rfl
  have g_tuple : Gl X "tuple" := B.gl rfl
  have z_tuple := T.z_tuple
  have v_tuple := bb_tuple
  obtain ⟨a, P, z, ss, rfl, ⟨⟨dx, v, ha, hd⟩, h1, h2, h3, h4⟩, hz, ho, q⟩ := h
  obtain ⟨b, xs, rfl, hs, da⟩ := dp_tup hd
  have hl : xs.length = ss.length := by rw [dp_len da, List.length_map]
  have z100 : (100 : Nat) < sizeLine := by decide
  walk_at "wz"
  refine c_lenS (by omega) ?_
  walk_at "wz"
  refine e_fld ?_
  walk_at "wz"
  refine ⟨a, C_Row, dx, _, _, rfl, ha, T.cl_Row, T.na_Row__steps, rfl, ?_⟩
  walk_at "wz"
  refine c_lenT hs ?_
  walk_at "wz"
  refine iteND (fun n => absurd (by rw [hz, hl]) n) (fun _ => ?_)
  walk_at "wz"
  refine e_tX 5 B (blkOk_by (by decide +kernel)) rfl rfl ?_
  walk_at "wz"
  refine ⟨z, fun _ => .bl true, rfl, by omega, ?_, ?_⟩
  · intro i c H2 hc sm X' bk
    have B' := bk.bd B
    have n_letter : X'.N[5]? = some ("letter" : Str) := B'.slot 5 rfl
    have l_letter : X'.env.scope.names.lookup ("letter" : Str) = some NameKind.local := B'.loc rfl
    have T' : Tx X'.K X'.mg C_Row := by rw [bk.K, bk.mg]; exact T
    have g_is_owner : Gl X' "is_owner" := B'.gl rfl
    have oc : okO ⟨#[c]⟩ := ho c (by rw [← Array.getElem?_toList] at hc; exact List.mem_of_getElem? hc)
    walk_at "wz"
    exact ⟨rfl, Same.refl _⟩
  intro D H1 hD s1 hD1
  have e1 : ((List.range z.length).map fun _ => V.bl true) = (List.replicate z.length true).map V.bl := by
    rw [List.map_replicate, List.map_const', List.length_range]
  rw [e1] at hD1
  walk_at "wz"
  refine c_all B.calm (SqL.of hD1) ?_
  rw [show (List.replicate z.length true).all id = true by rw [List.all_eq_true]; intro x hx; exact (List.mem_replicate.mp hx).2]
  walk_at "wz"
  refine s_zS 3 4 (by decide) 2 B (blkOk_by (by decide +kernel)) g_zip z_zip rfl rfl rfl rfl n_steps l_steps (by rw [env_eta B.sc]; rfl) ?_
  refine e_fld ?_
  walk_at "wz"
  refine ⟨a, C_Row, dx, _, _, rfl, s1 _ _ ha, T.cl_Row, T.na_Row__steps, rfl, ?_⟩
  walk_at "wz"
  refine ⟨b, xs, z, fun i y H => ∃ s c, ss[i]? = some s ∧ z.cps.toList[i]? = some c ∧ Dp X.K H y (stp (s.1, s.2.1, ⟨#[c]⟩)), rfl, rfl, .inl (same_tup s1 hs), by omega, by rw [WX.signs_len, hz, hl], ?_, ?_, ?_⟩
  · rintro i y p H4 H5 ⟨s, c, e1, e2, e3⟩ np ch
    exact ⟨s, c, e1, e2, dp_ch ch np rfl e3⟩
  · intro i v s0 H2 hv hs0 sm X' bk
    have B' := bk.bd B
    have n_step : X'.N[3]? = some ("step" : Str) := B'.slot 3 rfl
    have l_step : X'.env.scope.names.lookup ("step" : Str) = some NameKind.local := B'.loc rfl
    have n_owner : X'.N[4]? = some ("owner" : Str) := B'.slot 4 rfl
    have l_owner : X'.env.scope.names.lookup ("owner" : Str) = some NameKind.local := B'.loc rfl
    have T' : Tx X'.K X'.mg C_Row := by rw [bk.K, bk.mg]; exact T
    obtain ⟨s, e1, e2⟩ := dp_step da hv
    obtain ⟨d, rfl, hd2⟩ := dp_stp e2
    obtain ⟨c, e3, rfl⟩ := signs_at hs0
    have hd3 : SqT X'.K H2 d [.int s.1, .int s.2.1, .str s.2.2] := by rw [bk.K]; exact same_tup (s1.trans sm) hd2
    walk_at "wz"
    refine x_tup hd3 ix0 ?_
    walk_at "wz"
    refine x_tup hd3 ix1 ?_
    walk_at "wz"
    refine ⟨by show 3 ≤ sizeLine; omega, fun r hr => ⟨(Same.refl _).new hr, s, c, e1, e3, ?_⟩⟩
    exact .tup (SqT.of upd_same) (.cons (.int _) (.cons (.int _) (.cons (.str _) .nil)))
  intro D2 H2 ys hD2 s2 hD3 hyl hy
  walk_at "wz"
  walk_at "rw"
  refine e_fld ?_
  walk_at "wz"
  refine ⟨a, C_Row, dx, _, _, rfl, (s1.trans s2) _ _ ha, T.cl_Row, T.na_Row__places, rfl, ?_⟩
  walk_at "wz"
  refine c_tupL (SqL.of hD3) fun r hr => ?_
  have s3 := (s1.trans s2).new (o := .tup ys) hr
  refine ⟨P, ownS ss z, rfl, h1, h2, ?_, by rw [ownS_len hz]; exact h3, ownS_ok h4 ho, fun r H7 _ s7 R => q r H7 (s3.trans s7) R⟩
  refine .tup (SqT.of upd_same) (dpa_of (by rw [List.length_map, ownS_len hz, hyl, hl]) fun i y d g1 g2 => ?_)
  obtain ⟨s, c, e1, e2, e3⟩ := hy i y g1
  rw [List.getElem?_map, ownS_at e1 e2] at g2
  cases g2
  exact dp_same ((Same.refl H2).new hr) e3
theorem len_Row_owned {K : PySem.W.Frag} {C_Row : Addr} : ∀ vs H Q E, sp_Row_owned K C_Row vs H Q E → vs.length = 2 := by
  intro vs H Q E h
  obtain ⟨_, _, _, _, e, _⟩ := h
  rw [e]; rfl
theorem D_Row_owned {P : Program} {w : World} {K : PySem.W.Frag} {mg : Str → Option Value} {base : Heap} {C_Row : Addr} (T : Tx K mg C_Row) : Md P w K mg base C_Row "owned" 9 ["self", "owners"] (sp_Row_owned K C_Row) := by
  obtain ⟨f, fd, F0, M⟩ := T.d_Row_owned
  exact ⟨f, fd, fnk_of F0 sc_Row_owned len_Row_owned (fun X e1 e2 e3 e4 e5 B F vs H Q E h => by subst e1 e2 e3 e4 e5; exact b_Row_owned B F T h), M, F0.binds (fun _ _ _ _ _ _ us hl => match us, hl with | [_, _], _ => rfl)⟩

theorem e_meth0 {X : Cx} {σ : L2.St} {H : Hp} {Q : VK} {o : Expr} {pos : Pos} {C : Addr} {m : Str} {pl : Sem Bool} {apos : Pos} {k : Nat} {ps : List Str} {sp : Sp} (F : Md X.prog X.w X.K X.mg X.base C m k ps sp) (c : Cls X.K C) (hr : Room k X.A) (h : wE X o σ H fun x H1 => ∃ a dx fs, x = .ref a ∧ H1 a = some (.ins C dx fs) ∧ fs.lookup m = none ∧ sp [.ref a] H1 Q E0)
    (ht : eval (.Call (.Attribute o m apos) [] [] pos) X.env = (do
      let ov ← eval o X.env
      standAt apos.atName
      let (f, first) ← holding [ov] (getMethod ov m pl)
      callWith pos f first (backTo pos (starEach [] X.env)) (backToKw pos (keywordEach [] X.env))) := by rfl) : wE X (.Call (.Attribute o m apos) [] [] pos) σ H Q := by
  obtain ⟨f, fd, G, hm, hb⟩ := F.ex
  refine toE (pe_meth0 (pl := pl) pe_self c hm G hr hb .nil pass0 ht) ?_
  refine wE_mono h ?_
  rintro x H1 ⟨a, dx, fs, rfl, h1, h2, h3⟩
  exact ⟨a, dx, fs, rfl, h1, h2, h3⟩
/-- a list of steps, none of the dice -/
def StepsAt (K : PySem.W.Frag) (H : Hp) (l p : Addr) (ss : List (Int × Int × Str)) : Prop := ∃ xs, H l = some (.lst xs) ∧ l ≠ p ∧ DpAll K H xs (ss.map stp)
theorem StepsAt.same {K : PySem.W.Frag} {H H' : Hp} {l p : Addr} {ss : List (Int × Int × Str)} (h : StepsAt K H l p ss) (s : Same H H') : StepsAt K H' l p ss := by
  obtain ⟨xs, h1, h2, h3⟩ := h
  exact ⟨xs, s _ _ h1, h2, dpa_same s h3⟩
theorem StepsAt.ch {K : PySem.W.Frag} {H H' : Hp} {l p : Addr} {ss : List (Int × Int × Str)} (h : StepsAt K H l p ss) (c : Ch p H H') (d : Dice H p) : StepsAt K H' l p ss := by
  obtain ⟨xs, h1, h2, h3⟩ := h
  exact ⟨xs, c _ _ h2 h1, h2, dpa_ch c d.noTup (noLst_steps ss) h3⟩
theorem RowAt.chd {K : PySem.W.Frag} {H H' : Hp} {C a p : Addr} {P : Int} {ss : List (Int × Int × Str)} (r : RowAt K H C a P ss) (c : Ch p H H') (d : Dice H p) : RowAt K H' C a P ss := by
  obtain ⟨x, y, z, e⟩ := d
  exact r.ch c e
theorem _root_.WX.Dice.same {H H' : Hp} {p : Addr} (d : Dice H p) (s : Same H H') : Dice H' p := by
  obtain ⟨x, y, z, e⟩ := d
  exact ⟨x, y, z, s _ _ e⟩
theorem okZ_abq : okZ "abq" := ⟨by decide, by decide, by unfold okO; decide +kernel⟩
theorem okZ_kz : okZ "kz" := ⟨by decide, by decide, by unfold okO; decide +kernel⟩
theorem okZ_abm : okZ "abm" := ⟨by decide, by decide, by unfold okO; decide +kernel⟩
/-- texts of one sign, joined -/
theorem join_signs : ∀ {ys : List V} {ok : Nat → Prop}, (∀ (i : Nat) (y : V), ys[i]? = some y → ∃ c : Nat, y = V.str ⟨#[c]⟩ ∧ ok c) → ∃ cs : List Nat, ys = (cs.map fun c => (⟨#[c]⟩ : Str)).map V.str ∧ (∀ c ∈ cs, ok c) ∧ cs.length = ys.length
  | [], _, _ => ⟨[], rfl, (fun c hc => by cases hc), rfl⟩
  | y :: ys, ok, h => by
    obtain ⟨c, rfl, hc⟩ := h 0 y rfl
    obtain ⟨cs, e, hcs, hl⟩ := join_signs (ys := ys) (ok := ok) fun i z hz => h (i + 1) z (by simpa using hz)
    refine ⟨c :: cs, by rw [e]; rfl, fun x hx => ?_, by rw [List.length_cons, List.length_cons, hl]⟩
    rcases List.mem_cons.mp hx with rfl | hx
    · exact hc
    · exact hcs x hx
theorem joinL_signs : ∀ cs : List Nat, TL.joinL [] (cs.map fun c => [c]) = cs
  | [] => rfl
  | [_] => rfl
  | c :: d :: r => by
    show [c] ++ ([] ++ TL.joinL [] ((d :: r).map fun c => [c])) = c :: d :: r
    rw [joinL_signs (d :: r)]
    rfl
theorem join_cps (cs : List Nat) : (Txt.join "" (cs.map fun c => (⟨#[c]⟩ : Str))).cps.toList = cs := by
  have e1 : Txt.join "" (cs.map fun c => (⟨#[c]⟩ : Str)) = Str.join "" (cs.map fun c => (⟨#[c]⟩ : Str)) := StrLaws.glued_eq_join ..
  rw [e1]
  have e2 := TL.tl_join "" (cs.map fun c => (⟨#[c]⟩ : Str))
  rw [List.map_map] at e2
  exact e2.trans (joinL_signs cs)
theorem sum_signs (cs : List Nat) : ((cs.map fun c => (⟨#[c]⟩ : Str)).map (·.length)).sum = cs.length := by
  induction cs with
  | nil => rfl
  | cons c cs ih => rw [List.map_cons, List.map_cons, List.sum_cons, ih, List.length_cons]; show 1 + _ = _; omega
def sp__law_next (K : PySem.W.Frag) (C_Row : Addr) : Sp := fun vs H Q _ => ∃ p P l a, ∃ ss : List (Int × Int × Str), vs = [.ref p, .int P, .ref l, .ref a] ∧ Dice H p ∧ StepsAt K H l p ss ∧ RowAt K H C_Row a P ss ∧ ∀ r H' P' l' a', ∀ ss' : List (Int × Int × Str), Ch p H H' → Dice H' p → SqT K H' r [.int P', .ref l', .ref a'] → StepsAt K H' l' p ss' → RowAt K H' C_Row a' P' ss' → Q (.ref r) H'
theorem b__law_next {X : Cx} {C_Row : Addr} (B : Bd X N__law_next (defScope S__law_next) 10) (F : ∀ x, X.fn x = true) (G : X.A.guards = some []) (T : Tx X.K X.mg C_Row) {vs : List V} {H : Hp} {Q : VK} {E : XK} (h : sp__law_next X.K C_Row vs H Q E) :
    wB X (defBody S__law_next) { nx := fun _ H' => Q .non H', rt := Q } (start N__law_next vs) H := by
  have n_dice : X.N[0]? = some ("dice" : Str) := B.slot 0 rfl
  have l_dice : X.env.scope.names.lookup ("dice" : Str) = some NameKind.cell := B.cel rfl
  have n_places : X.N[1]? = some ("places" : Str) := B.slot 1 rfl
  have l_places : X.env.scope.names.lookup ("places" : Str) = some NameKind.local := B.loc rfl
  have n_steps : X.N[2]? = some ("steps" : Str) := B.slot 2 rfl
  have l_steps : X.env.scope.names.lookup ("steps" : Str) = some NameKind.local := B.loc rfl
  have n_row : X.N[3]? = some ("row" : Str) := B.slot 3 rfl
  have l_row : X.env.scope.names.lookup ("row" : Str) = some NameKind.local := B.loc rfl
  have n_way : X.N[4]? = some ("way" : Str) := B.slot 4 rfl
  have l_way : X.env.scope.names.lookup ("way" : Str) = some NameKind.local := B.loc rfl
  have n_many : X.N[5]? = some ("many" : Str) := B.slot 5 rfl
  have l_many : X.env.scope.names.lookup ("many" : Str) = some NameKind.local := B.loc rfl
  have n_index : X.N[6]? = some ("index" : Str) := B.slot 6 rfl
  have l_index : X.env.scope.names.lookup ("index" : Str) = some NameKind.local := B.loc rfl
  have n_step : X.N[7]? = some ("step" : Str) := B.slot 7 rfl
  have l_step : X.env.scope.names.lookup ("step" : Str) = some NameKind.local := B.loc rfl
  have n_last : X.N[8]? = some ("last" : Str) := B.slot 8 rfl
  have l_last : X.env.scope.names.lookup ("last" : Str) = some NameKind.local := B.loc rfl
  have n_more : X.N[9]? = some ("more" : Str) := B.slot 9 rfl
  have l_more : X.env.scope.names.lookup ("more" : Str) = some NameKind.local := B.loc rfl
  have n_names : X.N[10]? = some ("names" : Str) := B.slot 10 rfl
  have l_names : X.env.scope.names.lookup ("names" : Str) = some NameKind.cell := B.cel rfl
  have n_owners : X.N[11]? = some ("owners" : Str) := B.slot 11 rfl
  have l_owners : X.env.scope.names.lookup ("owners" : Str) = some NameKind.local := B.loc rfl
  have n_fresh : X.N[12]? = some ("fresh" : Str) := B.slot 12 rfl
  have l_fresh : X.env.scope.names.lookup ("fresh" : Str) = some NameKind.local := B.loc rfl
  have n_wide : X.N[13]? = some ("wide" : Str) := B.slot 13 rfl
  have l_wide : X.env.scope.names.lookup ("wide" : Str) = some NameKind.local := B.loc rfl
  have n_sign : X.N[14]? = some ("sign" : Str) := B.slot 14 rfl
  have g__law_roll : Gl X "_law_roll" := B.gl rfl
  have g_len : Gl X "len" := B.gl rfl
  have z_len := T.z_len
  have v_len := bb_len
  have g__law_drawn_steps : Gl X "_law_drawn_steps" := B.gl rfl
  have g_min : Gl X "min" := B.gl rfl
  have z_min := T.z_min
  have v_min := bb_min
  have g__law_made_row : Gl X "_law_made_row" := B.gl rfl
  have g__law_names : Gl X "_law_names" := B.gl rfl
  have g_zip : Gl X "zip" := B.gl rfl
  have z_zip := T.z_zip
  obtain ⟨p, P, l, a, ss, rfl, hd, hst, hR, q⟩ := h
  have z100 : (10000 : Nat) < sizeLine := by decide
  walk_at "st"
  refine s_par 4 5 B.calm B.nd n_way n_many (by decide) l_way l_many (by rw [env_eta B.sc]; rfl) ?_
  walk_at "wz"
  refine ⟨p, _, rfl, hd, by omega, by omega, fun w0 H1 w1 w2 c1 d1 => ?_⟩
  have R1 := hR.chd c1 hd
  have st1 := hst.ch c1 hd
  obtain ⟨xs1, hx1, hlp, da1⟩ := id st1
  have hln : xs1.length = ss.length := by rw [dp_len da1, List.length_map]
  have h24 : ss.length ≤ 24 := hR.2.2.2.1
  have P1 : 1 ≤ P := hR.2.1
  have P12 : P ≤ 12 := hR.2.2.1
  walk_at "wz"
  refine c_lenL (SqL.of hx1) ?_
  rw [hln]
  walk_at "wz"
  refine ⟨p, _, rfl, d1, by omega, by omega, fun i0 H3 i1 i2 c3 d3 => ?_⟩
  obtain ⟨n, rfl⟩ : ∃ n : Nat, i0 = (n : Int) := ⟨i0.toNat, by omega⟩
  have R3 := R1.chd c3 d1
  have st3 := st1.ch c3 d1
  have c03 := c1.trans c3
  obtain ⟨xs, hx, _, da⟩ := id st3
  have hl3 : xs.length = ss.length := by rw [dp_len da, List.length_map]
  obtain ⟨⟨dx, vv, ha, hv⟩, _, _, _, ok⟩ := id R3
  have hn : n ≤ ss.length := by omega
  -- the end of each way
  have fin : ∀ {H' : Hp} {P' : Int} {l' a' t : Addr} {ss' : List (Int × Int × Str)}, Ch p H3 H' → Dice H' p → StepsAt X.K H' l' p ss' → RowAt X.K H' C_Row a' P' ss' → H' t = none → Q (.ref t) (upd H' t (.tup [.int P', .ref l', .ref a'])) := fun c d s r ht =>
    q _ _ _ _ _ _ ((c03.trans c).new ht) (d.new ht) (SqT.of upd_same) (s.same ((Same.refl _).new ht)) (r.same ((Same.refl _).new ht))
  -- way 0
  refine b_mid (fun σ' H' => σ' = [some (.ref p), some (.int P), some (.ref l), some (.ref a), some (.int w0), some (.int (ss.length : Int)), some (.int (n : Int)), none, none, none, none, none, none, none, none] ∧ H' = H3) ?_ ?_
  · walk_at "wz"
    refine iteD (fun e1 => ?_) (fun e1 => ?_)
    · walk_at "wz"
      refine iteD (fun e2 => ?_) (fun e2 => ?_)
      · walk_at "wz"
        refine iteD (fun e3 => ?_) (fun e3 => ?_)
        · walk_at "wz"
          refine ⟨p, P, 1, "abq", rfl, d3, by omega, by omega, by decide, okZ_abq, fun l4 xs4 ss4 H4 c4 d4 hl4 l4p hl40 da4 ok4 len4 => ?_⟩
          match ss4, len4 with
          | [s4], _ =>
          cases da4 with
          | @cons v4 _ vt4 _ dv4 dt4 =>
          cases dt4
          walk_at "wz"
          refine x_lst (SqL.of hl4) ix0 ?_
          have R4 := R3.chd c4 d3
          obtain ⟨xs5, hx5, _, da5⟩ := st3.ch c4 d3
          have hl5 : xs5.length = ss.length := by rw [dp_len da5, List.length_map]
          walk_at "wz"
          refine e_llNS ?_
          walk_at "wz"
          refine ⟨l, xs5, rfl, SqL.of hx5, fun t1 ht1 => ?_⟩
          rw [cut_j xs5 (by omega)]
          walk_at "wz"
          refine ⟨by show 1 ≤ sizeLine; omega, fun t2 ht2 => ?_⟩
          refine o_catL (upd_keep ht2 upd_same) upd_same (by rw [List.length_take]; show _ + 1 ≤ _; omega) fun t3 ht3 => ?_
          have s3 := (((Same.refl H4).new (o := .lst (xs5.take n)) ht1).new (o := .lst [v4]) ht2).new (o := .lst (xs5.take n ++ [v4])) ht3
          have g3 : upd (upd (upd H4 t1 (.lst (xs5.take n))) t2 (.lst [v4])) t3 (.lst (xs5.take n ++ [v4])) t3 = some (.lst (xs5.take n ++ [v4])) := upd_same
          generalize upd (upd (upd H4 t1 (.lst (xs5.take n))) t2 (.lst [v4])) t3 (.lst (xs5.take n ++ [v4])) = H5 at s3 g3
          refine e_llSN ?_
          walk_at "wz"
          refine ⟨l, xs5, rfl, SqL.of (s3 _ _ hx5), fun t4 ht4 => ?_⟩
          rw [cut_i xs5 (by omega)]
          refine o_catL (upd_keep ht4 g3) upd_same (by rw [List.length_append, List.length_take, List.length_drop]; show _ + 1 + _ ≤ _; omega) fun t5 ht5 => ?_
          have t5p : t5 ≠ p := ((d4.same s3).new ht4).off ht5
          have s5 := (s3.new (o := .lst (xs5.drop n)) ht4).new (o := .lst (xs5.take n ++ [v4] ++ xs5.drop n)) ht5
          have g5 : upd (upd H5 t4 (.lst (xs5.drop n))) t5 (.lst (xs5.take n ++ [v4] ++ xs5.drop n)) t5 = some (.lst (xs5.take n ++ [v4] ++ xs5.drop n)) := upd_same
          generalize upd (upd H5 t4 (.lst (xs5.drop n))) t5 (.lst (xs5.take n ++ [v4] ++ xs5.drop n)) = H6 at s5 g5
          have R6 := R4.same s5
          obtain ⟨⟨dx6, vv6, ha6, hv6⟩, _⟩ := id R6
          have st6 : StepsAt X.K H6 t5 p (ss.take n ++ s4 :: ss.drop n) := by
            refine ⟨_, g5, t5p, ?_⟩
            rw [List.map_append, List.map_cons, List.map_take, List.map_drop, List.append_assoc]
            have da6 := dpa_same s5 da5
            exact dpa_app (dpa_take _ da6) (.cons (dp_same s5 dv4) (dpa_drop _ da6))
          walk_at "wz"
          refine e_meth (D_Row_with_step T) T.cl_Row (B.room.mono (by decide)) ?_
          walk_at "wz"
          refine ⟨a, dx6, _, rfl, ha6, rfl, ?_⟩
          walk_at "wz"
          refine ⟨a, v4, P, n, s4, ss, rfl, R6, hn, dp_same s5 dv4, ok4 s4 (List.mem_cons_self ..), by omega, fun r7 H7 s7 R7 => ?_⟩
          walk_at "wz"
          refine ⟨by show 3 ≤ sizeLine; omega, fun t8 ht8 => ?_⟩
          exact fin (c4.trans (Ch.of (s5.trans s7))) (d4.same (s5.trans s7)) (st6.same s7) R7 ht8
        · walk_at "wz"
          exact ⟨rfl, rfl⟩
      · walk_at "wz"
        exact ⟨rfl, rfl⟩
    · walk_at "wz"
      exact ⟨rfl, rfl⟩
  rintro σ1 H1' ⟨rfl, e0⟩
  rw [e0]
  clear e0
  refine b_mid (fun σ' H' => σ' = [some (.ref p), some (.int P), some (.ref l), some (.ref a), some (.int w0), some (.int (ss.length : Int)), some (.int (n : Int)), none, none, none, none, none, none, none, none] ∧ H' = H3) ?_ ?_
  · walk_at "wz"
    refine iteD (fun e1 => ?_) (fun e1 => ?_)
    · walk_at "wz"
      refine iteD (fun e2 => ?_) (fun e2 => ?_)
      · walk_at "wz"
        refine e_llNS ?_
        walk_at "wz"
        refine ⟨l, xs, rfl, SqL.of hx, fun t1 ht1 => ?_⟩
        rw [cut_j xs (by omega)]
        have g1 : upd H3 t1 (.lst (xs.take n)) t1 = some (.lst (xs.take n)) := upd_same
        have s1 : Same H3 (upd H3 t1 (.lst (xs.take n))) := (Same.refl _).new ht1
        generalize upd H3 t1 (.lst (xs.take n)) = H5 at g1 s1
        refine e_llSN ?_
        walk_at "wz"
        refine ⟨l, xs, rfl, SqL.of (s1 _ _ hx), fun t4 ht4 => ?_⟩
        rw [show (n : Int) + 1 = ((n + 1 : Nat) : Int) by omega, cut_i xs (by omega)]
        refine o_catL (upd_keep ht4 g1) upd_same (by rw [List.length_take, List.length_drop]; omega) fun t5 ht5 => ?_
        have t5p : t5 ≠ p := ((d3.same s1).new ht4).off ht5
        have s5 := (s1.new (o := .lst (xs.drop (n + 1))) ht4).new (o := .lst (xs.take n ++ xs.drop (n + 1))) ht5
        have g5 : upd (upd H5 t4 (.lst (xs.drop (n + 1)))) t5 (.lst (xs.take n ++ xs.drop (n + 1))) t5 = some (.lst (xs.take n ++ xs.drop (n + 1))) := upd_same
        generalize upd (upd H5 t4 (.lst (xs.drop (n + 1)))) t5 (.lst (xs.take n ++ xs.drop (n + 1))) = H6 at s5 g5
        have R6 := R3.same s5
        obtain ⟨⟨dx6, vv6, ha6, hv6⟩, _⟩ := id R6
        have st6 : StepsAt X.K H6 t5 p (ss.take n ++ ss.drop (n + 1)) := by
          refine ⟨_, g5, t5p, ?_⟩
          rw [List.map_append, List.map_take, List.map_drop]
          have da6 := dpa_same s5 da
          exact dpa_app (dpa_take _ da6) (dpa_drop _ da6)
        walk_at "wz"
        refine e_meth (D_Row_without_step T) T.cl_Row (B.room.mono (by decide)) ?_
        walk_at "wz"
        refine ⟨a, dx6, _, rfl, ha6, rfl, ?_⟩
        walk_at "wz"
        refine ⟨a, P, n, ss, rfl, R6, by omega, fun r7 H7 s7 R7 => ?_⟩
        walk_at "wz"
        refine ⟨by show 3 ≤ sizeLine; omega, fun t8 ht8 => ?_⟩
        exact fin (Ch.of (s5.trans s7)) (d3.same (s5.trans s7)) (st6.same s7) R7 ht8
      · walk_at "wz"
        exact ⟨rfl, rfl⟩
    · walk_at "wz"
      exact ⟨rfl, rfl⟩
  rintro σ1 H1' ⟨rfl, e0⟩
  rw [e0]
  clear e0
  refine b_mid (fun σ' H' => σ' = [some (.ref p), some (.int P), some (.ref l), some (.ref a), some (.int w0), some (.int (ss.length : Int)), some (.int (n : Int)), none, none, none, none, none, none, none, none] ∧ H' = H3) ?_ ?_
  · walk_at "wz"
    refine iteD (fun e1 => ?_) (fun e1 => ?_)
    · walk_at "wz"
      refine iteD (fun e2 => ?_) (fun e2 => ?_)
      · walk_at "wz"
        refine ⟨p, _, rfl, d3, by omega, by omega, fun r0 H4 ra rb c4 d4 => ?_⟩
        obtain ⟨m, rfl⟩ : ∃ m : Nat, r0 = (m : Int) := ⟨r0.toNat, by omega⟩
        have R4 := R3.chd c4 d3
        obtain ⟨xs5, hx5, _, da5⟩ := st3.ch c4 d3
        have hl5 : xs5.length = ss.length := by rw [dp_len da5, List.length_map]
        walk_at "wz"
        rw [show (n : Int) + (m : Int) = ((n + m : Nat) : Int) by omega]
        refine e_llSS ?_
        walk_at "wz"
        refine ⟨l, xs5, rfl, SqL.of hx5, fun t5 ht5 => ?_⟩
        rw [cut_ij xs5 (by omega) (by omega)]
        have t5p : t5 ≠ p := d4.off ht5
        have s5 : Same H4 (upd H4 t5 (.lst ((xs5.drop n).take (n + m - n)))) := (Same.refl _).new ht5
        have g5 : upd H4 t5 (.lst ((xs5.drop n).take (n + m - n))) t5 = some (.lst ((xs5.drop n).take (n + m - n))) := upd_same
        generalize upd H4 t5 (.lst ((xs5.drop n).take (n + m - n))) = H6 at s5 g5
        have R6 := R4.same s5
        obtain ⟨⟨dx6, vv6, ha6, hv6⟩, _⟩ := id R6
        have st6 : StepsAt X.K H6 t5 p ((ss.drop n).take (n + m - n)) := by
          refine ⟨_, g5, t5p, ?_⟩
          rw [List.map_take, List.map_drop]
          exact dpa_take _ (dpa_drop _ (dpa_same s5 da5))
        walk_at "wz"
        refine e_meth (D_Row_part T) T.cl_Row (B.room.mono (by decide)) ?_
        walk_at "wz"
        refine ⟨a, dx6, _, rfl, ha6, rfl, ?_⟩
        walk_at "wz"
        refine ⟨a, P, n, n + m, ss, rfl, R6, by omega, by omega, fun r7 H7 s7 R7 => ?_⟩
        walk_at "wz"
        refine ⟨by show 3 ≤ sizeLine; omega, fun t8 ht8 => ?_⟩
        exact fin (c4.trans (Ch.of (s5.trans s7))) (d4.same (s5.trans s7)) (st6.same s7) R7 ht8
      · walk_at "wz"
        exact ⟨rfl, rfl⟩
    · walk_at "wz"
      exact ⟨rfl, rfl⟩
  rintro σ1 H1' ⟨rfl, e0⟩
  rw [e0]
  clear e0
  refine b_mid (fun σ' H' => σ' = [some (.ref p), some (.int P), some (.ref l), some (.ref a), some (.int w0), some (.int (ss.length : Int)), some (.int (n : Int)), none, none, none, none, none, none, none, none] ∧ H' = H3) ?_ ?_
  · walk_at "wz"
    refine iteD (fun e1 => ?_) (fun e1 => ?_)
    · walk_at "wz"
      refine iteD (fun e2 => ?_) (fun e2 => ?_)
      · walk_at "wz"
        have em : (if (24 : Int) - (ss.length : Int) < 5 then 24 - (ss.length : Int) else 5) = ((min 5 (24 - ss.length) : Nat) : Int) := by split <;> omega
        rw [em]
        refine ⟨p, P, min 5 (24 - ss.length), "kz", rfl, d3, by omega, by omega, by omega, okZ_kz, fun l4 xs4 ss4 H4 c4 d4 hl4 l4p hl40 da4 ok4 len4 => ?_⟩
        have R4 := R3.chd c4 d3
        obtain ⟨xs5, hx5, _, da5⟩ := st3.ch c4 d3
        have hl5 : xs5.length = ss.length := by rw [dp_len da5, List.length_map]
        have hl4' : xs4.length = ss4.length := by rw [dp_len da4, List.length_map]
        walk_at "wz"
        refine o_catL hx5 hl4 (by omega) fun t5 ht5 => ?_
        have t5p : t5 ≠ p := d4.off ht5
        have s5 : Same H4 (upd H4 t5 (.lst (xs5 ++ xs4))) := (Same.refl _).new ht5
        have g5 : upd H4 t5 (.lst (xs5 ++ xs4)) t5 = some (.lst (xs5 ++ xs4)) := upd_same
        generalize upd H4 t5 (.lst (xs5 ++ xs4)) = H6 at s5 g5
        have R6 := R4.same s5
        have st6 : StepsAt X.K H6 t5 p (ss ++ ss4) := by
          refine ⟨_, g5, t5p, ?_⟩
          rw [List.map_append]
          exact dpa_app (dpa_same s5 da5) (dpa_same s5 da4)
        walk_at "wz"
        refine ⟨P, l4, xs4, ss4, rfl, SqL.of (s5 _ _ hl4), dpa_same s5 da4, ok4, P1, P12, by omega, fun r7 H7 s7 R7 => ?_⟩
        have R67 := R6.same s7
        obtain ⟨⟨dx7, vv7, ha7, hv7⟩, _⟩ := id R67
        obtain ⟨⟨dx8, vv8, ha8, hv8⟩, _⟩ := id R7
        walk_at "wz"
        refine o_own (D_Row___add__ T) T.sf_Row (B.room.mono (by decide)) ha7 ha8 ?_
        refine ⟨a, r7, P, ss, ss4, rfl, R67, R7, by omega, fun r9 H9 s9 R9 => ⟨⟨r9, rfl⟩, ?_⟩⟩
        walk_at "wz"
        refine ⟨by show 3 ≤ sizeLine; omega, fun t8 ht8 => ?_⟩
        exact fin (c4.trans (Ch.of ((s5.trans s7).trans s9))) (d4.same ((s5.trans s7).trans s9)) (st6.same (s7.trans s9)) R9 ht8
      · walk_at "wz"
        exact ⟨rfl, rfl⟩
    · walk_at "wz"
      exact ⟨rfl, rfl⟩
  rintro σ1 H1' ⟨rfl, e0⟩
  rw [e0]
  clear e0
  refine b_mid (fun σ' H' => σ' = [some (.ref p), some (.int P), some (.ref l), some (.ref a), some (.int w0), some (.int (ss.length : Int)), some (.int (n : Int)), none, none, none, none, none, none, none, none] ∧ H' = H3) ?_ ?_
  · walk_at "wz"
    refine iteD (fun e1 => ?_) (fun e1 => ?_)
    · walk_at "st"
      walk_at "st"
      refine e_tup ?_
      refine a_cons ?_
      walk_at "ex"
      refine a_cons ?_
      refine e_revL ?_
      walk_at "wz"
      refine ⟨l, xs, rfl, SqL.of hx, fun t5 ht5 => ?_⟩
      have t5p : t5 ≠ p := d3.off ht5
      have s5 : Same H3 (upd H3 t5 (.lst xs.reverse)) := (Same.refl _).new ht5
      have g5 : upd H3 t5 (.lst xs.reverse) t5 = some (.lst xs.reverse) := upd_same
      generalize upd H3 t5 (.lst xs.reverse) = H6 at s5 g5
      have R6 := R3.same s5
      obtain ⟨⟨dx6, vv6, ha6, hv6⟩, _⟩ := id R6
      have st6 : StepsAt X.K H6 t5 p ss.reverse := by
        refine ⟨_, g5, t5p, ?_⟩
        rw [List.map_reverse]
        exact dpa_rev (dpa_same s5 da)
      walk_at "wz"
      refine e_meth0 (D_Row_backwards T) T.cl_Row (B.room.mono (by decide)) ?_
      walk_at "wz"
      refine ⟨a, dx6, _, rfl, ha6, rfl, ?_⟩
      refine ⟨a, P, ss, rfl, R6, fun r7 H7 s7 R7 => ?_⟩
      walk_at "wz"
      refine ⟨by show 3 ≤ sizeLine; omega, fun t8 ht8 => ?_⟩
      exact fin (Ch.of (s5.trans s7)) (d3.same (s5.trans s7)) (st6.same s7) R7 ht8
    · walk_at "wz"
      exact ⟨rfl, rfl⟩
  rintro σ1 H1' ⟨rfl, e0⟩
  rw [e0]
  clear e0
  refine b_mid (fun σ' H' => σ' = [some (.ref p), some (.int P), some (.ref l), some (.ref a), some (.int w0), some (.int (ss.length : Int)), some (.int (n : Int)), none, none, none, none, none, none, none, none] ∧ H' = H3) ?_ ?_
  · walk_at "wz"
    refine iteD (fun e1 => ?_) (fun e1 => ?_)
    · walk_at "wz"
      refine ⟨p, P, rfl, d3, by omega, by omega, fun r4 H4 ns c4 d4 hn4 hD hP => ?_⟩
      have R4 := R3.chd c4 d3
      obtain ⟨xs5, hx5, _, da5⟩ := st3.ch c4 d3
      have hl5 : xs5.length = ss.length := by rw [dp_len da5, List.length_map]
      walk_at "wz"
      refine e_lcL 7 B (blkOk_by (by decide +kernel)) rfl rfl (lcL_same ?_)
      walk_at "wz"
      refine ⟨l, xs5, fun i y H => ∃ s, ss[i]? = some s ∧ Dp X.K H y (stp (nameS ns s)), rfl, SqL.of hx5, by omega, ?_, ?_, ?_⟩
      · rintro i y p H4 H5 ⟨s, e1, e2⟩ np c
        exact ⟨s, e1, dp_ch c np rfl e2⟩
      · intro i v H6 hv sm X' bk
        have B' := bk.bd B
        have n_step : X'.N[7]? = some ("step" : Str) := B'.slot 7 rfl
        have l_step : X'.env.scope.names.lookup ("step" : Str) = some NameKind.local := B'.loc rfl
        have n_names : X'.N[10]? = some ("names" : Str) := B'.slot 10 rfl
        have l_names : X'.env.scope.names.lookup ("names" : Str) = some NameKind.cell := B'.cel rfl
        have T' : Tx X'.K X'.mg C_Row := by rw [bk.K, bk.mg]; exact T
        have g__law_step_named : Gl X' "_law_step_named" := B'.gl rfl
        have G' : X'.A.guards = some [] := by rw [bk.A]; exact G
        obtain ⟨s, e1, e2⟩ := dp_step da5 hv
        walk_at "wz"
        refine ⟨v, r4, P, s, ns, rfl, ?_, ok s (List.mem_of_getElem? e1), (hn4.same sm).sq, hP, fun r H' s2 hr => ⟨s2, s, e1, ?_⟩⟩
        · rw [bk.K]
          exact dp_same sm e2
        · rw [← bk.K]
          exact hr
      intro D H6 ys hD0 s6 hD6 hyl hy
      have Dp' : D ≠ p := d4.off hD0
      have R6 := R4.same s6
      obtain ⟨⟨dx6, vv6, ha6, hv6⟩, _⟩ := id R6
      have st6 : StepsAt X.K H6 D p (ss.map (nameS ns)) := by
        refine ⟨_, hD6, Dp', dpa_of (by rw [List.length_map, List.length_map, hyl, hl5]) fun i y d g1 g2 => ?_⟩
        obtain ⟨s, e1, e2⟩ := hy i y g1
        rw [List.getElem?_map, List.getElem?_map, e1] at g2
        cases g2
        exact e2
      walk_at "wz"
      refine e_meth (D_Row_renamed T) T.cl_Row (B.room.mono (by decide)) ?_
      walk_at "wz"
      refine ⟨a, dx6, _, rfl, ha6, rfl, ?_⟩
      walk_at "wz"
      refine ⟨a, r4, P, ns, ss, rfl, R6, (hn4.same s6).sq, hD, hP, fun r7 H7 s7 R7 => ?_⟩
      walk_at "wz"
      refine ⟨by show 3 ≤ sizeLine; omega, fun t8 ht8 => ?_⟩
      exact fin (c4.trans (Ch.of (s6.trans s7))) (d4.same (s6.trans s7)) (st6.same s7) R7 ht8
    · walk_at "wz"
      exact ⟨rfl, rfl⟩
  rintro σ1 H1' ⟨rfl, e0⟩
  rw [e0]
  clear e0
  refine b_mid (fun σ' H' => σ' = [some (.ref p), some (.int P), some (.ref l), some (.ref a), some (.int w0), some (.int (ss.length : Int)), some (.int (n : Int)), none, none, none, none, none, none, none, none] ∧ H' = H3) ?_ ?_
  · walk_at "wz"
    refine iteD (fun e1 => ?_) (fun e1 => ?_)
    · walk_at "wz"
      refine e_join ?_
      walk_at "wz"
      refine e_dL 7 B (blkOk_by (by decide +kernel)) rfl rfl ?_
      walk_at "wz"
      refine ⟨l, p, xs, fun i y => ∃ c : Nat, y = .str ⟨#[c]⟩ ∧ okO ⟨#[c]⟩, rfl, hx, hlp, by omega, d3, ?_, ?_⟩
      · intro i v H4 hv c4 d4 X' bk
        have B' := bk.bd B
        have n_step : X'.N[7]? = some ("step" : Str) := B'.slot 7 rfl
        have l_step : X'.env.scope.names.lookup ("step" : Str) = some NameKind.local := B'.loc rfl
        have n_dice : X'.N[0]? = some ("dice" : Str) := B'.slot 0 rfl
        have l_dice : X'.env.scope.names.lookup ("dice" : Str) = some NameKind.cell := B'.cel rfl
        have T' : Tx X'.K X'.mg C_Row := by rw [bk.K, bk.mg]; exact T
        have g__law_pick : Gl X' "_law_pick" := B'.gl rfl
        have G' : X'.A.guards = some [] := by rw [bk.A]; exact G
        walk_at "wz"
        exact ⟨p, _, rfl, d4, .inr ⟨"abm", rfl, by decide, by decide, fun c H5 hc c5 d5 => ⟨⟨c, rfl, okZ_abm.2.2 c hc⟩, c5, d5⟩⟩⟩
      intro D H4 ys hD0 c4 d4 hD4 hyl hy
      obtain ⟨cs, rfl, hcs, hcl⟩ := join_signs (ok := fun c => okO ⟨#[c]⟩) hy
      refine ⟨D, cs.map fun c => ⟨#[c]⟩, rfl, .inl (SqL.of hD4), ?_, ?_⟩
      · rw [sum_signs, List.length_map]
        show cs.length + cs.length * 0 ≤ _
        omega
      have hz := join_cps cs
      generalize Txt.join "" (cs.map fun c => (⟨#[c]⟩ : Str)) = z at hz
      have hzl : z.length = ss.length := by
        show z.cps.size = _
        rw [← Array.length_toList, hz, hcl, hyl, hl3]
      have R4 := R3.chd c4 d3
      obtain ⟨xs5, hx5, _, da5⟩ := st3.ch c4 d3
      have hl5 : xs5.length = ss.length := by rw [dp_len da5, List.length_map]
      walk_at "wz"
      refine s_zS 7 14 (by decide) 12 B (blkOk_by (by decide +kernel)) g_zip z_zip rfl rfl rfl rfl n_fresh l_fresh (by rw [env_eta B.sc]; rfl) ?_
      walk_at "wz"
      refine ⟨l, xs5, z, fun i y H => ∃ s c, ss[i]? = some s ∧ z.cps.toList[i]? = some c ∧ Dp X.K H y (stp (s.1, s.2.1, ⟨#[c]⟩)), rfl, rfl, .inr (SqL.of hx5), by omega, by rw [WX.signs_len, hzl, hl5], ?_, ?_, ?_⟩
      · rintro i y p H4 H5 ⟨s, c, e1, e2, e3⟩ np ch
        exact ⟨s, c, e1, e2, dp_ch ch np rfl e3⟩
      · intro i v s0 H6 hv hs0 sm X' bk
        have B' := bk.bd B
        have n_step : X'.N[7]? = some ("step" : Str) := B'.slot 7 rfl
        have l_step : X'.env.scope.names.lookup ("step" : Str) = some NameKind.local := B'.loc rfl
        have n_sign : X'.N[14]? = some ("sign" : Str) := B'.slot 14 rfl
        have l_sign : X'.env.scope.names.lookup ("sign" : Str) = some NameKind.local := B'.loc rfl
        have T' : Tx X'.K X'.mg C_Row := by rw [bk.K, bk.mg]; exact T
        obtain ⟨s, e1, e2⟩ := dp_step da5 hv
        obtain ⟨d, rfl, hd2⟩ := dp_stp e2
        obtain ⟨c, e3, rfl⟩ := signs_at hs0
        have hd3 : SqT X'.K H6 d [.int s.1, .int s.2.1, .str s.2.2] := by rw [bk.K]; exact same_tup sm hd2
        walk_at "wz"
        refine x_tup hd3 ix0 ?_
        walk_at "wz"
        refine x_tup hd3 ix1 ?_
        walk_at "wz"
        refine ⟨by show 3 ≤ sizeLine; omega, fun r hr => ⟨(Same.refl _).new hr, s, c, e1, e3, ?_⟩⟩
        exact .tup (SqT.of upd_same) (.cons (.int _) (.cons (.int _) (.cons (.str _) .nil)))
      intro D6 H6 ys hD0 s6 hD6 hyl6 hy6
      have D6p : D6 ≠ p := d4.off hD0
      have R6 := R4.same s6
      obtain ⟨⟨dx6, vv6, ha6, hv6⟩, _⟩ := id R6
      have st6 : StepsAt X.K H6 D6 p (ownS ss z) := by
        refine ⟨_, hD6, D6p, dpa_of (by rw [List.length_map, ownS_len hzl, hyl6, hl5]) fun i y d g1 g2 => ?_⟩
        obtain ⟨s, c, e1, e2, e3⟩ := hy6 i y g1
        rw [List.getElem?_map, ownS_at e1 e2] at g2
        cases g2
        exact e3
      walk_at "wz"
      refine e_meth (D_Row_owned T) T.cl_Row (B.room.mono (by decide)) ?_
      walk_at "wz"
      refine ⟨a, dx6, _, rfl, ha6, rfl, ?_⟩
      walk_at "wz"
      refine ⟨a, P, z, ss, rfl, R6, hzl, (by rw [hz]; exact hcs), fun r7 H7 s7 R7 => ?_⟩
      walk_at "wz"
      refine ⟨by show 3 ≤ sizeLine; omega, fun t8 ht8 => ?_⟩
      exact fin (c4.trans (Ch.of (s6.trans s7))) (d4.same (s6.trans s7)) (st6.same s7) R7 ht8
    · walk_at "wz"
      exact ⟨rfl, rfl⟩
  rintro σ1 H1' ⟨rfl, e0⟩
  rw [e0]
  clear e0
  walk_at "wz"
  refine ⟨p, _, rfl, d3, by split <;> omega, by split <;> omega, fun r0 H4 ra rb c4 d4 => ?_⟩
  have R4 := R3.chd c4 d3
  obtain ⟨⟨dx6, vv6, ha6, hv6⟩, _⟩ := id R4
  walk_at "wz"
  refine e_meth (D_Row_wider T) T.cl_Row (B.room.mono (by decide)) ?_
  walk_at "wz"
  refine ⟨a, dx6, _, rfl, ha6, rfl, ?_⟩
  walk_at "wz"
  refine ⟨a, P, P + r0, ss, rfl, R4, by omega, (by split at rb <;> omega), fun r7 H7 s7 R7 => ?_⟩
  walk_at "wz"
  refine ⟨by show 3 ≤ sizeLine; omega, fun t8 ht8 => ?_⟩
  exact fin (c4.trans (Ch.of s7)) (d4.same s7) ((st3.ch c4 d3).same s7) R7 ht8
theorem len__law_next {K : PySem.W.Frag} {C_Row : Addr} : ∀ vs H Q E, sp__law_next K C_Row vs H Q E → vs.length = 4 := by
  intro vs H Q E h
  obtain ⟨_, _, _, _, _, e, _⟩ := h
  rw [e]; rfl
theorem D__law_next {P : Program} {w : World} {K : PySem.W.Frag} {mg : Str → Option Value} {base : Heap} {C_Row : Addr} (T : Tx K mg C_Row) : Df P w K mg base "_law_next" 11 ["dice", "places", "steps", "row"] (sp__law_next K C_Row) :=
  df_of T.d__law_next sc__law_next (fun _ _ _ _ _ _ us hl => match us, hl with | [_, _, _, _], _ => rfl) len__law_next (fun X e1 e2 e3 e4 e5 B F G vs H Q E h => by subst e1 e2 e3 e4 e5; exact b__law_next B F G T h)
local macro_rules | `(tactic| walk_at "cl") => `(tactic| (refine' e_call (D__law_next ‹Tx _ _ _›) (by assumption) ?rm ?gl ?_; (case rm => exact ‹Bd _ _ _ _›.room.mono (by decide)); (case gl => with_reducible assumption)))

def sp__law_going_right (K : PySem.W.Frag) (C_Row : Addr) : Sp := fun vs H Q _ => ∃ p P l a, ∃ ss : List (Int × Int × Str), vs = [.ref p, .int P, .ref l, .ref a] ∧ Dice H p ∧ StepsAt K H l p ss ∧ RowAt K H C_Row a P ss ∧ ∀ H', Ch p H H' → Dice H' p → Q (.bl true) H'
theorem deedL_len (P : Int) (ss : List (Int × Int × Str)) : (deedL P ss).length = P.toNat := by unfold deedL; rw [List.length_map, List.length_range]
theorem deedL_nm {P : Int} {ss : List (Int × Int × Str)} {t : Int} (h0 : 0 ≤ t) (h1 : t < P) : atI ((deedL P ss).map V.int) t = some (.int (lastP ss t)) := deed_at h0 h1
theorem at_nm {ns : List Int} {x : Int} (h0 : 0 ≤ x) (h1 : x < (ns.length : Int)) : atI (ns.map V.int) x = some (.int (nm ns x)) := at_ns h0 h1
theorem b__law_going_right {X : Cx} {C_Row : Addr} (B : Bd X N__law_going_right (defScope S__law_going_right) 10) (F : ∀ x, X.fn x = true) (G : X.A.guards = some []) (T : Tx X.K X.mg C_Row) {vs : List V} {H : Hp} {Q : VK} {E : XK} (h : sp__law_going_right X.K C_Row vs H Q E) :
    wB X (defBody S__law_going_right) { nx := fun _ H' => Q .non H', rt := Q } (start N__law_going_right vs) H := by
  have n_dice : X.N[0]? = some ("dice" : Str) := B.slot 0 rfl
  have l_dice : X.env.scope.names.lookup ("dice" : Str) = some NameKind.local := B.loc rfl
  have n_places : X.N[1]? = some ("places" : Str) := B.slot 1 rfl
  have l_places : X.env.scope.names.lookup ("places" : Str) = some NameKind.local := B.loc rfl
  have n_steps : X.N[2]? = some ("steps" : Str) := B.slot 2 rfl
  have l_steps : X.env.scope.names.lookup ("steps" : Str) = some NameKind.local := B.loc rfl
  have n_row : X.N[3]? = some ("row" : Str) := B.slot 3 rfl
  have l_row : X.env.scope.names.lookup ("row" : Str) = some NameKind.cell := B.cel rfl
  have n_one : X.N[4]? = some ("one" : Str) := B.slot 4 rfl
  have l_one : X.env.scope.names.lookup ("one" : Str) = some NameKind.cell := B.cel rfl
  have n_other : X.N[5]? = some ("other" : Str) := B.slot 5 rfl
  have l_other : X.env.scope.names.lookup ("other" : Str) = some NameKind.cell := B.cel rfl
  have n_both : X.N[6]? = some ("both" : Str) := B.slot 6 rfl
  have l_both : X.env.scope.names.lookup ("both" : Str) = some NameKind.local := B.loc rfl
  have n_back : X.N[7]? = some ("back" : Str) := B.slot 7 rfl
  have l_back : X.env.scope.names.lookup ("back" : Str) = some NameKind.local := B.loc rfl
  have n_deed : X.N[8]? = some ("deed" : Str) := B.slot 8 rfl
  have l_deed : X.env.scope.names.lookup ("deed" : Str) = some NameKind.cell := B.cel rfl
  have n_place : X.N[9]? = some ("place" : Str) := B.slot 9 rfl
  have g__law_names : Gl X "_law_names" := B.gl rfl
  have g_tuple : Gl X "tuple" := B.gl rfl
  have z_tuple := T.z_tuple
  have v_tuple := bb_tuple
  have g_range : Gl X "range" := B.gl rfl
  have z_range := T.z_range
  have v_range := bb_range
  have g_len : Gl X "len" := B.gl rfl
  have z_len := T.z_len
  have v_len := bb_len
  obtain ⟨p, P, l, a, ss, rfl, hd, hst, hR, q⟩ := h
  have z100 : (10000 : Nat) < sizeLine := by decide
  have P1 : 1 ≤ P := hR.2.1
  have P12 : P ≤ 12 := hR.2.2.1
  have h24 : ss.length ≤ 24 := hR.2.2.2.1
  have ok := hR.2.2.2.2
  walk_at "st"
  refine s_unp2g 4 5 B.calm B.nd n_one n_other F (Or.inr l_one) (Or.inr l_other) (by rw [env_eta B.sc]; rfl) ?_
  walk_at "wz"
  refine ⟨p, P, rfl, hd, P1, P12, fun r1 H1 n1 c1 d1 hn1 hD1 hP1 => ?_⟩
  walk_at "wz"
  refine ⟨p, P, rfl, d1, P1, P12, fun r2 H2 n2 c2 d2 hn2 hD2 hP2 => ?_⟩
  walk_at "wz"
  refine ⟨by show 2 ≤ sizeLine; omega, fun t3 ht3 => ?_⟩
  refine ⟨t3, _, _, rfl, SqT.of upd_same, ?_⟩
  have hn12 : TupM H2 r1 (n1.map V.int) := by
    obtain ⟨o, e, r⟩ := hn1
    obtain ⟨x, y, z, ed⟩ := d1
    exact ⟨o, c2 _ _ (fun z => by rw [z, ed] at e; cases e) e, r⟩
  have s3 : Same H2 (upd H2 t3 (.tup [.ref r1, .ref r2])) := (Same.refl H2).new ht3
  have c3 : Ch p H (upd H2 t3 (.tup [.ref r1, .ref r2])) := (c1.trans c2).new ht3
  have d3 : Dice (upd H2 t3 (.tup [.ref r1, .ref r2])) p := d2.new ht3
  have m1 := hn12.same s3
  have m2 := hn2.same s3
  have R3 := ((hR.chd c1 hd).chd c2 d1).same s3
  have st3 := ((hst.ch c1 hd).ch c2 d1).same s3
  generalize upd H2 t3 (.tup [.ref r1, .ref r2]) = H3 at c3 d3 m1 m2 R3 st3
  have lP1 : n1.length = P.toNat := by omega
  have lP2 : n2.length = P.toNat := by omega
  -- both
  walk_at "wz"
  refine e_lcR 9 B (blkOk_by (by decide +kernel)) g_range z_range rfl rfl (lcR_same ?_)
  walk_at "wz"
  refine ⟨P.toNat, fun i y _ => y = (fun i => V.int (nm (compN n1 n2) (i : Int))) i, by congr 1; omega, by omega, WX.stays_eq _, ?_, ?_⟩
  · intro i H4 hi sm X' bk
    have B' := bk.bd B
    have n_place : X'.N[9]? = some ("place" : Str) := B'.slot 9 rfl
    have l_place : X'.env.scope.names.lookup ("place" : Str) = some NameKind.local := B'.loc rfl
    have n_one : X'.N[4]? = some ("one" : Str) := B'.slot 4 rfl
    have l_one : X'.env.scope.names.lookup ("one" : Str) = some NameKind.cell := B'.cel rfl
    have n_other : X'.N[5]? = some ("other" : Str) := B'.slot 5 rfl
    have l_other : X'.env.scope.names.lookup ("other" : Str) = some NameKind.cell := B'.cel rfl
    have T' : Tx X'.K X'.mg C_Row := by rw [bk.K, bk.mg]; exact T
    have b1 := hD1.at (i := (i : Int)) (by omega) (by omega)
    walk_at "wz"
    refine x_tup (m1.same sm).sq (at_nm (by omega) (by omega)) ?_
    walk_at "wz"
    refine x_tup (m2.same sm).sq (at_nm b1.1 (Int.lt_of_lt_of_le b1.2 (by omega))) ?_
    refine ⟨Same.refl _, ?_⟩
    show V.int _ = V.int (nm (compN n1 n2) (i : Int))
    rw [compN_at (by omega) (by omega)]
  intro D4 H4 ys hD4 s4 hD4' hl4 hy4
  rw [WX.ys_eq hl4 hy4] at hD4'
  have eb : ((List.range P.toNat).map fun (i : Nat) => V.int (nm (compN n1 n2) (i : Int))) = (compN n1 n2).map V.int := by
    have h := WX.map_at (compN n1 n2) 0 V.int
    rw [compN_len, lP1] at h
    exact h
  rw [eb] at hD4'
  walk_at "wz"
  refine c_tupL (SqL.of hD4') fun r5 hr5 => ?_
  have s5 := s4.new (o := .tup ((compN n1 n2).map V.int)) hr5
  have hb5 : SqT X.K (upd H4 r5 (.tup ((compN n1 n2).map V.int))) r5 ((compN n1 n2).map V.int) := SqT.of upd_same
  generalize upd H4 r5 (.tup ((compN n1 n2).map V.int)) = H5 at s5 hb5
  -- back
  walk_at "wz"
  refine e_lcR 9 B (blkOk_by (by decide +kernel)) g_range z_range rfl rfl (lcR_same ?_)
  walk_at "wz"
  refine ⟨P.toNat, fun i y _ => y = (fun i => V.int (nm (backN n1) (i : Int))) i, by congr 1; omega, by omega, WX.stays_eq _, ?_, ?_⟩
  · intro i H6 hi sm X' bk
    have B' := bk.bd B
    have n_place : X'.N[9]? = some ("place" : Str) := B'.slot 9 rfl
    have l_place : X'.env.scope.names.lookup ("place" : Str) = some NameKind.local := B'.loc rfl
    have n_one : X'.N[4]? = some ("one" : Str) := B'.slot 4 rfl
    have l_one : X'.env.scope.names.lookup ("one" : Str) = some NameKind.cell := B'.cel rfl
    have T' : Tx X'.K X'.mg C_Row := by rw [bk.K, bk.mg]; exact T
    refine e_indexT ?_
    walk_at "wz"
    refine ⟨r1, n1, rfl, (m1.same s5).same sm, ?_⟩
    walk_at "wz"
    have hm : (i : Int) ∈ n1 := hD1.1.mem_iff.mpr (by rw [lP1]; exact WX.iota_mem.mpr ⟨by omega, by omega⟩)
    refine ⟨((m1.same s5).same sm).sq, hm, Same.refl _, ?_⟩
    show V.int _ = V.int (nm (backN n1) (i : Int))
    rw [backN_at (by omega) (by omega)]
  intro D6 H6 ys hD6 s6 hD6' hl6 hy6
  rw [WX.ys_eq hl6 hy6] at hD6'
  have ek : ((List.range P.toNat).map fun (i : Nat) => V.int (nm (backN n1) (i : Int))) = (backN n1).map V.int := by
    have h := WX.map_at (backN n1) 0 V.int
    rw [backN_len, lP1] at h
    exact h
  rw [ek] at hD6'
  walk_at "wz"
  refine c_tupL (SqL.of hD6') fun r7 hr7 => ?_
  have s7 := s6.new (o := .tup ((backN n1).map V.int)) hr7
  have hk7 : SqT X.K (upd H6 r7 (.tup ((backN n1).map V.int))) r7 ((backN n1).map V.int) := SqT.of upd_same
  generalize upd H6 r7 (.tup ((backN n1).map V.int)) = H7 at s7 hk7
  have s37 := s5.trans s7
  have hb7 := same_tup s7 hb5
  have R7 := R3.same s37
  obtain ⟨⟨dx7, vv7, ha7, hv7⟩, _⟩ := id R7
  have okn : ∀ {ns : List Int}, isD ns → (ns.length : Int) = P → ∀ s ∈ ss.map (nameS ns), okS P s := fun hD hP s hs => by
    obtain ⟨t, ht, rfl⟩ := List.mem_map.mp hs
    exact okS_name hD hP (ok t ht)
  -- row.renamed(ns) of a row
  have ren : ∀ {H' : Hp} {Q' : VK} {r' b' : Addr} {ns : List Int} {ts : List (Int × Int × Str)}, RowAt X.K H' C_Row r' P ts → SqT X.K H' b' (ns.map V.int) → isD ns → (ns.length : Int) = P → (∀ c H'', Same H' H'' → RowAt X.K H'' C_Row c P (ts.map (nameS ns)) → Q' (.ref c) H'') → sp_Row_renamed X.K C_Row [.ref r', .ref b'] H' Q' E0 :=
    fun h1 h2 h3 h4 h5 => ⟨_, _, P, _, _, rfl, h1, h2, h3, h4, h5⟩
  walk_at "wz"
  refine e_meth (D_Row_renamed T) T.cl_Row (B.room.mono (by decide)) ?_
  refine e_meth (D_Row_renamed T) T.cl_Row (B.room.mono (by decide)) ?_
  walk_at "wz"
  refine ⟨a, dx7, _, rfl, ha7, rfl, ?_⟩
  walk_at "wz"
  refine ren R7 (m1.same s37).sq hD1 hP1 fun u8 H8 s8 R8 => ?_
  obtain ⟨⟨dx8, vv8, ha8, hv8⟩, _⟩ := id R8
  refine ⟨u8, dx8, _, rfl, ha8, rfl, ?_⟩
  walk_at "wz"
  refine ren R8 (m2.same (s37.trans s8)).sq hD2 hP2 fun u9 H9 s9 R9 => ?_
  walk_at "wz"
  refine e_meth (D_Row_renamed T) T.cl_Row (B.room.mono (by decide)) ?_
  walk_at "wz"
  refine ⟨a, dx7, _, rfl, (s8.trans s9) _ _ ha7, rfl, ?_⟩
  walk_at "wz"
  refine ren (R7.same (s8.trans s9)) (same_tup (s8.trans s9) hb7) (isD_comp hD1 hD2 (by omega)) (by rw [compN_len]; exact hP1) fun uA HA sA RA => ?_
  obtain ⟨⟨dx9, vv9, ha9, hv9⟩, _⟩ := id R9
  obtain ⟨⟨dxA, vvA, haA, hvA⟩, _⟩ := id RA
  refine o_neOwn (D_Row___eq__ T) T.ne_Row T.ic_Row.mr (B.room.mono (by decide)) (sA _ _ ha9) haA ?_
  refine ⟨u9, uA, P, P, _, _, rfl, R9.same sA, RA, ?_⟩
  rw [map_name hD1 hD2 hP1 hP2 ok]
  refine ⟨_, rfl, ?_⟩
  simp only [decide_true, Bool.and_self, Bool.not_true]
  have R11 := R7.same ((s8.trans s9).trans sA)
  have s311 := s37.trans ((s8.trans s9).trans sA)
  have hk11 := same_tup ((s8.trans s9).trans sA) hk7
  generalize HA = H11 at R11 s311 hk11
  obtain ⟨⟨dx11, vv11, ha11, hv11⟩, _⟩ := id R11
  walk_at "wz"
  refine e_meth (D_Row_renamed T) T.cl_Row (B.room.mono (by decide)) ?_
  refine e_meth (D_Row_renamed T) T.cl_Row (B.room.mono (by decide)) ?_
  walk_at "wz"
  refine ⟨a, dx11, _, rfl, ha11, rfl, ?_⟩
  walk_at "wz"
  refine ren R11 (m1.same s311).sq hD1 hP1 fun u12 H12 s12 R12 => ?_
  obtain ⟨⟨dx12, vv12, ha12, hv12⟩, _⟩ := id R12
  refine ⟨u12, dx12, _, rfl, ha12, rfl, ?_⟩
  walk_at "wz"
  refine ren R12 (same_tup s12 hk11) (isD_back hD1) (by rw [backN_len]; exact hP1) fun u13 H13 s13 R13 => ?_
  walk_at "wz"
  obtain ⟨⟨dx13, vv13, ha13, hv13⟩, _⟩ := id R13
  refine o_neOwn (D_Row___eq__ T) T.ne_Row T.ic_Row.mr (B.room.mono (by decide)) ha13 ((s12.trans s13) _ _ ha11) ?_
  refine ⟨u13, a, P, P, _, _, rfl, R13, R11.same (s12.trans s13), ?_⟩
  rw [map_back hD1 hP1 ok]
  refine ⟨_, rfl, ?_⟩
  simp only [decide_true, Bool.and_self, Bool.not_true]
  have R14 := R11.same (s12.trans s13)
  have s314 := s311.trans (s12.trans s13)
  generalize H13 = H14 at R14 s314
  obtain ⟨⟨dx14, vv14, ha14, hv14⟩, _⟩ := id R14
  walk_at "wz"
  obtain ⟨xs14, hx14, _, da14⟩ := st3.same s314
  have hl14 : xs14.length = ss.length := by rw [dp_len da14, List.length_map]
  refine c_lenL (SqL.of hx14) ?_
  rw [hl14]
  walk_at "wz"
  refine iteD (fun e => ?_) (fun e => ?_)
  · walk_at "wz"
    refine e_prop (D_Row_deed T) T.cl_Row (B.room.mono (by decide)) ?_
    walk_at "wz"
    refine e_meth0 (D_Row_backwards T) T.cl_Row (B.room.mono (by decide)) ?_
    walk_at "wz"
    refine ⟨a, dx14, _, rfl, ha14, rfl, ?_⟩
    refine ⟨a, P, ss, rfl, R14, fun u15 H15 s15 R15 => ?_⟩
    have R15a := R14.same s15
    obtain ⟨⟨dx15, vv15, ha15, hv15⟩, _⟩ := id R15a
    obtain ⟨⟨dx16, vv16, ha16, hv16⟩, _⟩ := id R15
    refine o_own (D_Row___add__ T) T.sf_Row (B.room.mono (by decide)) ha15 ha16 ?_
    refine ⟨a, u15, P, ss, ss.reverse, rfl, R15a, R15, by rw [List.length_reverse]; omega, fun r16 H16 s16 R16 => ⟨⟨r16, rfl⟩, ?_⟩⟩
    obtain ⟨⟨dx17, vv17, ha17, hv17⟩, _⟩ := id R16
    refine ⟨r16, dx17, _, rfl, ha17, ?_⟩
    refine ⟨r16, P, ss ++ ss.reverse, rfl, R16, fun r17 H17 s17 hr17 => ?_⟩
    rw [deed_rest] at hr17
    refine e_tupR1 B.calm g_tuple z_tuple g_range z_range ?_
    walk_at "wz"
    refine ⟨P.toNat, by congr 1; omega, by omega, fun t18 H18 s18 m18 => ?_⟩
    have e18 : ((List.range P.toNat).map fun (i : Nat) => V.int (i : Int)) = (iota P.toNat).map V.int := by unfold iota; rw [List.map_map]; rfl
    rw [e18] at m18
    refine o_neT B.room.units (same_tup s18 hr17) m18.sq ?_
    walk_at "wz"
    refine iteND (fun z => absurd rfl z) (fun _ => ?_)
    have sE := ((s15.trans s16).trans s17).trans s18
    have sX := s314.trans sE
    have R20 := R14.same sE
    have m20 := m1.same sX
    clear R15 R15a ha15 ha16 hv15 hv16 hv17 R16 ha17 hr17 m18 s15 s16 s17 s18 sE
    generalize H18 = H20 at sX R20 m20
    walk_at "wz"
    refine e_prop (D_Row_deed T) T.cl_Row (B.room.mono (by decide)) ?_
    refine e_meth (D_Row_renamed T) T.cl_Row (B.room.mono (by decide)) ?_
    walk_at "wz"
    obtain ⟨⟨dx20, vv20, ha20, hv20⟩, _⟩ := id R20
    refine ⟨a, dx20, _, rfl, ha20, rfl, ?_⟩
    walk_at "wz"
    refine ren R20 m20.sq hD1 hP1 fun u21 H21 s21 R21 => ?_
    obtain ⟨⟨dx21, vv21, ha21, hv21⟩, _⟩ := id R21
    refine ⟨u21, dx21, _, rfl, ha21, ?_⟩
    refine ⟨u21, P, ss.map (nameS n1), rfl, R21, fun r22 H22 s22 hr22 => ?_⟩
    have s2022 := s21.trans s22
    have R22 := R20.same s2022
    have m22 := m20.same s2022
    walk_at "wz"
    refine e_fR1 9 B (blkOk_by (by decide +kernel)) g_range z_range rfl rfl ?_
    walk_at "wz"
    refine ⟨P.toNat, fun _ => false, fun _ => .non, by congr 1; omega, by omega, ?_, fun D H23 hD0 s23 hD => ?_⟩
    · intro i H23 hi sm X' bk
      have B' := bk.bd B
      have n_place : X'.N[9]? = some ("place" : Str) := B'.slot 9 rfl
      have l_place : X'.env.scope.names.lookup ("place" : Str) = some NameKind.local := B'.loc rfl
      have n_row : X'.N[3]? = some ("row" : Str) := B'.slot 3 rfl
      have l_row : X'.env.scope.names.lookup ("row" : Str) = some NameKind.cell := B'.cel rfl
      have n_one : X'.N[4]? = some ("one" : Str) := B'.slot 4 rfl
      have l_one : X'.env.scope.names.lookup ("one" : Str) = some NameKind.cell := B'.cel rfl
      have n_deed : X'.N[8]? = some ("deed" : Str) := B'.slot 8 rfl
      have l_deed : X'.env.scope.names.lookup ("deed" : Str) = some NameKind.cell := B'.cel rfl
      have T' : Tx X'.K X'.mg C_Row := by rw [bk.K, bk.mg]; exact T
      have b1 := hD1.at (i := (i : Int)) (by omega) (by omega)
      have b2 := lastP_in (ss := ss) (P := P) (p := (i : Int)) ok (by omega) (by omega)
      have RB : RowAt X'.K H23 C_Row a P ss := by rw [bk.K]; exact R22.same sm
      have hB : SqT X'.K H23 r22 ((deedL P (ss.map (nameS n1))).map V.int) := by rw [bk.K]; exact same_tup sm hr22
      obtain ⟨⟨dx23, vv23, ha23, hv23⟩, _⟩ := id RB
      walk_at "wz"
      refine x_tup (m22.same sm).sq (at_nm (by omega) (by omega)) ?_
      walk_at "wz"
      refine x_tup hB (deedL_nm b1.1 (Int.lt_of_lt_of_le b1.2 (by omega))) ?_
      walk_at "wz"
      refine e_prop (D_Row_deed T') T'.cl_Row (B'.room.mono (by decide)) ?_
      walk_at "wz"
      refine ⟨a, dx23, _, rfl, ha23, ?_⟩
      refine ⟨a, P, ss, rfl, RB, fun r24 H24 s24 hr24 => ?_⟩
      walk_at "wz"
      refine x_tup hr24 (deedL_nm (by omega) (by omega)) ?_
      walk_at "wz"
      refine x_tup ((m22.same sm).same s24).sq (at_nm b2.1 (Int.lt_of_lt_of_le b2.2 (by omega))) ?_
      rw [show lastP (ss.map (nameS n1)) (n1.getD (i : Int).toNat 0) = nm n1 (lastP ss (i : Int)) from last_name hD1 hP1 ok (by omega) (by omega)]
      walk_at "wz"
      exact ⟨by simp, s24, fun z => absurd z Bool.false_ne_true⟩
    rw [show (List.range P.toNat).filter (fun _ => false) = [] from List.filter_eq_nil_iff.mpr fun _ _ => Bool.false_ne_true] at hD
    walk_at "wz"
    refine ⟨by show 0 ≤ sizeLine; decide, fun t24 ht24 => ?_⟩
    walk_at "wz"
    refine o_eqL B.room.units (ns := []) (ms := []) (SqL.of (upd_keep ht24 hD)) (SqL.of upd_same) ?_
    have sF := (sX.trans (s2022.trans s23)).new (o := .lst []) ht24
    exact q _ (c3.trans (Ch.of sF)) (d3.same sF)
  · have sX := s314
    have R20 := R14
    have m20 := m1.same sX
    clear hx14 da14 ha14 hv14 R14 s314
    generalize H14 = H20 at sX R20 m20
    walk_at "wz"
    refine e_prop (D_Row_deed T) T.cl_Row (B.room.mono (by decide)) ?_
    refine e_meth (D_Row_renamed T) T.cl_Row (B.room.mono (by decide)) ?_
    walk_at "wz"
    obtain ⟨⟨dx20, vv20, ha20, hv20⟩, _⟩ := id R20
    refine ⟨a, dx20, _, rfl, ha20, rfl, ?_⟩
    walk_at "wz"
    refine ren R20 m20.sq hD1 hP1 fun u21 H21 s21 R21 => ?_
    obtain ⟨⟨dx21, vv21, ha21, hv21⟩, _⟩ := id R21
    refine ⟨u21, dx21, _, rfl, ha21, ?_⟩
    refine ⟨u21, P, ss.map (nameS n1), rfl, R21, fun r22 H22 s22 hr22 => ?_⟩
    have s2022 := s21.trans s22
    have R22 := R20.same s2022
    have m22 := m20.same s2022
    walk_at "wz"
    refine e_fR1 9 B (blkOk_by (by decide +kernel)) g_range z_range rfl rfl ?_
    walk_at "wz"
    refine ⟨P.toNat, fun _ => false, fun _ => .non, by congr 1; omega, by omega, ?_, fun D H23 hD0 s23 hD => ?_⟩
    · intro i H23 hi sm X' bk
      have B' := bk.bd B
      have n_place : X'.N[9]? = some ("place" : Str) := B'.slot 9 rfl
      have l_place : X'.env.scope.names.lookup ("place" : Str) = some NameKind.local := B'.loc rfl
      have n_row : X'.N[3]? = some ("row" : Str) := B'.slot 3 rfl
      have l_row : X'.env.scope.names.lookup ("row" : Str) = some NameKind.cell := B'.cel rfl
      have n_one : X'.N[4]? = some ("one" : Str) := B'.slot 4 rfl
      have l_one : X'.env.scope.names.lookup ("one" : Str) = some NameKind.cell := B'.cel rfl
      have n_deed : X'.N[8]? = some ("deed" : Str) := B'.slot 8 rfl
      have l_deed : X'.env.scope.names.lookup ("deed" : Str) = some NameKind.cell := B'.cel rfl
      have T' : Tx X'.K X'.mg C_Row := by rw [bk.K, bk.mg]; exact T
      have b1 := hD1.at (i := (i : Int)) (by omega) (by omega)
      have b2 := lastP_in (ss := ss) (P := P) (p := (i : Int)) ok (by omega) (by omega)
      have RB : RowAt X'.K H23 C_Row a P ss := by rw [bk.K]; exact R22.same sm
      have hB : SqT X'.K H23 r22 ((deedL P (ss.map (nameS n1))).map V.int) := by rw [bk.K]; exact same_tup sm hr22
      obtain ⟨⟨dx23, vv23, ha23, hv23⟩, _⟩ := id RB
      walk_at "wz"
      refine x_tup (m22.same sm).sq (at_nm (by omega) (by omega)) ?_
      walk_at "wz"
      refine x_tup hB (deedL_nm b1.1 (Int.lt_of_lt_of_le b1.2 (by omega))) ?_
      walk_at "wz"
      refine e_prop (D_Row_deed T') T'.cl_Row (B'.room.mono (by decide)) ?_
      walk_at "wz"
      refine ⟨a, dx23, _, rfl, ha23, ?_⟩
      refine ⟨a, P, ss, rfl, RB, fun r24 H24 s24 hr24 => ?_⟩
      walk_at "wz"
      refine x_tup hr24 (deedL_nm (by omega) (by omega)) ?_
      walk_at "wz"
      refine x_tup ((m22.same sm).same s24).sq (at_nm b2.1 (Int.lt_of_lt_of_le b2.2 (by omega))) ?_
      rw [show lastP (ss.map (nameS n1)) (n1.getD (i : Int).toNat 0) = nm n1 (lastP ss (i : Int)) from last_name hD1 hP1 ok (by omega) (by omega)]
      walk_at "wz"
      exact ⟨by simp, s24, fun z => absurd z Bool.false_ne_true⟩
    rw [show (List.range P.toNat).filter (fun _ => false) = [] from List.filter_eq_nil_iff.mpr fun _ _ => Bool.false_ne_true] at hD
    walk_at "wz"
    refine ⟨by show 0 ≤ sizeLine; decide, fun t24 ht24 => ?_⟩
    walk_at "wz"
    refine o_eqL B.room.units (ns := []) (ms := []) (SqL.of (upd_keep ht24 hD)) (SqL.of upd_same) ?_
    have sF := (sX.trans (s2022.trans s23)).new (o := .lst []) ht24
    exact q _ (c3.trans (Ch.of sF)) (d3.same sF)
theorem len__law_going_right {K : PySem.W.Frag} {C_Row : Addr} : ∀ vs H Q E, sp__law_going_right K C_Row vs H Q E → vs.length = 4 := by
  intro vs H Q E h
  obtain ⟨_, _, _, _, _, e, _⟩ := h
  rw [e]; rfl
theorem D__law_going_right {P : Program} {w : World} {K : PySem.W.Frag} {mg : Str → Option Value} {base : Heap} {C_Row : Addr} (T : Tx K mg C_Row) : Df P w K mg base "_law_going_right" 11 ["dice", "places", "steps", "row"] (sp__law_going_right K C_Row) :=
  df_of T.d__law_going_right sc__law_going_right (fun _ _ _ _ _ _ us hl => match us, hl with | [_, _, _, _], _ => rfl) len__law_going_right (fun X e1 e2 e3 e4 e5 B F G vs H Q E h => by subst e1 e2 e3 e4 e5; exact b__law_going_right B F G T h)
local macro_rules | `(tactic| walk_at "cl") => `(tactic| (refine' e_call (D__law_going_right ‹Tx _ _ _›) (by assumption) ?rm ?gl ?_; (case rm => exact ‹Bd _ _ _ _›.room.mono (by decide)); (case gl => with_reducible assumption)))

/-- x, y, z = e -/
theorem s_unp3 {X : Cx} {σ : L2.St} {H : Hp} {D : Ends} {pos : Pos} {e : Expr} {x y z : Str} {px py pz pt : Pos} {kt : Nat} (i j l : Nat) (hc : X.calm = true) (hN : X.N.Nodup) (hi : X.N[i]? = some x) (hj : X.N[j]? = some y) (hl : X.N[l]? = some z) (hx : X.env.scope.names.lookup x = some .local) (hy : X.env.scope.names.lookup y = some .local) (hz : X.env.scope.names.lookup z = some .local)
    (h : wE X e σ H fun v H1 => ∃ a u w t, v = .ref a ∧ SqT X.K H1 a [u, w, t] ∧ D.nx (((σ.set i (some u)).set j (some w)).set l (some t)) H1)
    (hw : swappedStores [.Tuple [.Name x px, .Name y py, .Name z pz] kt pt] e X.env = pure none := by rfl) (hs : swapsWithSole [.Tuple [.Name x px, .Name y py, .Name z pz] kt pt] e pos.line X.env = pure false := by rfl) : wS X (.Assign [.Tuple [.Name x px, .Name y py, .Name z pz] kt pt] e pos) D σ H := by
  refine toS (ps_asg pe_self (pg_t3 i j l hc hN hi hj hl hx hy hz) hs hw) ?_
  refine wE_mono h ?_
  rintro v H1 ⟨a, u, w, t, rfl, h1, h2⟩
  exact g3 h1 h2
theorem log_small {n : Nat} (h : n ≤ 12) : n.log2 < 1920 := Nat.lt_of_le_of_lt (Nat.log2_le_self n) (by omega)
theorem sh_ints : ∀ {ns : List Int}, (∀ n ∈ ns, 0 ≤ n ∧ n ≤ 12) → PyData.showableAll (ns.map PyData.int) = true
  | [], _ => by simp only [List.map_nil, PyData.showableAll]
  | n :: ns, h => by
    have hn := h n (List.mem_cons_self ..)
    simp only [List.map_cons, PyData.showableAll, PyData.showable, Bool.and_eq_true, decide_eq_true_eq]
    exact ⟨log_small (by omega), sh_ints fun x hx => h x (List.mem_cons_of_mem _ hx)⟩
theorem sh_steps {P : Int} (hP : P ≤ 12) : ∀ {ss : List (Int × Int × Str)}, (∀ s ∈ ss, okS P s) → PyData.showableAll (ss.map stp) = true
  | [], _ => by simp only [List.map_nil, PyData.showableAll]
  | s :: ss, h => by
    obtain ⟨⟨x0, xy, yP⟩, o⟩ := h s (List.mem_cons_self ..)
    simp only [List.map_cons, stp, PyData.showableAll, PyData.showable, Bool.and_eq_true, decide_eq_true_eq, and_true]
    exact ⟨⟨log_small (by omega), log_small (by omega)⟩, sh_steps hP fun x hx => h x (List.mem_cons_of_mem _ hx)⟩
theorem hd_ints : ∀ (ns : List Int), PyData.hasDictAll (ns.map PyData.int) = false
  | [] => by simp only [List.map_nil, PyData.hasDictAll]
  | n :: ns => by simp only [List.map_cons, PyData.hasDictAll, PyData.hasDict, Bool.false_or]; exact hd_ints ns
theorem hd_steps : ∀ (ss : List (Int × Int × Str)), PyData.hasDictAll (ss.map stp) = false
  | [] => by simp only [List.map_nil, PyData.hasDictAll]
  | s :: ss => by simp only [List.map_cons, stp, PyData.hasDictAll, PyData.hasDict, Bool.false_or]; exact hd_steps ss
theorem dep_ints : ∀ (ns : List Int), PyData.depthAll (ns.map PyData.int) = 0
  | [] => by simp only [List.map_nil, PyData.depthAll]
  | n :: ns => by simp only [List.map_cons, PyData.depthAll, PyData.depth, dep_ints ns]; omega
theorem dep_steps : ∀ (ss : List (Int × Int × Str)), PyData.depthAll (ss.map stp) ≤ 1
  | [] => by simp only [List.map_nil, PyData.depthAll]; omega
  | s :: ss => by
    have := dep_steps ss
    simp only [List.map_cons, stp, PyData.depthAll, PyData.depth]
    omega
theorem blk_ints : ∀ (ns : List Int), PyData.bulkAll (ns.map PyData.int) = ns.length
  | [] => by simp only [List.map_nil, PyData.bulkAll, List.length_nil]
  | n :: ns => by simp only [List.map_cons, PyData.bulkAll, PyData.bulk, blk_ints ns, List.length_cons]; omega
theorem okO_one {o : Str} (h : okO o) : ∃ c, o.cps.toList = [c] ∧ c ≤ 122 := by
  obtain ⟨h1, _, h3⟩ := h
  have hl : o.cps.toList.length = 1 := by rw [Array.length_toList]; exact h1
  match e : o.cps.toList, hl with
  | [c], _ =>
    refine ⟨c, rfl, ?_⟩
    rw [e, show ("z" : Str).cps.toList = [122] from by decide +kernel] at h3
    rw [List.cons_lt_cons_iff] at h3
    omega
theorem blk_steps {P : Int} : ∀ {ss : List (Int × Int × Str)}, (∀ s ∈ ss, okS P s) → PyData.bulkAll (ss.map stp) = 5 * ss.length
  | [], _ => by simp only [List.map_nil, PyData.bulkAll, List.length_nil]
  | s :: ss, h => by
    have hs : s.2.2.cps.size = 1 := (h s (List.mem_cons_self ..)).2.1
    simp only [List.map_cons, stp, PyData.bulkAll, PyData.bulk, List.length_cons, hs]
    rw [blk_steps fun x hx => h x (List.mem_cons_of_mem _ hx)]
    omega
theorem lv_ints : ∀ {ns : List Int}, (∀ n ∈ ns, 0 ≤ n ∧ n ≤ 12) → PyData.leavesShortAll 13 (ns.map PyData.int) = true
  | [], _ => by simp only [List.map_nil, PyData.leavesShortAll]
  | n :: ns, h => by
    have hn := h n (List.mem_cons_self ..)
    simp only [List.map_cons, PyData.leavesShortAll, PyData.leavesShort, Bool.and_eq_true, decide_eq_true_eq]
    exact ⟨PyData.shown_int_le2 (by omega) (by omega), lv_ints fun x hx => h x (List.mem_cons_of_mem _ hx)⟩
theorem lv_steps {P : Int} (hP : P ≤ 12) : ∀ {ss : List (Int × Int × Str)}, (∀ s ∈ ss, okS P s) → PyData.leavesShortAll 13 (ss.map stp) = true
  | [], _ => by simp only [List.map_nil, PyData.leavesShortAll]
  | s :: ss, h => by
    obtain ⟨⟨x0, xy, yP⟩, o⟩ := h s (List.mem_cons_self ..)
    obtain ⟨c, ec, hc⟩ := okO_one o
    simp only [List.map_cons, stp, PyData.leavesShortAll, PyData.leavesShort, Bool.and_eq_true, decide_eq_true_eq, and_true, ec, List.all_cons, List.all_nil]
    exact ⟨⟨PyData.shown_int_le2 (by omega) (by omega), PyData.shown_int_le2 (by omega) (by omega), Nat.lt_of_le_of_lt hc (by decide)⟩, lv_steps hP fun x hx => h x (List.mem_cons_of_mem _ hx)⟩
/-- what is told of a row -/
abbrev dat (P : Int) (ss : List (Int × Int × Str)) : PyData := .list [.int P, .tuple (ss.map stp), .tuple ((deedL P ss).map PyData.int)]
theorem deed_12 {P : Int} {ss : List (Int × Int × Str)} (hP : P ≤ 12) (ok : ∀ s ∈ ss, okS P s) : ∀ n ∈ deedL P ss, 0 ≤ n ∧ n ≤ 12 := by
  intro n hn
  unfold deedL at hn
  obtain ⟨i, hi, rfl⟩ := List.mem_map.mp hn
  have hi := List.mem_range.mp hi
  have := lastP_in (ss := ss) (P := P) (p := (i : Int)) ok (by omega) (by omega)
  omega
theorem c_reprD {X : Cx} {H : Hp} {Q : VK} {v : V} {P : Int} {ss : List (Int × Int × Str)} {z : Str} (ez : (dat P ss).shown = z) (hG : X.A.guards = some []) (hu : X.A.units + 64 < cLine) (h0 : 1 ≤ P) (hP : P ≤ 12) (ok : ∀ s ∈ ss, okS P s) (h24 : ss.length ≤ 24) (hd : Dp X.K H v (dat P ss)) (h : Q (.str z) H) : wC X (.builtin "repr") [v] H Q := by
  subst ez
  have d12 := deed_12 hP ok
  have e1 := dep_steps ss
  have e2 := dep_ints (deedL P ss)
  have e3 := blk_steps ok
  have e4 := blk_ints (deedL P ss)
  have e5 := deedL_len P ss
  refine c_repr hG ?_ hd ?_ ?_ (PyData.shown_fits_bulk (B := 13) (by decide) (by decide) ?_ ?_) h
  · simp only [PyData.depth, PyData.depthAll]
    omega
  · simp only [PyData.showable, PyData.showableAll, sh_steps hP ok, sh_ints d12, Bool.and_true, decide_eq_true_eq]
    exact log_small (by omega)
  · simp only [PyData.hasDict, PyData.hasDictAll, hd_steps, hd_ints, Bool.false_or, Bool.or_false]
  · simp only [PyData.leavesShort, PyData.leavesShortAll, lv_steps hP ok, lv_ints d12, Bool.and_true, decide_eq_true_eq]
    exact PyData.shown_int_le2 (by omega) (by omega)
  · simp only [PyData.bulk, PyData.bulkAll, e3, e4, e5]
    omega

theorem eqv_refl_steps (ss : List (Int × Int × Str)) : PyData.eqv (.tuple (ss.map stp)) (.tuple (ss.map stp)) = true := (eqv_steps ss ss).trans (decide_eq_true rfl)
theorem lay_tup {K : PySem.W.Frag} {H : Hp} {r : Addr} {xs : List V} {ds : List PyData} (hr : H r = none) (d : DpAll K H xs ds) : Dp K (upd H r (.tup xs)) (.ref r) (.tuple ds) := .tup (SqT.of upd_same) (dpa_same ((Same.refl H).new hr) d)
theorem lay_lst {K : PySem.W.Frag} {H : Hp} {r : Addr} {xs : List V} {ds : List PyData} (hr : H r = none) (d : DpAll K H xs ds) : Dp K (upd H r (.lst xs)) (.ref r) (.list ds) := .lst (SqL.of upd_same) (dpa_same ((Same.refl H).new hr) d)
abbrev dA : PyData := .list [.tuple ([((0 : Int), (1 : Int), ("a" : Str)), (0, 2, "c"), (1, 2, "b")].map exd), .tuple ((deedL 3 [(1, 2, "b"), (0, 1, "a")]).map PyData.int), .tuple (([((0 : Int), (1 : Int), ("a" : Str)), (1, 2, "b")].map (nameS [2, 1, 0])).map stp)]
abbrev dB : PyData := .list [.tuple [.tuple [.int 0, .int 1], .tuple [.int 0, .int 2], .tuple [.int 1, .int 2]], .tuple [.int 1, .int 2, .int 0], .tuple [.tuple [.int 1, .int 2, .str "a"], .tuple [.int 0, .int 1, .str "b"]]]
theorem shA : SeqAt.shaped dA = true := by decide +kernel
theorem shB : SeqAt.shaped dB = true := by decide +kernel
theorem eqAB : PyData.eqv dA dB = true := by decide +kernel
abbrev dC : PyData := .tuple ((deedL 3 [((0 : Int), (1 : Int), ("a" : Str)), (1, 2, "b"), (0, 1, "a"), (1, 2, "b")]).map PyData.int)
theorem shC : SeqAt.shaped dC = true := by decide +kernel
theorem eqC : PyData.eqv dC (.tuple [.int 1, .int 2, .int 0]) = true := by decide +kernel
def sp_law0 (K : PySem.W.Frag) : Sp := fun vs H Q _ => ∃ a, vs = [.ref a] ∧ ∃ ns : List Int, SqL K H a (ns.map V.int) ∧ ns.length ≤ 63 ∧ ∀ H', Q (.bl true) H'
def sp_law (K : PySem.W.Frag) (C_Row : Addr) : Sp := sp_law0 K
theorem b_law {X : Cx} {C_Row : Addr} (B : Bd X N_law (defScope S_law) 11) (F : ∀ x, X.fn x = true) (G : X.A.guards = some []) (T : Tx X.K X.mg C_Row) {vs : List V} {H : Hp} {Q : VK} {E : XK} (h : sp_law X.K C_Row vs H Q E) :
    wB X (defBody S_law) { nx := fun _ H' => Q .non H', rt := Q } (start N_law vs) H := by
  have n_script : X.N[0]? = some ("script" : Str) := B.slot 0 rfl
  have l_script : X.env.scope.names.lookup ("script" : Str) = some NameKind.local := B.loc rfl
  have n_spot : X.N[1]? = some ("spot" : Str) := B.slot 1 rfl
  have l_spot : X.env.scope.names.lookup ("spot" : Str) = some NameKind.local := B.loc rfl
  have n_dice : X.N[2]? = some ("dice" : Str) := B.slot 2 rfl
  have l_dice : X.env.scope.names.lookup ("dice" : Str) = some NameKind.local := B.loc rfl
  have n_places : X.N[3]? = some ("places" : Str) := B.slot 3 rfl
  have l_places : X.env.scope.names.lookup ("places" : Str) = some NameKind.local := B.loc rfl
  have n_steps : X.N[4]? = some ("steps" : Str) := B.slot 4 rfl
  have l_steps : X.env.scope.names.lookup ("steps" : Str) = some NameKind.local := B.loc rfl
  have n_row : X.N[5]? = some ("row" : Str) := B.slot 5 rfl
  have l_row : X.env.scope.names.lookup ("row" : Str) = some NameKind.local := B.loc rfl
  have n_turn : X.N[6]? = some ("turn" : Str) := B.slot 6 rfl
  have l_turn : X.env.scope.names.lookup ("turn" : Str) = some NameKind.local := B.loc rfl
  have n_fresh : X.N[7]? = some ("fresh" : Str) := B.slot 7 rfl
  have l_fresh : X.env.scope.names.lookup ("fresh" : Str) = some NameKind.local := B.loc rfl
  have n_later : X.N[8]? = some ("later" : Str) := B.slot 8 rfl
  have l_later : X.env.scope.names.lookup ("later" : Str) = some NameKind.local := B.loc rfl
  have n_changed : X.N[9]? = some ("changed" : Str) := B.slot 9 rfl
  have l_changed : X.env.scope.names.lookup ("changed" : Str) = some NameKind.local := B.loc rfl
  have n_told : X.N[10]? = some ("told" : Str) := B.slot 10 rfl
  have l_told : X.env.scope.names.lookup ("told" : Str) = some NameKind.local := B.loc rfl
  have n_trio : X.N[11]? = some ("trio" : Str) := B.slot 11 rfl
  have l_trio : X.env.scope.names.lookup ("trio" : Str) = some NameKind.local := B.loc rfl
  have g_range : Gl X "range" := B.gl rfl
  have z_range := T.z_range
  have v_range := bb_range
  have g_max : Gl X "max" := B.gl rfl
  have z_max := T.z_max
  have v_max := bb_max
  have g_min : Gl X "min" := B.gl rfl
  have z_min := T.z_min
  have v_min := bb_min
  have g_len : Gl X "len" := B.gl rfl
  have z_len := T.z_len
  have v_len := bb_len
  have g__law_dice : Gl X "_law_dice" := B.gl rfl
  have g__law_row_here : Gl X "_law_row_here" := B.gl rfl
  have g__law_made_row : Gl X "_law_made_row" := B.gl rfl
  have g__law_next : Gl X "_law_next" := B.gl rfl
  have g_tuple : Gl X "tuple" := B.gl rfl
  have z_tuple := T.z_tuple
  have v_tuple := bb_tuple
  have g_repr : Gl X "repr" := B.gl rfl
  have z_repr := T.z_repr
  have v_repr := bb_repr
  have g__law_deed : Gl X "_law_deed" := B.gl rfl
  have g__law_going_right : Gl X "_law_going_right" := B.gl rfl
  have g_Row : Gl X "Row" := B.gl rfl
  obtain ⟨a, rfl, ns, hs, hn, q⟩ := h
  walk_at "wz"
  refine s_forR1 1 B.ps B.calm g_range z_range B.nd n_spot (Or.inl l_spot) ?_ (hf := .inr l_spot)
  walk_at "wz"
  refine c_lenL hs ?_
  walk_at "wz"
  rw [List.length_map]
  refine ⟨(max 1 (min 5 ns.length)), ?_, by omega, fun k σ H1 => ∃ y1 y2 y3 y4 y5 y6 y7 y8 y9 y10 y11, σ = [some (.ref a), y1, y2, y3, y4, y5, y6, y7, y8, y9, y10, y11] ∧ Same H H1, ?_, ?_, ?_⟩
  · congr 1
    split <;> split <;> omega
  · exact ⟨_, _, _, _, _, _, _, _, _, _, _, rfl, Same.refl H⟩
  · rintro k σ H1 hk ⟨y1, y2, y3, y4, y5, y6, y7, y8, y9, y10, y11, rfl, sm⟩
    walk_at "wz"
    refine ⟨a, (k : Int), rfl, ⟨ns, sm.seq hs⟩, rfl, by omega, fun p x y hp => ?_⟩
    walk_at "wz"
    have p0 : H p = none := sm.free hp
    have d1 : Dice (upd H1 p (.lst [.int x, .int y, .int 0])) p := ⟨x, y, 0, upd_same⟩
    have s1 : Same H (upd H1 p (.lst [.int x, .int y, .int 0])) := sm.new hp
    generalize upd H1 p (.lst [.int x, .int y, .int 0]) = H2 at d1 s1
    refine s_unp2 3 4 B.calm B.nd n_places n_steps l_places l_steps ?_
    walk_at "wz"
    refine ⟨p, rfl, d1, fun r H3 dr => ?_⟩
    obtain ⟨c3, d3, l, P, xs, ss, h1, h2, h3, h4, h5, h6, h7, h8, h9⟩ := dr
    refine ⟨r, _, _, rfl, h1, ?_⟩
    walk_at "wz"
    refine ⟨P, l, xs, ss, rfl, SqL.of h2, h5, h6, by omega, h8, h9, fun a1 H4 s4 R4 => ?_⟩
    walk_at "wz"
    refine s_forR1 6 B.ps B.calm g_range z_range B.nd n_turn (Or.inl l_turn) ?_ (hf := .inr l_turn)
    walk_at "wz"
    refine ⟨by decide, fun k2 σ H5 => ∃ P l a2, ∃ ss : List (Int × Int × Str), ∃ y6 y7 y8 y9 y10 y11, σ = [some (.ref a), some (.int (k : Int)), some (.ref p), some (.int P), some (.ref l), some (.ref a2), y6, y7, y8, y9, y10, y11] ∧ Same H H5 ∧ Dice H5 p ∧ StepsAt X.K H5 l p ss ∧ RowAt X.K H5 C_Row a2 P ss, ?_, ?_, ?_⟩
    · exact ⟨P, l, a1, ss, _, _, _, _, _, _, rfl, (s1.ch p0 c3).trans s4, d3.same s4, ⟨xs, s4 _ _ h2, h3, dpa_same s4 h5⟩, R4⟩
    · clear h1 h2 h3 h4 h5 h6 h7 h8 h9 R4 s4 d3 c3 s1 d1
      rintro k2 σ H5 hk2 ⟨P, l, a2, ss, y6, y7, y8, y9, y10, y11, rfl, sm5, d5, st5, R5⟩
      walk_at "st"
      refine s_unp3 7 8 9 B.calm B.nd n_fresh n_later n_changed l_fresh l_later l_changed ?_
      walk_at "wz"
      refine ⟨p, P, l, a2, ss, rfl, d5, st5, R5, fun r H6 P6 l6 a6 ss6 c6 d6 hr6 st6 R6 => ?_⟩
      refine ⟨r, _, _, _, rfl, hr6, ?_⟩
      have R5' := R5.chd c6 d5
      obtain ⟨⟨dx, vv, ha, hv⟩, h1, h2, h24, ok⟩ := id R5'
      obtain ⟨xs, hx, hlp, da⟩ := st5.ch c6 d5
      walk_at "wz"
      refine e_prop (D_Row_steps T) T.cl_Row (B.room.mono (by decide)) ?_
      walk_at "wz"
      refine ⟨a2, dx, _, rfl, ha, ?_⟩
      refine ⟨a2, P, ss, rfl, R5', fun v hv' => ?_⟩
      walk_at "wz"
      refine c_tupL (SqL.of hx) fun t7 ht7 => ?_
      have s7 := (Same.refl H6).new (o := .tup xs) ht7
      have g7 : upd H6 t7 (.tup xs) t7 = some (.tup xs) := upd_same
      generalize upd H6 t7 (.tup xs) = H7 at s7 g7
      refine o_neD B.room.units (dp_same s7 hv') (.tup (SqT.of g7) (dpa_same s7 da)) (shaped_steps ok) (shaped_steps ok) ?_
      rw [eqv_refl_steps]
      walk_at "wz"
      refine e_prop (D_Row_places T) T.cl_Row (B.room.mono (by decide)) ?_
      walk_at "wz"
      refine ⟨a2, dx, _, rfl, s7 _ _ ha, ?_⟩
      refine ⟨a2, P, ss, rfl, R5'.same s7, ?_⟩
      walk_at "wz"
      refine iteND (fun z => absurd rfl z) (fun _ => ?_)
      walk_at "wz"
      refine s_par3 3 4 5 B.calm B.nd n_places n_steps n_row (by decide) (by decide) (by decide) l_places l_steps l_row (by rw [env_eta B.sc]; rfl) ?_
      walk_at "wz"
      refine ⟨_, _, _, rfl, ?_⟩
      have R7 := R6.same s7
      have st7 := st6.same s7
      have d7 := d6.same s7
      have sm7 := (sm5.ch p0 c6).trans s7
      clear R5' R6 st6 R5 st5 ha hv da hx g7 hv'
      clear h1 h2 h24 ok
      obtain ⟨⟨dx7, vv7, ha7, hv7⟩, h1, h2, h24, ok⟩ := id R7
      walk_at "wz"
      refine e_prop (D_Row_places T) T.cl_Row (B.room.mono (by decide)) ?_
      walk_at "wz"
      refine ⟨a6, dx7, _, rfl, ha7, ?_⟩
      refine ⟨a6, P6, ss6, rfl, R7, ?_⟩
      walk_at "wz"
      refine e_prop (D_Row_steps T) T.cl_Row (B.room.mono (by decide)) ?_
      walk_at "wz"
      refine ⟨a6, dx7, _, rfl, ha7, ?_⟩
      refine ⟨a6, P6, ss6, rfl, R7, fun v hv' => ?_⟩
      walk_at "wz"
      refine e_prop (D_Row_deed T) T.cl_Row (B.room.mono (by decide)) ?_
      walk_at "wz"
      refine ⟨a6, dx7, _, rfl, ha7, ?_⟩
      refine ⟨a6, P6, ss6, rfl, R7, fun r8 H8 s8 hr8 => ?_⟩
      walk_at "wz"
      refine ⟨by show 3 ≤ sizeLine; decide, fun t9 ht9 => ?_⟩
      have s9 := s8.new (o := .lst [.int P6, v, .ref r8]) ht9
      have D9 : Dp X.K (upd H8 t9 (.lst [.int P6, v, .ref r8])) (.ref t9) (dat P6 ss6) := by
        refine .lst (SqL.of upd_same) (.cons (.int _) (.cons (dp_same s9 hv') (.cons ?_ .nil)))
        exact .tup (same_tup ((Same.refl H8).new ht9) hr8) (dp_ints _)
      generalize upd H8 t9 (.lst [.int P6, v, .ref r8]) = H9 at s9 D9
      obtain ⟨xs9, hx9, hlp9, da9⟩ := st7.same s9
      obtain ⟨z, ez⟩ : ∃ z, (dat P6 ss6).shown = z := ⟨_, rfl⟩
      walk_at "wz"
      refine c_reprD ez G B.room.units h1 h2 ok h24 D9 ?_
      walk_at "wz"
      refine c_tupL (SqL.of hx9) fun t10 ht10 => ?_
      have s10 := (Same.refl H9).new (o := .tup xs9) ht10
      have g10 : Dp X.K (upd H9 t10 (.tup xs9)) (.ref t10) (.tuple (ss6.map stp)) := .tup (SqT.of upd_same) (dpa_same s10 da9)
      generalize upd H9 t10 (.tup xs9) = H10 at s10 g10
      walk_at "wz"
      refine ⟨P6, l6, xs9, ss6, rfl, SqL.of (s10 _ _ hx9), dpa_same s10 da9, ok, h1, h2, fun r11 H11 s11 hr11 => ?_⟩
      walk_at "wz"
      refine ⟨by show 3 ≤ sizeLine; decide, fun t12 ht12 => ?_⟩
      have s12 := s11.new (o := .lst [.int P6, .ref t10, .ref r11]) ht12
      have D12 : Dp X.K (upd H11 t12 (.lst [.int P6, .ref t10, .ref r11])) (.ref t12) (dat P6 ss6) := by
        refine .lst (SqL.of upd_same) (.cons (.int _) (.cons (dp_same s12 g10) (.cons ?_ .nil)))
        exact .tup (same_tup ((Same.refl H11).new ht12) hr11) (dp_ints _)
      generalize upd H11 t12 (.lst [.int P6, .ref t10, .ref r11]) = H12 at s12 D12
      walk_at "wz"
      refine c_reprD ez G B.room.units h1 h2 ok h24 D12 ?_
      walk_at "wz"
      refine iteND (fun z => absurd rfl z) (fun _ => ?_)
      have s712 := (s9.trans s10).trans s12
      walk_at "wz"
      refine ⟨p, P6, l6, a6, ss6, rfl, d7.same s712, st7.same s712, R7.same s712, fun H13 c13 d13 => ?_⟩
      walk_at "wz"
      exact ⟨_, _, _, _, _, _, _, _, _, _, rfl, (sm7.trans s712).ch p0 c13, d13, (st7.same s712).ch c13 (d7.same s712), (R7.same s712).chd c13 (d7.same s712)⟩
    · rintro σ H5 ⟨P, l, a2, ss, y6, y7, y8, y9, y10, y11, rfl, sm5, _⟩
      exact ⟨_, _, _, _, _, _, _, _, _, _, _, rfl, sm5⟩
  · rintro σ H1 ⟨y1, y2, y3, y4, y5, y6, y7, y8, y9, y10, y11, rfl, sm⟩
    walk_at "st"
    walk_at "st"
    walk_at "rw"
    walk_at "wz"
    refine ⟨by show 3 ≤ sizeLine; decide, fun t1 ht1 => ?_⟩
    walk_at "wz"
    refine ⟨by show 3 ≤ sizeLine; decide, fun t2 ht2 => ?_⟩
    walk_at "wz"
    refine ⟨by show 2 ≤ sizeLine; decide, fun t3 ht3 => ?_⟩
    have g1 : upd (upd (upd H1 t1 (.tup [.int 0, .int 1, .str "a"])) t2 (.tup [.int 1, .int 2, .str "b"])) t3 (.tup [.ref t1, .ref t2]) t1 = some (.tup [.int 0, .int 1, .str "a"]) := upd_keep ht3 (upd_keep ht2 upd_same)
    have g2 : upd (upd (upd H1 t1 (.tup [.int 0, .int 1, .str "a"])) t2 (.tup [.int 1, .int 2, .str "b"])) t3 (.tup [.ref t1, .ref t2]) t2 = some (.tup [.int 1, .int 2, .str "b"]) := upd_keep ht3 upd_same
    refine ⟨3, [(0, 1, "a"), (1, 2, "b")], rfl, by decide, by decide, ?_, by decide, ?_, fun tr H4 ht4 s4 R4 => ?_⟩
    · exact .tup (SqT.of upd_same) (.cons (.tup (SqT.of g1) (.cons (.int _) (.cons (.int _) (.cons (.str _) .nil)))) (.cons (.tup (SqT.of g2) (.cons (.int _) (.cons (.int _) (.cons (.str _) .nil)))) .nil))
    · intro s hs
      simp only [List.mem_cons, List.not_mem_nil, or_false] at hs
      rcases hs with rfl | rfl
      · exact ⟨⟨by decide, by decide, by decide⟩, by unfold okO; decide +kernel⟩
      · exact ⟨⟨by decide, by decide, by decide⟩, by unfold okO; decide +kernel⟩
    obtain ⟨⟨dx, v, ha, hv⟩, _⟩ := id R4
    walk_at "wz"
    refine e_prop (D_Row_exchanges T) T.cl_Row (B.room.mono (by decide)) ?_
    refine e_meth (D_Row_with_step T) T.cl_Row (B.room.mono (by decide)) ?_
    walk_at "wz"
    refine ⟨tr, dx, _, rfl, ha, rfl, ?_⟩
    walk_at "wz"
    refine ⟨by show 3 ≤ sizeLine; decide, fun t5 ht5 => ?_⟩
    have s5 : Same H4 (upd H4 t5 (.tup [.int 0, .int 2, .str "c"])) := (Same.refl H4).new ht5
    have g5 : SqT X.K (upd H4 t5 (.tup [.int 0, .int 2, .str "c"])) t5 [.int 0, .int 2, .str "c"] := SqT.of upd_same
    generalize upd H4 t5 (.tup [.int 0, .int 2, .str "c"]) = H5 at s5 g5
    walk_at "wz"
    refine ⟨tr, .ref t5, 3, 1, (0, 2, "c"), _, rfl, R4.same s5, by decide, .tup g5 (.cons (.int _) (.cons (.int _) (.cons (.str _) .nil))), ⟨⟨by decide, by decide, by decide⟩, by unfold okO; decide +kernel⟩, by decide, fun r6 H6 s6 R6 => ?_⟩
    obtain ⟨⟨dx6, v6, ha6, hv6⟩, _⟩ := id R6
    refine ⟨r6, dx6, _, rfl, ha6, ?_⟩
    refine ⟨r6, 3, _, rfl, R6, fun r7 H7 s7 hr7 => ?_⟩
    have s47 := (s5.trans s6).trans s7
    walk_at "wz"
    refine e_prop (D_Row_deed T) T.cl_Row (B.room.mono (by decide)) ?_
    refine e_meth0 (D_Row_backwards T) T.cl_Row (B.room.mono (by decide)) ?_
    walk_at "wz"
    refine ⟨tr, dx, _, rfl, s47 _ _ ha, rfl, ?_⟩
    refine ⟨tr, 3, _, rfl, R4.same s47, fun r8 H8 s8 R8 => ?_⟩
    obtain ⟨⟨dx8, v8, ha8, hv8⟩, _⟩ := id R8
    refine ⟨r8, dx8, _, rfl, ha8, ?_⟩
    refine ⟨r8, 3, _, rfl, R8, fun r9 H9 s9 hr9 => ?_⟩
    have s79 := s8.trans s9
    walk_at "wz"
    refine e_prop (D_Row_steps T) T.cl_Row (B.room.mono (by decide)) ?_
    refine e_meth (D_Row_renamed T) T.cl_Row (B.room.mono (by decide)) ?_
    walk_at "wz"
    refine ⟨tr, dx, _, rfl, (s47.trans s79) _ _ ha, rfl, ?_⟩
    walk_at "wz"
    refine ⟨by show 3 ≤ sizeLine; decide, fun t10 ht10 => ?_⟩
    have s10 : Same H9 (upd H9 t10 (.tup [.int 2, .int 1, .int 0])) := (Same.refl H9).new ht10
    have g10 : SqT X.K (upd H9 t10 (.tup [.int 2, .int 1, .int 0])) t10 [.int 2, .int 1, .int 0] := SqT.of upd_same
    generalize upd H9 t10 (.tup [.int 2, .int 1, .int 0]) = H10 at s10 g10
    walk_at "wz"
    refine ⟨tr, t10, 3, [2, 1, 0], _, rfl, (R4.same (s47.trans s79)).same s10, g10, ⟨by decide +kernel, by decide, by decide⟩, rfl, fun r11 H11 s11 R11 => ?_⟩
    obtain ⟨⟨dx11, v11, ha11, hv11⟩, _⟩ := id R11
    refine ⟨r11, dx11, _, rfl, ha11, ?_⟩
    refine ⟨r11, 3, _, rfl, R11, fun v12 hv12 => ?_⟩
    have s911 := s10.trans s11
    have e7 := dp_same (s79.trans s911) hr7
    have e9 := same_tup s911 hr9
    have R12 := R4.same ((s47.trans s79).trans s911)
    clear R4 s4 s5 s6 s7 s8 s9 s10 s11 s47 s79 s911 hr7 hr9 R6 R8 R11 ha ha6 ha8 ha11 hv hv6 hv8 hv11 g5 g10
    obtain ⟨⟨dx, v, ha, hv⟩, _⟩ := id R12
    walk_at "wz"
    refine ⟨by show 3 ≤ sizeLine; decide, fun l13 hl13 => ?_⟩
    have s13 : Same H11 (upd H11 l13 (.lst [.ref r7, .ref r9, v12])) := (Same.refl H11).new hl13
    have D13 : Dp X.K (upd H11 l13 (.lst [.ref r7, .ref r9, v12])) (.ref l13) dA :=
      .lst (SqL.of upd_same) (.cons (dp_same s13 e7) (.cons (.tup (same_tup s13 e9) (dp_ints _)) (.cons (dp_same s13 hv12) .nil)))
    generalize upd H11 l13 (.lst [.ref r7, .ref r9, v12]) = H13 at s13 D13
    walk_at "wz"
    refine ⟨by show 2 ≤ sizeLine; decide, fun u1 hu1 => ?_⟩
    have E1 := lay_tup (K := X.K) (xs := [.int 0, .int 1]) hu1 (.cons (.int _) (.cons (.int _) .nil))
    have w1 := (Same.refl H13).new (o := .tup [.int 0, .int 1]) hu1
    generalize upd H13 u1 (.tup [.int 0, .int 1]) = J1 at E1 w1
    walk_at "wz"
    refine ⟨by show 2 ≤ sizeLine; decide, fun u2 hu2 => ?_⟩
    have E2 := lay_tup (K := X.K) (xs := [.int 0, .int 2]) hu2 (.cons (.int _) (.cons (.int _) .nil))
    have w2 := (Same.refl J1).new (o := .tup [.int 0, .int 2]) hu2
    generalize upd J1 u2 (.tup [.int 0, .int 2]) = J2 at E2 w2
    walk_at "wz"
    refine ⟨by show 2 ≤ sizeLine; decide, fun u3 hu3 => ?_⟩
    have E3 := lay_tup (K := X.K) (xs := [.int 1, .int 2]) hu3 (.cons (.int _) (.cons (.int _) .nil))
    have w3 := (Same.refl J2).new (o := .tup [.int 1, .int 2]) hu3
    generalize upd J2 u3 (.tup [.int 1, .int 2]) = J3 at E3 w3
    walk_at "wz"
    refine ⟨by show 3 ≤ sizeLine; decide, fun u4 hu4 => ?_⟩
    have E4 := lay_tup (K := X.K) (xs := [.ref u1, .ref u2, .ref u3]) hu4 (.cons (dp_same (w2.trans w3) E1) (.cons (dp_same w3 E2) (.cons E3 .nil)))
    have w4 := (Same.refl J3).new (o := .tup [.ref u1, .ref u2, .ref u3]) hu4
    generalize upd J3 u4 (.tup [.ref u1, .ref u2, .ref u3]) = J4 at E4 w4
    walk_at "wz"
    refine ⟨by show 3 ≤ sizeLine; decide, fun u5 hu5 => ?_⟩
    have E5 := lay_tup (K := X.K) (xs := [.int 1, .int 2, .int 0]) hu5 (.cons (.int _) (.cons (.int _) (.cons (.int _) .nil)))
    have w5 := (Same.refl J4).new (o := .tup [.int 1, .int 2, .int 0]) hu5
    generalize upd J4 u5 (.tup [.int 1, .int 2, .int 0]) = J5 at E5 w5
    walk_at "wz"
    refine ⟨by show 3 ≤ sizeLine; decide, fun u6 hu6 => ?_⟩
    have E6 := lay_tup (K := X.K) (xs := [.int 1, .int 2, .str "a"]) hu6 (.cons (.int _) (.cons (.int _) (.cons (.str _) .nil)))
    have w6 := (Same.refl J5).new (o := .tup [.int 1, .int 2, .str "a"]) hu6
    generalize upd J5 u6 (.tup [.int 1, .int 2, .str "a"]) = J6 at E6 w6
    walk_at "wz"
    refine ⟨by show 3 ≤ sizeLine; decide, fun u7 hu7 => ?_⟩
    have E7 := lay_tup (K := X.K) (xs := [.int 0, .int 1, .str "b"]) hu7 (.cons (.int _) (.cons (.int _) (.cons (.str _) .nil)))
    have w7 := (Same.refl J6).new (o := .tup [.int 0, .int 1, .str "b"]) hu7
    generalize upd J6 u7 (.tup [.int 0, .int 1, .str "b"]) = J7 at E7 w7
    walk_at "wz"
    refine ⟨by show 2 ≤ sizeLine; decide, fun u8 hu8 => ?_⟩
    have E8 := lay_tup (K := X.K) (xs := [.ref u6, .ref u7]) hu8 (.cons (dp_same w7 E6) (.cons E7 .nil))
    have w8 := (Same.refl J7).new (o := .tup [.ref u6, .ref u7]) hu8
    generalize upd J7 u8 (.tup [.ref u6, .ref u7]) = J8 at E8 w8
    walk_at "wz"
    refine ⟨by show 3 ≤ sizeLine; decide, fun u9 hu9 => ?_⟩
    have E9 := lay_lst (K := X.K) (xs := [.ref u4, .ref u5, .ref u8]) hu9 (.cons (dp_same (((w5.trans w6).trans w7).trans w8) E4) (.cons (dp_same ((w6.trans w7).trans w8) E5) (.cons E8 .nil)))
    have w9 := (Same.refl J8).new (o := .lst [.ref u4, .ref u5, .ref u8]) hu9
    generalize upd J8 u9 (.lst [.ref u4, .ref u5, .ref u8]) = J9 at E9 w9
    have wA := ((((((((w1.trans w2).trans w3).trans w4).trans w5).trans w6).trans w7).trans w8).trans w9)
    refine o_eqD B.room.units (dp_same wA D13) (e := dB) E9 shA shB ?_
    rw [eqAB]
    walk_at "wz"
    refine e_prop (D_Row_deed T) T.cl_Row (B.room.mono (by decide)) ?_
    walk_at "wz"
    have Rz := R12.same (s13.trans wA)
    obtain ⟨⟨dxz, vz, haz, hvz⟩, _⟩ := id Rz
    refine o_own (D_Row___add__ T) T.sf_Row (B.room.mono (by decide)) haz haz ?_
    refine ⟨tr, tr, 3, _, _, rfl, Rz, Rz, by decide, fun r14 K1 s14 R14 => ⟨⟨r14, rfl⟩, ?_⟩⟩
    obtain ⟨⟨dx14, v14, ha14, hv14⟩, _⟩ := id R14
    refine ⟨r14, dx14, _, rfl, ha14, ?_⟩
    refine ⟨r14, 3, _, rfl, R14, fun r15 K2 s15 hr15 => ?_⟩
    walk_at "wz"
    refine ⟨by show 3 ≤ sizeLine; decide, fun t16 ht16 => ?_⟩
    refine o_eqD B.room.units (d := dC) (e := .tuple [.int 1, .int 2, .int 0]) (.tup (same_tup ((Same.refl K2).new ht16) hr15) (dp_ints _)) (.tup (SqT.of upd_same) (.cons (.int _) (.cons (.int _) (.cons (.int _) .nil)))) shC (by decide +kernel) ?_
    rw [eqC]
    exact q _

theorem len_law {K : PySem.W.Frag} : ∀ vs H Q E, sp_law0 K vs H Q E → vs.length = 1 := by
  intro vs H Q E h
  obtain ⟨_, e, _⟩ := h
  rw [e]; rfl
theorem all_mk {l : PySem.W.OpenLaw} {w : World} {K : PySem.W.Frag} {h : Heap} {mg : Str → Option Value} {fa : Addr} (X : K.In h) (G : h.Ns mainGlobals mg) (hfa : mg "law" = some (.ref fa))
    {C_Row : Addr}
    (z_abs : PySem.W.nsIn K mainGlobals "abs" = some none)
    (z_all : PySem.W.nsIn K mainGlobals "all" = some none)
    (z_bool : PySem.W.nsIn K mainGlobals "bool" = some none)
    (z_int : PySem.W.nsIn K mainGlobals "int" = some none)
    (z_isinstance : PySem.W.nsIn K mainGlobals "isinstance" = some none)
    (z_len : PySem.W.nsIn K mainGlobals "len" = some none)
    (z_list : PySem.W.nsIn K mainGlobals "list" = some none)
    (z_max : PySem.W.nsIn K mainGlobals "max" = some none)
    (z_min : PySem.W.nsIn K mainGlobals "min" = some none)
    (z_range : PySem.W.nsIn K mainGlobals "range" = some none)
    (z_repr : PySem.W.nsIn K mainGlobals "repr" = some none)
    (z_sorted : PySem.W.nsIn K mainGlobals "sorted" = some none)
    (z_str : PySem.W.nsIn K mainGlobals "str" = some none)
    (z_tuple : PySem.W.nsIn K mainGlobals "tuple" = some none)
    (z_zip : PySem.W.nsIn K mainGlobals "zip" = some none)
    {t_MAX_PLACES : Tok} (c_MAX_PLACES : PySem.W.nsIn K mainGlobals "MAX_PLACES" = some (some (Value.int 12 t_MAX_PLACES)))
    {t_MAX_STEPS : Tok} (c_MAX_STEPS : PySem.W.nsIn K mainGlobals "MAX_STEPS" = some (some (Value.int 24 t_MAX_STEPS)))
    {t__TOO_LONG : Tok} (c__TOO_LONG : PySem.W.nsIn K mainGlobals "_TOO_LONG" = some (some (Value.int 100000000000000000000000000000000000000000000000000000000000000000000000000000000000000000000000000000000000000000000000000000000000000000000000000000000000000000000000000000000000000000000000000000000 t__TOO_LONG)))
    (k_Row : PySem.W.nsIn K mainGlobals "Row" = some (some (.ref C_Row))) (pg_Row : PySem.W.plainGet K C_Row Str.empty = true) (hd_Row : PySem.W.hasDictIn K C_Row = true) (po_Row : PySem.W.plainOver K C_Row = true) (sa_Row : PySem.W.findIn K (.ref C_Row) "__setattr__" = some (some (.builtin "object.__setattr__")))
    (na_Row__places : PySem.W.findIn K (.ref C_Row) "_places" = some none)
    (na_Row__steps : PySem.W.findIn K (.ref C_Row) "_steps" = some none)
    (ia_Row : PySem.W.findIn K (.ref C_Row) "__class__" = some (some (.builtin "object.__class__"))) (ib_Row : PySem.W.specialIn K (.builtin "object.__class__") "__get__" = some (some (.builtin "getset_descriptor.__get__"))) (id_Row : PySem.W.takesIn K (.builtin "object.__class__") = some true) (im_Row : PySem.W.mroIn K C_Row (.type "object") = some true)
    (sf_Row : PySem.W.selfFirst K C_Row = true)
    (nq_Row : PySem.W.findIn K (.ref C_Row) "__ne__" = some (some (.builtin "object.__ne__")))
    {f_is_integer : Addr} (a_is_integer : PySem.W.nsIn K mainGlobals "is_integer" = some (some (.ref f_is_integer)))
    {od_is_integer an_is_integer : Option Addr} {sl_is_integer : Array (Option Value)} {oc_is_integer kV_is_integer dc_is_integer pm_is_integer cd_is_integer ct_is_integer : Value} (l_is_integer : K.lookup f_is_integer = some ⟨oc_is_integer, od_is_integer, .func (PySem.W.fnOf "is_integer" "is_integer" (defArgs S_is_integer) (defBody S_is_integer) (defScope S_is_integer) .none kV_is_integer dc_is_integer pm_is_integer an_is_integer cd_is_integer ct_is_integer), sl_is_integer⟩) (i_is_integer : PySem.W.codeIn K cd_is_integer "is_integer" = true) (k_is_integer : PySem.W.keepIn K (.ref f_is_integer) = true)
    {f_is_owner : Addr} (a_is_owner : PySem.W.nsIn K mainGlobals "is_owner" = some (some (.ref f_is_owner)))
    {od_is_owner an_is_owner : Option Addr} {sl_is_owner : Array (Option Value)} {oc_is_owner kV_is_owner dc_is_owner pm_is_owner cd_is_owner ct_is_owner : Value} (l_is_owner : K.lookup f_is_owner = some ⟨oc_is_owner, od_is_owner, .func (PySem.W.fnOf "is_owner" "is_owner" (defArgs S_is_owner) (defBody S_is_owner) (defScope S_is_owner) .none kV_is_owner dc_is_owner pm_is_owner an_is_owner cd_is_owner ct_is_owner), sl_is_owner⟩) (i_is_owner : PySem.W.codeIn K cd_is_owner "is_owner" = true) (k_is_owner : PySem.W.keepIn K (.ref f_is_owner) = true)
    {f_is_number_of_places : Addr} (a_is_number_of_places : PySem.W.nsIn K mainGlobals "is_number_of_places" = some (some (.ref f_is_number_of_places)))
    {od_is_number_of_places an_is_number_of_places : Option Addr} {sl_is_number_of_places : Array (Option Value)} {oc_is_number_of_places kV_is_number_of_places dc_is_number_of_places pm_is_number_of_places cd_is_number_of_places ct_is_number_of_places : Value} (l_is_number_of_places : K.lookup f_is_number_of_places = some ⟨oc_is_number_of_places, od_is_number_of_places, .func (PySem.W.fnOf "is_number_of_places" "is_number_of_places" (defArgs S_is_number_of_places) (defBody S_is_number_of_places) (defScope S_is_number_of_places) .none kV_is_number_of_places dc_is_number_of_places pm_is_number_of_places an_is_number_of_places cd_is_number_of_places ct_is_number_of_places), sl_is_number_of_places⟩) (i_is_number_of_places : PySem.W.codeIn K cd_is_number_of_places "is_number_of_places" = true) (k_is_number_of_places : PySem.W.keepIn K (.ref f_is_number_of_places) = true)
    {f_is_below : Addr} (a_is_below : PySem.W.nsIn K mainGlobals "is_below" = some (some (.ref f_is_below)))
    {od_is_below an_is_below : Option Addr} {sl_is_below : Array (Option Value)} {oc_is_below kV_is_below dc_is_below pm_is_below cd_is_below ct_is_below : Value} (l_is_below : K.lookup f_is_below = some ⟨oc_is_below, od_is_below, .func (PySem.W.fnOf "is_below" "is_below" (defArgs S_is_below) (defBody S_is_below) (defScope S_is_below) .none kV_is_below dc_is_below pm_is_below an_is_below cd_is_below ct_is_below), sl_is_below⟩) (i_is_below : PySem.W.codeIn K cd_is_below "is_below" = true) (k_is_below : PySem.W.keepIn K (.ref f_is_below) = true)
    {f_check_number : Addr} (a_check_number : PySem.W.nsIn K mainGlobals "check_number" = some (some (.ref f_check_number)))
    {od_check_number an_check_number : Option Addr} {sl_check_number : Array (Option Value)} {oc_check_number kV_check_number dc_check_number pm_check_number cd_check_number ct_check_number : Value} (l_check_number : K.lookup f_check_number = some ⟨oc_check_number, od_check_number, .func (PySem.W.fnOf "check_number" "check_number" (defArgs S_check_number) (defBody S_check_number) (defScope S_check_number) .none kV_check_number dc_check_number pm_check_number an_check_number cd_check_number ct_check_number), sl_check_number⟩) (i_check_number : PySem.W.codeIn K cd_check_number "check_number" = true) (k_check_number : PySem.W.keepIn K (.ref f_check_number) = true)
    {f_check_places : Addr} (a_check_places : PySem.W.nsIn K mainGlobals "check_places" = some (some (.ref f_check_places)))
    {od_check_places an_check_places : Option Addr} {sl_check_places : Array (Option Value)} {oc_check_places kV_check_places dc_check_places pm_check_places cd_check_places ct_check_places : Value} (l_check_places : K.lookup f_check_places = some ⟨oc_check_places, od_check_places, .func (PySem.W.fnOf "check_places" "check_places" (defArgs S_check_places) (defBody S_check_places) (defScope S_check_places) .none kV_check_places dc_check_places pm_check_places an_check_places cd_check_places ct_check_places), sl_check_places⟩) (i_check_places : PySem.W.codeIn K cd_check_places "check_places" = true) (k_check_places : PySem.W.keepIn K (.ref f_check_places) = true)
    {f_is_exchange : Addr} (a_is_exchange : PySem.W.nsIn K mainGlobals "is_exchange" = some (some (.ref f_is_exchange)))
    {od_is_exchange an_is_exchange : Option Addr} {sl_is_exchange : Array (Option Value)} {oc_is_exchange kV_is_exchange dc_is_exchange pm_is_exchange cd_is_exchange ct_is_exchange : Value} (l_is_exchange : K.lookup f_is_exchange = some ⟨oc_is_exchange, od_is_exchange, .func (PySem.W.fnOf "is_exchange" "is_exchange" (defArgs S_is_exchange) (defBody S_is_exchange) (defScope S_is_exchange) .none kV_is_exchange dc_is_exchange pm_is_exchange an_is_exchange cd_is_exchange ct_is_exchange), sl_is_exchange⟩) (i_is_exchange : PySem.W.codeIn K cd_is_exchange "is_exchange" = true) (k_is_exchange : PySem.W.keepIn K (.ref f_is_exchange) = true)
    {f_is_step : Addr} (a_is_step : PySem.W.nsIn K mainGlobals "is_step" = some (some (.ref f_is_step)))
    {od_is_step an_is_step : Option Addr} {sl_is_step : Array (Option Value)} {oc_is_step kV_is_step dc_is_step pm_is_step cd_is_step ct_is_step : Value} (l_is_step : K.lookup f_is_step = some ⟨oc_is_step, od_is_step, .func (PySem.W.fnOf "is_step" "is_step" (defArgs S_is_step) (defBody S_is_step) (defScope S_is_step) .none kV_is_step dc_is_step pm_is_step an_is_step cd_is_step ct_is_step), sl_is_step⟩) (i_is_step : PySem.W.codeIn K cd_is_step "is_step" = true) (k_is_step : PySem.W.keepIn K (.ref f_is_step) = true)
    {f_place_behind : Addr} (a_place_behind : PySem.W.nsIn K mainGlobals "place_behind" = some (some (.ref f_place_behind)))
    {od_place_behind an_place_behind : Option Addr} {sl_place_behind : Array (Option Value)} {oc_place_behind kV_place_behind dc_place_behind pm_place_behind cd_place_behind ct_place_behind : Value} (l_place_behind : K.lookup f_place_behind = some ⟨oc_place_behind, od_place_behind, .func (PySem.W.fnOf "place_behind" "place_behind" (defArgs S_place_behind) (defBody S_place_behind) (defScope S_place_behind) .none kV_place_behind dc_place_behind pm_place_behind an_place_behind cd_place_behind ct_place_behind), sl_place_behind⟩) (i_place_behind : PySem.W.codeIn K cd_place_behind "place_behind" = true) (k_place_behind : PySem.W.keepIn K (.ref f_place_behind) = true)
    {f_is_deed : Addr} (a_is_deed : PySem.W.nsIn K mainGlobals "is_deed" = some (some (.ref f_is_deed)))
    {od_is_deed an_is_deed : Option Addr} {sl_is_deed : Array (Option Value)} {oc_is_deed kV_is_deed dc_is_deed pm_is_deed cd_is_deed ct_is_deed : Value} (l_is_deed : K.lookup f_is_deed = some ⟨oc_is_deed, od_is_deed, .func (PySem.W.fnOf "is_deed" "is_deed" (defArgs S_is_deed) (defBody S_is_deed) (defScope S_is_deed) .none kV_is_deed dc_is_deed pm_is_deed an_is_deed cd_is_deed ct_is_deed), sl_is_deed⟩) (i_is_deed : PySem.W.codeIn K cd_is_deed "is_deed" = true) (k_is_deed : PySem.W.keepIn K (.ref f_is_deed) = true)
    {f__are_steps : Addr} (a__are_steps : PySem.W.nsIn K mainGlobals "_are_steps" = some (some (.ref f__are_steps)))
    {od__are_steps an__are_steps : Option Addr} {sl__are_steps : Array (Option Value)} {oc__are_steps kV__are_steps dc__are_steps pm__are_steps cd__are_steps ct__are_steps : Value} (l__are_steps : K.lookup f__are_steps = some ⟨oc__are_steps, od__are_steps, .func (PySem.W.fnOf "_are_steps" "_are_steps" (defArgs S__are_steps) (defBody S__are_steps) (defScope S__are_steps) .none kV__are_steps dc__are_steps pm__are_steps an__are_steps cd__are_steps ct__are_steps), sl__are_steps⟩) (i__are_steps : PySem.W.codeIn K cd__are_steps "_are_steps" = true) (k__are_steps : PySem.W.keepIn K (.ref f__are_steps) = true)
    {f__step_named : Addr} (a__step_named : PySem.W.nsIn K mainGlobals "_step_named" = some (some (.ref f__step_named)))
    {od__step_named an__step_named : Option Addr} {sl__step_named : Array (Option Value)} {oc__step_named kV__step_named dc__step_named pm__step_named cd__step_named ct__step_named : Value} (l__step_named : K.lookup f__step_named = some ⟨oc__step_named, od__step_named, .func (PySem.W.fnOf "_step_named" "_step_named" (defArgs S__step_named) (defBody S__step_named) (defScope S__step_named) .none kV__step_named dc__step_named pm__step_named an__step_named cd__step_named ct__step_named), sl__step_named⟩) (i__step_named : PySem.W.codeIn K cd__step_named "_step_named" = true) (k__step_named : PySem.W.keepIn K (.ref f__step_named) = true)
    {f__law_dice : Addr} (a__law_dice : PySem.W.nsIn K mainGlobals "_law_dice" = some (some (.ref f__law_dice)))
    {od__law_dice an__law_dice : Option Addr} {sl__law_dice : Array (Option Value)} {oc__law_dice kV__law_dice dc__law_dice pm__law_dice cd__law_dice ct__law_dice : Value} (l__law_dice : K.lookup f__law_dice = some ⟨oc__law_dice, od__law_dice, .func (PySem.W.fnOf "_law_dice" "_law_dice" (defArgs S__law_dice) (defBody S__law_dice) (defScope S__law_dice) .none kV__law_dice dc__law_dice pm__law_dice an__law_dice cd__law_dice ct__law_dice), sl__law_dice⟩) (i__law_dice : PySem.W.codeIn K cd__law_dice "_law_dice" = true) (k__law_dice : PySem.W.keepIn K (.ref f__law_dice) = true)
    {f__law_roll : Addr} (a__law_roll : PySem.W.nsIn K mainGlobals "_law_roll" = some (some (.ref f__law_roll)))
    {od__law_roll an__law_roll : Option Addr} {sl__law_roll : Array (Option Value)} {oc__law_roll kV__law_roll dc__law_roll pm__law_roll cd__law_roll ct__law_roll : Value} (l__law_roll : K.lookup f__law_roll = some ⟨oc__law_roll, od__law_roll, .func (PySem.W.fnOf "_law_roll" "_law_roll" (defArgs S__law_roll) (defBody S__law_roll) (defScope S__law_roll) .none kV__law_roll dc__law_roll pm__law_roll an__law_roll cd__law_roll ct__law_roll), sl__law_roll⟩) (i__law_roll : PySem.W.codeIn K cd__law_roll "_law_roll" = true) (k__law_roll : PySem.W.keepIn K (.ref f__law_roll) = true)
    {f__law_pick : Addr} (a__law_pick : PySem.W.nsIn K mainGlobals "_law_pick" = some (some (.ref f__law_pick)))
    {od__law_pick an__law_pick : Option Addr} {sl__law_pick : Array (Option Value)} {oc__law_pick kV__law_pick dc__law_pick pm__law_pick cd__law_pick ct__law_pick : Value} (l__law_pick : K.lookup f__law_pick = some ⟨oc__law_pick, od__law_pick, .func (PySem.W.fnOf "_law_pick" "_law_pick" (defArgs S__law_pick) (defBody S__law_pick) (defScope S__law_pick) .none kV__law_pick dc__law_pick pm__law_pick an__law_pick cd__law_pick ct__law_pick), sl__law_pick⟩) (i__law_pick : PySem.W.codeIn K cd__law_pick "_law_pick" = true) (k__law_pick : PySem.W.keepIn K (.ref f__law_pick) = true)
    {f__law_mixed : Addr} (a__law_mixed : PySem.W.nsIn K mainGlobals "_law_mixed" = some (some (.ref f__law_mixed)))
    {od__law_mixed an__law_mixed : Option Addr} {sl__law_mixed : Array (Option Value)} {oc__law_mixed kV__law_mixed dc__law_mixed pm__law_mixed cd__law_mixed ct__law_mixed : Value} (l__law_mixed : K.lookup f__law_mixed = some ⟨oc__law_mixed, od__law_mixed, .func (PySem.W.fnOf "_law_mixed" "_law_mixed" (defArgs S__law_mixed) (defBody S__law_mixed) (defScope S__law_mixed) .none kV__law_mixed dc__law_mixed pm__law_mixed an__law_mixed cd__law_mixed ct__law_mixed), sl__law_mixed⟩) (i__law_mixed : PySem.W.codeIn K cd__law_mixed "_law_mixed" = true) (k__law_mixed : PySem.W.keepIn K (.ref f__law_mixed) = true)
    {f__law_exchange : Addr} (a__law_exchange : PySem.W.nsIn K mainGlobals "_law_exchange" = some (some (.ref f__law_exchange)))
    {od__law_exchange an__law_exchange : Option Addr} {sl__law_exchange : Array (Option Value)} {oc__law_exchange kV__law_exchange dc__law_exchange pm__law_exchange cd__law_exchange ct__law_exchange : Value} (l__law_exchange : K.lookup f__law_exchange = some ⟨oc__law_exchange, od__law_exchange, .func (PySem.W.fnOf "_law_exchange" "_law_exchange" (defArgs S__law_exchange) (defBody S__law_exchange) (defScope S__law_exchange) .none kV__law_exchange dc__law_exchange pm__law_exchange an__law_exchange cd__law_exchange ct__law_exchange), sl__law_exchange⟩) (i__law_exchange : PySem.W.codeIn K cd__law_exchange "_law_exchange" = true) (k__law_exchange : PySem.W.keepIn K (.ref f__law_exchange) = true)
    {f__law_drawn_steps : Addr} (a__law_drawn_steps : PySem.W.nsIn K mainGlobals "_law_drawn_steps" = some (some (.ref f__law_drawn_steps)))
    {od__law_drawn_steps an__law_drawn_steps : Option Addr} {sl__law_drawn_steps : Array (Option Value)} {oc__law_drawn_steps kV__law_drawn_steps dc__law_drawn_steps pm__law_drawn_steps cd__law_drawn_steps ct__law_drawn_steps : Value} (l__law_drawn_steps : K.lookup f__law_drawn_steps = some ⟨oc__law_drawn_steps, od__law_drawn_steps, .func (PySem.W.fnOf "_law_drawn_steps" "_law_drawn_steps" (defArgs S__law_drawn_steps) (defBody S__law_drawn_steps) (defScope S__law_drawn_steps) .none kV__law_drawn_steps dc__law_drawn_steps pm__law_drawn_steps an__law_drawn_steps cd__law_drawn_steps ct__law_drawn_steps), sl__law_drawn_steps⟩) (i__law_drawn_steps : PySem.W.codeIn K cd__law_drawn_steps "_law_drawn_steps" = true) (k__law_drawn_steps : PySem.W.keepIn K (.ref f__law_drawn_steps) = true)
    {f__law_small : Addr} (a__law_small : PySem.W.nsIn K mainGlobals "_law_small" = some (some (.ref f__law_small)))
    {od__law_small an__law_small : Option Addr} {sl__law_small : Array (Option Value)} {oc__law_small kV__law_small dc__law_small pm__law_small cd__law_small ct__law_small : Value} (l__law_small : K.lookup f__law_small = some ⟨oc__law_small, od__law_small, .func (PySem.W.fnOf "_law_small" "_law_small" (defArgs S__law_small) (defBody S__law_small) (defScope S__law_small) .none kV__law_small dc__law_small pm__law_small an__law_small cd__law_small ct__law_small), sl__law_small⟩) (i__law_small : PySem.W.codeIn K cd__law_small "_law_small" = true) (k__law_small : PySem.W.keepIn K (.ref f__law_small) = true)
    {f__law_great : Addr} (a__law_great : PySem.W.nsIn K mainGlobals "_law_great" = some (some (.ref f__law_great)))
    {od__law_great an__law_great : Option Addr} {sl__law_great : Array (Option Value)} {oc__law_great kV__law_great dc__law_great pm__law_great cd__law_great ct__law_great : Value} (l__law_great : K.lookup f__law_great = some ⟨oc__law_great, od__law_great, .func (PySem.W.fnOf "_law_great" "_law_great" (defArgs S__law_great) (defBody S__law_great) (defScope S__law_great) .none kV__law_great dc__law_great pm__law_great an__law_great cd__law_great ct__law_great), sl__law_great⟩) (i__law_great : PySem.W.codeIn K cd__law_great "_law_great" = true) (k__law_great : PySem.W.keepIn K (.ref f__law_great) = true)
    {f__law_deed : Addr} (a__law_deed : PySem.W.nsIn K mainGlobals "_law_deed" = some (some (.ref f__law_deed)))
    {od__law_deed an__law_deed : Option Addr} {sl__law_deed : Array (Option Value)} {oc__law_deed kV__law_deed dc__law_deed pm__law_deed cd__law_deed ct__law_deed : Value} (l__law_deed : K.lookup f__law_deed = some ⟨oc__law_deed, od__law_deed, .func (PySem.W.fnOf "_law_deed" "_law_deed" (defArgs S__law_deed) (defBody S__law_deed) (defScope S__law_deed) .none kV__law_deed dc__law_deed pm__law_deed an__law_deed cd__law_deed ct__law_deed), sl__law_deed⟩) (i__law_deed : PySem.W.codeIn K cd__law_deed "_law_deed" = true) (k__law_deed : PySem.W.keepIn K (.ref f__law_deed) = true)
    {f__law_made_row : Addr} (a__law_made_row : PySem.W.nsIn K mainGlobals "_law_made_row" = some (some (.ref f__law_made_row)))
    {od__law_made_row an__law_made_row : Option Addr} {sl__law_made_row : Array (Option Value)} {oc__law_made_row kV__law_made_row dc__law_made_row pm__law_made_row cd__law_made_row ct__law_made_row : Value} (l__law_made_row : K.lookup f__law_made_row = some ⟨oc__law_made_row, od__law_made_row, .func (PySem.W.fnOf "_law_made_row" "_law_made_row" (defArgs S__law_made_row) (defBody S__law_made_row) (defScope S__law_made_row) .none kV__law_made_row dc__law_made_row pm__law_made_row an__law_made_row cd__law_made_row ct__law_made_row), sl__law_made_row⟩) (i__law_made_row : PySem.W.codeIn K cd__law_made_row "_law_made_row" = true) (k__law_made_row : PySem.W.keepIn K (.ref f__law_made_row) = true)
    {f__law_row_here : Addr} (a__law_row_here : PySem.W.nsIn K mainGlobals "_law_row_here" = some (some (.ref f__law_row_here)))
    {od__law_row_here an__law_row_here : Option Addr} {sl__law_row_here : Array (Option Value)} {oc__law_row_here kV__law_row_here dc__law_row_here pm__law_row_here cd__law_row_here ct__law_row_here : Value} (l__law_row_here : K.lookup f__law_row_here = some ⟨oc__law_row_here, od__law_row_here, .func (PySem.W.fnOf "_law_row_here" "_law_row_here" (defArgs S__law_row_here) (defBody S__law_row_here) (defScope S__law_row_here) .none kV__law_row_here dc__law_row_here pm__law_row_here an__law_row_here cd__law_row_here ct__law_row_here), sl__law_row_here⟩) (i__law_row_here : PySem.W.codeIn K cd__law_row_here "_law_row_here" = true) (k__law_row_here : PySem.W.keepIn K (.ref f__law_row_here) = true)
    {f__law_names : Addr} (a__law_names : PySem.W.nsIn K mainGlobals "_law_names" = some (some (.ref f__law_names)))
    {od__law_names an__law_names : Option Addr} {sl__law_names : Array (Option Value)} {oc__law_names kV__law_names dc__law_names pm__law_names cd__law_names ct__law_names : Value} (l__law_names : K.lookup f__law_names = some ⟨oc__law_names, od__law_names, .func (PySem.W.fnOf "_law_names" "_law_names" (defArgs S__law_names) (defBody S__law_names) (defScope S__law_names) .none kV__law_names dc__law_names pm__law_names an__law_names cd__law_names ct__law_names), sl__law_names⟩) (i__law_names : PySem.W.codeIn K cd__law_names "_law_names" = true) (k__law_names : PySem.W.keepIn K (.ref f__law_names) = true)
    {f__law_step_named : Addr} (a__law_step_named : PySem.W.nsIn K mainGlobals "_law_step_named" = some (some (.ref f__law_step_named)))
    {od__law_step_named an__law_step_named : Option Addr} {sl__law_step_named : Array (Option Value)} {oc__law_step_named kV__law_step_named dc__law_step_named pm__law_step_named cd__law_step_named ct__law_step_named : Value} (l__law_step_named : K.lookup f__law_step_named = some ⟨oc__law_step_named, od__law_step_named, .func (PySem.W.fnOf "_law_step_named" "_law_step_named" (defArgs S__law_step_named) (defBody S__law_step_named) (defScope S__law_step_named) .none kV__law_step_named dc__law_step_named pm__law_step_named an__law_step_named cd__law_step_named ct__law_step_named), sl__law_step_named⟩) (i__law_step_named : PySem.W.codeIn K cd__law_step_named "_law_step_named" = true) (k__law_step_named : PySem.W.keepIn K (.ref f__law_step_named) = true)
    {f__law_next : Addr} (a__law_next : PySem.W.nsIn K mainGlobals "_law_next" = some (some (.ref f__law_next)))
    {od__law_next an__law_next : Option Addr} {sl__law_next : Array (Option Value)} {oc__law_next kV__law_next dc__law_next pm__law_next cd__law_next ct__law_next : Value} (l__law_next : K.lookup f__law_next = some ⟨oc__law_next, od__law_next, .func (PySem.W.fnOf "_law_next" "_law_next" (defArgs S__law_next) (defBody S__law_next) (defScope S__law_next) .none kV__law_next dc__law_next pm__law_next an__law_next cd__law_next ct__law_next), sl__law_next⟩) (i__law_next : PySem.W.codeIn K cd__law_next "_law_next" = true) (k__law_next : PySem.W.keepIn K (.ref f__law_next) = true)
    {f__law_going_right : Addr} (a__law_going_right : PySem.W.nsIn K mainGlobals "_law_going_right" = some (some (.ref f__law_going_right)))
    {od__law_going_right an__law_going_right : Option Addr} {sl__law_going_right : Array (Option Value)} {oc__law_going_right kV__law_going_right dc__law_going_right pm__law_going_right cd__law_going_right ct__law_going_right : Value} (l__law_going_right : K.lookup f__law_going_right = some ⟨oc__law_going_right, od__law_going_right, .func (PySem.W.fnOf "_law_going_right" "_law_going_right" (defArgs S__law_going_right) (defBody S__law_going_right) (defScope S__law_going_right) .none kV__law_going_right dc__law_going_right pm__law_going_right an__law_going_right cd__law_going_right ct__law_going_right), sl__law_going_right⟩) (i__law_going_right : PySem.W.codeIn K cd__law_going_right "_law_going_right" = true) (k__law_going_right : PySem.W.keepIn K (.ref f__law_going_right) = true)
    {f_law : Addr} (a_law : PySem.W.nsIn K mainGlobals "law" = some (some (.ref f_law)))
    {od_law an_law : Option Addr} {sl_law : Array (Option Value)} {oc_law kV_law dc_law pm_law cd_law ct_law : Value} (l_law : K.lookup f_law = some ⟨oc_law, od_law, .func (PySem.W.fnOf "law" "law" (defArgs S_law) (defBody S_law) (defScope S_law) .none kV_law dc_law pm_law an_law cd_law ct_law), sl_law⟩) (i_law : PySem.W.codeIn K cd_law "law" = true) (k_law : PySem.W.keepIn K (.ref f_law) = true)
    {f_Row___init__ t0_Row___init__ tt_Row___init__ : Addr} {dd_Row___init__ dt_Row___init__ : Option Addr} {ct_Row___init__2 : Value} {sl0_Row___init__ slt_Row___init__ : Array (Option Value)} {n0_Row___init__ nt_Row___init__ : Nat} (a_Row___init__ : PySem.W.findIn K (.ref C_Row) "__init__" = some (some (.ref f_Row___init__))) (y_Row___init__ : PySem.W.isFn K (.ref f_Row___init__) = true) (mk_Row___init__ : PySem.W.makesIn K C_Row = true) (kc_Row___init__ : PySem.W.keepIn K (.ref C_Row) = true)
    {od_Row___init__ an_Row___init__ : Option Addr} {sl_Row___init__ : Array (Option Value)} {oc_Row___init__ kV_Row___init__ dc_Row___init__ pm_Row___init__ cd_Row___init__ ct_Row___init__ : Value} (l_Row___init__ : K.lookup f_Row___init__ = some ⟨oc_Row___init__, od_Row___init__, .func (PySem.W.fnOf "__init__" "Row.__init__" (defArgs S_Row___init__) (defBody S_Row___init__) (defScope S_Row___init__) (.ref tt_Row___init__) kV_Row___init__ dc_Row___init__ pm_Row___init__ an_Row___init__ cd_Row___init__ ct_Row___init__), sl_Row___init__⟩) (i_Row___init__ : PySem.W.codeIn K cd_Row___init__ "Row.__init__" = true) (k_Row___init__ : PySem.W.keepIn K (.ref f_Row___init__) = true)
    (u_Row___init__ : K.lookup tt_Row___init__ = some ⟨ct_Row___init__2, dt_Row___init__, .seq #[.ref t0_Row___init__] nt_Row___init__, slt_Row___init__⟩) (t_Row___init__ : K.lookup t0_Row___init__ = some ⟨.type "tuple", dd_Row___init__, .seq #[] n0_Row___init__, sl0_Row___init__⟩)
    {f_Row_places p_Row_places : Addr} {rest_Row_places : List Value} (a_Row_places : PySem.W.findIn K (.ref C_Row) "places" = some (some (.ref p_Row_places))) (gg_Row_places : PySem.W.specialIn K (.ref p_Row_places) "__get__" = some (some (.builtin "property.__get__"))) (tk_Row_places : PySem.W.takesIn K (.ref p_Row_places) = some true) (rc_Row_places : PySem.W.recIn K p_Row_places "property" = some (.ref f_Row_places :: rest_Row_places))
    {od_Row_places an_Row_places : Option Addr} {sl_Row_places : Array (Option Value)} {oc_Row_places kV_Row_places dc_Row_places pm_Row_places cd_Row_places ct_Row_places : Value} (l_Row_places : K.lookup f_Row_places = some ⟨oc_Row_places, od_Row_places, .func (PySem.W.fnOf "places" "Row.places" (defArgs S_Row_places) (defBody S_Row_places) (defScope S_Row_places) .none kV_Row_places dc_Row_places pm_Row_places an_Row_places cd_Row_places ct_Row_places), sl_Row_places⟩) (i_Row_places : PySem.W.codeIn K cd_Row_places "Row.places" = true) (k_Row_places : PySem.W.keepIn K (.ref f_Row_places) = true)
    {f_Row_steps p_Row_steps : Addr} {rest_Row_steps : List Value} (a_Row_steps : PySem.W.findIn K (.ref C_Row) "steps" = some (some (.ref p_Row_steps))) (gg_Row_steps : PySem.W.specialIn K (.ref p_Row_steps) "__get__" = some (some (.builtin "property.__get__"))) (tk_Row_steps : PySem.W.takesIn K (.ref p_Row_steps) = some true) (rc_Row_steps : PySem.W.recIn K p_Row_steps "property" = some (.ref f_Row_steps :: rest_Row_steps))
    {od_Row_steps an_Row_steps : Option Addr} {sl_Row_steps : Array (Option Value)} {oc_Row_steps kV_Row_steps dc_Row_steps pm_Row_steps cd_Row_steps ct_Row_steps : Value} (l_Row_steps : K.lookup f_Row_steps = some ⟨oc_Row_steps, od_Row_steps, .func (PySem.W.fnOf "steps" "Row.steps" (defArgs S_Row_steps) (defBody S_Row_steps) (defScope S_Row_steps) .none kV_Row_steps dc_Row_steps pm_Row_steps an_Row_steps cd_Row_steps ct_Row_steps), sl_Row_steps⟩) (i_Row_steps : PySem.W.codeIn K cd_Row_steps "Row.steps" = true) (k_Row_steps : PySem.W.keepIn K (.ref f_Row_steps) = true)
    {f_Row_exchanges p_Row_exchanges : Addr} {rest_Row_exchanges : List Value} (a_Row_exchanges : PySem.W.findIn K (.ref C_Row) "exchanges" = some (some (.ref p_Row_exchanges))) (gg_Row_exchanges : PySem.W.specialIn K (.ref p_Row_exchanges) "__get__" = some (some (.builtin "property.__get__"))) (tk_Row_exchanges : PySem.W.takesIn K (.ref p_Row_exchanges) = some true) (rc_Row_exchanges : PySem.W.recIn K p_Row_exchanges "property" = some (.ref f_Row_exchanges :: rest_Row_exchanges))
    {od_Row_exchanges an_Row_exchanges : Option Addr} {sl_Row_exchanges : Array (Option Value)} {oc_Row_exchanges kV_Row_exchanges dc_Row_exchanges pm_Row_exchanges cd_Row_exchanges ct_Row_exchanges : Value} (l_Row_exchanges : K.lookup f_Row_exchanges = some ⟨oc_Row_exchanges, od_Row_exchanges, .func (PySem.W.fnOf "exchanges" "Row.exchanges" (defArgs S_Row_exchanges) (defBody S_Row_exchanges) (defScope S_Row_exchanges) .none kV_Row_exchanges dc_Row_exchanges pm_Row_exchanges an_Row_exchanges cd_Row_exchanges ct_Row_exchanges), sl_Row_exchanges⟩) (i_Row_exchanges : PySem.W.codeIn K cd_Row_exchanges "Row.exchanges" = true) (k_Row_exchanges : PySem.W.keepIn K (.ref f_Row_exchanges) = true)
    {f_Row_deed p_Row_deed : Addr} {rest_Row_deed : List Value} (a_Row_deed : PySem.W.findIn K (.ref C_Row) "deed" = some (some (.ref p_Row_deed))) (gg_Row_deed : PySem.W.specialIn K (.ref p_Row_deed) "__get__" = some (some (.builtin "property.__get__"))) (tk_Row_deed : PySem.W.takesIn K (.ref p_Row_deed) = some true) (rc_Row_deed : PySem.W.recIn K p_Row_deed "property" = some (.ref f_Row_deed :: rest_Row_deed))
    {od_Row_deed an_Row_deed : Option Addr} {sl_Row_deed : Array (Option Value)} {oc_Row_deed kV_Row_deed dc_Row_deed pm_Row_deed cd_Row_deed ct_Row_deed : Value} (l_Row_deed : K.lookup f_Row_deed = some ⟨oc_Row_deed, od_Row_deed, .func (PySem.W.fnOf "deed" "Row.deed" (defArgs S_Row_deed) (defBody S_Row_deed) (defScope S_Row_deed) .none kV_Row_deed dc_Row_deed pm_Row_deed an_Row_deed cd_Row_deed ct_Row_deed), sl_Row_deed⟩) (i_Row_deed : PySem.W.codeIn K cd_Row_deed "Row.deed" = true) (k_Row_deed : PySem.W.keepIn K (.ref f_Row_deed) = true)
    {f_Row_path : Addr} (a_Row_path : PySem.W.findIn K (.ref C_Row) "path" = some (some (.ref f_Row_path))) (y_Row_path : PySem.W.isFn K (.ref f_Row_path) = true)
    {od_Row_path an_Row_path : Option Addr} {sl_Row_path : Array (Option Value)} {oc_Row_path kV_Row_path dc_Row_path pm_Row_path cd_Row_path ct_Row_path : Value} (l_Row_path : K.lookup f_Row_path = some ⟨oc_Row_path, od_Row_path, .func (PySem.W.fnOf "path" "Row.path" (defArgs S_Row_path) (defBody S_Row_path) (defScope S_Row_path) .none kV_Row_path dc_Row_path pm_Row_path an_Row_path cd_Row_path ct_Row_path), sl_Row_path⟩) (i_Row_path : PySem.W.codeIn K cd_Row_path "Row.path" = true) (k_Row_path : PySem.W.keepIn K (.ref f_Row_path) = true)
    {f_Row_with_step : Addr} (a_Row_with_step : PySem.W.findIn K (.ref C_Row) "with_step" = some (some (.ref f_Row_with_step))) (y_Row_with_step : PySem.W.isFn K (.ref f_Row_with_step) = true)
    {od_Row_with_step an_Row_with_step : Option Addr} {sl_Row_with_step : Array (Option Value)} {oc_Row_with_step kV_Row_with_step dc_Row_with_step pm_Row_with_step cd_Row_with_step ct_Row_with_step : Value} (l_Row_with_step : K.lookup f_Row_with_step = some ⟨oc_Row_with_step, od_Row_with_step, .func (PySem.W.fnOf "with_step" "Row.with_step" (defArgs S_Row_with_step) (defBody S_Row_with_step) (defScope S_Row_with_step) .none kV_Row_with_step dc_Row_with_step pm_Row_with_step an_Row_with_step cd_Row_with_step ct_Row_with_step), sl_Row_with_step⟩) (i_Row_with_step : PySem.W.codeIn K cd_Row_with_step "Row.with_step" = true) (k_Row_with_step : PySem.W.keepIn K (.ref f_Row_with_step) = true)
    {f_Row_without_step : Addr} (a_Row_without_step : PySem.W.findIn K (.ref C_Row) "without_step" = some (some (.ref f_Row_without_step))) (y_Row_without_step : PySem.W.isFn K (.ref f_Row_without_step) = true)
    {od_Row_without_step an_Row_without_step : Option Addr} {sl_Row_without_step : Array (Option Value)} {oc_Row_without_step kV_Row_without_step dc_Row_without_step pm_Row_without_step cd_Row_without_step ct_Row_without_step : Value} (l_Row_without_step : K.lookup f_Row_without_step = some ⟨oc_Row_without_step, od_Row_without_step, .func (PySem.W.fnOf "without_step" "Row.without_step" (defArgs S_Row_without_step) (defBody S_Row_without_step) (defScope S_Row_without_step) .none kV_Row_without_step dc_Row_without_step pm_Row_without_step an_Row_without_step cd_Row_without_step ct_Row_without_step), sl_Row_without_step⟩) (i_Row_without_step : PySem.W.codeIn K cd_Row_without_step "Row.without_step" = true) (k_Row_without_step : PySem.W.keepIn K (.ref f_Row_without_step) = true)
    {f_Row_part : Addr} (a_Row_part : PySem.W.findIn K (.ref C_Row) "part" = some (some (.ref f_Row_part))) (y_Row_part : PySem.W.isFn K (.ref f_Row_part) = true)
    {od_Row_part an_Row_part : Option Addr} {sl_Row_part : Array (Option Value)} {oc_Row_part kV_Row_part dc_Row_part pm_Row_part cd_Row_part ct_Row_part : Value} (l_Row_part : K.lookup f_Row_part = some ⟨oc_Row_part, od_Row_part, .func (PySem.W.fnOf "part" "Row.part" (defArgs S_Row_part) (defBody S_Row_part) (defScope S_Row_part) .none kV_Row_part dc_Row_part pm_Row_part an_Row_part cd_Row_part ct_Row_part), sl_Row_part⟩) (i_Row_part : PySem.W.codeIn K cd_Row_part "Row.part" = true) (k_Row_part : PySem.W.keepIn K (.ref f_Row_part) = true)
    {f_Row_backwards : Addr} (a_Row_backwards : PySem.W.findIn K (.ref C_Row) "backwards" = some (some (.ref f_Row_backwards))) (y_Row_backwards : PySem.W.isFn K (.ref f_Row_backwards) = true)
    {od_Row_backwards an_Row_backwards : Option Addr} {sl_Row_backwards : Array (Option Value)} {oc_Row_backwards kV_Row_backwards dc_Row_backwards pm_Row_backwards cd_Row_backwards ct_Row_backwards : Value} (l_Row_backwards : K.lookup f_Row_backwards = some ⟨oc_Row_backwards, od_Row_backwards, .func (PySem.W.fnOf "backwards" "Row.backwards" (defArgs S_Row_backwards) (defBody S_Row_backwards) (defScope S_Row_backwards) .none kV_Row_backwards dc_Row_backwards pm_Row_backwards an_Row_backwards cd_Row_backwards ct_Row_backwards), sl_Row_backwards⟩) (i_Row_backwards : PySem.W.codeIn K cd_Row_backwards "Row.backwards" = true) (k_Row_backwards : PySem.W.keepIn K (.ref f_Row_backwards) = true)
    {f_Row_renamed : Addr} (a_Row_renamed : PySem.W.findIn K (.ref C_Row) "renamed" = some (some (.ref f_Row_renamed))) (y_Row_renamed : PySem.W.isFn K (.ref f_Row_renamed) = true)
    {od_Row_renamed an_Row_renamed : Option Addr} {sl_Row_renamed : Array (Option Value)} {oc_Row_renamed kV_Row_renamed dc_Row_renamed pm_Row_renamed cd_Row_renamed ct_Row_renamed : Value} (l_Row_renamed : K.lookup f_Row_renamed = some ⟨oc_Row_renamed, od_Row_renamed, .func (PySem.W.fnOf "renamed" "Row.renamed" (defArgs S_Row_renamed) (defBody S_Row_renamed) (defScope S_Row_renamed) .none kV_Row_renamed dc_Row_renamed pm_Row_renamed an_Row_renamed cd_Row_renamed ct_Row_renamed), sl_Row_renamed⟩) (i_Row_renamed : PySem.W.codeIn K cd_Row_renamed "Row.renamed" = true) (k_Row_renamed : PySem.W.keepIn K (.ref f_Row_renamed) = true)
    {f_Row_owned : Addr} (a_Row_owned : PySem.W.findIn K (.ref C_Row) "owned" = some (some (.ref f_Row_owned))) (y_Row_owned : PySem.W.isFn K (.ref f_Row_owned) = true)
    {od_Row_owned an_Row_owned : Option Addr} {sl_Row_owned : Array (Option Value)} {oc_Row_owned kV_Row_owned dc_Row_owned pm_Row_owned cd_Row_owned ct_Row_owned : Value} (l_Row_owned : K.lookup f_Row_owned = some ⟨oc_Row_owned, od_Row_owned, .func (PySem.W.fnOf "owned" "Row.owned" (defArgs S_Row_owned) (defBody S_Row_owned) (defScope S_Row_owned) .none kV_Row_owned dc_Row_owned pm_Row_owned an_Row_owned cd_Row_owned ct_Row_owned), sl_Row_owned⟩) (i_Row_owned : PySem.W.codeIn K cd_Row_owned "Row.owned" = true) (k_Row_owned : PySem.W.keepIn K (.ref f_Row_owned) = true)
    {f_Row_wider : Addr} (a_Row_wider : PySem.W.findIn K (.ref C_Row) "wider" = some (some (.ref f_Row_wider))) (y_Row_wider : PySem.W.isFn K (.ref f_Row_wider) = true)
    {od_Row_wider an_Row_wider : Option Addr} {sl_Row_wider : Array (Option Value)} {oc_Row_wider kV_Row_wider dc_Row_wider pm_Row_wider cd_Row_wider ct_Row_wider : Value} (l_Row_wider : K.lookup f_Row_wider = some ⟨oc_Row_wider, od_Row_wider, .func (PySem.W.fnOf "wider" "Row.wider" (defArgs S_Row_wider) (defBody S_Row_wider) (defScope S_Row_wider) .none kV_Row_wider dc_Row_wider pm_Row_wider an_Row_wider cd_Row_wider ct_Row_wider), sl_Row_wider⟩) (i_Row_wider : PySem.W.codeIn K cd_Row_wider "Row.wider" = true) (k_Row_wider : PySem.W.keepIn K (.ref f_Row_wider) = true)
    {f_Row___add__ : Addr} (a_Row___add__ : PySem.W.findIn K (.ref C_Row) "__add__" = some (some (.ref f_Row___add__))) (y_Row___add__ : PySem.W.isFn K (.ref f_Row___add__) = true)
    {od_Row___add__ an_Row___add__ : Option Addr} {sl_Row___add__ : Array (Option Value)} {oc_Row___add__ kV_Row___add__ dc_Row___add__ pm_Row___add__ cd_Row___add__ ct_Row___add__ : Value} (l_Row___add__ : K.lookup f_Row___add__ = some ⟨oc_Row___add__, od_Row___add__, .func (PySem.W.fnOf "__add__" "Row.__add__" (defArgs S_Row___add__) (defBody S_Row___add__) (defScope S_Row___add__) .none kV_Row___add__ dc_Row___add__ pm_Row___add__ an_Row___add__ cd_Row___add__ ct_Row___add__), sl_Row___add__⟩) (i_Row___add__ : PySem.W.codeIn K cd_Row___add__ "Row.__add__" = true) (k_Row___add__ : PySem.W.keepIn K (.ref f_Row___add__) = true)
    {f_Row___eq__ : Addr} (a_Row___eq__ : PySem.W.findIn K (.ref C_Row) "__eq__" = some (some (.ref f_Row___eq__))) (y_Row___eq__ : PySem.W.isFn K (.ref f_Row___eq__) = true)
    {od_Row___eq__ an_Row___eq__ : Option Addr} {sl_Row___eq__ : Array (Option Value)} {oc_Row___eq__ kV_Row___eq__ dc_Row___eq__ pm_Row___eq__ cd_Row___eq__ ct_Row___eq__ : Value} (l_Row___eq__ : K.lookup f_Row___eq__ = some ⟨oc_Row___eq__, od_Row___eq__, .func (PySem.W.fnOf "__eq__" "Row.__eq__" (defArgs S_Row___eq__) (defBody S_Row___eq__) (defScope S_Row___eq__) .none kV_Row___eq__ dc_Row___eq__ pm_Row___eq__ an_Row___eq__ cd_Row___eq__ ct_Row___eq__), sl_Row___eq__⟩) (i_Row___eq__ : PySem.W.codeIn K cd_Row___eq__ "Row.__eq__" = true) (k_Row___eq__ : PySem.W.keepIn K (.ref f_Row___eq__) = true) :
    ∃ fd : FuncData, (∀ (s : Shared) (v : Value), BindsTo s fd ⟨[v], []⟩ [("script", v)]) ∧ ∀ base : Heap, K.In base → base.Ns mainGlobals mg → FnG l.prog w K mg base CX0 12 fa fd ["script"] (sp_law0 K) := by
  have e := hfa.symm.trans (PySem.W.mg_of X G a_law)
  cases e
  have T : Tx K mg C_Row := ⟨PySem.W.mg_none_of X G z_abs, PySem.W.mg_none_of X G z_all, PySem.W.mg_none_of X G z_bool, PySem.W.mg_none_of X G z_int, PySem.W.mg_none_of X G z_isinstance, PySem.W.mg_none_of X G z_len, PySem.W.mg_none_of X G z_list, PySem.W.mg_none_of X G z_max, PySem.W.mg_none_of X G z_min, PySem.W.mg_none_of X G z_range, PySem.W.mg_none_of X G z_repr, PySem.W.mg_none_of X G z_sorted, PySem.W.mg_none_of X G z_str, PySem.W.mg_none_of X G z_tuple, PySem.W.mg_none_of X G z_zip, ⟨_, PySem.W.mg_of X G c_MAX_PLACES⟩, ⟨_, PySem.W.mg_of X G c_MAX_STEPS⟩, ⟨_, PySem.W.mg_of X G c__TOO_LONG⟩, PySem.W.mg_of X G k_Row, ⟨pg_Row, hd_Row, po_Row, sa_Row⟩, na_Row__places, na_Row__steps, ⟨ia_Row, ib_Row, id_Row, im_Row⟩, sf_Row, nq_Row, ⟨_, _, fun_mk (st := S_is_integer) l_is_integer i_is_integer k_is_integer, PySem.W.mg_of X G a_is_integer⟩, ⟨_, _, fun_mk (st := S_is_owner) l_is_owner i_is_owner k_is_owner, PySem.W.mg_of X G a_is_owner⟩, ⟨_, _, fun_mk (st := S_is_number_of_places) l_is_number_of_places i_is_number_of_places k_is_number_of_places, PySem.W.mg_of X G a_is_number_of_places⟩, ⟨_, _, fun_mk (st := S_is_below) l_is_below i_is_below k_is_below, PySem.W.mg_of X G a_is_below⟩, ⟨_, _, fun_mk (st := S_check_number) l_check_number i_check_number k_check_number, PySem.W.mg_of X G a_check_number⟩, ⟨_, _, fun_mk (st := S_check_places) l_check_places i_check_places k_check_places, PySem.W.mg_of X G a_check_places⟩, ⟨_, _, fun_mk (st := S_is_exchange) l_is_exchange i_is_exchange k_is_exchange, PySem.W.mg_of X G a_is_exchange⟩, ⟨_, _, fun_mk (st := S_is_step) l_is_step i_is_step k_is_step, PySem.W.mg_of X G a_is_step⟩, ⟨_, _, fun_mk (st := S_place_behind) l_place_behind i_place_behind k_place_behind, PySem.W.mg_of X G a_place_behind⟩, ⟨_, _, fun_mk (st := S_is_deed) l_is_deed i_is_deed k_is_deed, PySem.W.mg_of X G a_is_deed⟩, ⟨_, _, fun_mk (st := S__are_steps) l__are_steps i__are_steps k__are_steps, PySem.W.mg_of X G a__are_steps⟩, ⟨_, _, fun_mk (st := S__step_named) l__step_named i__step_named k__step_named, PySem.W.mg_of X G a__step_named⟩, ⟨_, _, fun_mk (st := S__law_dice) l__law_dice i__law_dice k__law_dice, PySem.W.mg_of X G a__law_dice⟩, ⟨_, _, fun_mk (st := S__law_roll) l__law_roll i__law_roll k__law_roll, PySem.W.mg_of X G a__law_roll⟩, ⟨_, _, fun_mk (st := S__law_pick) l__law_pick i__law_pick k__law_pick, PySem.W.mg_of X G a__law_pick⟩, ⟨_, _, fun_mk (st := S__law_mixed) l__law_mixed i__law_mixed k__law_mixed, PySem.W.mg_of X G a__law_mixed⟩, ⟨_, _, fun_mk (st := S__law_exchange) l__law_exchange i__law_exchange k__law_exchange, PySem.W.mg_of X G a__law_exchange⟩, ⟨_, _, fun_mk (st := S__law_drawn_steps) l__law_drawn_steps i__law_drawn_steps k__law_drawn_steps, PySem.W.mg_of X G a__law_drawn_steps⟩, ⟨_, _, fun_mk (st := S__law_small) l__law_small i__law_small k__law_small, PySem.W.mg_of X G a__law_small⟩, ⟨_, _, fun_mk (st := S__law_great) l__law_great i__law_great k__law_great, PySem.W.mg_of X G a__law_great⟩, ⟨_, _, fun_mk (st := S__law_deed) l__law_deed i__law_deed k__law_deed, PySem.W.mg_of X G a__law_deed⟩, ⟨_, _, fun_mk (st := S__law_made_row) l__law_made_row i__law_made_row k__law_made_row, PySem.W.mg_of X G a__law_made_row⟩, ⟨_, _, fun_mk (st := S__law_row_here) l__law_row_here i__law_row_here k__law_row_here, PySem.W.mg_of X G a__law_row_here⟩, ⟨_, _, fun_mk (st := S__law_names) l__law_names i__law_names k__law_names, PySem.W.mg_of X G a__law_names⟩, ⟨_, _, fun_mk (st := S__law_step_named) l__law_step_named i__law_step_named k__law_step_named, PySem.W.mg_of X G a__law_step_named⟩, ⟨_, _, fun_mk (st := S__law_next) l__law_next i__law_next k__law_next, PySem.W.mg_of X G a__law_next⟩, ⟨_, _, fun_mk (st := S__law_going_right) l__law_going_right i__law_going_right k__law_going_right, PySem.W.mg_of X G a__law_going_right⟩, ⟨_, _, t0_Row___init__, ⟨⟨_, _, _, _, _, _, _, _, _, _, rfl, l_Row___init__, i_Row___init__, Or.inr ⟨by simp, tt_Row___init__, _, [.ref t0_Row___init__], _, rfl, u_Row___init__, rfl, .cons (show RelV (.ref t0_Row___init__) (.ref t0_Row___init__) from rfl) .nil⟩, Or.inl rfl⟩, k_Row___init__⟩, ⟨mk_Row___init__, a_Row___init__, y_Row___init__, kc_Row___init__⟩, _, _, _, t_Row___init__⟩, ⟨_, _, _, fun_mk (st := S_Row_places) l_Row_places i_Row_places k_Row_places, a_Row_places, gg_Row_places, tk_Row_places, _, rc_Row_places⟩, ⟨_, _, _, fun_mk (st := S_Row_steps) l_Row_steps i_Row_steps k_Row_steps, a_Row_steps, gg_Row_steps, tk_Row_steps, _, rc_Row_steps⟩, ⟨_, _, _, fun_mk (st := S_Row_exchanges) l_Row_exchanges i_Row_exchanges k_Row_exchanges, a_Row_exchanges, gg_Row_exchanges, tk_Row_exchanges, _, rc_Row_exchanges⟩, ⟨_, _, _, fun_mk (st := S_Row_deed) l_Row_deed i_Row_deed k_Row_deed, a_Row_deed, gg_Row_deed, tk_Row_deed, _, rc_Row_deed⟩, ⟨_, _, fun_mk (st := S_Row_path) l_Row_path i_Row_path k_Row_path, a_Row_path, y_Row_path, k_Row_path⟩, ⟨_, _, fun_mk (st := S_Row_with_step) l_Row_with_step i_Row_with_step k_Row_with_step, a_Row_with_step, y_Row_with_step, k_Row_with_step⟩, ⟨_, _, fun_mk (st := S_Row_without_step) l_Row_without_step i_Row_without_step k_Row_without_step, a_Row_without_step, y_Row_without_step, k_Row_without_step⟩, ⟨_, _, fun_mk (st := S_Row_part) l_Row_part i_Row_part k_Row_part, a_Row_part, y_Row_part, k_Row_part⟩, ⟨_, _, fun_mk (st := S_Row_backwards) l_Row_backwards i_Row_backwards k_Row_backwards, a_Row_backwards, y_Row_backwards, k_Row_backwards⟩, ⟨_, _, fun_mk (st := S_Row_renamed) l_Row_renamed i_Row_renamed k_Row_renamed, a_Row_renamed, y_Row_renamed, k_Row_renamed⟩, ⟨_, _, fun_mk (st := S_Row_owned) l_Row_owned i_Row_owned k_Row_owned, a_Row_owned, y_Row_owned, k_Row_owned⟩, ⟨_, _, fun_mk (st := S_Row_wider) l_Row_wider i_Row_wider k_Row_wider, a_Row_wider, y_Row_wider, k_Row_wider⟩, ⟨_, _, fun_mk (st := S_Row___add__) l_Row___add__ i_Row___add__ k_Row___add__, a_Row___add__, y_Row___add__, k_Row___add__⟩, ⟨_, _, fun_mk (st := S_Row___eq__) l_Row___eq__ i_Row___eq__ k_Row___eq__, a_Row___eq__, y_Row___eq__, k_Row___eq__⟩⟩
  exact ⟨PySem.W.fnOf "law" "law" (defArgs S_law) (defBody S_law) (defScope S_law) .none kV_law dc_law pm_law an_law cd_law ct_law, fun s v => .of_eq rfl, fun base _ _ => fnG_of (fun_mk (st := S_law) l_law i_law k_law) sc_law len_law (fun cd B l s H vs Q E hg hr h => wB_nox (b_law ⟨rfl, sc_law.nd, rfl, rfl, hr, PassesOwn.never⟩ (fun _ => rfl) hg T h))⟩

end K11
open PySem PySem.W PyProof.Rows
set_option maxRecDepth 100000 in
set_option maxHeartbeats 0 in
theorem PySem.Challenge.cw_renamedown_k11_whole_rows_changed_holds : PySem.Challenge.rw_renamedown_k11_whole_rows_changed.Holds := by
  w_on; o_law; k_head; (case hw => w_witness2)
  k_fill
  refine WX.walkG (l := PySem.Challenge.rw_renamedown_k11_whole_rows_changed) (n := 63) (k := 12) (x := "script") (sp := fun K => K11.sp_law0 K) rfl (by decide) rfl ⟨rfl, by decide, by decide⟩ (fun w h Y => PySem.W.kIn_of Y) ?F (fun _ _ a ns hl hS => ⟨a, rfl, ns, hS, hl, fun _ => rfl⟩)
  case F =>
    intro w mg fa h KX G hmg
    refine' K11.all_mk KX G hmg ?z_abs ?z_all ?z_bool ?z_int ?z_isinstance ?z_len ?z_list ?z_max ?z_min ?z_range ?z_repr ?z_sorted ?z_str ?z_tuple ?z_zip ?c_MAX_PLACES ?c_MAX_STEPS ?c__TOO_LONG ?k_Row ?pg_Row ?hd_Row ?po_Row ?sa_Row ?na_Row__places ?na_Row__steps ?ia_Row ?ib_Row ?id_Row ?im_Row ?sf_Row ?nq_Row ?a_is_integer ?l_is_integer ?i_is_integer ?k_is_integer ?a_is_owner ?l_is_owner ?i_is_owner ?k_is_owner ?a_is_number_of_places ?l_is_number_of_places ?i_is_number_of_places ?k_is_number_of_places ?a_is_below ?l_is_below ?i_is_below ?k_is_below ?a_check_number ?l_check_number ?i_check_number ?k_check_number ?a_check_places ?l_check_places ?i_check_places ?k_check_places ?a_is_exchange ?l_is_exchange ?i_is_exchange ?k_is_exchange ?a_is_step ?l_is_step ?i_is_step ?k_is_step ?a_place_behind ?l_place_behind ?i_place_behind ?k_place_behind ?a_is_deed ?l_is_deed ?i_is_deed ?k_is_deed ?a__are_steps ?l__are_steps ?i__are_steps ?k__are_steps ?a__step_named ?l__step_named ?i__step_named ?k__step_named ?a__law_dice ?l__law_dice ?i__law_dice ?k__law_dice ?a__law_roll ?l__law_roll ?i__law_roll ?k__law_roll ?a__law_pick ?l__law_pick ?i__law_pick ?k__law_pick ?a__law_mixed ?l__law_mixed ?i__law_mixed ?k__law_mixed ?a__law_exchange ?l__law_exchange ?i__law_exchange ?k__law_exchange ?a__law_drawn_steps ?l__law_drawn_steps ?i__law_drawn_steps ?k__law_drawn_steps ?a__law_small ?l__law_small ?i__law_small ?k__law_small ?a__law_great ?l__law_great ?i__law_great ?k__law_great ?a__law_deed ?l__law_deed ?i__law_deed ?k__law_deed ?a__law_made_row ?l__law_made_row ?i__law_made_row ?k__law_made_row ?a__law_row_here ?l__law_row_here ?i__law_row_here ?k__law_row_here ?a__law_names ?l__law_names ?i__law_names ?k__law_names ?a__law_step_named ?l__law_step_named ?i__law_step_named ?k__law_step_named ?a__law_next ?l__law_next ?i__law_next ?k__law_next ?a__law_going_right ?l__law_going_right ?i__law_going_right ?k__law_going_right ?a_law ?l_law ?i_law ?k_law ?a_Row___init__ ?y_Row___init__ ?mk_Row___init__ ?kc_Row___init__ ?l_Row___init__ ?i_Row___init__ ?k_Row___init__ ?u_Row___init__ ?t_Row___init__ ?a_Row_places ?gg_Row_places ?tk_Row_places ?rc_Row_places ?l_Row_places ?i_Row_places ?k_Row_places ?a_Row_steps ?gg_Row_steps ?tk_Row_steps ?rc_Row_steps ?l_Row_steps ?i_Row_steps ?k_Row_steps ?a_Row_exchanges ?gg_Row_exchanges ?tk_Row_exchanges ?rc_Row_exchanges ?l_Row_exchanges ?i_Row_exchanges ?k_Row_exchanges ?a_Row_deed ?gg_Row_deed ?tk_Row_deed ?rc_Row_deed ?l_Row_deed ?i_Row_deed ?k_Row_deed ?a_Row_path ?y_Row_path ?l_Row_path ?i_Row_path ?k_Row_path ?a_Row_with_step ?y_Row_with_step ?l_Row_with_step ?i_Row_with_step ?k_Row_with_step ?a_Row_without_step ?y_Row_without_step ?l_Row_without_step ?i_Row_without_step ?k_Row_without_step ?a_Row_part ?y_Row_part ?l_Row_part ?i_Row_part ?k_Row_part ?a_Row_backwards ?y_Row_backwards ?l_Row_backwards ?i_Row_backwards ?k_Row_backwards ?a_Row_renamed ?y_Row_renamed ?l_Row_renamed ?i_Row_renamed ?k_Row_renamed ?a_Row_owned ?y_Row_owned ?l_Row_owned ?i_Row_owned ?k_Row_owned ?a_Row_wider ?y_Row_wider ?l_Row_wider ?i_Row_wider ?k_Row_wider ?a_Row___add__ ?y_Row___add__ ?l_Row___add__ ?i_Row___add__ ?k_Row___add__ ?a_Row___eq__ ?y_Row___eq__ ?l_Row___eq__ ?i_Row___eq__ ?k_Row___eq__
    (case z_abs => k_is); (case z_all => k_is); (case z_bool => k_is); (case z_int => k_is); (case z_isinstance => k_is); (case z_len => k_is); (case z_list => k_is); (case z_max => k_is); (case z_min => k_is); (case z_range => k_is); (case z_repr => k_is); (case z_sorted => k_is); (case z_str => k_is); (case z_tuple => k_is); (case z_zip => k_is); (case c_MAX_PLACES => k_is); (case c_MAX_STEPS => k_is); (case c__TOO_LONG => k_is); (case k_Row => k_is); (case pg_Row => k_is); (case hd_Row => k_is); (case po_Row => k_is); (case sa_Row => k_is); (case na_Row__places => k_is); (case na_Row__steps => k_is); (case ia_Row => k_is); (case ib_Row => k_is); (case id_Row => k_is); (case im_Row => k_is); (case sf_Row => k_is); (case nq_Row => k_is); (case a_is_integer => k_is); (case l_is_integer => k_is); (case i_is_integer => k_is); (case k_is_integer => k_is); (case a_is_owner => k_is); (case l_is_owner => k_is); (case i_is_owner => k_is); (case k_is_owner => k_is); (case a_is_number_of_places => k_is); (case l_is_number_of_places => k_is); (case i_is_number_of_places => k_is); (case k_is_number_of_places => k_is); (case a_is_below => k_is); (case l_is_below => k_is); (case i_is_below => k_is); (case k_is_below => k_is); (case a_check_number => k_is); (case l_check_number => k_is); (case i_check_number => k_is); (case k_check_number => k_is); (case a_check_places => k_is); (case l_check_places => k_is); (case i_check_places => k_is); (case k_check_places => k_is); (case a_is_exchange => k_is); (case l_is_exchange => k_is); (case i_is_exchange => k_is); (case k_is_exchange => k_is); (case a_is_step => k_is); (case l_is_step => k_is); (case i_is_step => k_is); (case k_is_step => k_is); (case a_place_behind => k_is); (case l_place_behind => k_is); (case i_place_behind => k_is); (case k_place_behind => k_is); (case a_is_deed => k_is); (case l_is_deed => k_is); (case i_is_deed => k_is); (case k_is_deed => k_is); (case a__are_steps => k_is); (case l__are_steps => k_is); (case i__are_steps => k_is); (case k__are_steps => k_is); (case a__step_named => k_is); (case l__step_named => k_is); (case i__step_named => k_is); (case k__step_named => k_is); (case a__law_dice => k_is); (case l__law_dice => k_is); (case i__law_dice => k_is); (case k__law_dice => k_is); (case a__law_roll => k_is); (case l__law_roll => k_is); (case i__law_roll => k_is); (case k__law_roll => k_is); (case a__law_pick => k_is); (case l__law_pick => k_is); (case i__law_pick => k_is); (case k__law_pick => k_is); (case a__law_mixed => k_is); (case l__law_mixed => k_is); (case i__law_mixed => k_is); (case k__law_mixed => k_is); (case a__law_exchange => k_is); (case l__law_exchange => k_is); (case i__law_exchange => k_is); (case k__law_exchange => k_is); (case a__law_drawn_steps => k_is); (case l__law_drawn_steps => k_is); (case i__law_drawn_steps => k_is); (case k__law_drawn_steps => k_is); (case a__law_small => k_is); (case l__law_small => k_is); (case i__law_small => k_is); (case k__law_small => k_is); (case a__law_great => k_is); (case l__law_great => k_is); (case i__law_great => k_is); (case k__law_great => k_is); (case a__law_deed => k_is); (case l__law_deed => k_is); (case i__law_deed => k_is); (case k__law_deed => k_is); (case a__law_made_row => k_is); (case l__law_made_row => k_is); (case i__law_made_row => k_is); (case k__law_made_row => k_is); (case a__law_row_here => k_is); (case l__law_row_here => k_is); (case i__law_row_here => k_is); (case k__law_row_here => k_is); (case a__law_names => k_is); (case l__law_names => k_is); (case i__law_names => k_is); (case k__law_names => k_is); (case a__law_step_named => k_is); (case l__law_step_named => k_is); (case i__law_step_named => k_is); (case k__law_step_named => k_is); (case a__law_next => k_is); (case l__law_next => k_is); (case i__law_next => k_is); (case k__law_next => k_is); (case a__law_going_right => k_is); (case l__law_going_right => k_is); (case i__law_going_right => k_is); (case k__law_going_right => k_is); (case a_law => k_is); (case l_law => k_is); (case i_law => k_is); (case k_law => k_is); (case a_Row___init__ => k_is); (case y_Row___init__ => k_is); (case mk_Row___init__ => k_is); (case kc_Row___init__ => k_is); (case l_Row___init__ => k_is); (case i_Row___init__ => k_is); (case k_Row___init__ => k_is); (case u_Row___init__ => k_is); (case t_Row___init__ => k_is); (case a_Row_places => k_is); (case gg_Row_places => k_is); (case tk_Row_places => k_is); (case rc_Row_places => k_is); (case l_Row_places => k_is); (case i_Row_places => k_is); (case k_Row_places => k_is); (case a_Row_steps => k_is); (case gg_Row_steps => k_is); (case tk_Row_steps => k_is); (case rc_Row_steps => k_is); (case l_Row_steps => k_is); (case i_Row_steps => k_is); (case k_Row_steps => k_is); (case a_Row_exchanges => k_is); (case gg_Row_exchanges => k_is); (case tk_Row_exchanges => k_is); (case rc_Row_exchanges => k_is); (case l_Row_exchanges => k_is); (case i_Row_exchanges => k_is); (case k_Row_exchanges => k_is); (case a_Row_deed => k_is); (case gg_Row_deed => k_is); (case tk_Row_deed => k_is); (case rc_Row_deed => k_is); (case l_Row_deed => k_is); (case i_Row_deed => k_is); (case k_Row_deed => k_is); (case a_Row_path => k_is); (case y_Row_path => k_is); (case l_Row_path => k_is); (case i_Row_path => k_is); (case k_Row_path => k_is); (case a_Row_with_step => k_is); (case y_Row_with_step => k_is); (case l_Row_with_step => k_is); (case i_Row_with_step => k_is); (case k_Row_with_step => k_is); (case a_Row_without_step => k_is); (case y_Row_without_step => k_is); (case l_Row_without_step => k_is); (case i_Row_without_step => k_is); (case k_Row_without_step => k_is); (case a_Row_part => k_is); (case y_Row_part => k_is); (case l_Row_part => k_is); (case i_Row_part => k_is); (case k_Row_part => k_is); (case a_Row_backwards => k_is); (case y_Row_backwards => k_is); (case l_Row_backwards => k_is); (case i_Row_backwards => k_is); (case k_Row_backwards => k_is); (case a_Row_renamed => k_is); (case y_Row_renamed => k_is); (case l_Row_renamed => k_is); (case i_Row_renamed => k_is); (case k_Row_renamed => k_is); (case a_Row_owned => k_is); (case y_Row_owned => k_is); (case l_Row_owned => k_is); (case i_Row_owned => k_is); (case k_Row_owned => k_is); (case a_Row_wider => k_is); (case y_Row_wider => k_is); (case l_Row_wider => k_is); (case i_Row_wider => k_is); (case k_Row_wider => k_is); (case a_Row___add__ => k_is); (case y_Row___add__ => k_is); (case l_Row___add__ => k_is); (case i_Row___add__ => k_is); (case k_Row___add__ => k_is); (case a_Row___eq__ => k_is); (case y_Row___eq__ => k_is); (case l_Row___eq__ => k_is); (case i_Row___eq__ => k_is); (case k_Row___eq__ => k_is)
