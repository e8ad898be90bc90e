import PyProof.Rows.All
import Wide.All
import OpenK.AllK
import Wide.FinOn
import HandS.ForMost
import HandS.ForExc
import HandS.Wide
import HandS.Zip
import HandS.Walk
import HandS.IsInst
import HandS.Flow
import HandS.TupAny
import HandS.Defaults
import HandS.Words
import HandS.SortKw
import HandS.StrMore
import HandS.ExcInit
import HandS.ExcField
import HandS.WordsExc
import HandS.Lambda
import KE.KExcIs
import HandS.HeadHook4
import HandS.HeadWalk
import HandS.Head2
import PyProof.Draws
import KE.GoesEnum
import HandS.Gcd
import HandS.TryMany
import HandS.Head3
import HandS.Style
import HandS.FStr
import HandS.Text
import HandS.More
import HandS.Replace
import HandS.HeadHook3
import HandS.CallLocal
import HandS.Strs
import HandS.Deep
import HandS.TupMul
import HandS.HotCalls
import HandS.Dict
import HandS.SetTxt0
import HandS.SetFor
import HandS.TryOnly
import HandS.RaiseMore
import HandS.RaiseFrom
import HandS.SuiteRaise
import HandS.ExcInitHot
import HandS.WideBits
import PyProof.StrOps2
import PySem.Challenge.RW_goodtill_k08_octets_that_are_no_event
set_option Elab.async false
set_option linter.all false
set_option maxRecDepth 100000
set_option maxHeartbeats 4000000
/-! A core of one's own over the hand layer: what an expression, a test, a block asks, whatever rule serves it; so a def's body is walked from the left, rule by rule. -/
namespace GT
open PySem PySem.Spec PyProof.Rows L2
/-! ### what is asked, whatever rule serves -/
structure RE (X : Cx) (e : Expr) (σ : L2.St) (H : Hp) (Q : VK) : Prop where
  ex : ∃ t, PE X e t ∧ t σ H Q
structure RT (X : Cx) (e : Expr) (σ : L2.St) (H : Hp) (Q : Bool → Hp → Prop) : Prop where
  ex : ∃ t, PT X e t ∧ t σ H Q
structure RW (X : Cx) (e : Expr) (σ : L2.St) (H : Hp) (Q : Bool → Hp → Prop) : Prop where
  ex : ∃ t, PW X e t ∧ t σ H Q
structure RA (X : Cx) (es : List Expr) (σ : L2.St) (H : Hp) (Q : List V → Hp → Prop) : Prop where
  ex : ∃ t, PA X es t ∧ t σ H Q
structure RS (X : Cx) (st : Stmt) (D : Ends) (σ : L2.St) (H : Hp) : Prop where
  ex : ∃ t, PS X st t ∧ t D σ H
structure RB (X : Cx) (st : List Stmt) (D : Ends) (σ : L2.St) (H : Hp) : Prop where
  ex : ∃ t, PSs X st t ∧ t D σ H
structure RO (X : Cx) (e : Option Expr) (σ : L2.St) (H : Hp) (Q : Option Int → Hp → Prop) : Prop where
  ex : ∃ t, PO X e t ∧ t σ H Q
section
variable {X : Cx} {σ : L2.St} {H : Hp}
theorem PE.self {e : Expr} : PE X e (RE X e) := ⟨fun pins s σ H Q I h => by obtain ⟨t, ht, q⟩ := h.ex; exact ht.run pins s σ H Q I q⟩
theorem PT.self {e : Expr} : PT X e (RT X e) := ⟨fun pins s σ H Q I h => by obtain ⟨t, ht, q⟩ := h.ex; exact ht.run pins s σ H Q I q⟩
theorem PW.self {e : Expr} : PW X e (RW X e) := ⟨fun wh pins s σ H Q I h => by obtain ⟨t, ht, q⟩ := h.ex; exact ht.run wh pins s σ H Q I q⟩
theorem PA.self {es : List Expr} : PA X es (RA X es) := ⟨fun pos pins s σ H Q I h => by obtain ⟨t, ht, q⟩ := h.ex; exact ht.run pos pins s σ H Q I q⟩
theorem PS.self {st : Stmt} : PS X st (RS X st) := ⟨fun pins s σ H D I h => by obtain ⟨t, ht, q⟩ := h.ex; exact ht.run pins s σ H D I q⟩
theorem PSs.self {st : List Stmt} : PSs X st (RB X st) := ⟨fun pins s σ H D I h => by obtain ⟨t, ht, q⟩ := h.ex; exact ht.run pins s σ H D I q⟩
theorem re_of {e : Expr} {t : TE} {Q : VK} (h : PE X e t) (q : t σ H Q) : RE X e σ H Q := ⟨⟨t, h, q⟩⟩
theorem rt_of {e : Expr} {t : TT} {Q : Bool → Hp → Prop} (h : PT X e t) (q : t σ H Q) : RT X e σ H Q := ⟨⟨t, h, q⟩⟩
theorem rw_of {e : Expr} {t : TT} {Q : Bool → Hp → Prop} (h : PW X e t) (q : t σ H Q) : RW X e σ H Q := ⟨⟨t, h, q⟩⟩
theorem ra_of {e : List Expr} {t : TA} {Q : List V → Hp → Prop} (h : PA X e t) (q : t σ H Q) : RA X e σ H Q := ⟨⟨t, h, q⟩⟩
theorem rs_of {st : Stmt} {t : TS} {D : Ends} (h : PS X st t) (q : t D σ H) : RS X st D σ H := ⟨⟨t, h, q⟩⟩
theorem rb_of {st : List Stmt} {t : TS} {D : Ends} (h : PSs X st t) (q : t D σ H) : RB X st D σ H := ⟨⟨t, h, q⟩⟩
/-! ### slots by name -/
inductive Slot : List Str → L2.St → Str → V → Prop
  | here {x : Str} {N : List Str} {v : V} {σ : L2.St} : Slot (x :: N) (some v :: σ) x v
  | there {x y : Str} {N : List Str} {v : V} {o : Option V} {σ : L2.St} (h : Slot N σ x v) : Slot (y :: N) (o :: σ) x v
inductive Put : List Str → L2.St → Str → V → L2.St → Prop
  | here {x : Str} {N : List Str} {v : V} {o : Option V} {σ : L2.St} : Put (x :: N) (o :: σ) x v (some v :: σ)
  | there {x y : Str} {N : List Str} {v : V} {o : Option V} {σ σ' : L2.St} (h : Put N σ x v σ') : Put (y :: N) (o :: σ) x v (o :: σ')
theorem Slot.ix {N : List Str} {σ : L2.St} {x : Str} {v : V} (h : Slot N σ x v) : ∃ i : Nat, N[i]? = some x ∧ σ[i]? = some (some v) := by
  induction h with
  | here => exact ⟨0, rfl, rfl⟩
  | there _ ih => obtain ⟨i, h1, h2⟩ := ih; exact ⟨i + 1, h1, h2⟩
theorem Put.ix {N : List Str} {σ σ' : L2.St} {x : Str} {v : V} (h : Put N σ x v σ') : ∃ i : Nat, N[i]? = some x ∧ σ' = σ.set i (some v) := by
  induction h with
  | here => exact ⟨0, rfl, rfl⟩
  | there _ ih => obtain ⟨i, h1, h2⟩ := ih; exact ⟨i + 1, h1, by rw [h2]; rfl⟩
/-- a name: the def's own local, the def's own captured by an inner one, one from around, a global -/
inductive KN where
  | loc | cell | cap | glob
  deriving DecidableEq
def knOf : NameKind → Option KN
  | .local => some .loc
  | .cell => some .cell
  | .free => some .cap
  | .globalImplicit => some .glob
  | _ => none
def knAll : List (Str × NameKind) → List (Str × KN)
  | [] => []
  | (x, j) :: r => match knOf j with
    | some m => (x, m) :: knAll r
    | none => knAll r
inductive Mine : KN → Prop
  | loc : Mine .loc
  | cell : Mine .cell
  | cap : Mine .cap
inductive Own : KN → Prop
  | loc : Own .loc
  | cell : Own .cell
def KnIs (X : Cx) (x : Str) : KN → Prop
  | .loc => X.env.scope.names.lookup x = some .local
  | .cell => X.env.scope.names.lookup x = some .cell ∧ X.fn x = true
  | .cap => X.env.scope.names.lookup x = some .cell ∨ X.env.scope.names.lookup x = some .free
  | .glob => X.env.scope.names.lookup x = some .globalImplicit
def okName (x : Str) : Bool := !(x == ("__debug__" : Str)) && !(x == ("__classdict__" : Str)) && !decide (x = "__name__")
/-- where one stands: the def's names by slot, the scope's names, the room -/
structure Ctx (X : Cx) (N : List Str) (L : List (Str × KN)) (k : Nat) : Prop where
  n : X.N = N
  nd : N.Nodup
  look : ∀ p ∈ L, KnIs X p.1 p.2
  dbg : ∀ p ∈ L, okName p.1 = true
  calm : X.calm = true
  room : Room k X.A
  po : PassesOwn (model X.prog X.w) X.A X.env X.xe
  kind : X.env.scope.kind = .function
theorem lookup_mem {L : List (Str × NameKind)} {x : Str} {k : NameKind} (nd : (L.map (·.1)).Nodup) (h : (x, k) ∈ L) : L.lookup x = some k := by
  induction L with
  | nil => cases h
  | cons p r ih =>
    obtain ⟨y, j⟩ := p
    rw [List.map_cons, List.nodup_cons] at nd
    rcases List.mem_cons.mp h with e | e
    · cases e
      simp [List.lookup]
    · have hne : (x == y) = false := by
        rw [beq_eq_false_iff_ne]
        intro q
        subst q
        exact nd.1 (List.mem_map.mpr ⟨_, e, rfl⟩)
      simp only [List.lookup, hne]
      exact ih nd.2 e
theorem knAll_mem {x : Str} {m : KN} : ∀ {L : List (Str × NameKind)}, (x, m) ∈ knAll L → ∃ j, (x, j) ∈ L ∧ knOf j = some m
  | [], h => by cases h
  | (y, j) :: r, h => by
    unfold knAll at h
    cases e : knOf j with
    | none =>
      rw [e] at h
      obtain ⟨j', h1, h2⟩ := knAll_mem h
      exact ⟨j', List.mem_cons_of_mem _ h1, h2⟩
    | some m' =>
      rw [e] at h
      rcases List.mem_cons.mp h with q | q
      · cases q
        exact ⟨j, List.mem_cons_self, e⟩
      · obtain ⟨j', h1, h2⟩ := knAll_mem q
        exact ⟨j', List.mem_cons_of_mem _ h1, h2⟩
variable {N : List Str} {L : List (Str × KN)} {k : Nat}
theorem okName_of {x : Str} (h : okName x = true) : (x == ("__debug__" : Str)) = false ∧ (x == ("__classdict__" : Str)) = false ∧ x ≠ "__name__" := by
  unfold okName at h
  rw [Bool.and_eq_true, Bool.and_eq_true] at h
  obtain ⟨⟨h1, h2⟩, h3⟩ := h
  exact ⟨by simpa using h1, by simpa using h2, by simpa using h3⟩
theorem Ctx.gl (c : Ctx X N L k) {x : Str} (h : (x, KN.glob) ∈ L) : Gl X x := c.look _ h
theorem Ctx.d1 (c : Ctx X N L k) {x : Str} {j : KN} (h : (x, j) ∈ L) : (x == ("__debug__" : Str)) = false := (okName_of (c.dbg _ h)).1
theorem Ctx.d2 (c : Ctx X N L k) {x : Str} {j : KN} (h : (x, j) ∈ L) : (x == ("__classdict__" : Str)) = false := (okName_of (c.dbg _ h)).2.1
theorem Ctx.d3 (c : Ctx X N L k) {x : Str} {j : KN} (h : (x, j) ∈ L) : x ≠ "__name__" := (okName_of (c.dbg _ h)).2.2
theorem Ctx.vis (c : Ctx X N L k) {x : Str} {j : KN} (h : (x, j) ∈ L) (m : Mine j) : Vis X.env.scope x := by
  have e := c.look _ h
  cases m with
  | loc => exact Or.inl e
  | cell => exact Or.inr (Or.inl e.1)
  | cap => exact Or.inr e
theorem Ctx.loc (c : Ctx X N L k) {x : Str} {j : KN} (h : (x, j) ∈ L) (m : Own j) : Loc X.env.scope x := by
  have e := c.look _ h
  cases m with
  | loc => exact Or.inl e
  | cell => exact Or.inr e.1
theorem Ctx.fn (c : Ctx X N L k) {x : Str} {j : KN} (h : (x, j) ∈ L) (m : Own j) : X.fn x = true ∨ X.env.scope.names.lookup x = some .local := by
  have e := c.look _ h
  cases m with
  | loc => exact Or.inr e
  | cell => exact Or.inl e.2
theorem Ctx.lcl (c : Ctx X N L k) {x : Str} (h : (x, KN.loc) ∈ L) : X.env.scope.names.lookup x = some .local := c.look _ h
/-! ### expressions -/
variable {pos p0 p1 p2 : Pos} {Q : VK} {D : Ends}
theorem re_name (c : Ctx X N L k) {x : Str} {v : V} {j : KN} (s : Slot N σ x v) (h : (x, j) ∈ L) (m : Mine j) (q : Q v H) : RE X (.Name x pos) σ H Q := by
  obtain ⟨i, h1, h2⟩ := s.ix
  rw [← c.n] at h1
  exact re_of (pe_var h1 (c.vis h m) (c.d1 h) (c.d2 h)) ⟨v, h2, q⟩
theorem re_int {i : Int} {j : Nat} (q : Q (.int i) H) : RE X (.Constant (.int i) j pos) σ H Q := re_of pe_int q
theorem re_bl {b : Bool} {j : Nat} (q : Q (.bl b) H) : RE X (.Constant (.bool b) j pos) σ H Q := re_of pe_bl q
theorem re_non {j : Nat} (q : Q .non H) : RE X (.Constant .none j pos) σ H Q := re_of pe_non q
theorem re_str {x : Str} {j : Nat} (q : Q (.str x) H) : RE X (.Constant (.str x) j pos) σ H Q := re_of pe_str q
/-- a class or type of the module, a builtin's name, as a value -/
theorem re_glob (c : Ctx X N L k) {x : Str} {v : V} {u : Value} (h : (x, KN.glob) ∈ L) (hm : X.mg x = some u) (r : RelV v u) (q : Q v H) : RE X (.Name x pos) σ H Q := re_of (pe_glob (c.gl h) hm r (c.d1 h)) q
theorem re_bltn (c : Ctx X N L k) {x : Str} {v : V} {u : Value} (h : (x, KN.glob) ∈ L) (hm : X.mg x = none) (hv : bootBuiltins x = some u) (r : RelV v u) (q : Q v H) : RE X (.Name x pos) σ H Q := re_of (pe_bltn (c.gl h) hm hv r (c.d3 h) (c.d1 h)) q
/-! ### operators by values -/
structure OpV (X : Cx) (op : Operator) (x y : V) (H : Hp) (Q : VK) : Prop where
  ex : ∃ r, OpR X (binaryOp op) r ∧ r x y H Q
structure CpV (X : Cx) (op : CmpOp) (x y : V) (H : Hp) (Q : VK) : Prop where
  ex : ∃ r, OpR X (compareOp op) r ∧ r x y H Q
structure IxV (X : Cx) (x y : V) (H : Hp) (Q : VK) : Prop where
  ex : ∃ r, IxR X r ∧ r x y H Q
structure SlV (X : Cx) (x : V) (a b : Option Int) (H : Hp) (Q : VK) : Prop where
  ex : ∃ r, SlR X r ∧ r x a b H Q
theorem OpR.self {op : Operator} : OpR X (binaryOp op) (OpV X op) := fun pins s σ H x y v u Q I rx ry h => by
  obtain ⟨r, hr, q⟩ := h.ex
  exact hr pins s σ H x y v u Q I rx ry q
theorem CpR.self {op : CmpOp} : OpR X (compareOp op) (CpV X op) := fun pins s σ H x y v u Q I rx ry h => by
  obtain ⟨r, hr, q⟩ := h.ex
  exact hr pins s σ H x y v u Q I rx ry q
theorem IxR.self : IxR X (IxV X) := fun va sl pins s σ H x y v u Q I rx ry h => by
  obtain ⟨r, hr, q⟩ := h.ex
  exact hr va sl pins s σ H x y v u Q I rx ry q
theorem re_bin {a b : Expr} {op : Operator} (q : RE X a σ H fun x H1 => RE X b σ H1 fun y H2 => OpV X op x y H2 Q) : RE X (.BinOp a op b pos) σ H Q := re_of (pe_op OpR.self PE.self PE.self) q
theorem re_cmp {a b : Expr} {op : CmpOp} (q : RE X a σ H fun x H1 => RE X b σ H1 fun y H2 => CpV X op x y H2 Q) (hm : behindInMarks op b = false := by first | exact nobehind _ (by decide) (by decide) | with_unfolding_all rfl) : RE X (.Compare a [op] [b] pos) σ H Q :=
  re_of (pe_cmpR CpR.self PE.self PE.self hm) q
theorem rt_cmp {a b : Expr} {op : CmpOp} {Q : Bool → Hp → Prop} (q : RE X a σ H fun x H1 => RE X b σ H1 fun y H2 => CpV X op x y H2 fun v H3 => ∃ k, v = .bl k ∧ Q k H3) (hm : behindInMarks op b = false := by first | exact nobehind _ (by decide) (by decide) | with_unfolding_all rfl) :
    RT X (.Compare a [op] [b] pos) σ H Q := rt_of (pt_cmpR CpR.self PE.self PE.self hm) q
theorem re_ix {a b : Expr} (q : RE X a σ H fun x H1 => RE X b σ H1 fun y H2 => IxV X x y H2 Q) (hs : PlainIx b := by with_unfolding_all exact fun _ _ => rfl) : RE X (.Subscript a b pos) σ H Q := re_of (pe_ix IxR.self PE.self PE.self hs) q
theorem re_neg {a : Expr} (q : RE X a σ H fun x H1 => ∃ i, x = .int i ∧ Q (.int (-i)) H1) : RE X (.UnaryOp .USub a pos) σ H Q := re_of (pe_un un_neg PE.self) q
variable {i j : Int} {z w : Str} {x y : V}
theorem ov_add (q : Q (.int (i + j)) H) : OpV X .Add (.int i) (.int j) H Q := ⟨⟨_, op_add, i, j, rfl, rfl, q⟩⟩
theorem ov_sub (q : Q (.int (i - j)) H) : OpV X .Sub (.int i) (.int j) H Q := ⟨⟨_, op_sub, i, j, rfl, rfl, q⟩⟩
theorem ov_mul (h : CMul i j) (q : Q (.int (i * j)) H) : OpV X .Mult (.int i) (.int j) H Q := ⟨⟨_, op_mul, i, j, rfl, rfl, h, q⟩⟩
theorem ov_mulR (h : -(2 ^ 64) < j ∧ j < 2 ^ 64) (q : Q (.int (i * j)) H) : OpV X .Mult (.int i) (.int j) H Q := ov_mul (.inr h) q
theorem ov_mulL (h : -(2 ^ 64) < i ∧ i < 2 ^ 64) (q : Q (.int (i * j)) H) : OpV X .Mult (.int i) (.int j) H Q := ov_mul (.inl h) q
theorem ov_mod (h : 0 < j) (q : Q (.int (i % j)) H) : OpV X .Mod (.int i) (.int j) H Q := ⟨⟨_, op_mod, i, j, rfl, rfl, h, q⟩⟩
theorem ov_fdiv (h : CDivW i j) (q : Q (.int (i / j)) H) : OpV X .FloorDiv (.int i) (.int j) H Q := ⟨⟨_, op_fdivW, i, j, rfl, rfl, h, q⟩⟩
theorem ov_pow (h : CPow i j) (q : Q (.int (i ^ j.toNat)) H) : OpV X .Pow (.int i) (.int j) H Q := ⟨⟨_, op_pow, i, j, rfl, rfl, h, q⟩⟩
theorem ov_adds (h : z.length + w.length ≤ sizeLine) (q : Q (.str (z ++ w)) H) : OpV X .Add (.str z) (.str w) H Q := ⟨⟨_, op_add_str, z, w, rfl, rfl, h, q⟩⟩
theorem cv_lt (q : Q (.bl (decide (i < j))) H) : CpV X .Lt (.int i) (.int j) H Q := ⟨⟨_, op_lt, i, j, rfl, rfl, q⟩⟩
theorem cv_gt (q : Q (.bl (decide (j < i))) H) : CpV X .Gt (.int i) (.int j) H Q := ⟨⟨_, op_gt, i, j, rfl, rfl, q⟩⟩
theorem cv_ge (q : Q (.bl (decide (j ≤ i))) H) : CpV X .GtE (.int i) (.int j) H Q := ⟨⟨_, op_ge, i, j, rfl, rfl, q⟩⟩
theorem cv_eqI (q : Q (.bl (decide (i = j))) H) : CpV X .Eq (.int i) (.int j) H Q := ⟨⟨_, op_eq, rfl, by
  have e : decide (V.int i = V.int j) = decide (i = j) := by simp
  rw [e]; exact q⟩⟩
theorem cv_neI (q : Q (.bl (!decide (i = j))) H) : CpV X .NotEq (.int i) (.int j) H Q := ⟨⟨_, op_ne, rfl, by
  have e : decide (V.int i = V.int j) = decide (i = j) := by simp
  rw [e]; exact q⟩⟩
theorem cv_eqS (q : Q (.bl (decide (z = w))) H) : CpV X .Eq (.str z) (.str w) H Q := ⟨⟨_, op_eq, rfl, by
  have e : decide (V.str z = V.str w) = decide (z = w) := by simp
  rw [e]; exact q⟩⟩
/-- == of scalars (None, bools, ints, texts) -/
theorem cv_eq (h : scal x y = true) (q : Q (.bl (decide (x = y))) H) : CpV X .Eq x y H Q := ⟨⟨_, op_eq, h, q⟩⟩
theorem cv_isN (q : Q (.bl (decide (x = .non))) H) : CpV X .Is x .non H Q := ⟨⟨_, op_isN, rfl, q⟩⟩
theorem cv_isN_s (q : Q (.bl false) H) : CpV X .Is (.str z) .non H Q := cv_isN (by rw [decide_eq_false (fun e => nomatch e)]; exact q)
theorem cv_isN_i (q : Q (.bl false) H) : CpV X .Is (.int i) .non H Q := cv_isN (by rw [decide_eq_false (fun e => nomatch e)]; exact q)
theorem cv_isN_b {b : Bool} (q : Q (.bl false) H) : CpV X .Is (.bl b) .non H Q := cv_isN (by rw [decide_eq_false (fun e => nomatch e)]; exact q)
theorem cv_isN_r {p : Addr} (q : Q (.bl false) H) : CpV X .Is (.ref p) .non H Q := cv_isN (by rw [decide_eq_false (fun e => nomatch e)]; exact q)
theorem cv_isN_n (q : Q (.bl true) H) : CpV X .Is .non .non H Q := cv_isN (by rw [decide_eq_true rfl]; exact q)
theorem iv_list {p : Addr} {xs : List V} {v : V} (h : SqL X.K H p xs) (ha : atI xs i = some v) (q : Q v H) : IxV X (.ref p) (.int i) H Q := ⟨⟨_, ix_list, p, xs, i, v, rfl, rfl, h, ha, q⟩⟩
theorem iv_tup {p : Addr} {xs : List V} {v : V} (h : SqT X.K H p xs) (ha : atI xs i = some v) (q : Q v H) : IxV X (.ref p) (.int i) H Q := ⟨⟨_, ix_tup, p, xs, i, v, rfl, rfl, h, ha, q⟩⟩
theorem iv_str {n : Nat} (hz : z.length ≤ sizeLine) (ha : atI z.cps.toList i = some n) (q : Q (.str ⟨#[n]⟩) H) : IxV X (.str z) (.int i) H Q := ⟨⟨_, ix_str, z, i, n, rfl, rfl, hz, ha, q⟩⟩
/-! ### displays, choices -/
theorem ra_nil {Q : List V → Hp → Prop} (q : Q [] H) : RA X [] σ H Q := ra_of pa_nil q
theorem ra_cons {e : Expr} {es : List Expr} {Q : List V → Hp → Prop} (q : RE X e σ H fun x H1 => RA X es σ H1 fun xs H2 => Q (x :: xs) H2) (hs : starEach (e :: es) X.env = (false, eval e X.env) :: starEach es X.env := by with_unfolding_all rfl) : RA X (e :: es) σ H Q :=
  ra_of (pa_cons PE.self PA.self hs) q
theorem re_tup {es : List Expr} {x1} (q : RA X es σ H fun xs H1 => xs.length ≤ sizeLine ∧ ∀ p, H1 p = none → Q (.ref p) (upd H1 p (.tup xs))) : RE X (.Tuple es x1 pos) σ H Q := re_of (pe_tup PA.self) q
theorem re_lst {es : List Expr} (q : RA X es σ H fun xs H1 => xs.length ≤ sizeLine ∧ ∀ p, H1 p = none → Q (.ref p) (upd H1 p (.lst xs))) : RE X (.List es pos) σ H Q := re_of (pe_lst PA.self) q
theorem re_if {t a b : Expr} (q : RT X t σ H fun c H1 => if c = true then RE X a σ H1 Q else RE X b σ H1 Q) : RE X (.IfExp t a b pos) σ H Q := re_of (pe_ifExp PT.self PE.self PE.self) q
theorem re_and {a b : Expr} {rest : List Expr} (q : RE X a σ H fun x H1 => ∃ c, x = .bl c ∧ if c = true then RE X (.BoolOp .And (b :: rest) pos) σ H1 Q else Q (.bl false) H1) : RE X (.BoolOp .And (a :: b :: rest) pos) σ H Q := re_of (pe_and PE.self PE.self) q
theorem re_one {op : BoolOp} {a : Expr} (q : RE X a σ H Q) : RE X (.BoolOp op [a] pos) σ H Q := re_of (pe_one PE.self) q
theorem re_not {a : Expr} (q : RE X a σ H fun x H1 => ∃ c, x = .bl c ∧ Q (.bl (!c)) H1) : RE X (.UnaryOp .Not a pos) σ H Q := re_of (pe_not PE.self) q
/-! ### tests -/
theorem rt_not {a : Expr} {Q : Bool → Hp → Prop} (q : RT X a σ H fun c H1 => Q (!c) H1) : RT X (.UnaryOp .Not a pos) σ H Q := rt_of (pt_not PT.self) q
theorem rt_bool {op : BoolOp} {es : List Expr} {Q : Bool → Hp → Prop} (q : RW X (.BoolOp op es pos) σ H Q) : RT X (.BoolOp op es pos) σ H Q := rt_of (PW.pt PW.self) q
theorem rw_and {a b : Expr} {rest : List Expr} {Q : Bool → Hp → Prop} (q : RT X a σ H fun c H1 => if c = true then RW X (.BoolOp .And (b :: rest) pos) σ H1 Q else Q false H1) : RW X (.BoolOp .And (a :: b :: rest) pos) σ H Q := rw_of (pw_and PT.self PW.self) q
theorem rw_and1 {a : Expr} {Q : Bool → Hp → Prop} (q : RT X a σ H Q) : RW X (.BoolOp .And [a] pos) σ H Q := rw_of (pw_and1 PT.self) q
theorem rw_or {a b : Expr} {rest : List Expr} {Q : Bool → Hp → Prop} (q : RT X a σ H fun c H1 => if c = true then Q true H1 else RW X (.BoolOp .Or (b :: rest) pos) σ H1 Q) : RW X (.BoolOp .Or (a :: b :: rest) pos) σ H Q := rw_of (pw_or PT.self PW.self) q
theorem rw_or1 {a : Expr} {Q : Bool → Hp → Prop} (q : RT X a σ H Q) : RW X (.BoolOp .Or [a] pos) σ H Q := rw_of (pw_or1 PT.self) q
theorem rt_val {e : Expr} {Q : Bool → Hp → Prop} (q : RE X e σ H fun x H1 => ∃ c, x = .bl c ∧ Q c H1) (he : ∀ whole, isTrue e X.env whole = (do let v ← whole; standAt e.pos; holding [v] (truthy v)) := by intro _; with_unfolding_all rfl) : RT X e σ H Q := rt_of (pt_val PE.self he) q
/-! ### blocks -/
theorem rb_nil (q : D.nx σ H) : RB X [] D σ H := rb_of pss_nil q
theorem rb_cons {st : Stmt} {rest : List Stmt} (q : RS X st { D with nx := fun σ1 H1 => RB X rest D σ1 H1 } σ H) : RB X (st :: rest) D σ H := rb_of (pss_cons PS.self PSs.self) q
theorem Ctx.put (c : Ctx X N L k) {x : Str} (hx : x ∈ N) : ∃ i : Nat, X.N[i]? = some x ∧ ∀ {σ σ' : L2.St} {v : V}, Put N σ x v σ' → σ' = σ.set i (some v) := by
  obtain ⟨i, hi, e⟩ := List.mem_iff_getElem.mp hx
  have h1 : N[i]? = some x := by rw [List.getElem?_eq_getElem hi, e]
  refine ⟨i, by rw [c.n]; exact h1, fun {σ σ' v} p => ?_⟩
  obtain ⟨j, h2, h3⟩ := p.ix
  rw [h3, nodup_ix c.nd h1 h2]
theorem Ctx.nodup (c : Ctx X N L k) : X.N.Nodup := by
  rw [c.n]
  exact c.nd
theorem pe_mono {e : Expr} {Q Q' : VK} (q : RE X e σ H Q) (h : ∀ v H1, Q v H1 → Q' v H1) : RE X e σ H Q' := by
  refine ⟨⟨fun σ1 H1 Q1 => ∃ Q0, RE X e σ1 H1 Q0 ∧ ∀ v H2, Q0 v H2 → Q1 v H2, ⟨fun pins s σ1 H1 Q1 I h1 => ?_⟩, Q, q, h⟩⟩
  obtain ⟨Q0, h2, h3⟩ := h1
  exact thn (PE.self.run pins s σ1 H1 Q0 I h2) fun u s' ⟨v, H', I', r, q'⟩ => ⟨v, H', I', r, h3 v H' q'⟩
theorem rt_mono {e : Expr} {Q Q' : Bool → Hp → Prop} (q : RT X e σ H Q) (h : ∀ v H1, Q v H1 → Q' v H1) : RT X e σ H Q' := by
  refine ⟨⟨fun σ1 H1 Q1 => ∃ Q0 : Bool → Hp → Prop, RT X e σ1 H1 Q0 ∧ ∀ v H2, Q0 v H2 → Q1 v H2, ⟨fun pins s σ1 H1 Q1 I h1 => ?_⟩, Q, q, h⟩⟩
  obtain ⟨Q0, h2, h3⟩ := h1
  exact thn (PT.self.run pins s σ1 H1 Q0 I h2) fun u s' ⟨H', I', q'⟩ => ⟨H', I', h3 u H' q'⟩
theorem ra_mono {e : List Expr} {Q Q' : List V → Hp → Prop} (q : RA X e σ H Q) (h : ∀ v H1, Q v H1 → Q' v H1) : RA X e σ H Q' := by
  refine ⟨⟨fun σ1 H1 Q1 => ∃ Q0 : List V → Hp → Prop, RA X e σ1 H1 Q0 ∧ ∀ v H2, Q0 v H2 → Q1 v H2, ⟨fun pos pins s σ1 H1 Q1 I h1 => ?_⟩, Q, q, h⟩⟩
  obtain ⟨Q0, h2, h3⟩ := h1
  exact thn (PA.self.run pos pins s σ1 H1 Q0 I h2) fun u s' ⟨v, H', I', r, q'⟩ => ⟨v, H', I', r, h3 v H' q'⟩
theorem rs_set (c : Ctx X N L k) {x : Str} {e : Expr} {j : KN} {pos' : Pos} (h : (x, j) ∈ L) (m : Own j) (hx : x ∈ N) (q : RE X e σ H fun v H1 => ∃ σ', Put N σ x v σ' ∧ D.nx σ' H1) (hs : swapsWith e (some (.Name x pos')) pos.line X.env = pure false := by with_unfolding_all rfl) :
    RS X (.Assign [.Name x pos'] e pos) D σ H := by
  obtain ⟨i, h1, h2⟩ := c.put hx
  refine rs_of (ps_set (i := i) c.nodup h1 (c.loc h m) PE.self hs (c.fn h m)) (pe_mono q fun v H1 ⟨σ', p, d⟩ => ?_)
  rw [h2 p] at d
  exact d
theorem rs_expr {e : Expr} (q : RE X e σ H fun _ H1 => D.nx σ H1) (hs : swapsWith e none pos.line X.env = pure false := by with_unfolding_all rfl) : RS X (.Expr e pos) D σ H := rs_of (ps_expr PE.self hs) q
theorem rs_ret {e : Expr} (q : RE X e σ H D.rt) : RS X (.Return (some e) pos) D σ H := rs_of (ps_ret PE.self) q
theorem rs_break (q : D.bk σ H) : RS X (.Break pos) D σ H := rs_of ps_break q
theorem rs_if {t : Expr} {a b : List Stmt} (q : RT X t σ H fun c H1 => if c = true then RB X a D σ H1 else RB X b D σ H1) : RS X (.If t a b pos) D σ H := rs_of (ps_if PT.self PSs.self PSs.self) q
/-- o[i] = e, o a list -/
theorem rs_sub {o i e : Expr} (q : RE X e σ H fun v H1 => RE X o σ H1 fun x H2 => RE X i σ H2 fun y H3 => ∃ p xs k j, x = .ref p ∧ y = .int k ∧ H3 p = some (.lst xs) ∧ ixN xs.length k = some j ∧ D.nx σ (upd H3 p (.lst (xs.set j v))))
    (ha : ∀ v, assign (.Subscript o i p0) X.env v = (do
      let ov ← holding [v] (eval o X.env)
      let iv ← holding [v, ov] (eval i X.env)
      standAt p0
      holding [v, ov, iv] (setItem ov iv v)
      release [v, ov, iv] []) := by intro _; with_unfolding_all rfl)
    (hs : swapsWithSole [.Subscript o i p0] e pos.line X.env = pure false := by with_unfolding_all rfl) (hw : swappedStores [.Subscript o i p0] e X.env = pure none := by with_unfolding_all rfl)
    (h1 : (assignEach [.Subscript o i p0] X.env).map (·.2) = [assign (.Subscript o i p0) X.env] := by with_unfolding_all rfl) : RS X (.Assign [.Subscript o i p0] e pos) D σ H :=
  rs_of (ps_asg PE.self (pg_sub PE.self PE.self set_list ha) hs hw h1) q
/-- a, b = e1, e2 (two local names) -/
theorem rs_par (c : Ctx X N L k) {x y : Str} {a b : Expr} {px py pt : Pos} {kt k2 pt2} (hx : (x, KN.loc) ∈ L) (hy : (y, KN.loc) ∈ L) (mx : x ∈ N) (my : y ∈ N) (hxy : x ≠ y)
    (q : RA X [a, b] σ H fun vs H1 => ∃ v w σ' σ'', vs = [v, w] ∧ Put N σ x v σ' ∧ Put N σ' y w σ'' ∧ D.nx σ'' H1)
    (hw : swappedStores [.Tuple [.Name x px, .Name y py] kt pt] (.Tuple [a, b] k2 pt2) X.env = pure (some [x, y]) := by with_unfolding_all rfl)
    (hs : swapsWithSole [.Tuple [.Name x px, .Name y py] kt pt] (.Tuple [a, b] k2 pt2) pos.line X.env = pure false := by with_unfolding_all rfl) :
    RS X (.Assign [.Tuple [.Name x px, .Name y py] kt pt] (.Tuple [a, b] k2 pt2) pos) D σ H := by
  obtain ⟨i, h1, h2⟩ := c.put mx
  obtain ⟨j, h3, h4⟩ := c.put my
  have hij : i ≠ j := fun e => hxy (by rw [e, h3] at h1; exact (Option.some.inj h1).symm)
  refine rs_of (ps_par (i := i) (j := j) c.calm c.nodup h1 h3 hij (c.lcl hx) (c.lcl hy) PA.self hw hs) ?_
  refine (ra_mono q fun vs H1 ⟨v, w, σ', σ'', e, p1, p2, d⟩ => ?_)
  rw [h4 p2, h2 p1] at d
  exact ⟨v, w, e, d⟩
end
end GT
namespace GT
open PySem PySem.Spec PyProof.Rows L2
section
variable {X : Cx} {σ : L2.St} {H : Hp} {N : List Str} {L : List (Str × KN)} {k : Nat} {pos p0 p1 p2 : Pos} {Q : VK} {D : Ends}
/-! ### calls of builtins -/
structure ClV (X : Cx) (f : Value) (vs : List V) (H : Hp) (Q : VK) : Prop where
  ex : ∃ r, CallR X f r ∧ r vs H Q
theorem ClR.self {f : Value} : CallR X f (ClV X f) := fun pins s σ H xs us Q I r h => by
  obtain ⟨r', hr, q⟩ := h.ex
  exact hr pins s σ H xs us Q I r q
theorem re_callB (c : Ctx X N L k) {x : Str} {id : String} {e : Expr} {es : List Expr} (h : (x, KN.glob) ∈ L) (hm : X.mg x = none) (hv : bootBuiltins x = some (.builtin id)) (q : RA X (e :: es) σ H fun vs H1 => ClV X (.builtin id) vs H1 Q)
    (he : starEach (e :: es) X.env = (false, eval e X.env) :: starEach es X.env := by with_unfolding_all rfl) (hpl : (backTo pos (starEach es X.env)).any (·.1) = false := by with_unfolding_all rfl) : RE X (.Call (.Name x p0) (e :: es) [] pos) σ H Q :=
  re_of (pe_callB ClR.self (c.gl h) hm hv PA.self (c.d3 h) (c.d1 h) he hpl) q
theorem re_callT (c : Ctx X N L k) {x : Str} {T : String} {e : Expr} {es : List Expr} (h : (x, KN.glob) ∈ L) (hm : X.mg x = none) (hv : bootBuiltins x = some (.type T)) (q : RA X (e :: es) σ H fun vs H1 => ClV X (.type T) vs H1 Q)
    (he : starEach (e :: es) X.env = (false, eval e X.env) :: starEach es X.env := by with_unfolding_all rfl) (hpl : (backTo pos (starEach es X.env)).any (·.1) = false := by with_unfolding_all rfl) : RE X (.Call (.Name x p0) (e :: es) [] pos) σ H Q :=
  re_of (pe_callTy ClR.self (c.gl h) hm hv PA.self (c.d3 h) (c.d1 h) he hpl) q
variable {i j : Int} {z w : Str} {x y : V} {p : Addr} {xs ys : List V}
theorem lv_abs (q : Q (.int (if i < 0 then -i else i)) H) : ClV X (.builtin "abs") [.int i] H Q := ⟨⟨_, call_abs, i, rfl, q⟩⟩
theorem lv_max (hc : X.calm = true) (q : Q (.int (if j > i then j else i)) H) : ClV X (.builtin "max") [.int i, .int j] H Q := ⟨⟨_, call_max2 hc, i, j, rfl, q⟩⟩
theorem lv_min (hc : X.calm = true) (q : Q (.int (if j < i then j else i)) H) : ClV X (.builtin "min") [.int i, .int j] H Q := ⟨⟨_, call_min2 hc, i, j, rfl, q⟩⟩
theorem lv_int (q : Q (.int i) H) : ClV X (.type "int") [.int i] H Q := ⟨⟨_, call_int1, .inl ⟨i, rfl, q⟩⟩⟩
theorem lv_lenL (h : SqL X.K H p xs) (q : Q (.int xs.length) H) : ClV X (.builtin "len") [.ref p] H Q := ⟨⟨_, call_len_seq, p, xs, rfl, .inl h, q⟩⟩
theorem lv_lenT (h : SqT X.K H p xs) (q : Q (.int xs.length) H) : ClV X (.builtin "len") [.ref p] H Q := ⟨⟨_, call_len_seq, p, xs, rfl, .inr h, q⟩⟩
theorem lv_lenS (h : z.length ≤ sizeLine) (q : Q (.int z.length) H) : ClV X (.builtin "len") [.str z] H Q := ⟨⟨_, call_len_str, z, rfl, h, q⟩⟩
theorem lv_isi {t u : Value} {b : Bool} (k : ClsV y u) (ty : TyX X.K H x t) (e : PySem.W.kitOne X.K t u = some b) (q : Q (.bl b) H) : ClV X (.builtin "isinstance") [x, y] H Q := ⟨⟨_, call_isi, x, y, t, u, b, rfl, k, ty, e, q⟩⟩
theorem lv_isiT {t : Value} {us : List Value} {b : Bool} {tp : Addr} {cs : List V} (h : H tp = some (.tup cs)) (k : Paired ClsV cs us) (ty : TyX X.K H x t) (e : PySem.W.kitAny X.K t us = some b) (q : Q (.bl b) H) : ClV X (.builtin "isinstance") [x, .ref tp] H Q :=
  ⟨⟨_, call_isiT, x, tp, cs, t, us, b, rfl, h, k, ty, e, q⟩⟩
theorem lv_tupL (h : SqL X.K H p xs) (q : ∀ l, H l = none → Q (.ref l) (upd H l (.tup xs))) : ClV X (.type "tuple") [.ref p] H Q := ⟨⟨_, call_tuple_of, p, xs, rfl, .inl ⟨h, q⟩⟩⟩
theorem re_c_len (c : Ctx X N L k) {e : Expr} {es : List Expr} (h : (("len" : Str), KN.glob) ∈ L) (hm : X.mg "len" = none) (q : RA X (e :: es) σ H fun vs H1 => ClV X (.builtin "len") vs H1 Q)
    (he : starEach (e :: es) X.env = (false, eval e X.env) :: starEach es X.env := by with_unfolding_all rfl) (hpl : (backTo pos (starEach es X.env)).any (·.1) = false := by with_unfolding_all rfl) : RE X (.Call (.Name "len" p0) (e :: es) [] pos) σ H Q := re_callB c h hm (by decide +kernel) q he hpl
theorem re_c_abs (c : Ctx X N L k) {e : Expr} {es : List Expr} (h : (("abs" : Str), KN.glob) ∈ L) (hm : X.mg "abs" = none) (q : RA X (e :: es) σ H fun vs H1 => ClV X (.builtin "abs") vs H1 Q)
    (he : starEach (e :: es) X.env = (false, eval e X.env) :: starEach es X.env := by with_unfolding_all rfl) (hpl : (backTo pos (starEach es X.env)).any (·.1) = false := by with_unfolding_all rfl) : RE X (.Call (.Name "abs" p0) (e :: es) [] pos) σ H Q := re_callB c h hm (by decide +kernel) q he hpl
theorem re_c_min (c : Ctx X N L k) {e : Expr} {es : List Expr} (h : (("min" : Str), KN.glob) ∈ L) (hm : X.mg "min" = none) (q : RA X (e :: es) σ H fun vs H1 => ClV X (.builtin "min") vs H1 Q)
    (he : starEach (e :: es) X.env = (false, eval e X.env) :: starEach es X.env := by with_unfolding_all rfl) (hpl : (backTo pos (starEach es X.env)).any (·.1) = false := by with_unfolding_all rfl) : RE X (.Call (.Name "min" p0) (e :: es) [] pos) σ H Q := re_callB c h hm (by decide +kernel) q he hpl
theorem re_c_max (c : Ctx X N L k) {e : Expr} {es : List Expr} (h : (("max" : Str), KN.glob) ∈ L) (hm : X.mg "max" = none) (q : RA X (e :: es) σ H fun vs H1 => ClV X (.builtin "max") vs H1 Q)
    (he : starEach (e :: es) X.env = (false, eval e X.env) :: starEach es X.env := by with_unfolding_all rfl) (hpl : (backTo pos (starEach es X.env)).any (·.1) = false := by with_unfolding_all rfl) : RE X (.Call (.Name "max" p0) (e :: es) [] pos) σ H Q := re_callB c h hm (by decide +kernel) q he hpl
theorem re_c_isinstance (c : Ctx X N L k) {e : Expr} {es : List Expr} (h : (("isinstance" : Str), KN.glob) ∈ L) (hm : X.mg "isinstance" = none) (q : RA X (e :: es) σ H fun vs H1 => ClV X (.builtin "isinstance") vs H1 Q)
    (he : starEach (e :: es) X.env = (false, eval e X.env) :: starEach es X.env := by with_unfolding_all rfl) (hpl : (backTo pos (starEach es X.env)).any (·.1) = false := by with_unfolding_all rfl) : RE X (.Call (.Name "isinstance" p0) (e :: es) [] pos) σ H Q := re_callB c h hm (by decide +kernel) q he hpl
theorem re_c_sorted (c : Ctx X N L k) {e : Expr} {es : List Expr} (h : (("sorted" : Str), KN.glob) ∈ L) (hm : X.mg "sorted" = none) (q : RA X (e :: es) σ H fun vs H1 => ClV X (.builtin "sorted") vs H1 Q)
    (he : starEach (e :: es) X.env = (false, eval e X.env) :: starEach es X.env := by with_unfolding_all rfl) (hpl : (backTo pos (starEach es X.env)).any (·.1) = false := by with_unfolding_all rfl) : RE X (.Call (.Name "sorted" p0) (e :: es) [] pos) σ H Q := re_callB c h hm (by decide +kernel) q he hpl
theorem re_c_int (c : Ctx X N L k) {e : Expr} {es : List Expr} (h : (("int" : Str), KN.glob) ∈ L) (hm : X.mg "int" = none) (q : RA X (e :: es) σ H fun vs H1 => ClV X (.type "int") vs H1 Q)
    (he : starEach (e :: es) X.env = (false, eval e X.env) :: starEach es X.env := by with_unfolding_all rfl) (hpl : (backTo pos (starEach es X.env)).any (·.1) = false := by with_unfolding_all rfl) : RE X (.Call (.Name "int" p0) (e :: es) [] pos) σ H Q := re_callT c h hm (by decide +kernel) q he hpl
theorem re_c_tuple (c : Ctx X N L k) {e : Expr} {es : List Expr} (h : (("tuple" : Str), KN.glob) ∈ L) (hm : X.mg "tuple" = none) (q : RA X (e :: es) σ H fun vs H1 => ClV X (.type "tuple") vs H1 Q)
    (he : starEach (e :: es) X.env = (false, eval e X.env) :: starEach es X.env := by with_unfolding_all rfl) (hpl : (backTo pos (starEach es X.env)).any (·.1) = false := by with_unfolding_all rfl) : RE X (.Call (.Name "tuple" p0) (e :: es) [] pos) σ H Q := re_callT c h hm (by decide +kernel) q he hpl
theorem re_ty_int (c : Ctx X N L k) (h : (("int" : Str), KN.glob) ∈ L) (hm : X.mg "int" = none) (q : Q (.ty "int") H) : RE X (.Name "int" pos) σ H Q := re_bltn (v := .ty "int") (u := .type "int") c h hm (by decide +kernel) rfl q
theorem re_ty_bool (c : Ctx X N L k) (h : (("bool" : Str), KN.glob) ∈ L) (hm : X.mg "bool" = none) (q : Q (.ty "bool") H) : RE X (.Name "bool" pos) σ H Q := re_bltn (v := .ty "bool") (u := .type "bool") c h hm (by decide +kernel) rfl q
theorem re_ty_str (c : Ctx X N L k) (h : (("str" : Str), KN.glob) ∈ L) (hm : X.mg "str" = none) (q : Q (.ty "str") H) : RE X (.Name "str" pos) σ H Q := re_bltn (v := .ty "str") (u := .type "str") c h hm (by decide +kernel) rfl q
theorem re_ty_tuple (c : Ctx X N L k) (h : (("tuple" : Str), KN.glob) ∈ L) (hm : X.mg "tuple" = none) (q : Q (.ty "tuple") H) : RE X (.Name "tuple" pos) σ H Q := re_bltn (v := .ty "tuple") (u := .type "tuple") c h hm (by decide +kernel) rfl q
theorem re_ty_list (c : Ctx X N L k) (h : (("list" : Str), KN.glob) ∈ L) (hm : X.mg "list" = none) (q : Q (.ty "list") H) : RE X (.Name "list" pos) σ H Q := re_bltn (v := .ty "list") (u := .type "list") c h hm (by decide +kernel) rfl q
/-! ### slices -/
theorem SlR.self : SlR X (SlV X) := by
  intro pins s σ H x v vl vu lo hi sl Q I rx hs h1 h2 h
  obtain ⟨r, hr, q⟩ := h.ex
  exact hr pins s σ H x v vl vu lo hi sl Q I rx hs h1 h2 q
theorem PO.self {e : Option Expr} : PO X e (RO X e) := ⟨fun pins s σ H Q I h => by obtain ⟨t, ht, q⟩ := h.ex; exact ht.run pins s σ H Q I q⟩
theorem ro_none {Q : Option Int → Hp → Prop} (q : Q none H) : RO X none σ H Q := ⟨⟨_, po_none, q⟩⟩
theorem ro_some {e : Expr} {Q : Option Int → Hp → Prop} (q : RE X e σ H fun x H1 => ∃ i, x = .int i ∧ Q (some i) H1) : RO X (some e) σ H Q := ⟨⟨_, po_some PE.self, q⟩⟩
theorem re_slice {e : Expr} {lo hi : Option Expr} (q : RE X e σ H fun x H1 => RO X lo σ H1 fun a H2 => RO X hi σ H2 fun b H3 => SlV X x a b H3 Q) : RE X (.Subscript e (.Slice lo hi none p2) pos) σ H Q := re_of (pe_slice SlR.self PE.self PO.self PO.self) q
theorem sv_str {a b : Option Int} (h : z.length ≤ sizeLine) (q : Q (.str (cutS z a b)) H) : SlV X (.str z) a b H Q := ⟨⟨_, sl_str, z, rfl, h, q⟩⟩
theorem sv_list {a b : Option Int} (h : SqL X.K H p xs) (q : ∀ l, H l = none → Q (.ref l) (upd H l (.lst (cutV xs a b)))) : SlV X (.ref p) a b H Q := ⟨⟨_, sl_list, p, xs, rfl, h, q⟩⟩
/-! ### lists -/
theorem ov_cat {b : Addr} (h1 : H p = some (.lst xs)) (h2 : H b = some (.lst ys)) (hl : xs.length + ys.length ≤ sizeLine) (q : ∀ l, H l = none → Q (.ref l) (upd H l (.lst (xs ++ ys)))) : OpV X .Add (.ref p) (.ref b) H Q := ⟨⟨_, op_cat, p, b, xs, ys, rfl, rfl, h1, h2, hl, q⟩⟩
theorem ov_rep {n : Int} (h1 : H p = some (.lst xs)) (h2 : -(2 ^ 63) ≤ n) (h3 : n < 2 ^ 63) (hl : xs.length * n.toNat ≤ sizeLine) (q : ∀ l, H l = none → Q (.ref l) (upd H l (.lst (List.replicate n.toNat xs).flatten))) : OpV X .Mult (.ref p) (.int n) H Q :=
  ⟨⟨_, op_rep, p, n, xs, rfl, rfl, h1, h2, h3, hl, q⟩⟩
/-- xs.append(e) -/
theorem re_append {o e : Expr} {apos : Pos} (q : RE X o σ H fun x H1 => ∃ l xs, x = .ref l ∧ H1 l = some (.lst xs) ∧ RE X e σ H1 fun y H2 => ∃ xs', H2 l = some (.lst xs') ∧ xs'.length < sizeLine ∧ Q .non (upd H2 l (.lst (xs' ++ [y]))))
    (hbase : attributeBase o "append" X.env (eval o X.env) = eval o X.env := by with_unfolding_all rfl)
    (hfew : ((backTo pos (starEach [e] X.env)).all (fun x => !x.1) && (backToKw pos (keywordEach [] X.env)).all (fun x => x.1.isSome) && decide (([e] : List Expr).length + ([] : List Keyword).length + (if ([] : List Keyword).isEmpty then 0 else 1) < 30)) = true := by with_unfolding_all rfl)
    (hline : (apos.endLine == pos.line) = true := by with_unfolding_all rfl) (hs : starEach [e] X.env = (false, eval e X.env) :: starEach [] X.env := by with_unfolding_all rfl) (hplain : (backTo pos (starEach [] X.env)).any (·.1) = false := by with_unfolding_all rfl) :
    RE X (.Call (.Attribute o "append" apos) [e] [] pos) σ H Q := by
  refine re_of (pe_bm PySem.F.plainAttrs_list PySem.F.slot_list_append PySem.F.type_list_append mt_append PE.self PA.self hbase hfew hline hs hplain) ?_
  refine pe_mono q fun x H1 ⟨l, xs, e1, h1, q1⟩ => ?_
  subst e1
  refine ⟨.inl ⟨rfl, _, SqL.of h1⟩, ra_cons (pe_mono q1 fun y H2 ⟨xs', h2, h3, q2⟩ => ra_nil ⟨l, xs', y, rfl, rfl, h2, h3, q2⟩) hs⟩
/-- ''.join(e) -/
theorem re_join {o e : Expr} {apos : Pos} (q : RE X o σ H fun x H1 => ∃ a, x = .str a ∧ RE X e σ H1 fun y H2 => ∃ p, ∃ ys : List Str, y = .ref p ∧ (SqL X.K H2 p (ys.map V.str) ∨ SqT X.K H2 p (ys.map V.str)) ∧ (ys.map (·.length)).sum + ys.length * a.length ≤ 16777216 ∧ Q (.str (Txt.join a ys)) H2)
    (hs : starEach [e] X.env = [(false, eval e X.env)] := by with_unfolding_all rfl) (hbase : attributeBase o "join" X.env (eval o X.env) = eval o X.env := by with_unfolding_all rfl) (hline : (apos.endLine == pos.line) = true := by with_unfolding_all rfl) :
    RE X (.Call (.Attribute o "join" apos) [e] [] pos) σ H Q := by
  refine re_of (pe_join PE.self PE.self hs hbase hline) ?_
  refine pe_mono q fun x H1 ⟨a, e1, q1⟩ => ⟨⟨a, e1⟩, pe_mono q1 fun y H2 ⟨p, ys, e2, h2, h3, q2⟩ => ?_⟩
  exact ⟨a, p, ys, e1, by rw [e2], h2, h3, q2⟩
/-! ### calls of the program's own defs -/
/-- a def that stands in the module: its promise, at most so many calls deep -/
structure DefP (P : Program) (wd : World) (K : PySem.W.Frag) (mg : Str → Option Value) (base : Heap) (CXs : CXT) (x : Str) (ps : List Str) (k : Nat) (sp : Sp) : Prop where
  ex : ∃ f fd, FnOk P wd K mg base CXs k f fd ps sp ∧ mg x = some (.ref f) ∧ PySem.W.keepIn K (.ref f) = true ∧ Binds K fd ps []
theorem re_call (c : Ctx X N L k) {x : Str} {ps : List Str} {n : Nat} {sp : Sp} {e : Expr} {es : List Expr} (F : DefP X.prog X.w X.K X.mg X.base CX0 x ps n sp) (hn : n ≤ k) (h : (x, KN.glob) ∈ L) (q : RA X (e :: es) σ H fun vs H1 => sp vs H1 Q E0)
    (he : starEach (e :: es) X.env = (false, eval e X.env) :: starEach es X.env := by with_unfolding_all rfl) (hpl : (backTo pos (starEach es X.env)).any (·.1) = false := by with_unfolding_all rfl) : RE X (.Call (.Name x p0) (e :: es) [] pos) σ H Q := by
  obtain ⟨f, fd, F1, m, kp, b⟩ := F.ex
  refine re_of (pe_call F1 (c.room.mono hn) (c.gl h) m kp b .nil pass0 PA.self (c.d1 h) he hpl) ?_
  exact ra_mono q fun vs H1 d => by rw [List.append_nil]; exact d
/-! ### for -/
theorem Ctx.pg (c : Ctx X N L k) {x : Str} {j : KN} (h : (x, j) ∈ L) (m : Own j) (hx : x ∈ N) : ∃ i : Nat, PG X (.Name x p0) (gName i) ∧ ∀ {σ σ' : L2.St} {v : V}, Put N σ x v σ' → σ' = σ.set i (some v) := by
  obtain ⟨i, h1, h2⟩ := c.put hx
  exact ⟨i, pg_name c.nodup h1 (c.loc h m) (c.fn h m), h2⟩
/-- what a loop over xs asks: the invariant Pv by the turn -/
def Turns (X : Cx) (N : List Str) (x : Str) (body : List Stmt) (D : Ends) (stand : Hp → Prop) (n : Nat) (it : Nat → V → Prop) (σ : L2.St) (H : Hp) : Prop :=
  ∃ Pv : Nat → L2.St → Hp → Prop, Pv 0 σ H ∧ (∀ i σ H, i ≤ n → Pv i σ H → stand H) ∧
    (∀ i y σ H, i < n → it i y → Pv i σ H → ∃ σ', Put N σ x y σ' ∧ RB X body { D with nx := Pv (i + 1), ct := Pv (i + 1), bk := D.nx } σ' H) ∧ (∀ σ H, Pv n σ H → D.nx σ H)
theorem rs_for_list (c : Ctx X N L k) {x : Str} {l : Expr} {body : List Stmt} {j : KN} (h : (x, j) ∈ L) (m : Own j) (hx : x ∈ N)
    (q : RE X l σ H fun v H1 => ∃ a xs, v = .ref a ∧ SqL X.K H1 a xs ∧ Turns X N x body D (fun H => SqL X.K H a xs) xs.length (fun i y => xs[i]? = some y) σ H1)
    (hs : ∀ x, foldedSetIterable l X.env x = pure x := by intro _; with_unfolding_all rfl) : RS X (.For (.Name x p0) l body [] pos) D σ H := by
  obtain ⟨i, g, h2⟩ := c.pg (p0 := p0) h m hx
  refine rs_of (ps_for c.po c.calm (pi_list PE.self) g PSs.self hs) (pe_mono q fun v H1 ⟨a, xs, e, hq, Pv, p1, p2, p3, p4⟩ => ⟨a, e, ⟨xs, hq⟩, ?_⟩)
  refine for_list (K := X.K) (a := a) (xs := xs) Pv p1 p2 (fun i y σ H e p => ?_) p4
  obtain ⟨σ', hp, r⟩ := p3 i y σ H (by rcases Nat.lt_or_ge i xs.length with z | z; exact z; rw [List.getElem?_eq_none z] at e; cases e) e p
  rw [h2 hp] at r
  exact r
theorem rs_for_tup (c : Ctx X N L k) {x : Str} {l : Expr} {body : List Stmt} {j : KN} (h : (x, j) ∈ L) (m : Own j) (hx : x ∈ N)
    (q : RE X l σ H fun v H1 => ∃ a xs, v = .ref a ∧ SqT X.K H1 a xs ∧ Turns X N x body D (fun H => SqT X.K H a xs) xs.length (fun i y => xs[i]? = some y) σ H1)
    (hs : ∀ x, foldedSetIterable l X.env x = pure x := by intro _; with_unfolding_all rfl) : RS X (.For (.Name x p0) l body [] pos) D σ H := by
  obtain ⟨i, g, h2⟩ := c.pg (p0 := p0) h m hx
  refine rs_of (ps_for c.po c.calm (pi_tup PE.self) g PSs.self hs) (pe_mono q fun v H1 ⟨a, xs, e, hq, Pv, p1, p2, p3, p4⟩ => ⟨a, e, ⟨xs, hq⟩, ?_⟩)
  refine for_tup (K := X.K) (a := a) (xs := xs) Pv p1 p2 (fun i y σ H e p => ?_) p4
  obtain ⟨σ', hp, r⟩ := p3 i y σ H (by rcases Nat.lt_or_ge i xs.length with z | z; exact z; rw [List.getElem?_eq_none z] at e; cases e) e p
  rw [h2 hp] at r
  exact r
theorem rs_for_range (c : Ctx X N L k) {x : Str} {e : Expr} {body : List Stmt} {j : KN} (h : (x, j) ∈ L) (m : Own j) (hx : x ∈ N) (hg : (("range" : Str), KN.glob) ∈ L) (hm : X.mg "range" = none)
    (q : RE X e σ H fun v H1 => ∃ n : Int, v = .int n ∧ -(2 ^ 62) ≤ n ∧ n < 2 ^ 62 ∧ Turns X N x body D (fun _ => True) n.toNat (fun i y => y = .int i) σ H1)
    (hs : ∀ x, foldedSetIterable (.Call (.Name "range" p1) [e] [] p2) X.env x = pure x := by intro _; with_unfolding_all rfl) (hsE : starEach [e] X.env = [(false, eval e X.env)] := by with_unfolding_all rfl) : RS X (.For (.Name x p0) (.Call (.Name "range" p1) [e] [] p2) body [] pos) D σ H := by
  obtain ⟨i, g, h2⟩ := c.pg (p0 := p0) h m hx
  refine rs_of (ps_for c.po c.calm (pi_range1 (c.gl hg) hm PA.self hsE) g PSs.self hs) ?_
  refine ra_cons (pe_mono q fun v H1 ⟨n, e, n1, n2, Pv, p1, _, p3, p4⟩ => ra_nil ⟨n, by rw [e], n1, n2, ?_⟩) hsE
  refine for_range (lo := 0) (n := n.toNat) Pv p1 (fun i σ H e p => ?_) p4
  obtain ⟨σ', hp, r⟩ := p3 i (.int (0 + i)) σ H e (by simp) p
  rw [h2 hp] at r
  exact r
/-- for x, y in zip(a, b), both lists or both tuples, of one length -/
theorem rs_for_zip (c : Ctx X N L k) {x y : Str} {e1 e2 : Expr} {body : List Stmt} {j j' : KN} {kt : Nat} {q0 q1 q2 : Pos} (h : (x, j) ∈ L) (m : Own j) (hx : x ∈ N) (h' : (y, j') ∈ L) (m' : Own j') (hy : y ∈ N) (hg : (("zip" : Str), KN.glob) ∈ L) (hm : X.mg "zip" = none)
    (q : RA X [e1, e2] σ H fun vs H1 => ∃ a b xs ys, vs = [.ref a, .ref b] ∧ xs.length = ys.length ∧ ∃ Sq : Hp → Addr → List V → Prop, (Sq = (fun H => SqL X.K H) ∨ Sq = fun H => SqT X.K H) ∧ Sq H1 a xs ∧ Sq H1 b ys ∧ ∃ Pv : Nat → L2.St → Hp → Prop, Pv 0 σ H1 ∧ (∀ i σ H, Pv i σ H → Sq H a xs ∧ Sq H b ys) ∧
      (∀ i u v σ H T, xs[i]? = some u → ys[i]? = some v → Pv i σ H → H T = none → ∃ σ' σ'', Put N σ x u σ' ∧ Put N σ' y v σ'' ∧ RB X body { D with nx := Pv (i + 1), ct := Pv (i + 1), bk := D.nx } σ'' (upd H T (.tup [u, v]))) ∧ (∀ σ H, Pv xs.length σ H → D.nx σ H))
    (hs : ∀ x, foldedSetIterable (.Call (.Name "zip" p1) [e1, e2] [] p2) X.env x = pure x := by intro _; with_unfolding_all rfl) (he : starEach [e1, e2] X.env = (false, eval e1 X.env) :: starEach [e2] X.env := by with_unfolding_all rfl) (hpl : (backTo p2 (starEach [e2] X.env)).any (·.1) = false := by with_unfolding_all rfl)
    (hn : (assignEach [.Name x q0, .Name y q1] X.env).length = 2 := by with_unfolding_all rfl) (hst : (assignEach [.Name x q0, .Name y q1] X.env).findIdx? (·.1) = none := by with_unfolding_all rfl)
    (ha : (assignEach [.Name x q0, .Name y q1] X.env).map (·.2) = assign (.Name x q0) X.env :: (assignEach [.Name y q1] X.env).map (·.2) := by with_unfolding_all rfl) (hb : (assignEach [.Name y q1] X.env).map (·.2) = assign (.Name y q1) X.env :: (assignEach [] X.env).map (·.2) := by with_unfolding_all rfl) :
    RS X (.For (.Tuple [.Name x q0, .Name y q1] kt q2) (.Call (.Name "zip" p1) [e1, e2] [] p2) body [] pos) D σ H := by
  obtain ⟨i, g, h2⟩ := c.pg (p0 := q0) h m hx
  obtain ⟨i', g', h2'⟩ := c.pg (p0 := q1) h' m' hy
  refine rs_of (ps_for c.po c.calm (RZ.pi_zipA (c.gl hg) hm PA.self he hpl) (pg_tup (n := 2) c.calm (pgs_cons g (pgs_cons g' pgs_nil hb) ha) hn hst) PSs.self hs) ?_
  refine ra_mono q fun vs H1 ⟨a, b, xs, ys, e, hl, Sq, hS, s1, s2, Pv, p1, p2, p3, p4⟩ => ⟨a, b, xs, ys, e, ?_⟩
  have step : ∀ (i : Nat) (u v : V) (T : Addr) (σ : L2.St) (H : Hp), xs[i]? = some u → ys[i]? = some v → Pv i σ H → H T = none → gTup X.K 2 (gCons (gName _) (gCons (gName _) gNil)) (.ref T) σ (upd H T (.tup [u, v])) fun σ2 H2 => RB X body { D with nx := Pv (i + 1), ct := Pv (i + 1), bk := D.nx } σ2 H2 := fun i u v T σ H e1 e2 p hT => by
    obtain ⟨σ', σ'', a1, a2, r⟩ := p3 i u v σ H T e1 e2 p hT
    rw [h2' a2, h2 a1] at r
    exact ⟨T, _, rfl, SqT.of upd_same, rfl, _, _, rfl, _, _, rfl, rfl, r⟩
  rcases hS with rfl | rfl
  · exact .inl ⟨s1, s2, RZ.for_zipL hl Pv p1 p2 step p4⟩
  · exact .inr ⟨s1, s2, RZ.for_zipT hl Pv p1 p2 step p4⟩
end
end GT
namespace GT
open PySem PySem.Spec PyProof.Rows L2
section
variable {X : Cx} {σ : L2.St} {H : Hp} {N : List Str} {L Lc : List (Str × KN)} {k : Nat} {pos p0 p1 p2 : Pos} {Q : VK} {D : Ends} {scope : Scope}
/-! ### comprehensions -/
structure RTs (X : Cx) (ifs : List Expr) (σ : L2.St) (H : Hp) (Q : Bool → Hp → Prop) : Prop where
  ex : ∃ t, PTs X ifs t ∧ t σ H Q
theorem PTs.self {ifs : List Expr} : PTs X ifs (RTs X ifs) := ⟨fun pins s σ H Q I h => by obtain ⟨t, ht, q⟩ := h.ex; exact ht.run pins s σ H Q I q⟩
theorem rts_nil {Q : Bool → Hp → Prop} (q : Q true H) : RTs X [] σ H Q := ⟨⟨_, pts_nil, q⟩⟩
theorem rts_one {t : Expr} {Q : Bool → Hp → Prop} (q : RT X t σ H Q) : RTs X [t] σ H Q := ⟨⟨_, pts_one PT.self, q⟩⟩
/-- what is known of a comprehension's own scope -/
structure Scp (scope : Scope) (Lc : List (Str × KN)) : Prop where
  names : ∀ p ∈ Lc, p ∈ knAll scope.names
  lnd : (scope.names.map (·.1)).Nodup
  dbg : ∀ p ∈ Lc, okName p.1 = true
  kind : scope.kind = .function
/-- a comprehension over x, within names N whose kinds are told by L; Lc tells its own -/
def lcOk (N : List Str) (L : List (Str × KN)) (scope : Scope) (Lc : List (Str × KN)) (x : Str) : Bool :=
  decide (scope.kind = .function) && (Lc.all fun p => decide (p ∈ knAll scope.names)) && decide (scope.names.map (·.1)).Nodup && (Lc.all fun p => okName p.1) &&
    (scope.names.all fun y => !decide (y.2 = .free) || (decide ((y.1, KN.cell) ∈ L) || decide ((y.1, KN.cap) ∈ L))) &&
    (scope.names.all fun y => !(decide (y.2 = .local) || decide (y.2 = .cell)) || (decide (y.1 = x) || !decide (y.1 ∈ N))) && decide (x ∈ N) && decide ((x, KN.loc) ∈ Lc)
theorem lcOk_of {x : Str} (c : Ctx X N L k) (h : lcOk N L scope Lc x = true) : Scp scope Lc ∧ x ∈ N ∧ (x, KN.loc) ∈ Lc ∧ ∀ i : Nat, N[i]? = some x → BlkOk N X.env.scope scope [(x, i)] := by
  unfold lcOk at h
  simp only [Bool.and_eq_true, Bool.or_eq_true, Bool.not_eq_true', decide_eq_true_eq, decide_eq_false_iff_not, List.all_eq_true] at h
  obtain ⟨⟨⟨⟨⟨⟨⟨h1, h2⟩, h3⟩, h4⟩, h5⟩, h6⟩, h7⟩, h8⟩ := h
  refine ⟨⟨h2, h3, h4, h1⟩, h7, h8, fun i hi => ⟨h1, fun y hy => lookup_mem h3 hy, fun p hp => ?_, fun y hy e => ?_, fun y hy e => ?_⟩⟩
  · obtain rfl : p = (x, i) := by simpa using hp
    exact hi
  · rcases h5 y hy with z | z | z
    · exact absurd e z
    · exact .inl (c.look _ z).1
    · exact c.look _ z
  · rcases h6 y hy with z | z | z
    · rcases e with e | e <;> simp [e] at z
    · exact .inl (by simp [z])
    · exact .inr z
theorem relabel_lookup {names : List (Str × NameKind)} {f : NameKind → Bool} {x : Str} {j : NameKind} (g : Str → Bool) (h : names.lookup x = some j) :
    (names.map fun p => if (f p.2 && g p.1) = true then (p.1, NameKind.cell) else p).lookup x = some (if (f j && g x) = true then NameKind.cell else j) := by
  induction names with
  | nil => cases h
  | cons p r ih =>
    obtain ⟨y, i⟩ := p
    rw [List.map_cons]
    by_cases e : x = y
    · subst e
      have e1 : i = j := by simpa [List.lookup] using h
      subst e1
      split <;> simp [List.lookup, *]
    · have hb : (x == y) = false := beq_eq_false_iff_ne.mpr e
      have h' : r.lookup x = some j := by simpa [List.lookup, hb] using h
      have ih' := ih h'
      split
      · simpa [List.lookup, hb] using ih'
      · simpa [List.lookup, hb] using ih'
theorem Ctx.blk (c : Ctx X N L k) (S : Scp scope Lc) (s : Shared) (Hb : Hp) (C : Addr) (cl : List (Str × Addr)) (fp : List Addr) : Ctx (X.blk s Hb scope (compEnvC scope cl C X.env) fp) N Lc k where
  n := c.n
  nd := c.nd
  look := fun p hp => by
    obtain ⟨x, m⟩ := p
    obtain ⟨j, h1, h2⟩ := knAll_mem (S.names _ hp)
    have e := lookup_mem S.lnd h1
    have e2 := relabel_lookup (f := fun k => k == NameKind.free && X.env.scope.kind == .function) (fun n => X.env.kindOf n == some .cell) e
    have e3 : (X.blk s Hb scope (compEnvC scope cl C X.env) fp).env.scope.names.lookup x = some (if ((j == NameKind.free && X.env.scope.kind == .function) && X.env.kindOf x == some .cell) = true then NameKind.cell else j) := e2
    cases j <;> simp only [knOf] at h2 <;> cases h2
    · exact e3
    · refine ⟨e3, ?_⟩
      show (scope.names.lookup x == some .cell) = true
      rw [e]
      rfl
    · show _ ∨ _
      rw [e3]
      split
      · exact .inl rfl
      · exact .inr rfl
    · exact e3
  dbg := S.dbg
  calm := c.calm
  room := c.room
  po := PassesOwn.never
  kind := by
    have e : (compEnvC scope cl C X.env).scope.kind = scope.kind := rfl
    exact e.trans S.kind
def REA (X : Cx) (N : List Str) (Lc : List (Str × KN)) (k : Nat) (scope : Scope) (e : Expr) : TE := fun σ H Q =>
  ∀ (s : Shared) (Hb : Hp) (C : Addr) (cl : List (Str × Addr)) (fp : List Addr), Ctx (X.blk s Hb scope (compEnvC scope cl C X.env) fp) N Lc k → RE (X.blk s Hb scope (compEnvC scope cl C X.env) fp) e σ H Q
def RTA (X : Cx) (N : List Str) (Lc : List (Str × KN)) (k : Nat) (scope : Scope) (ifs : List Expr) : TT := fun σ H Q =>
  ∀ (s : Shared) (Hb : Hp) (C : Addr) (cl : List (Str × Addr)) (fp : List Addr), Ctx (X.blk s Hb scope (compEnvC scope cl C X.env) fp) N Lc k → RTs (X.blk s Hb scope (compEnvC scope cl C X.env) fp) ifs σ H Q
theorem PE.rea (c : Ctx X N L k) (S : Scp scope Lc) {e : Expr} (s : Shared) (Hb : Hp) (C : Addr) (cl : List (Str × Addr)) (fp : List Addr) : PE (X.blk s Hb scope (compEnvC scope cl C X.env) fp) e (REA X N Lc k scope e) :=
  ⟨fun pins s1 σ H Q I h => PE.self.run pins s1 σ H Q I (h s Hb C cl fp (c.blk S s Hb C cl fp))⟩
theorem PTs.rta (c : Ctx X N L k) (S : Scp scope Lc) {ifs : List Expr} (s : Shared) (Hb : Hp) (C : Addr) (cl : List (Str × Addr)) (fp : List Addr) : PTs (X.blk s Hb scope (compEnvC scope cl C X.env) fp) ifs (RTA X N Lc k scope ifs) :=
  ⟨fun pins s1 σ H Q I h => PTs.self.run pins s1 σ H Q I (h s Hb C cl fp (c.blk S s Hb C cl fp))⟩
/-- what a comprehension asks of its turns: y the item, Dn the new list -/
def CTurns (X : Cx) (N : List Str) (Lc : List (Str × KN)) (k : Nat) (scope : Scope) (x : Str) (elt : Expr) (ifs : List Expr) (stand : Hp → Prop) (n : Nat) (it : Nat → V → Prop) (σ : L2.St) (H1 : Hp) (Q : VK) : Prop :=
  ∀ Dn, H1 Dn = none → ∃ Pv : Nat → Hp → Prop, Pv 0 (upd H1 Dn (.lst [])) ∧ (∀ i H, i ≤ n → Pv i H → stand H) ∧
    (∀ i y H2, i < n → it i y → Pv i H2 → ∃ σ', Put N σ x y σ' ∧ RTA X N Lc k scope ifs σ' H2 fun b H3 =>
      if b = true then REA X N Lc k scope elt σ' H3 fun z H4 => ∃ acc, H4 Dn = some (.lst acc) ∧ acc.length < sizeLine ∧ Pv (i + 1) (upd H4 Dn (.lst (acc ++ [z]))) else Pv (i + 1) H3) ∧ ∀ H2, Pv n H2 → Q (.ref Dn) H2
theorem set_back {σ : L2.St} {i : Nat} {v : V} : wipe ((wipe σ [i]).set i (some v)) [i] = wipe σ [i] := by
  show (((σ.set i none).set i (some v)).set i none) = σ.set i none
  rw [List.set_set, List.set_set]
theorem set_on {σ : L2.St} {i : Nat} {v : V} : (wipe σ [i]).set i (some v) = σ.set i (some v) := by
  show ((σ.set i none).set i (some v)) = σ.set i (some v)
  rw [List.set_set]
section
variable {x : Str} {elt : Expr} {ifs : List Expr}
theorem blk_at (c : Ctx X N L k) (S : Scp scope Lc) (hx : x ∈ N) (hl : (x, KN.loc) ∈ Lc) (ok : ∀ i : Nat, N[i]? = some x → BlkOk N X.env.scope scope [(x, i)]) :
    ∃ i : Nat, (∀ {σ σ' : L2.St} {v : V}, Put N σ x v σ' → σ' = σ.set i (some v)) ∧ BlkOk X.N X.env.scope scope [(x, i)] ∧
      ∀ (s : Shared) (Hb : Hp) (C : Addr) (cl : List (Str × Addr)) (fp : List Addr), PG (X.blk s Hb scope (compEnvC scope cl C X.env) fp) (.Name x p0) (gName i) := by
  obtain ⟨i, h1, h2⟩ := c.put hx
  refine ⟨i, h2, ?_, fun s Hb C cl fp => ?_⟩
  · rw [c.n]
    rw [c.n] at h1
    exact ok i h1
  · have cb := c.blk S s Hb C cl fp
    exact pg_name c.nodup h1 (cb.loc hl .loc) (cb.fn hl .loc)
theorem lc_go {Itx : It} {n : Nat} {stand : Hp → Prop} {it : Nat → V → Prop} {H1 : Hp} {i : Nat} (hput : ∀ {σ σ' : L2.St} {v : V}, Put N σ x v σ' → σ' = σ.set i (some v))
    (W : Walk Itx n stand fun j H y H' => H' = H ∧ it j y) (q : CTurns X N Lc k scope x elt ifs stand n it σ H1 Q) :
    ∀ Dn, H1 Dn = none → ∃ W : Nat → Nat → Hp → Prop, (∃ m, W 0 m (upd H1 Dn (.lst []))) ∧ ∀ j m H, W j m H →
      (Itx.stop j H ∧ Q (.ref Dn) H) ∨ (Itx.go j H ∧ ∃ Nx : Hp → Prop, (∀ H', Nx H' → ∃ m', m' < m ∧ W (j + 1) m' H') ∧ ∀ y H', Itx.yld j H y H' → gName i y (wipe σ [i]) H' fun σ2 H2 => wipe σ2 [i] = wipe σ [i] ∧ RTA X N Lc k scope ifs σ2 H2 fun b H3 =>
        if b = true then REA X N Lc k scope elt σ2 H3 fun z H4 => ∃ acc, H4 Dn = some (.lst acc) ∧ acc.length < sizeLine ∧ Nx (upd H4 Dn (.lst (acc ++ [z]))) else Nx H3) := by
  intro Dn hD
  obtain ⟨Pv, p1, p2, p3, p4⟩ := q Dn hD
  refine lc_it W (g := gName i) (tt := RTA X N Lc k scope ifs) (te := REA X N Lc k scope elt) (vs := [i]) (σ := σ) Pv p1 p2 (fun j y H H' hj p hy => ?_) p4
  obtain ⟨rfl, hy⟩ := hy
  obtain ⟨σ', hp, r⟩ := p3 j y H' hj hy p
  refine ⟨set_back, ?_⟩
  rw [set_on, ← hput hp]
  exact r
theorem re_lc_list (c : Ctx X N L k) (Lc : List (Str × KN)) (hok : lcOk N L scope Lc x = true) {l : Expr}
    (q : RE X l σ H fun v H1 => ∃ a xs, v = .ref a ∧ SqL X.K H1 a xs ∧ CTurns X N Lc k scope x elt ifs (fun H => SqL X.K H a xs) xs.length (fun i y => xs[i]? = some y) σ H1 Q)
    (hs : ∀ x, foldedSetIterable l X.env x = pure x := by intro _; with_unfolding_all rfl) : RE X (.ListComp elt [⟨.Name x p0, l, ifs, 0⟩] scope pos) σ H Q := by
  obtain ⟨S, hx, hl, ok⟩ := lcOk_of c hok
  obtain ⟨i, hput, bk, g⟩ := blk_at (p0 := p0) c S hx hl ok
  refine re_of (pe_lc c.calm c.nodup (pi_list PE.self) bk g (fun s H C cl fp => PTs.rta c S s H C cl fp) (fun s H C cl fp => PE.rea c S s H C cl fp) hs) ?_
  refine pe_mono q fun v H1 ⟨a, xs, e, h1, q1⟩ => ⟨a, e, ⟨xs, h1⟩, lc_go hput walk_list q1⟩
theorem re_lc_range (c : Ctx X N L k) (Lc : List (Str × KN)) (hok : lcOk N L scope Lc x = true) {e : Expr} (hg : (("range" : Str), KN.glob) ∈ L) (hm : X.mg "range" = none)
    (q : RE X e σ H fun v H1 => ∃ n : Int, v = .int n ∧ -(2 ^ 62) ≤ n ∧ n < 2 ^ 62 ∧ CTurns X N Lc k scope x elt ifs (fun _ => True) n.toNat (fun i y => y = .int i) σ H1 Q)
    (hs : ∀ x, foldedSetIterable (.Call (.Name "range" p1) [e] [] p2) X.env x = pure x := by intro _; with_unfolding_all rfl) (hsE : starEach [e] X.env = [(false, eval e X.env)] := by with_unfolding_all rfl) : RE X (.ListComp elt [⟨.Name x p0, .Call (.Name "range" p1) [e] [] p2, ifs, 0⟩] scope pos) σ H Q := by
  obtain ⟨S, hx, hl, ok⟩ := lcOk_of c hok
  obtain ⟨i, hput, bk, g⟩ := blk_at (p0 := p0) c S hx hl ok
  refine re_of (pe_lc c.calm c.nodup (pi_range1 (c.gl hg) hm PA.self hsE) bk g (fun s H C cl fp => PTs.rta c S s H C cl fp) (fun s H C cl fp => PE.rea c S s H C cl fp) hs) ?_
  refine ra_cons (pe_mono q fun v H1 ⟨n, e, n1, n2, q1⟩ => ra_nil ⟨n, by rw [e], n1, n2, ?_⟩) hsE
  refine lc_go hput (walk_range.mono (fun _ h => h) fun j H y H' hj _ hy => ?_) q1
  obtain ⟨h1, h2⟩ := hy
  exact ⟨h1, by rw [h2]; simp⟩
/-- y = [..] on one line -/
theorem rs_lc_list (c : Ctx X N L k) (Lc : List (Str × KN)) (hok : lcOk N L scope Lc x = true) {l : Expr} {y : Str} {py cp : Pos} (hy : (y, KN.loc) ∈ L) (my : y ∈ N)
    (q : RE X l σ H fun v H1 => ∃ a xs, v = .ref a ∧ SqL X.K H1 a xs ∧ CTurns X N Lc k scope x elt ifs (fun H => SqL X.K H a xs) xs.length (fun i y => xs[i]? = some y) σ H1 fun v H2 => ∃ σ', Put N σ y v σ' ∧ D.nx σ' H2)
    (hln : (py.line == cp.line) = true := by with_unfolding_all rfl) (ha : (scope.names.any fun (n, k) => n == y && (k == .local || k == .cell)) = false := by decide +kernel)
    (hs : ∀ x, foldedSetIterable l X.env x = pure x := by intro _; with_unfolding_all rfl) : RS X (.Assign [.Name y py] (.ListComp elt [⟨.Name x p0, l, ifs, 0⟩] scope cp) pos) D σ H := by
  obtain ⟨S, hx, hl, ok⟩ := lcOk_of c hok
  obtain ⟨i, hput, bk, g⟩ := blk_at (p0 := p0) c S hx hl ok
  obtain ⟨i2, h1, h2⟩ := c.put my
  refine rs_of (ps_setLc (i := i2) c.calm c.nodup h1 (c.lcl hy) (sw_true c.kind (c.lcl hy) hln ha) (pi_list PE.self) bk g (fun s H C cl fp => PTs.rta c S s H C cl fp) (fun s H C cl fp => PE.rea c S s H C cl fp) hs) ?_
  refine pe_mono q fun v H1 ⟨a, xs, e, h1, q1⟩ => ⟨a, e, ⟨xs, h1⟩, lc_go hput (walk_list (xs := xs)) (Q := fun v H1 => D.nx (σ.set i2 (some v)) H1) (fun Dn hD => ?_ : CTurns X N Lc k scope x elt ifs (fun H => SqL X.K H a xs) xs.length (fun i y => xs[i]? = some y) σ H1 fun v H1 => D.nx (σ.set i2 (some v)) H1)⟩
  obtain ⟨Pv, a1, a2, a3, a4⟩ := q1 Dn hD
  refine ⟨Pv, a1, a2, a3, fun H2 hp => ?_⟩
  obtain ⟨σ', p, d⟩ := a4 H2 hp
  rw [h2 p] at d
  exact d
end
end
end GT
namespace GT
open PySem PySem.Spec PyProof.Rows L2
/-- the def that st says, as it stands behind the top -/
abbrev FnP (K : PySem.W.Frag) (x : Str) (st : Stmt) (f : Addr) (fd : FuncData) : Prop := FunD K x x (defArgs st) (defBody st) (defScope st) [] [] f fd
/-- a context of this program and heap -/
structure At5 (X : Cx) (P : Program) (w : World) (K : PySem.W.Frag) (mg : Str → Option Value) (base : Heap) : Prop where
  p : X.prog = P
  w : X.w = w
  k : X.K = K
  m : X.mg = mg
  b : X.base = base
/-- what is known of a def's names (each line by decide +kernel) -/
structure Nms (st : Stmt) (N ps : List Str) (L : List (Str × KN)) : Prop where
  S : FnScope N ps (defScope st)
  kl : ∀ p ∈ L, p ∈ knAll (defScope st).names
  nd : ((defScope st).names.map (·.1)).Nodup
  db : ∀ p ∈ L, okName p.1 = true
section
variable {P : Program} {w : World} {K : PySem.W.Frag} {mg : Str → Option Value} {base : Heap} {CXs : CXT} {x : Str} {st : Stmt} {N ps : List Str} {L : List (Str × KN)} {k : Nat} {sp : Sp} {f : Addr} {fd : FuncData}
theorem knIs_of {X : Cx} {st : Stmt} (M : Nms st N ps L) (e : X.env.scope = defScope st) (hf : ∀ x, X.fn x = true) : ∀ p ∈ L, KnIs X p.1 p.2 := fun p hp => by
  obtain ⟨x, m⟩ := p
  obtain ⟨j, h1, h2⟩ := knAll_mem (M.kl _ hp)
  have e1 : X.env.scope.names.lookup x = some j := by
    rw [e]
    exact lookup_mem M.nd h1
  cases j <;> simp only [knOf] at h2 <;> cases h2
  · exact e1
  · exact ⟨e1, hf x⟩
  · exact .inr e1
  · exact e1
/-- a def that raises nothing keeps its promise -/
theorem defP_of (F : FnP K x st f fd) (gx : mg x = some (.ref f)) (M : Nms st N ps L) (hb : Binds K fd ps []) (len : ∀ vs H Q E, sp vs H Q E → vs.length = ps.length)
    (body : ∀ (X : Cx), Ctx X N L k → At5 X P w K mg base → ∀ (vs : List V) (H : Hp) (Q : VK) (E : XK), sp vs H Q E → RB X (defBody st) { nx := fun _ H' => Q .non H', rt := Q } (start N vs) H) : DefP P w K mg base CX0 x ps (k + 1) sp := by
  refine ⟨f, fd, F.ok M.S len (fun cdv A outer s H vs Q E hr h => ?_), gx, F.kp, hb⟩
  have c : Ctx (cxOf CX0 P w K mg base N x (defScope st) f cdv A outer s H E).nox N L k := ⟨rfl, M.S.nd, knIs_of M rfl (fun _ => rfl), M.db, rfl, hr, PassesOwn.never, M.S.kind⟩
  obtain ⟨t, ht, q⟩ := (body _ c ⟨rfl, rfl, rfl, rfl, rfl⟩ vs H Q E h).ex
  exact ⟨t, ht.nox, q⟩
end
/-! ### frames -/
/-- what stands outside of the addresses of B is as it was -/
def Fr (B : Addr → Prop) (H H' : Hp) : Prop := ∀ a o, ¬ B a → H a = some o → H' a = some o
abbrev NoB : Addr → Prop := fun _ => False
section
variable {B : Addr → Prop} {K : PySem.W.Frag} {H H1 H2 : Hp} {a p : Addr} {o : HO} {xs : List V}
theorem Fr.refl : Fr B H H := fun _ _ _ h => h
theorem Fr.trans (h : Fr B H H1) (g : Fr B H1 H2) : Fr B H H2 := fun a o n e => g a o n (h a o n e)
theorem Fr.any (h : Fr NoB H H1) : Fr B H H1 := fun a o _ e => h a o (fun z => z) e
theorem Fr.new (h : H p = none) : Fr B H (upd H p o) := fun a u _ e => by
  rw [upd_ne (ne_of_none e h)]
  exact e
theorem Fr.seqL (f : Fr B H H1) (n : ¬ B a) (h : SqL K H a xs) : SqL K H1 a xs := by
  rcases h with (h | ⟨o, h⟩) | h
  · exact .inl (.inl (f _ _ n h))
  · exact .inl (.inr ⟨o, f _ _ n h⟩)
  · exact .inr h
theorem Fr.free (f : Fr NoB H H1) (h : H1 a = .none) : H a = .none := by
  cases e : H a with
  | none => rfl
  | some o =>
    rw [f a o (fun z => z) e] at h
    cases h
theorem Fr.gone (f : Fr B H H1) (n : ¬ B p) (h : H1 p = .none) : H p = .none := by
  cases e : H p with
  | none => rfl
  | some o =>
    rw [f p o n e] at h
    cases h
/-- an object that was not there at first is written -/
theorem Fr.put (f : Fr B H H1) (h : H p = .none) : Fr B H (upd H1 p o) := fun a u n e => by
  rw [upd_ne (ne_of_none e h)]
  exact f a u n e
end
/-! ### data -/
inductive D where
  | non | bl (b : Bool) | int (i : Int) | str (s : Str) | lst (l : List D) | tup (l : List D)
/-- v bears the data d: what it reaches stands outside of B -/
inductive Dt (K : PySem.W.Frag) (B : Addr → Prop) (H : Hp) : V → D → Prop
  | non : Dt K B H .non .non
  | bl {b : Bool} : Dt K B H (.bl b) (.bl b)
  | int {i : Int} : Dt K B H (.int i) (.int i)
  | str {s : Str} : Dt K B H (.str s) (.str s)
  | lst {a : Addr} {vs : List V} {ds : List D} (n : ¬ B a) (t : H a = some (.lst vs)) (l : vs.length = ds.length) (h : ∀ (i : Nat) v d, vs[i]? = some v → ds[i]? = some d → Dt K B H v d) : Dt K B H (.ref a) (.lst ds)
  | tup {a : Addr} {vs : List V} {ds : List D} (n : ¬ B a) (t : H a = some (.tup vs)) (l : vs.length = ds.length) (h : ∀ (i : Nat) v d, vs[i]? = some v → ds[i]? = some d → Dt K B H v d) : Dt K B H (.ref a) (.tup ds)
theorem Dt.fr {K : PySem.W.Frag} {B : Addr → Prop} {H H' : Hp} {v : V} {d : D} (h : Dt K B H v d) (f : Fr B H H') : Dt K B H' v d := by
  induction h with
  | non => exact .non
  | bl => exact .bl
  | int => exact .int
  | str => exact .str
  | lst n t l _ ih => exact .lst n (f _ _ n t) l ih
  | tup n t l _ ih => exact .tup n (f _ _ n t) l ih
theorem Dt.mono {K : PySem.W.Frag} {B B' : Addr → Prop} {H : Hp} {v : V} {d : D} (h : Dt K B H v d) (s : ∀ a, B' a → B a) : Dt K B' H v d := by
  induction h with
  | non => exact .non
  | bl => exact .bl
  | int => exact .int
  | str => exact .str
  | lst n t l _ ih => exact .lst (fun z => n (s _ z)) t l ih
  | tup n t l _ ih => exact .tup (fun z => n (s _ z)) t l ih
/-- row by row -/
def Dts (K : PySem.W.Frag) (B : Addr → Prop) (H : Hp) (vs : List V) (ds : List D) : Prop := vs.length = ds.length ∧ ∀ (i : Nat) v d, vs[i]? = some v → ds[i]? = some d → Dt K B H v d
theorem Dts.nil {K : PySem.W.Frag} {B : Addr → Prop} {H : Hp} : Dts K B H [] [] := ⟨rfl, fun i v d h => by simp at h⟩
theorem Dts.cons {K : PySem.W.Frag} {B : Addr → Prop} {H : Hp} {v : V} {d : D} {vs : List V} {ds : List D} (h : Dt K B H v d) (t : Dts K B H vs ds) : Dts K B H (v :: vs) (d :: ds) := by
  refine ⟨by rw [List.length_cons, List.length_cons, t.1], fun i u e h1 h2 => ?_⟩
  cases i with
  | zero =>
    simp at h1 h2
    subst h1 h2
    exact h
  | succ i => exact t.2 i u e (by simpa using h1) (by simpa using h2)
theorem Dts.fr {K : PySem.W.Frag} {B : Addr → Prop} {H H' : Hp} {vs : List V} {ds : List D} (h : Dts K B H vs ds) (f : Fr B H H') : Dts K B H' vs ds := ⟨h.1, fun i v d a b => (h.2 i v d a b).fr f⟩
theorem Dt.ofT {K : PySem.W.Frag} {B : Addr → Prop} {H : Hp} {a : Addr} {vs : List V} {ds : List D} (n : ¬ B a) (t : H a = some (.tup vs)) (h : Dts K B H vs ds) : Dt K B H (.ref a) (.tup ds) := .tup n t h.1 h.2
theorem Dt.ofL {K : PySem.W.Frag} {B : Addr → Prop} {H : Hp} {a : Addr} {vs : List V} {ds : List D} (n : ¬ B a) (t : H a = some (.lst vs)) (h : Dts K B H vs ds) : Dt K B H (.ref a) (.lst ds) := .lst n t h.1 h.2
/-- a new tuple, a new list, of data -/
theorem Dt.newT {K : PySem.W.Frag} {B : Addr → Prop} {H : Hp} {p : Addr} {vs : List V} {ds : List D} (hp : H p = none) (n : ¬ B p) (h : Dts K B H vs ds) : Dt K B (upd H p (.tup vs)) (.ref p) (.tup ds) := .ofT n upd_same (h.fr (Fr.new hp))
theorem Dt.newL {K : PySem.W.Frag} {B : Addr → Prop} {H : Hp} {p : Addr} {vs : List V} {ds : List D} (hp : H p = none) (n : ¬ B p) (h : Dts K B H vs ds) : Dt K B (upd H p (.lst vs)) (.ref p) (.lst ds) := .ofL n upd_same (h.fr (Fr.new hp))
/-! ### the box of a law's draws -/
/-- the two numbers: what is left of a great one, and the state of the draws -/
def BoxAt (H : Hp) (b : Addr) : Prop := ∃ g r : Int, H b = some (.lst [.int g, .int r]) ∧ 0 ≤ g ∧ 0 ≤ r ∧ r < 2 ^ 32
theorem BoxAt.fr {H H' : Hp} {b : Addr} (h : BoxAt H b) (f : Fr NoB H H') : BoxAt H' b := by
  obtain ⟨g, r, h1, h2⟩ := h
  exact ⟨g, r, f _ _ (fun z => z) h1, h2⟩
theorem BoxAt.ne {H : Hp} {b p : Addr} (h : BoxAt H b) (hp : H p = none) : ¬ p = b := by
  obtain ⟨g, r, h1, _⟩ := h
  exact fun e => by rw [e, h1] at hp; cases hp
theorem BoxAt.put {H : Hp} {b p : Addr} {o : HO} (h : BoxAt H b) (n : ¬ p = b) : BoxAt (upd H p o) b := by
  obtain ⟨g, r, h1, h2⟩ := h
  exact ⟨g, r, by rw [upd_ne (fun e => n e.symm)]; exact h1, h2⟩
end GT
namespace GT
open PySem PySem.Spec PyProof.Rows L2
section
variable {X : Cx} {σ : L2.St} {H : Hp} {N : List Str} {L Lc : List (Str × KN)} {k : Nat} {pos p0 p1 p2 : Pos} {Q : VK}
/-- s.index(sign), the sign there -/
theorem re_sindex {o e : Expr} {apos : Pos} (hc : X.calm = true) (q : RE X o σ H fun x H1 => ∃ a, x = .str a ∧ RE X e σ H1 fun y H2 => ∃ b k, y = .str b ∧ Txt.index0 a b = some k ∧ Q (.int (k : Nat)) H2)
    (hbase : attributeBase o "index" X.env (eval o X.env) = eval o X.env := by with_unfolding_all rfl)
    (hfew : ((backTo pos (starEach [e] X.env)).all (fun x => !x.1) && (backToKw pos (keywordEach [] X.env)).all (fun x => x.1.isSome) && decide (([e] : List Expr).length + ([] : List Keyword).length + (if ([] : List Keyword).isEmpty then 0 else 1) < 30)) = true := by with_unfolding_all rfl)
    (hline : (apos.endLine == pos.line) = true := by with_unfolding_all rfl) (hs : starEach [e] X.env = (false, eval e X.env) :: starEach [] X.env := by with_unfolding_all rfl) (hplain : (backTo pos (starEach [] X.env)).any (·.1) = false := by with_unfolding_all rfl) :
    RE X (.Call (.Attribute o "index" apos) [e] [] pos) σ H Q := by
  refine re_of (pe_bmS PySem.F.plainAttrs_str PySem.F.slot_str_index PySem.F.type_str_index (mt_indexX hc (W := fun _ _ _ _ => False) L2.takes0) PE.self PA.self hbase hfew hline hs hplain) ?_
  refine pe_mono q fun x H1 ⟨a, e1, q1⟩ => ?_
  subst e1
  refine ⟨rfl, ra_cons (pe_mono q1 fun y H2 ⟨b, k, e2, h2, q2⟩ => ra_nil ⟨a, b, rfl, by rw [e2], fun k' hk => ?_, fun hn => ?_⟩) hs⟩
  · rw [h2] at hk
    cases hk
    exact q2
  · rw [h2] at hn
    cases hn
end
/-! ### texts of small letters -/
def Low (z : Str) : Prop := ∀ c ∈ z.cps.toList, 97 ≤ c ∧ c ≤ 122
theorem abc_at : ∀ c : Nat, 97 ≤ c → c ≤ 122 → Txt.index0 "abcdefghijklmnopqrstuvwxyz" ⟨#[c]⟩ = some (c - 97) := by
  have h : ∀ i : Fin 26, Txt.index0 "abcdefghijklmnopqrstuvwxyz" ⟨#[97 + i.val]⟩ = some i.val := by decide +kernel
  intro c h1 h2
  have := h ⟨c - 97, by omega⟩
  have e : 97 + (c - 97) = c := by omega
  simpa [e] using this
end GT
namespace GT
open PySem PySem.Spec PyProof.Rows L2
theorem Put.slot {N : List Str} {σ σ' : L2.St} {x : Str} {v : V} (h : Put N σ x v σ') : Slot N σ' x v := by
  induction h with
  | here => exact .here
  | there _ ih => exact .there ih
section
variable {X : Cx} {σ : L2.St} {H1 : Hp} {N : List Str} {L Lc : List (Str × KN)} {k : Nat} {pe : Pos} {Q : VK} {scope : Scope} {x : Str} {t : Expr} {a : Addr} {xs : List V}
theorem filter_succ {α : Type} {f : α → Bool} {l : List α} {i : Nat} {y : α} (h : l[i]? = some y) : (l.take (i + 1)).filter f = (l.take i).filter f ++ (if f y = true then [y] else []) := by
  rw [List.take_succ, h, List.filter_append]
  simp [List.filter]
  split <;> simp_all
/-- [x for x in xs if t]: t tells f of the item and changes nothing -/
theorem cturns_filter {f : V → Bool} (hl : xs.length < sizeLine) (hq : SqL X.K H1 a xs) (hx : (x, KN.loc) ∈ Lc) {σf : V → L2.St} (hp : ∀ y, Put N σ x y (σf y))
    (ht : ∀ (y : V) (H' : Hp), y ∈ xs → Fr NoB H1 H' → ∀ (s : Shared) (Hb : Hp) (C : Addr) (cl : List (Str × Addr)) (fp : List Addr), Ctx (X.blk s Hb scope (compEnvC scope cl C X.env) fp) N Lc k →
      RT (X.blk s Hb scope (compEnvC scope cl C X.env) fp) t (σf y) H' fun b H'' => b = f y ∧ Fr NoB H' H'')
    (q : ∀ (Dn : Addr) (H' : Hp), H1 Dn = none → Fr NoB H1 H' → H' Dn = some (.lst (xs.filter f)) → Q (.ref Dn) H') :
    CTurns X N Lc k scope x (.Name x pe) [t] (fun H => SqL X.K H a xs) xs.length (fun i y => xs[i]? = some y) σ H1 Q := by
  intro Dn hD
  refine ⟨fun i H' => H' Dn = some (.lst ((xs.take i).filter f)) ∧ Fr NoB H1 H', ⟨upd_same, Fr.new hD⟩, fun i H _ h => h.2.seqL (fun z => z) hq, ?_, ?_⟩
  · rintro i y H' hi hy ⟨h1, h2⟩
    refine ⟨σf y, hp y, fun s Hb C cl fp cb => rts_one (rt_mono (ht y H' (List.mem_of_getElem? hy) h2 s Hb C cl fp cb) ?_)⟩
    rintro b H'' ⟨e, f2⟩
    have e2 := f2 Dn _ (fun z => z) h1
    cases hb : f y with
    | false =>
      rw [e, hb]
      refine iteF ⟨?_, h2.trans f2⟩
      rw [filter_succ hy, hb, e2]
      simp
    | true =>
      rw [e, hb]
      refine iteT fun s Hb C cl fp cb => re_name cb (hp y).slot hx .loc ?_
      have hlen : ((xs.take i).filter f).length < sizeLine := Nat.lt_of_le_of_lt (Nat.le_trans (List.length_filter_le _ _) (by rw [List.length_take]; omega)) hl
      refine ⟨_, e2, hlen, ?_, (h2.trans f2).put hD⟩
      rw [upd_same, filter_succ hy, hb]
      rfl
  · rintro H' ⟨h1, h2⟩
    rw [List.take_length] at h1
    exact q Dn H' hD h2 h1
end
end GT
namespace GT
open PySem PySem.Spec PyProof.Rows L2
section
variable {X : Cx} {σ : L2.St} {H : Hp} {N : List Str} {L Lc : List (Str × KN)} {k : Nat} {pos p0 p1 p2 p3 : Pos} {Q : VK} {D : Ends}
/-! ### an own exception class with one field that its __init__ lays -/
theorem rs_ost {o e : Expr} {f : Str} {p' : Pos} (q : RE X e σ H fun y H1 => RE X o σ H1 fun x H2 => ∃ a C : Addr, x = .ref a ∧ OexC X.K C ∧ PySem.W.findIn X.K (.ref C) f = some none ∧ H2 a = some (exo a C none) ∧ ∀ dx, H2 dx = none → dx ≠ a → D.nx σ (upd (upd H2 dx (exd dx [(f, y)])) a (exo a C (some dx))))
    (hs : swapsWith e (some (.Attribute o f p')) pos.line X.env = pure false := by with_unfolding_all rfl) : RS X (.Assign [.Attribute o f p'] e pos) D σ H :=
  rs_of (ps_ost PE.self PE.self hs) (pe_mono q fun y H1 q1 => pe_mono q1 fun x H2 ⟨a, C, e1, T, n, h, q2⟩ => ⟨a, C, e1, T, n, .inl ⟨h, q2⟩⟩)
/-- the promise of such an __init__ -/
def spIni (K : PySem.W.Frag) (fl : Str) : Sp := fun vs H Q _ => ∃ (a C : Addr) (v : V), vs = [.ref a, v] ∧ OexC K C ∧ PySem.W.findIn K (.ref C) fl = some none ∧ H a = some (exo a C none) ∧
  ∀ dx, H dx = none → dx ≠ a → Q .non (upd (upd H dx (exd dx [(fl, v)])) a (exo a C (some dx)))
structure ErrC (P : Program) (w : World) (K : PySem.W.Frag) (mg : Str → Option Value) (base : Heap) (nm fl : Str) (C : Addr) : Prop where
  oex : OexC K C
  gC : mg nm = some (.ref C)
  no : PySem.W.findIn K (.ref C) fl = some none
  xf : XfC K C
  ini : ∃ (fI : Addr) (fd : FuncData) (ps : List Str), PySem.W.findIn K (.ref C) "__init__" = some (some (.ref fI)) ∧ PySem.W.typeIn K (.ref fI) = some (.type "function") ∧ FnOk P w K mg base CX0 1 fI fd ps (spIni K fl) ∧ Binds K fd ps []
/-- raise C(e) -/
theorem rs_raise (c : Ctx X N L k) {nm fl : Str} {C : Addr} (EC : ErrC X.prog X.w X.K X.mg X.base nm fl C) (hk : 2 ≤ k) (hg : (nm, KN.glob) ∈ L) {W : WX} (tk : Takes X W) {e : Expr}
    (q : RE X e σ H fun v H1 => ∀ d, H1 d = none → W (.ref C) (some d) σ (upd H1 d (.xd [(fl, v)])))
    (he : starEach (e :: []) X.env = (false, eval e X.env) :: starEach [] X.env := by with_unfolding_all rfl) (hpl : (backTo p1 (starEach [] X.env)).any (·.1) = false := by with_unfolding_all rfl) :
    RS X (.Raise (some (.Call (.Name nm p0) [e] [] p1)) none pos) D σ H := by
  obtain ⟨fI, fd, ps, iC, tI, F1, hb⟩ := EC.ini
  refine rs_of (ps_raise c.calm tk (pmk_oex EC.oex iC tI F1 (c.room.mono hk) hb .nil pass0 (c.gl hg) EC.gC PA.self (c.d1 hg) he hpl)) ?_
  refine ra_cons (pe_mono q fun v H1 q1 => ra_nil ⟨by show 1 ≤ 1000; decide, fun a ha => ⟨a, C, v, rfl, EC.oex, EC.no, upd_same, fun d hd hda => ?_⟩⟩) he
  have hd1 : H1 d = none := by rwa [upd_ne hda] at hd
  refine ⟨rfl, d, [(fl, v)], upd_same, ?_, hd1, ?_⟩
  · rw [upd_ne hda, upd_same]
  · have e1 : upd (del (upd (upd (upd H1 a (exo a C none)) d (exd d [(fl, v)])) a (exo a C (some d))) a) d (.xd [(fl, v)]) = upd H1 d (.xd [(fl, v)]) := by
      funext b
      by_cases hb1 : b = d
      · subst hb1
        rw [upd_same, upd_same]
      · rw [upd_ne hb1, upd_ne hb1]
        by_cases hb2 : b = a
        · subst hb2
          rw [del_same, ha]
        · rw [del_ne hb2, upd_ne hb2, upd_ne hb1, upd_ne hb2]
    rw [e1]
    exact q1 d hd1
/-! ### within an except suite -/
structure CtxS (X : Cx) (N : List Str) (L : List (Str × KN)) : Prop where
  n : X.N = N
  nd : N.Nodup
  look : ∀ p ∈ L, KnIs X p.1 p.2
  dbg : ∀ p ∈ L, okName p.1 = true
theorem CtxS.gl (c : CtxS X N L) {x : Str} (h : (x, KN.glob) ∈ L) : Gl X x := c.look _ h
theorem re_nameS (c : CtxS X N L) {x : Str} {v : V} {j : KN} (s : Slot N σ x v) (h : (x, j) ∈ L) (m : Mine j) (q : Q v H) : RE X (.Name x pos) σ H Q := by
  obtain ⟨i, h1, h2⟩ := s.ix
  rw [← c.n] at h1
  obtain ⟨d1, d2, _⟩ := okName_of (c.dbg _ h)
  refine re_of (pe_var h1 ?_ d1 d2) ⟨_, h2, q⟩
  have e := c.look _ h
  cases m with
  | loc => exact Or.inl e
  | cell => exact Or.inr (Or.inl e.1)
  | cap => exact Or.inr e
theorem re_globS (c : CtxS X N L) {x : Str} {v : V} {u : Value} (h : (x, KN.glob) ∈ L) (hm : X.mg x = some u) (r : RelV v u) (q : Q v H) : RE X (.Name x pos) σ H Q := re_of (pe_glob (c.gl h) hm r (okName_of (c.dbg _ h)).1) q
theorem re_bltnS (c : CtxS X N L) {x : Str} {v : V} {u : Value} (h : (x, KN.glob) ∈ L) (hm : X.mg x = none) (hv : bootBuiltins x = some u) (r : RelV v u) (q : Q v H) : RE X (.Name x pos) σ H Q :=
  re_of (pe_bltn (c.gl h) hm hv r (okName_of (c.dbg _ h)).2.2 (okName_of (c.dbg _ h)).1) q
theorem rs_setS (c : CtxS X N L) {x : Str} {e : Expr} {pos' : Pos} (h : (x, KN.loc) ∈ L) (hx : x ∈ N) (q : RE X e σ H fun v H1 => ∃ σ', Put N σ x v σ' ∧ D.nx σ' H1) (hs : swapsWith e (some (.Name x pos')) pos.line X.env = pure false := by with_unfolding_all rfl) : RS X (.Assign [.Name x pos'] e pos) D σ H := by
  obtain ⟨i, h1⟩ := List.mem_iff_getElem?.mp hx
  have e1 := c.look _ h
  refine rs_of (ps_set (i := i) (by rw [c.n]; exact c.nd) (by rw [c.n]; exact h1) (Or.inl e1) PE.self hs (Or.inr e1)) (pe_mono q fun v H1 ⟨σ', hp, q1⟩ => ?_)
  obtain ⟨i', h2, h3⟩ := hp.ix
  have : i' = i := (List.getElem?_inj (by rcases Nat.lt_or_ge i' N.length with z | z; exact z; rw [List.getElem?_eq_none z] at h2; cases h2) c.nd).mp (h2.trans h1.symm)
  subst this
  subst h3
  exact q1
/-- what the class D says, so that isinstance asks its instances rightly -/
structure KitC (K : PySem.W.Frag) (D : Addr) : Prop where
  cl : (PySem.W.clsIn K D).isSome = true
  ga : PySem.W.findIn K (.ref D) "__getattribute__" = some (some (.builtin "BaseException.__getattribute__"))
  gg : PySem.W.findIn K (.ref D) "__getattr__" = some none
  sb : PySem.W.subIn K (.ref D) (.type "BaseException") = some true
  ca : PySem.W.findIn K (.ref D) "__class__" = some (some (.builtin "object.__class__"))
  gt : PySem.W.specialIn K (.builtin "object.__class__") "__get__" = some (some (.builtin "getset_descriptor.__get__"))
  tk : PySem.W.takesIn K (.builtin "object.__class__") = some true
  mo : PySem.W.mroIn K D (.type "object") = some true
/-- isinstance(e, c) and isinstance(e, (c, ..)), e the exception that the suite holds, with a dict -/
def rIsX (K : PySem.W.Frag) (D a dd : Addr) : List V → Hp → VK → Prop := fun xs H Q => ∃ (c : V) (b : Bool), xs = [.ref a, c] ∧ (∃ fs, H dd = some (.xd fs)) ∧ Q (.bl b) H ∧
  ((∃ u, ClsV c u ∧ PySem.W.kitOne K (.ref D) u = some b) ∨ ∃ (tp : Addr) (cs : List V) (us : List Value), c = .ref tp ∧ H tp = some (.tup cs) ∧ Paired ClsV cs us ∧ PySem.W.kitAny K (.ref D) us = some b)
theorem call_isX {a D dd : Addr} {oe : Obj} {pn : List (Addr × Obj)} (C : KitC X.K D) (hz : Zc (.ref D) (some dd) oe) (hf : ∃ vs, oe.data = .fields vs) : CallR (X.suite a ((a, oe) :: pn)) (.builtin "isinstance") (rIsX X.K D a dd) := by
  intro pins s σ H xs us Q I r h
  obtain ⟨c, b, rfl, ⟨fs, hd⟩, q, h⟩ := h
  cases r with
  | cons rx rr =>
    cases rr with
    | cons rt rr =>
      cases rr
      cases rx
      obtain ⟨hget, _⟩ := I.pin (a, oe) (List.mem_append.mpr (.inl List.mem_cons_self))
      obtain ⟨vs, hv⟩ := hf
      obtain ⟨mA, hns, hr⟩ := (show ObjOk X.prog X.w H s.heap dd (.xd fs) from I.hok dd _ hd)
      obtain ⟨od, ho, hl⟩ := lookIn_ns hns
      have J : PySem.W.InstAt s.heap a oe D (some od) := ⟨hget, hz.1, by unfold PySem.W.notCls; rw [hv] <;> rfl, by rw [hz.2]; exact ho⟩
      have Z := PySem.W.kitx_exc (x := a) (ox := oe) (od := some od) C.cl C.ga C.gg C.sb C.ca C.gt C.tk C.mo
      rcases h with ⟨u, k, e⟩ | ⟨tp, cs, ws, rfl, hT, k, e⟩
      · have e2 := k.eq rt
        subst e2
        exact PySem.W.kia_one Z I.kIn J e (fun z => nomatch z) fun tk => ⟨.bl b, H, I.kept (t' := tk) fun _ _ z => z, rfl, q⟩
      · cases rt
        obtain ⟨_, its, rv, o, h1, h2, n, h3⟩ := (show ObjOk X.prog X.w H s.heap tp (.tup cs) from I.hok tp _ hT)
        have e3 := ClsV.all k rv
        subst e3
        obtain ⟨oc, od', dt, sl⟩ := o
        simp only at h2 h3
        subst h2 h3
        exact PySem.W.kia_tup Z I.kIn J h1 e (fun z => nomatch z) fun tk => ⟨.bl b, H, I.kept (t' := tk) fun _ _ z => z, rfl, q⟩
theorem re_isX (c : CtxS X N L) {e : Expr} {es : List Expr} (h : (("isinstance" : Str), KN.glob) ∈ L) (hm : X.mg "isinstance" = none) (q : RA X (e :: es) σ H fun vs H1 => ClV X (.builtin "isinstance") vs H1 Q)
    (he : starEach (e :: es) X.env = (false, eval e X.env) :: starEach es X.env := by with_unfolding_all rfl) (hpl : (backTo pos (starEach es X.env)).any (·.1) = false := by with_unfolding_all rfl) : RE X (.Call (.Name "isinstance" p0) (e :: es) [] pos) σ H Q :=
  re_of (pe_callB ClR.self (c.gl h) hm (by decide +kernel) PA.self (okName_of (c.dbg _ h)).2.2 (okName_of (c.dbg _ h)).1 he hpl) q
theorem lv_isX {a D dd : Addr} {oe : Obj} {pn : List (Addr × Obj)} {fs : List (Str × V)} {y : V} {u : Value} {b : Bool} (C : KitC X.K D) (hz : Zc (.ref D) (some dd) oe) (hf : ∃ vs, oe.data = .fields vs) (hd : H dd = some (.xd fs)) (k : ClsV y u) (e : PySem.W.kitOne X.K (.ref D) u = some b) (q : Q (.bl b) H) :
    ClV (X.suite a ((a, oe) :: pn)) (.builtin "isinstance") [.ref a, y] H Q := ⟨⟨_, call_isX C hz hf, y, b, rfl, ⟨_, hd⟩, q, .inl ⟨u, k, e⟩⟩⟩
theorem lv_isXT {a D dd tp : Addr} {oe : Obj} {pn : List (Addr × Obj)} {fs : List (Str × V)} {cs : List V} {us : List Value} {b : Bool} (C : KitC X.K D) (hz : Zc (.ref D) (some dd) oe) (hf : ∃ vs, oe.data = .fields vs) (hd : H dd = some (.xd fs)) (hT : H tp = some (.tup cs)) (k : Paired ClsV cs us)
    (e : PySem.W.kitAny X.K (.ref D) us = some b) (q : Q (.bl b) H) : ClV (X.suite a ((a, oe) :: pn)) (.builtin "isinstance") [.ref a, .ref tp] H Q := ⟨⟨_, call_isX C hz hf, .ref tp, b, rfl, ⟨_, hd⟩, q, .inr ⟨tp, cs, us, rfl, hT, k, e⟩⟩⟩
/-- fault.f -/
theorem re_field {a C dd : Addr} {oe : Obj} {pn : List (Addr × Obj)} {e : Expr} {f : Str} {fs : List (Str × V)} {v : V} (T : XfC X.K C) (hno : PySem.W.findIn X.K (.ref C) f = some none) (hz : Zc (.ref C) (some dd) oe) (hf : ∃ vs, oe.data = .fields vs)
    (q : RE (X.suite a ((a, oe) :: pn)) e σ H fun x H1 => x = .ref a ∧ H1 dd = some (.xd fs) ∧ fs.lookup f = some v ∧ Q v H1) (hb : attributeBase e f X.env (eval e X.env) = eval e X.env := by with_unfolding_all rfl) :
    RE (X.suite a ((a, oe) :: pn)) (.Attribute e f pos) σ H Q := re_of (pe_xf T hno hz hf PE.self hb) (pe_mono q fun x H1 ⟨e1, h, l, q1⟩ => ⟨e1, rfl, dd, fs, v, rfl, h, l, q1⟩)
theorem Ctx.tr (c : Ctx X N L k) (pn : List (Addr × Obj)) (xe : Value → Shared → Prop) (po : PassesOwn (model X.prog X.w) X.A X.env xe) : Ctx (X.tr pn xe) N L k := ⟨c.n, c.nd, c.look, c.dbg, c.calm, c.room, po, c.kind⟩
/-- try: body, except x as n: suite (that ends by return) -/
theorem rs_try_as (c : CtxS X N L) (hs : X.stack = X.env :: X.outer) (hf : X.env.frame = some X.env.locals) {x n : Str} {c0 : Value} {b₀ : Stmt} {body suite : List Stmt} {np pos' : Pos} (hn : (n, KN.loc) ∈ L) (mn : n ∈ N) (hc : Names X x c0)
    (q : ∀ (pn : List (Addr × Obj)) (xe : Value → Shared → Prop) (W : WX), Takes (X.tr pn xe) W → PassesOwn (model X.prog X.w) X.A X.env xe →
      (∀ (cls : Value) (d : Option Addr) (σ' : L2.St) (H' : Hp), PySem.W.exmOne X.K cls c0 = some true →
        (∀ (a : Addr) (oe : Obj) (pn2 : List (Addr × Obj)) (nx bk ct : L2.St → Hp → Prop) (σa : L2.St), H' a = none → (∀ i : Nat, N[i]? = some n → σa = σ'.set i (some (.ref a))) → σ'.length = N.length → Zc cls d oe → (∃ vs, oe.data = .fields vs) → CtxS (X.suite a ((a, oe) :: pn2)) N L →
          RB (X.suite a ((a, oe) :: pn2)) (b₀ :: suite) { nx := nx, rt := D.rt, bk := bk, ct := ct } σa H') → W cls d σ' H') →
      RB (X.tr pn xe) body D σ H) :
    RS X (.Try body [.ExceptHandler (some (.Name x np)) (some n) (b₀ :: suite) pos'] [] [] pos) D σ H := by
  obtain ⟨i, h1⟩ := List.mem_iff_getElem?.mp mn
  refine rs_of (ps_try_as (i := i) (c := c0) (Wout := fun _ _ _ _ => False) (tb := fun W D σ H => ∀ (pn : List (Addr × Obj)) (xe : Value → Shared → Prop), Takes (X.tr pn xe) W → PassesOwn (model X.prog X.w) X.A X.env xe → RB (X.tr pn xe) body D σ H)
    (ts := fun a cls d D σ H => ∀ (oe : Obj) (pn2 : List (Addr × Obj)), σ.length = N.length → Zc cls d oe → (∃ vs, oe.data = .fields vs) → RB (X.suite a ((a, oe) :: pn2)) (b₀ :: suite) D σ H)
    hs hf (by rw [c.n]; exact c.nd) (by rw [c.n]; exact h1) (c.look _ hn) hc takes0 (fun W pn xe tk po => ?_) (fun a oe cls d pn hz hd => ?_)) ?_
  · exact ⟨fun pins s σ H D I h => PSs.self.run pins s σ H D I (h pn xe tk po)⟩
  · exact ⟨fun pins s σ H D I h => PSs.self.run pins s σ H D I (h oe pn (by rw [I.len, ← c.n]) hz hd)⟩
  · intro pn xe tk po
    refine q pn xe _ tk po fun cls d σ' H' e r => ⟨true, e, fun _ a ha => ?_, fun z => nomatch z⟩
    exact fun oe pn2 hl hz hd => r a oe pn2 _ _ _ _ ha (fun j hj => by rw [nodup_ix c.nd hj h1]) (by simpa using hl) hz hd ⟨c.n, c.nd, c.look, c.dbg⟩
end
end GT
namespace GT
open PySem PySem.Spec PyProof.Rows L2
section
variable {X : Cx} {σ : L2.St} {H : Hp} {N : List Str} {L Lc : List (Str × KN)} {k : Nat} {pos p0 p1 p2 p3 : Pos} {Q : VK} {D : Ends} {x y : V} {p : Addr} {xs : List V} {b : Bool}
/-- x is True, x is False; x no reference -/
theorem op_isB : OpR X (compareOp .Is) (fun x y H Q => ∃ b, y = .bl b ∧ (x = .non ∨ (∃ c, x = .bl c) ∨ (∃ i, x = .int i) ∨ (∃ z, x = .str z)) ∧ Q (.bl (decide (x = .bl b))) H) := by
  intro pins s σ H x y v u Q I rx ry h
  obtain ⟨b, rfl, hx, q⟩ := h
  cases ry
  have g : ∀ r, r = decide (x = .bl b) → (L2.EP X pins σ Q (.bool r) s) := fun r e => fin_bl I q e.symm
  rcases hx with rfl | ⟨c, rfl⟩ | ⟨i, rfl⟩ | ⟨z, rfl⟩
  · cases rx
    exact wpAny_pure (g _ rfl)
  · cases rx
    refine wpAny_pure (g _ ?_)
    cases b <;> cases c <;> rfl
  · obtain ⟨t, rfl⟩ := rx
    exact wpAny_pure (g _ rfl)
  · obtain ⟨t, rfl⟩ := rx
    exact wpAny_pure (g _ rfl)
theorem cv_isB_b {c : Bool} (q : Q (.bl (decide (c = b))) H) : CpV X .Is (.bl c) (.bl b) H Q := ⟨⟨_, op_isB, b, rfl, .inr (.inl ⟨c, rfl⟩), by
  have e : decide (V.bl c = V.bl b) = decide (c = b) := by simp
  rw [e]
  exact q⟩⟩
theorem cv_isB_i {i : Int} (q : Q (.bl false) H) : CpV X .Is (.int i) (.bl b) H Q := ⟨⟨_, op_isB, b, rfl, .inr (.inr (.inl ⟨i, rfl⟩)), by rw [decide_eq_false (fun e => nomatch e)]; exact q⟩⟩
theorem cv_isB_s {z : Str} (q : Q (.bl false) H) : CpV X .Is (.str z) (.bl b) H Q := ⟨⟨_, op_isB, b, rfl, .inr (.inr (.inr ⟨z, rfl⟩)), by rw [decide_eq_false (fun e => nomatch e)]; exact q⟩⟩
/-- isinstance(x, T), T a built-in type -/
theorem lv_isT {t T : String} (ty : TyX X.K H x (.type t)) (e : kitB t T = some b) (q : Q (.bl b) H) : ClV X (.builtin "isinstance") [x, .ty T] H Q := lv_isi (.ty T) ty (kit_ty e) q
theorem lv_isT_n {T : String} (e : kitB "NoneType" T = some b) (q : Q (.bl b) H) : ClV X (.builtin "isinstance") [.non, .ty T] H Q := lv_isT (.base .non) e q
theorem lv_isT_b {T : String} {c : Bool} (e : kitB "bool" T = some b) (q : Q (.bl b) H) : ClV X (.builtin "isinstance") [.bl c, .ty T] H Q := lv_isT (.base (.bl c)) e q
theorem lv_isT_i {T : String} {i : Int} (e : kitB "int" T = some b) (q : Q (.bl b) H) : ClV X (.builtin "isinstance") [.int i, .ty T] H Q := lv_isT (.base (.int i)) e q
theorem lv_isT_s {T : String} {z : Str} (e : kitB "str" T = some b) (q : Q (.bl b) H) : ClV X (.builtin "isinstance") [.str z, .ty T] H Q := lv_isT (.base (.str z)) e q
theorem lv_isT_l {T : String} (h : H p = some (.lst xs)) (e : kitB "list" T = some b) (q : Q (.bl b) H) : ClV X (.builtin "isinstance") [.ref p, .ty T] H Q := lv_isT (.base (.lst h)) e q
theorem lv_isT_t {T : String} (h : H p = some (.tup xs)) (e : kitB "tuple" T = some b) (q : Q (.bl b) H) : ClV X (.builtin "isinstance") [.ref p, .ty T] H Q := lv_isT (.base (.tup h)) e q
theorem iteNT {A B : Prop} (h : B) : if (!true) = true then A else B := h
theorem iteNF {A B : Prop} (h : A) : if (!false) = true then A else B := h
theorem iteD {p : Prop} [Decidable p] {A B : Prop} (hp : p) (h : A) : if decide p = true then A else B := by
  rw [decide_eq_true hp]
  exact h
theorem iteDN {p : Prop} [Decidable p] {A B : Prop} (hp : ¬ p) (h : B) : if decide p = true then A else B := by
  rw [decide_eq_false hp]
  exact h
/-! ### a def that may raise, called where it doesn't -/
theorem re_callX (c : Ctx X N L k) {x : Str} {ps : List Str} {n : Nat} {sp : Sp} {e : Expr} {es : List Expr} (F : DefP X.prog X.w X.K X.mg X.base (L2.CX X.prog X.w) x ps n sp) (hn : n ≤ k) (h : (x, KN.glob) ∈ L) {E : XK} (hx : Passes (L2.CX X.prog X.w) X E) (q : RA X (e :: es) σ H fun vs H1 => sp vs H1 Q E)
    (he : starEach (e :: es) X.env = (false, eval e X.env) :: starEach es X.env := by with_unfolding_all rfl) (hpl : (backTo pos (starEach es X.env)).any (·.1) = false := by with_unfolding_all rfl) : RE X (.Call (.Name x p0) (e :: es) [] pos) σ H Q := by
  obtain ⟨f, fd, F1, m, kp, b⟩ := F.ex
  refine re_of (pe_call F1 (c.room.mono hn) (c.gl h) m kp b .nil hx PA.self (c.d1 h) he hpl) ?_
  exact ra_mono q fun vs H1 d => by rw [List.append_nil]; exact d
end
section
variable {P : Program} {w : World} {K : PySem.W.Frag} {mg : Str → Option Value} {base : Heap} {x : Str} {st : Stmt} {N ps : List Str} {L : List (Str × KN)} {k : Nat} {sp : Sp} {f : Addr} {fd : FuncData}
end
/-- the depth of data -/
inductive Dep : Nat → D → Prop
  | non {n : Nat} : Dep n .non
  | bl {n : Nat} {b : Bool} : Dep n (.bl b)
  | int {n : Nat} {i : Int} : Dep n (.int i)
  | str {n : Nat} {z : Str} : Dep n (.str z)
  | lst {n : Nat} {l : List D} (h : ∀ d ∈ l, Dep n d) : Dep (n + 1) (.lst l)
  | tup {n : Nat} {l : List D} (h : ∀ d ∈ l, Dep n d) : Dep (n + 1) (.tup l)
end GT
namespace GT
open PySem PySem.Spec PyProof.Rows L2
/-! ### frames that let the code tables grow -/
def Fx (B : Addr → Prop) (H H' : Hp) : Prop := ∀ a o, ¬ B a → (∀ ps, o ≠ .tbl ps) → H a = some o → H' a = some o
section
variable {B : Addr → Prop} {K : PySem.W.Frag} {H H1 H2 : Hp} {a p : Addr} {o : HO} {xs : List V}
theorem Fr.fx (f : Fr B H H1) : Fx B H H1 := fun a o n _ e => f a o n e
theorem Fx.ext (f : LamX.ExtN H H1) : Fx NoB H H1 := fun a o _ n e => f a o e n
theorem Fx.refl : Fx B H H := fun _ _ _ _ h => h
theorem Fx.trans (h : Fx B H H1) (g : Fx B H1 H2) : Fx B H H2 := fun a o n t e => g a o n t (h a o n t e)
theorem Fx.lst (f : Fx B H H1) (n : ¬ B a) (h : H a = some (.lst xs)) : H1 a = some (.lst xs) := f _ _ n (fun _ z => by cases z) h
theorem Fx.tup (f : Fx B H H1) (n : ¬ B a) (h : H a = some (.tup xs)) : H1 a = some (.tup xs) := f _ _ n (fun _ z => by cases z) h
theorem Fx.seqL (f : Fx B H H1) (n : ¬ B a) (h : SqL K H a xs) : SqL K H1 a xs := by
  rcases h with (h | ⟨o, h⟩) | h
  · exact .inl (.inl (f _ _ n (fun _ z => by cases z) h))
  · exact .inl (.inr ⟨o, f _ _ n (fun _ z => by cases z) h⟩)
  · exact .inr h
theorem Fx.dt {v : V} {d : D} (f : Fx B H H1) (h : Dt K B H v d) : Dt K B H1 v d := by
  induction h with
  | non => exact .non
  | bl => exact .bl
  | int => exact .int
  | str => exact .str
  | lst n t l _ ih => exact .lst n (f.lst n t) l ih
  | tup n t l _ ih => exact .tup n (f.tup n t) l ih
theorem Fx.dts {vs : List V} {ds : List D} (f : Fx B H H1) (h : Dts K B H vs ds) : Dts K B H1 vs ds := ⟨h.1, fun i v d a b => f.dt (h.2 i v d a b)⟩
theorem Fx.box {b : Addr} (f : Fx NoB H H1) (h : BoxAt H b) : BoxAt H1 b := by
  obtain ⟨g, r, h1, h2⟩ := h
  exact ⟨g, r, f.lst (fun z => z) h1, h2⟩
end
/-! ### a def of whose code one knows where it stands -/
structure FnC (K : PySem.W.Frag) (x : Str) (st : Stmt) (f cc : Addr) (fd : FuncData) : Prop where
  ex : ∃ (oc : Value) (od : Option Addr) (dV kV doc pm : Value) (an : Option Addr) (ct : Value) (osl : Array (Option Value)),
    fd = PySem.W.fnOf x x (defArgs st) (defBody st) (defScope st) dV kV doc pm an (.ref cc) ct ∧ K.lookup f = some ⟨oc, od, .func fd, osl⟩ ∧ PySem.W.codeIn K (.ref cc) x = true
  kp : PySem.W.keepIn K (.ref f) = true
section
variable {P : Program} {w : World} {K : PySem.W.Frag} {mg : Str → Option Value} {base : Heap} {x : Str} {st : Stmt} {N ps : List Str} {L : List (Str × KN)} {k : Nat} {sp : Sp} {f cc : Addr} {fd : FuncData}
theorem defPC_of (F : FnC K x st f cc fd) (gx : mg x = some (.ref f)) (M : Nms st N ps L) (hb : Binds K fd ps []) (len : ∀ vs H Q E, sp vs H Q E → vs.length = ps.length)
    (body : ∀ (X : Cx), Ctx X N L k → At5 X P w K mg base → X.env.code = .ref cc → X.env.qual = x ++ ".<locals>." → ∀ (vs : List V) (H : Hp) (Q : VK) (E : XK), sp vs H Q E → RB X (defBody st) { nx := fun _ H' => Q .non H', rt := Q } (start N vs) H) : DefP P w K mg base CX0 x ps (k + 1) sp := by
  obtain ⟨oc, od, dV, kV, doc, pm, an, ct, osl, rfl, lk, hcd⟩ := F.ex
  refine ⟨f, _, fn_of lk hcd M.S len (fun A outer s H vs Q E hr h => ?_), gx, F.kp, hb⟩
  have c : Ctx (cxOf CX0 P w K mg base N x (defScope st) f (.ref cc) A outer s H E).nox N L k := ⟨rfl, M.S.nd, knIs_of M rfl (fun _ => rfl), M.db, rfl, hr, PassesOwn.never, M.S.kind⟩
  obtain ⟨t, ht, q⟩ := (body _ c ⟨rfl, rfl, rfl, rfl, rfl⟩ rfl rfl vs H Q E h).ex
  exact ⟨t, ht.nox, q⟩
end
/-! ### a lambda handed to a def -/
/-- the lambda's own scope within a def of the names L; Ll its names -/
def lamOk (L : List (Str × KN)) (scope : Scope) (Ll : List (Str × KN)) : Bool :=
  decide (scope.kind = .function) && !scope.isCoroutine && !scope.isGenerator && (scope.names.all fun y => !decide (y.2 = .local) && !decide (y.2 = .cell) && (!decide (y.2 = .free) || (decide ((y.1, KN.cell) ∈ L) || decide ((y.1, KN.cap) ∈ L)))) &&
    (Ll.all fun p => decide (p ∈ knAll scope.names)) && decide (scope.names.map (·.1)).Nodup && (Ll.all fun p => okName p.1) && (Ll.all fun p => decide (p.2 = .cap) || decide (p.2 = .glob))
section
variable {X : Cx} {σ : L2.St} {H : Hp} {N : List Str} {L Ll : List (Str × KN)} {k : Nat} {pos p0 p1 : Pos} {Q : VK} {scope : Scope}
def LamR (X : Cx) (scope : Scope) (body : Expr) (kl : Nat) (σ : L2.St) : XK → Hp → VK → Prop := fun E H Q => ∀ (A : Around) (outer : List Env) (s : Shared) (H0 : Hp) (f c' : Addr), Room kl (A.deeper (LamX.lamEnv X scope s.heap.objs.size f c')) → RE (LamX.lamCx X A outer s H0 E scope f c') body σ H Q
theorem lamOk_of (c : Ctx X N L k) (h : lamOk L scope Ll = true) : LamX.LamS X.env.scope scope ∧ (∀ p ∈ Ll, p ∈ knAll scope.names) ∧ (scope.names.map (·.1)).Nodup ∧ (∀ p ∈ Ll, okName p.1 = true) ∧ ∀ p ∈ Ll, p.2 = .cap ∨ p.2 = .glob := by
  unfold lamOk at h
  simp only [Bool.and_eq_true, Bool.or_eq_true, Bool.not_eq_true', decide_eq_true_eq, decide_eq_false_iff_not, List.all_eq_true] at h
  obtain ⟨⟨⟨⟨⟨⟨⟨h1, h2⟩, h3⟩, h4⟩, h5⟩, h6⟩, h7⟩, h8⟩ := h
  refine ⟨⟨h1, h2, h3, fun y hy => ⟨(h4 y hy).1.1, (h4 y hy).1.2⟩, fun y hy e => ?_⟩, h5, h6, h7, h8⟩
  rcases (h4 y hy).2 with z | z | z
  · exact absurd e z
  · exact .inl (c.look _ z).1
  · exact c.look _ z
theorem LamR.intro (c : Ctx X N L k) (h : lamOk L scope Ll = true) {body : Expr} {kl : Nat} {E : XK} (q : ∀ Xl : Cx, Ctx Xl N Ll kl → At5 Xl X.prog X.w X.K X.mg X.base → Takes Xl (fun cls d _ H' => E cls d H') → RE Xl body σ H Q) : LamR X scope body kl σ E H Q := by
  obtain ⟨S, h5, h6, h7, h8⟩ := lamOk_of c h
  intro A outer s H0 f c' hr
  refine q _ ⟨c.n, c.nd, fun p hp => ?_, h7, rfl, hr, passes_of rfl, S.kind⟩ ⟨rfl, rfl, rfl, rfl, rfl⟩ (takes_of rfl rfl rfl rfl)
  obtain ⟨y, m⟩ := p
  obtain ⟨j, h1, h2⟩ := knAll_mem (h5 _ hp)
  have e1 : (LamX.lamCx X A outer s H0 E scope f c').env.scope.names.lookup y = some j := lookup_mem h6 h1
  cases j <;> simp only [knOf] at h2 <;> cases h2
  · exact absurd rfl (S.own _ h1).1
  · exact absurd rfl (S.own _ h1).2
  · exact .inr e1
  · exact e1
theorem re_lamcall (c : Ctx X N L k) {T : List (Addr × Str)} {TT : (XK → Hp → VK → Prop) → Hp → VK → Prop} {x a : Str} {sth : Stmt} {g cc P : Addr} {fdh : FuncData} {Ng : List Str} {params : Arguments} {body : Expr} {kl : Nat} (Ll : List (Str × KN)) (hok : lamOk L scope Ll = true)
    (FH : FnP X.K x sth g fdh) (gx : X.mg x = some (.ref g)) (bH : Binds X.K fdh [a] []) (Sg : FnScope Ng [a] (defScope sth)) (hNg : Ng[0]? = some a) (hva : Vis (defScope sth) a) (ha : okName a = true) (hG : ∀ cdg, LamX.GivesTo X Ng x (defScope sth) g cdg (defBody sth) a (X.env.qual ++ "<lambda>") TT)
    (TB : LamX.TabB X.base X.mg cc P) (hcode : X.env.code = .ref cc) (hmT : (P, X.env.qual ++ "<lambda>") ∈ T) (hu : ∀ p ∈ T, p.1 = P → p.2 = X.env.qual ++ "<lambda>") (hk : kl + 2 ≤ k) (hgl : (x, KN.glob) ∈ L)
    (q : LamX.Tabs T H ∧ ∀ H1, LamX.ExtN H H1 → LamX.Tabs T H1 → TT (LamR X scope body kl σ) H1 Q)
    (hdef : defaultsOf params X.env = ([], []) := by with_unfolding_all rfl) (hbind : ∀ (q : Str) (cl : List (Str × Addr)) (pm cv ctv : Value), bindArgs (PySem.W.kla_fn "<lambda>" q params body scope cl pm cv ctv) ⟨[], []⟩ = pure [] := by intros; with_unfolding_all rfl) :
    RE X (.Call (.Name x p0) [.Lambda params body scope p1] [] pos) σ H Q := by
  obtain ⟨oc, od, dV, kV, doc, pm, an, cdv, ct, osl, rfl, lk, hcd, _, _⟩ := FH.ex
  obtain ⟨d1, d2, d3⟩ := okName_of ha
  refine re_of (LamX.pe_lamcall (t := fun E σ H Q => LamR X scope body kl σ E H Q) (c.gl hgl) gx FH.kp lk hcd bH Sg hNg hva (hG cdv) TB hcode hmT hu (c.room.mono hk) (lamOk_of c hok).1 hdef hbind (fun A outer s H E f c' hr => ?_) (c.d1 hgl) d1 d2) q
  exact ⟨fun pins s' σ H' Q' I h => PE.self.run pins s' σ H' Q' I (h A outer s H f c' hr)⟩
/-- a pair of constants is stored as one folded tuple -/
theorem swapped_folded {x y : Expr} {a b : Expr} {kt k2 : Nat} {q1 q2 : Pos} {env : Env} (h : [a, b].all (foldedForSure 8) = true) : swappedStores [.Tuple [x, y] kt q1] (.Tuple [a, b] k2 q2) env = pure none := by
  unfold swappedStores
  dsimp only
  rw [h]
  repeat' first
    | rfl
    | (rename_i hh _; exact absurd rfl hh)
    | split
/-- x, y = e, e a pair -/
theorem rs_tup2 (c : Ctx X N L k) {x y : Str} {e : Expr} {j j' : KN} {kt : Nat} {q0 q1 q2 : Pos} (h : (x, j) ∈ L) (m : Own j) (hx : x ∈ N) (h' : (y, j') ∈ L) (m' : Own j') (hy : y ∈ N) {D : Ends}
    (q : RE X e σ H fun w H1 => ∃ t u v, w = .ref t ∧ SqT X.K H1 t [u, v] ∧ ∃ σ' σ'', Put N σ x u σ' ∧ Put N σ' y v σ'' ∧ D.nx σ'' H1)
    (hw : swappedStores [.Tuple [.Name x q0, .Name y q1] kt q2] e X.env = pure none) (hs : swapsWithSole [.Tuple [.Name x q0, .Name y q1] kt q2] e pos.line X.env = pure false := by with_unfolding_all rfl)
    (h1 : (assignEach [.Tuple [.Name x q0, .Name y q1] kt q2] X.env).map (·.2) = [assign (.Tuple [.Name x q0, .Name y q1] kt q2) X.env] := by with_unfolding_all rfl)
    (hn : (assignEach [.Name x q0, .Name y q1] X.env).length = 2 := by with_unfolding_all rfl) (hst : (assignEach [.Name x q0, .Name y q1] X.env).findIdx? (·.1) = none := by with_unfolding_all rfl)
    (ha : (assignEach [.Name x q0, .Name y q1] X.env).map (·.2) = assign (.Name x q0) X.env :: (assignEach [.Name y q1] X.env).map (·.2) := by with_unfolding_all rfl) (hb : (assignEach [.Name y q1] X.env).map (·.2) = assign (.Name y q1) X.env :: (assignEach [] X.env).map (·.2) := by with_unfolding_all rfl) :
    RS X (.Assign [.Tuple [.Name x q0, .Name y q1] kt q2] e pos) D σ H := by
  obtain ⟨i, g, h2⟩ := c.pg (p0 := q0) h m hx
  obtain ⟨i', g', h2'⟩ := c.pg (p0 := q1) h' m' hy
  refine rs_of (ps_asg PE.self (pg_tup (n := 2) c.calm (pgs_cons g (pgs_cons g' pgs_nil hb) ha) hn hst) hs hw h1) (pe_mono q fun w H1 ⟨t, u, v, e1, hT, σ', σ'', a1, a2, r⟩ => ?_)
  subst e1
  rw [h2' a2, h2 a1] at r
  exact ⟨t, _, rfl, hT, rfl, _, _, rfl, _, _, rfl, rfl, r⟩
/-- x, y = a, b: not all of it constants -/
theorem swapped_two {x y : Str} {a b : Expr} {px py q1 q2 : Pos} {kt k2 : Nat} {env : Env} (hb : env.blockKind = .function) (hx : env.kindOf x = some .local) (hy : env.kindOf y = some .local) (hl : (px.line == py.line) = true) (hd : ([x, y] : List Str).eraseDups = [x, y])
    (ha : ∀ v p, a ≠ .Starred v p) (hb2 : ∀ v p, b ≠ .Starred v p) (h1 : [a, b].all (foldedForSure 8) = false) (h2 : [a, b].all (constantsAlone 8) = false) :
    swappedStores [.Tuple [.Name x px, .Name y py] kt q1] (.Tuple [a, b] k2 q2) env = pure (some [x, y]) := by
  have hl' : px.line = py.line := by simpa using hl
  unfold swappedStores
  dsimp only
  rw [h1, h2]
  simp only [Bool.false_eq_true, if_false]
  rw [if_neg (by simp [hb])]
  have hstar : ∀ (f : Expr → Bool), (∀ e, (∀ v p, e ≠ .Starred v p) → f e = false) → [a, b].any f = false := fun f hf => by
    simp [hf a ha, hf b hb2]
  rw [hstar _ (fun e he => by
    split
    · exact absurd rfl (he _ _)
    · rfl)]
  simp [hx, hy, hl', hd, Expr.pos]
theorem Ctx.bk (c : Ctx X N L k) : X.env.blockKind = .function := by
  unfold Env.blockKind
  rw [c.kind]
  rfl
theorem rs_par2 (c : Ctx X N L k) {x y : Str} {a b : Expr} {px py pt : Pos} {kt k2 : Nat} {pt2 : Pos} {D : Ends} (hx : (x, KN.loc) ∈ L) (hy : (y, KN.loc) ∈ L) (mx : x ∈ N) (my : y ∈ N) (hxy : x ≠ y)
    (q : RA X [a, b] σ H fun vs H1 => ∃ v w σ' σ'', vs = [v, w] ∧ Put N σ x v σ' ∧ Put N σ' y w σ'' ∧ D.nx σ'' H1)
    (hl : (px.line == py.line) = true := by decide +kernel) (hd : ([x, y] : List Str).eraseDups = [x, y] := by decide +kernel) (ha : ∀ v p, a ≠ .Starred v p := by intros; nofun) (hb2 : ∀ v p, b ≠ .Starred v p := by intros; nofun)
    (h1 : [a, b].all (foldedForSure 8) = false := by decide +kernel) (h2 : [a, b].all (constantsAlone 8) = false := by decide +kernel)
    (hs : swapsWithSole [.Tuple [.Name x px, .Name y py] kt pt] (.Tuple [a, b] k2 pt2) pos.line X.env = pure false := by with_unfolding_all rfl) :
    RS X (.Assign [.Tuple [.Name x px, .Name y py] kt pt] (.Tuple [a, b] k2 pt2) pos) D σ H :=
  rs_par c hx hy mx my hxy q (swapped_two c.bk (c.lcl hx) (c.lcl hy) hl hd ha hb2 h1 h2) hs
end
end GT
namespace GT
open PySem PySem.Spec PyProof.Rows L2
/-! ### Bools of the head that tell an own exception class -/
def oexB (K : PySem.W.Frag) (C : Addr) : Bool := match K.lookup C with
  | some ⟨.type "type", _, .cls cd, sl⟩ => (match cd.mro, sl.toList with
    | .ref C' :: bm, [_, _, _, _, some (.builtin n), _] => C' == C && n == "ValueError.__new__" && !cd.hasDel && cd.hasDict && PySem.HandSPX.refsVE bm
    | _, _ => false)
  | _ => false
theorem oexB_ok {K : PySem.W.Frag} {C : Addr} (q : oexB K C = true) : ∃ nm q N bs bm sn sub ab col dd k0 k1 k2 k3 k5, K.lookup C = some (excClassObj nm q C N bs bm true sn sub ab col dd k0 k1 k2 k3 k5 "ValueError.__new__") ∧ PySem.HandSPX.refsVE bm = true := by
  unfold oexB at q
  split at q
  · rename_i dd cd sl ho
    split at q
    · rename_i C' bm k0 k1 k2 k3 n k5 hm hs
      simp only [Bool.and_eq_true, beq_iff_eq, Bool.not_eq_true'] at q
      obtain ⟨⟨⟨⟨rfl, rfl⟩, hdel⟩, hdict⟩, ht⟩ := q
      obtain ⟨nm, bs, mro, ns, qn, hd, sn, sub, ab, col, del⟩ := cd
      dsimp only at hm hdel hdict
      subst hm hdel hdict
      have hsl : sl = #[k0, k1, k2, k3, some (.builtin "ValueError.__new__"), k5] := by
        obtain ⟨l⟩ := sl
        simp only at hs
        rw [hs]
      subst hsl
      exact ⟨nm, qn, ns, bs, bm, sn, sub, ab, col, dd, k0, k1, k2, k3, k5, ho, ht⟩
    · cases q
  · cases q
def kitCB (K : PySem.W.Frag) (D : Addr) : Bool := (PySem.W.clsIn K D).isSome && (He.eqO (PySem.W.findIn K (.ref D) "__getattribute__") (some (some (.builtin "BaseException.__getattribute__"))) && (He.eqO (PySem.W.findIn K (.ref D) "__getattr__") (some none) && (decide (PySem.W.subIn K (.ref D) (.type "BaseException") = some true) &&
  (He.eqO (PySem.W.findIn K (.ref D) "__class__") (some (some (.builtin "object.__class__"))) && (He.eqO (PySem.W.specialIn K (.builtin "object.__class__") "__get__") (some (some (.builtin "getset_descriptor.__get__"))) && (decide (PySem.W.takesIn K (.builtin "object.__class__") = some true) && decide (PySem.W.mroIn K D (.type "object") = some true)))))))
theorem kitCB_ok {K : PySem.W.Frag} {D : Addr} (h : kitCB K D = true) : KitC K D := by
  obtain ⟨h1, h⟩ := He.ba h
  obtain ⟨h2, h⟩ := He.ba h
  obtain ⟨h3, h⟩ := He.ba h
  obtain ⟨h4, h⟩ := He.ba h
  obtain ⟨h5, h⟩ := He.ba h
  obtain ⟨h6, h⟩ := He.ba h
  obtain ⟨h7, h8⟩ := He.ba h
  exact ⟨h1, He.eqO_ok h2, He.eqO_ok h3, of_decide_eq_true h4, He.eqO_ok h5, He.eqO_ok h6, of_decide_eq_true h7, of_decide_eq_true h8⟩
/-- the class nm, its field fl -/
def errB (K : PySem.W.Frag) (nm fl : Str) : Bool := oexB K (He.ga K nm) && (He.eqO (PySem.W.findIn K (.ref (He.ga K nm)) "__setattr__") (some (some (.builtin "object.__setattr__"))) && (decide (PySem.W.subIn K (.ref (He.ga K nm)) (.type "BaseException") = some true) && (decide (PySem.W.typeIn K (.ref (He.ga K nm)) = some (.type "type")) &&
  (PySem.W.keepIn K (.ref (He.ga K nm)) && (He.eqO (PySem.W.findIn K (.ref (He.ga K nm)) "__init__") (some (some (.ref (He.ma K (He.ga K nm) "__init__")))) && (decide (PySem.W.typeIn K (.ref (He.ma K (He.ga K nm) "__init__")) = some (.type "function")) && (He.eqO (PySem.W.findIn K (.ref (He.ga K nm)) fl) (some none) && xfB K (He.ga K nm))))))))
structure ErrK (K : PySem.W.Frag) (C fI : Addr) (fl : Str) : Prop where
  oex : OexC K C
  iC : PySem.W.findIn K (.ref C) "__init__" = some (some (.ref fI))
  tI : PySem.W.typeIn K (.ref fI) = some (.type "function")
  no : PySem.W.findIn K (.ref C) fl = some none
  xf : XfC K C
theorem errB_ok {K : PySem.W.Frag} {nm fl : Str} (h : errB K nm fl = true) : ErrK K (He.ga K nm) (He.ma K (He.ga K nm) "__init__") fl := by
  obtain ⟨h1, h⟩ := He.ba h
  obtain ⟨h2, h⟩ := He.ba h
  obtain ⟨h3, h⟩ := He.ba h
  obtain ⟨h4, h⟩ := He.ba h
  obtain ⟨h5, h⟩ := He.ba h
  obtain ⟨h6, h⟩ := He.ba h
  obtain ⟨h7, h⟩ := He.ba h
  obtain ⟨h8, h9⟩ := He.ba h
  exact ⟨⟨oexB_ok h1, He.eqO_ok h2, of_decide_eq_true h3, of_decide_eq_true h4, h5⟩, He.eqO_ok h6, of_decide_eq_true h7, He.eqO_ok h8, xfB_ok h9⟩
/-- the i-th statement of a class -/
def inCls (st : Stmt) (i : Nat) : Stmt := match st with
  | .ClassDef _ _ _ b _ _ _ _ _ _ _ => b.getD i (.Pass ⟨0, 0, 0, 0⟩)
  | _ => .Pass ⟨0, 0, 0, 0⟩
end GT
namespace GT
open PySem PySem.Spec PyProof.Rows L2
section
variable {X : Cx} {σ : L2.St} {H : Hp} {N : List Str} {L Lc : List (Str × KN)} {k : Nat} {pos p0 p1 p2 : Pos} {Q : VK} {D : Ends} {scope : Scope} {x : Str} {elt : Expr} {ifs : List Expr}
/-- [.. for x in z], z a text -/
theorem re_lc_str (c : Ctx X N L k) (Lc : List (Str × KN)) (hok : lcOk N L scope Lc x = true) {l : Expr}
    (q : RE X l σ H fun v H1 => ∃ z, v = .str z ∧ CTurns X N Lc k scope x elt ifs (fun _ => True) z.cps.size (fun i y => ∃ c, z.cps[i]? = some c ∧ y = .str ⟨#[c]⟩) σ H1 Q)
    (hs : ∀ x, foldedSetIterable l X.env x = pure x := by intro _; with_unfolding_all rfl) : RE X (.ListComp elt [⟨.Name x p0, l, ifs, 0⟩] scope pos) σ H Q := by
  obtain ⟨S, hx, hl, ok⟩ := lcOk_of c hok
  obtain ⟨i, hput, bk, g⟩ := blk_at (p0 := p0) c S hx hl ok
  refine re_of (pe_lc c.calm c.nodup (pi_str PE.self) bk g (fun s H C cl fp => PTs.rta c S s H C cl fp) (fun s H C cl fp => PE.rea c S s H C cl fp) hs) ?_
  exact pe_mono q fun v H1 ⟨z, e, q1⟩ => ⟨z, e, lc_go hput walk_str q1⟩
/-- xs.extend(e), e a list -/
theorem re_extend {o e : Expr} {apos : Pos} (q : RE X o σ H fun x H1 => ∃ l xs, x = .ref l ∧ H1 l = some (.lst xs) ∧ RE X e σ H1 fun y H2 => ∃ b xs' zs, y = .ref b ∧ H2 l = some (.lst xs') ∧ H2 b = some (.lst zs) ∧ xs'.length + zs.length ≤ sizeLine ∧ Q .non (upd H2 l (.lst (xs' ++ zs))))
    (hbase : attributeBase o "extend" X.env (eval o X.env) = eval o X.env := by with_unfolding_all rfl)
    (hfew : ((backTo pos (starEach [e] X.env)).all (fun x => !x.1) && (backToKw pos (keywordEach [] X.env)).all (fun x => x.1.isSome) && decide (([e] : List Expr).length + ([] : List Keyword).length + (if ([] : List Keyword).isEmpty then 0 else 1) < 30)) = true := by with_unfolding_all rfl)
    (hline : (apos.endLine == pos.line) = true := by with_unfolding_all rfl) (hs : starEach [e] X.env = (false, eval e X.env) :: starEach [] X.env := by with_unfolding_all rfl) (hplain : (backTo pos (starEach [] X.env)).any (·.1) = false := by with_unfolding_all rfl) :
    RE X (.Call (.Attribute o "extend" apos) [e] [] pos) σ H Q := by
  refine re_of (pe_bm PySem.F.plainAttrs_list PySem.F.slot_list_extend PySem.F.type_list_extend mt_extend PE.self PA.self hbase hfew hline hs hplain) ?_
  refine pe_mono q fun x H1 ⟨l, xs, e1, h1, q1⟩ => ?_
  subst e1
  refine ⟨.inl ⟨rfl, _, SqL.of h1⟩, ra_cons (pe_mono q1 fun y H2 ⟨b, xs', zs, e2, h2, h3, h4, q2⟩ => ra_nil ⟨l, b, xs', zs, rfl, by rw [e2], h2, h3, h4, q2⟩) hs⟩
/-! ### keywords alone -/
structure RK (X : Cx) (kws : List Keyword) (σ : L2.St) (H : Hp) (Q : List V → Hp → Prop) : Prop where
  ex : ∃ t, PK X kws t ∧ t σ H Q
theorem PK.self {kws : List Keyword} : PK X kws (RK X kws) := ⟨fun pos pins s σ H Q I h => by obtain ⟨t, ht, q⟩ := h.ex; exact ht.run pos pins s σ H Q I q⟩
theorem rk_nil {Q : List V → Hp → Prop} (q : Q [] H) : RK X [] σ H Q := ⟨⟨_, pk_nil, q⟩⟩
theorem rk_cons {nm : Option Str} {e : Expr} {kpos : Pos} {kws : List Keyword} {Q : List V → Hp → Prop} (q : RE X e σ H fun x H1 => RK X kws σ H1 fun xs H2 => Q (x :: xs) H2) : RK X (⟨nm, e, kpos⟩ :: kws) σ H Q := ⟨⟨_, pk_cons PE.self PK.self, q⟩⟩
/-- f(k = e, ..) -/
theorem re_callKO (c : Ctx X N L k) {CXs : CXT} {x : Str} {n : Nat} {f : Addr} {fd : FuncData} {ps ks : List Str} {sp : Sp} {g : List Value → List Value → List Value} {gV : List V → List V → List V} {kws : List Keyword} (F : FnOk X.prog X.w X.K X.mg X.base CXs n f fd ps sp) (hn : n ≤ k) (h : (x, KN.glob) ∈ L)
    (hm : X.mg x = some (.ref f)) (hk : PySem.W.keepIn X.K (.ref f) = true) (hb : KBinds X.K fd ps ks g gV) {E : XK} (hx : Passes CXs X E) (q : RK X kws σ H fun zs H1 => sp (gV [] zs) H1 Q E)
    (hall : (backToKw pos (keywordEach kws X.env)).all (·.1.isSome) = true := by with_unfolding_all rfl) (hks : (backToKw pos (keywordEach kws X.env)).filterMap (·.1) = ks := by with_unfolding_all rfl)
    (hpl : ((backTo pos (starEach [] X.env)).any (·.1) || (backToKw pos (keywordEach kws X.env)).any (·.1.isNone)) = false := by with_unfolding_all rfl) : RE X (.Call (.Name x p0) [] kws pos) σ H Q := by
  refine re_of (t := fun σ H Q => RK X kws σ H fun zs H1 => sp (gV [] zs) H1 Q E) ⟨fun pins s σ H Q I h' => ?_⟩ q
  refine wpAny_Call_Name_kw (ld_glob I (c.gl h) hm ?_ (c.d1 h))
  refine PySem.W.callWith_KW0 (h₀ := X.base) I.ok.mod.kin hk hall ?_ hpl
  refine thn (PK.self.run pos pins s σ H _ I h') fun ws s2 ⟨zs, H2, I2, rz, q2⟩ => ⟨I2.kIn, ?_⟩
  rw [hks]
  exact run_fnk (us := []) (vs := []) F (c.room.mono hn) hb hx I2 .nil rz q2
end
end GT
namespace GT
open PySem PySem.Spec PyProof.Rows L2
/-! ### enumerate of a text -/
end GT
namespace GT
open PySem
open Sem (wp)
/-! ### enumerate(v), v told by how its iterator begins -/
end GT
namespace GT
open PySem PySem.Spec PyProof.Rows L2
/-! ### enumerate of a tuple -/
/-! ### walks over them -/
section
variable {X : Cx} {σ : L2.St} {H : Hp} {N : List Str} {L Lc : List (Str × KN)} {k : Nat} {pos p0 p1 p2 p3 : Pos} {Q : VK} {D : Ends}
/-- what a loop over pairs asks: u i, v i the pair's parts, T its own new tuple -/
def PTurns (X : Cx) (N : List Str) (x y : Str) (body : List Stmt) (D : Ends) (stand : Hp → Prop) (n : Nat) (u v : Nat → Option V) (σ : L2.St) (H : Hp) : Prop :=
  ∃ Pv : Nat → L2.St → Hp → Prop, Pv 0 σ H ∧ (∀ i σ H, i ≤ n → Pv i σ H → stand H) ∧
    (∀ i a b σ H T, i < n → u i = some a → v i = some b → Pv i σ H → H T = none → ∃ σ' σ'', Put N σ x a σ' ∧ Put N σ' y b σ'' ∧ RB X body { D with nx := Pv (i + 1), ct := Pv (i + 1), bk := D.nx } σ'' (upd H T (.tup [a, b]))) ∧ (∀ σ H, Pv n σ H → D.nx σ H)
theorem pturns_go {J : It} {x y : Str} {body : List Stmt} {stand : Hp → Prop} {n : Nat} {u v : Nat → Option V} {i i' : Nat} (W : Walk J n stand (YPair u v)) (h2 : ∀ {σ σ' : L2.St} {v : V}, Put N σ x v σ' → σ' = σ.set i (some v)) (h2' : ∀ {σ σ' : L2.St} {v : V}, Put N σ y v σ' → σ' = σ.set i' (some v))
    (q : PTurns X N x y body D stand n u v σ H) :
    ∃ W : Nat → Nat → L2.St → Hp → Prop, (∃ m, W 0 m σ H) ∧ ∀ j m σ H, W j m σ H → (J.stop j H ∧ D.nx σ H) ∨ (J.go j H ∧ ∃ Nx : L2.St → Hp → Prop, (∀ σ' H', Nx σ' H' → ∃ m', m' < m ∧ W (j + 1) m' σ' H') ∧ ∀ w H', J.yld j H w H' →
      gTup X.K 2 (gCons (gName i) (gCons (gName i') gNil)) w σ H' fun σ2 H2 => RB X body { D with nx := Nx, ct := Nx, bk := D.nx } σ2 H2) := by
  obtain ⟨Pv, a1, a2, a3, a4⟩ := q
  refine for_it W (tb := fun D σ H => RB X body D σ H) (g := gTup X.K 2 (gCons (gName i) (gCons (gName i') gNil))) Pv a1 a2 (fun j w σ H H' hj p yy => ?_) a4
  obtain ⟨T, a, b, rfl, hT, rfl, e1, e2⟩ := yy
  obtain ⟨σ', σ'', b1, b2, r⟩ := a3 j a b σ H T hj e1 e2 p hT
  rw [h2' b2, h2 b1] at r
  exact ⟨T, _, rfl, SqT.of upd_same, rfl, _, _, rfl, _, _, rfl, rfl, r⟩
section
variable {x y : Str} {e : Expr} {body : List Stmt} {j j' : KN} {kt : Nat} {q0 q1 q2 : Pos}
end
/-! ### texts -/
/-! ### a number that stands in the module -/
end
/-! ### the first place at fault -/
end GT
namespace GT
open PySem PySem.Spec PyProof.Rows L2
/-! ### several except clauses, each with the same name -/
section
variable {X : Cx} {n : Str} {i : Nat} {body : List Stmt} {h₀ : ExceptHandler} {hds : List ExceptHandler} {l : List (Value × Suite)} {pos : Pos} {tb : WX → TS} {Wout : WX}
end
section
variable {X : Cx} {σ : L2.St} {H : Hp} {N : List Str} {L Lc : List (Str × KN)} {k : Nat} {pos p0 p1 p2 p3 : Pos} {Q : VK} {D : Ends}
/-- math.gcd by its name -/
theorem re_gcd (c : Ctx X N L k) {x : Str} {e : Expr} {es : List Expr} (h : (x, KN.glob) ∈ L) (hm : X.mg x = some (.builtin "math.gcd")) (q : RA X (e :: es) σ H fun vs H1 => ∃ a b : Int, vs = [.int a, .int b] ∧ Q (.int ((Nat.gcd a.natAbs b.natAbs : Nat) : Int)) H1)
    (he : starEach (e :: es) X.env = (false, eval e X.env) :: starEach es X.env := by with_unfolding_all rfl) (hpl : (backTo pos (starEach es X.env)).any (·.1) = false := by with_unfolding_all rfl) : RE X (.Call (.Name x p0) (e :: es) [] pos) σ H Q :=
  re_of (pe_callBfun cr_gcd (c.gl h) hm PA.self (c.d1 h) he hpl) q
/-- f() -/
theorem re_call0 (c : Ctx X N L k) {x : Str} {n : Nat} {sp : Sp} (F : DefP X.prog X.w X.K X.mg X.base CX0 x [] n sp) (hn : n ≤ k) (h : (x, KN.glob) ∈ L) (q : sp [] H Q E0) : RE X (.Call (.Name x p0) [] [] pos) σ H Q := by
  obtain ⟨f, fd, F1, m, kp, b⟩ := F.ex
  exact re_of (pe_call0 F1 (c.room.mono hn) (c.gl h) m kp b .nil pass0 (c.d1 h)) q
end
end GT
namespace GT
open PySem PySem.Spec PyProof.Rows L2
/-- what holds something -/
def Old (H : Hp) : Addr → Prop := fun a => H a ≠ none
theorem Fr.sub {B B' : Addr → Prop} {H H' : Hp} (f : Fr B H H') (s : ∀ a, B a → B' a) : Fr B' H H' := fun a o n e => f a o (fun z => n (s a z)) e
theorem Fr.old {H H' : Hp} (f : Fr NoB H H') {a : Addr} (h : Old H a) : Old H' a := fun e => h (f.free e)
theorem old_box {H : Hp} {b : Addr} (h : BoxAt H b) : Old H b := by
  obtain ⟨g, r, h1, _⟩ := h
  intro e
  rw [h1] at e
  cases e
theorem old_at {H : Hp} {b : Addr} {o : HO} (h : H b = some o) : Old H b := fun e => by rw [h] at e; cases e
theorem Dts.mono {K : PySem.W.Frag} {B B' : Addr → Prop} {H : Hp} {vs : List V} {ds : List D} (h : Dts K B H vs ds) (s : ∀ a, B' a → B a) : Dts K B' H vs ds := ⟨h.1, fun i v d a b => (h.2 i v d a b).mono s⟩
theorem dep_up {n : Nat} {d : D} (h : Dep n d) : ∀ m, n ≤ m → Dep m d := by
  induction h with
  | non => exact fun _ _ => .non
  | bl => exact fun _ _ => .bl
  | int => exact fun _ _ => .int
  | str => exact fun _ _ => .str
  | lst _ ih =>
    intro m hm
    obtain ⟨k, rfl⟩ : ∃ k, m = k + 1 := ⟨m - 1, by omega⟩
    exact .lst fun d hd => ih d hd k (by omega)
  | tup _ ih =>
    intro m hm
    obtain ⟨k, rfl⟩ : ∃ k, m = k + 1 := ⟨m - 1, by omega⟩
    exact .tup fun d hd => ih d hd k (by omega)
theorem dts_app {K : PySem.W.Frag} {B : Addr → Prop} {H : Hp} {vs ws : List V} {ds es : List D} (h : Dts K B H vs ds) (g : Dts K B H ws es) : Dts K B H (vs ++ ws) (ds ++ es) := by
  refine ⟨by rw [List.length_append, List.length_append, h.1, g.1], fun i u e h1 h2 => ?_⟩
  rcases Nat.lt_or_ge i vs.length with z | z
  · rw [List.getElem?_append_left z] at h1
    rw [List.getElem?_append_left (by rw [← h.1]; exact z)] at h2
    exact h.2 i u e h1 h2
  · rw [List.getElem?_append_right z] at h1
    rw [List.getElem?_append_right (by rw [← h.1]; exact z), ← h.1] at h2
    exact g.2 _ u e h1 h2
theorem dts_strs {K : PySem.W.Frag} {B : Addr → Prop} {H : Hp} : ∀ ls : List Str, Dts K B H (ls.map V.str) (ls.map D.str)
  | [] => .nil
  | _ :: r => .cons .str (dts_strs r)
/-! ### displays of constants -/
inductive DE : Expr → D → Prop
  | non {j : Nat} {p : Pos} : DE (.Constant .none j p) .non
  | bl {b : Bool} {j : Nat} {p : Pos} : DE (.Constant (.bool b) j p) (.bl b)
  | int {i : Int} {j : Nat} {p : Pos} : DE (.Constant (.int i) j p) (.int i)
  | str {s : Str} {j : Nat} {p : Pos} : DE (.Constant (.str s) j p) (.str s)
  | neg {i : Int} {j : Nat} {p p' : Pos} : DE (.UnaryOp .USub (.Constant (.int i) j p) p') (.int (-i))
  | sub {a b : Expr} {i j : Int} {p : Pos} (h1 : DE a (.int i)) (h2 : DE b (.int j)) : DE (.BinOp a .Sub b p) (.int (i - j))
  | add {a b : Expr} {i j : Int} {p : Pos} (h1 : DE a (.int i)) (h2 : DE b (.int j)) : DE (.BinOp a .Add b p) (.int (i + j))
  | mul {a : Expr} {i j : Int} {n : Nat} {p p' : Pos} (h1 : DE a (.int i)) (h2 : -(2 ^ 64) < j ∧ j < 2 ^ 64) : DE (.BinOp a .Mult (.Constant (.int j) n p') p) (.int (i * j))
  | pow {a b : Expr} {i j : Int} {p : Pos} (h1 : DE a (.int i)) (h2 : DE b (.int j)) (hc : CPow i j) : DE (.BinOp a .Pow b p) (.int (i ^ j.toNat))
  | tup {es : List Expr} {ds : List D} {k : Nat} {p : Pos} (hl : es.length = ds.length) (h1 : ds.length ≤ 1000) (h : ∀ (i : Nat) e d, es[i]? = some e → ds[i]? = some d → DE e d) : DE (.Tuple es k p) (.tup ds)
  | lst {es : List Expr} {ds : List D} {p : Pos} (hl : es.length = ds.length) (h1 : ds.length ≤ 1000) (h : ∀ (i : Nat) e d, es[i]? = some e → ds[i]? = some d → DE e d) : DE (.List es p) (.lst ds)
inductive DEs : List Expr → List D → Prop
  | nil : DEs [] []
  | cons {e : Expr} {d : D} {es : List Expr} {ds : List D} (h : DE e d) (t : DEs es ds) : DEs (e :: es) (d :: ds)
theorem DEs.len {es : List Expr} {ds : List D} (h : DEs es ds) : es.length = ds.length := by
  induction h with
  | nil => rfl
  | cons _ _ ih => rw [List.length_cons, List.length_cons, ih]
theorem DEs.at_ {es : List Expr} {ds : List D} (h : DEs es ds) : ∀ (i : Nat) e d, es[i]? = some e → ds[i]? = some d → DE e d := by
  induction h with
  | nil => intro i e d h; simp at h
  | cons h0 _ ih =>
    intro i e d h1 h2
    cases i with
    | zero =>
      cases h1
      cases h2
      exact h0
    | succ i => exact ih i e d (by simpa using h1) (by simpa using h2)
theorem DE.tupS {es : List Expr} {ds : List D} {k : Nat} {p : Pos} (h : DEs es ds) (h1 : ds.length ≤ 1000) : DE (.Tuple es k p) (.tup ds) := .tup h.len h1 h.at_
theorem DE.lstS {es : List Expr} {ds : List D} {p : Pos} (h : DEs es ds) (h1 : ds.length ≤ 1000) : DE (.List es p) (.lst ds) := .lst h.len h1 h.at_
theorem DE.star {e : Expr} {d : D} (h : DE e d) (es : List Expr) (env : Env) : starEach (e :: es) env = (false, eval e env) :: starEach es env := by
  cases h <;> rfl
section
variable {X : Cx}
theorem ra_de {es : List Expr} {ds : List D} (hl : es.length = ds.length) (ih : ∀ (i : Nat) e d, es[i]? = some e → ds[i]? = some d → DE e d ∧ ∀ (σ : L2.St) (H : Hp) (Q : VK), (∀ v H', Fr NoB H H' → Dt X.K (Old H) H' v d → Q v H') → RE X e σ H Q) :
    ∀ (σ : L2.St) (H : Hp) (Q : List V → Hp → Prop), (∀ vs H', Fr NoB H H' → Dts X.K (Old H) H' vs ds → Q vs H') → RA X es σ H Q := by
  induction es generalizing ds with
  | nil =>
    intro σ H Q q
    cases ds with
    | nil => exact ra_nil (q [] H Fr.refl .nil)
    | cons d r => cases hl
  | cons e es ihl =>
    intro σ H Q q
    cases ds with
    | nil => cases hl
    | cons d r =>
      obtain ⟨h0, r0⟩ := ih 0 e d rfl rfl
      refine ra_cons (r0 σ H _ fun v H1 f1 d1 => ?_) (h0.star _ _)
      refine ihl (ds := r) (by simpa using hl) (fun i e' d' a b => ih (i + 1) e' d' (by simpa using a) (by simpa using b)) σ H1 _ fun vs H2 f2 d2 => ?_
      exact q _ H2 (f1.trans f2) (.cons (d1.fr f2.any) (d2.mono fun a h => f1.old h))
theorem re_de {e : Expr} {d : D} (h : DE e d) : ∀ (σ : L2.St) (H : Hp) (Q : VK), (∀ v H', Fr NoB H H' → Dt X.K (Old H) H' v d → Q v H') → RE X e σ H Q := by
  induction h with
  | non => exact fun σ H Q q => re_non (q _ H Fr.refl .non)
  | bl => exact fun σ H Q q => re_bl (q _ H Fr.refl .bl)
  | int => exact fun σ H Q q => re_int (q _ H Fr.refl .int)
  | str => exact fun σ H Q q => re_str (q _ H Fr.refl .str)
  | neg => exact fun σ H Q q => re_neg (re_int ⟨_, rfl, q _ H Fr.refl .int⟩)
  | sub _ _ i1 i2 =>
    intro σ H Q q
    refine re_bin (i1 σ H _ fun v H1 f1 d1 => i2 σ H1 _ fun w H2 f2 d2 => ?_)
    cases d1
    cases d2
    exact ov_sub (q _ H2 (f1.trans f2) .int)
  | add _ _ i1 i2 =>
    intro σ H Q q
    refine re_bin (i1 σ H _ fun v H1 f1 d1 => i2 σ H1 _ fun w H2 f2 d2 => ?_)
    cases d1
    cases d2
    exact ov_add (q _ H2 (f1.trans f2) .int)
  | mul _ h2 i1 =>
    intro σ H Q q
    refine re_bin (i1 σ H _ fun v H1 f1 d1 => re_int ?_)
    cases d1
    exact ov_mulR h2 (q _ H1 f1 .int)
  | pow _ _ hc i1 i2 =>
    intro σ H Q q
    refine re_bin (i1 σ H _ fun v H1 f1 d1 => i2 σ H1 _ fun w H2 f2 d2 => ?_)
    cases d1
    cases d2
    exact ov_pow hc (q _ H2 (f1.trans f2) .int)
  | @tup es ds k p hl h1 h ih =>
    intro σ H Q q
    refine re_tup (ra_de hl (fun i e d a b => ⟨h i e d a b, ih i e d a b⟩) σ H _ fun vs H1 f1 d1 => ⟨by rw [d1.1]; exact Nat.le_trans h1 (by decide), fun a ha => ?_⟩)
    exact q _ _ (f1.trans (Fr.new ha)) (Dt.newT ha (fun z => f1.old z ha) d1)
  | @lst es ds p hl h1 h ih =>
    intro σ H Q q
    refine re_lst (ra_de hl (fun i e d a b => ⟨h i e d a b, ih i e d a b⟩) σ H _ fun vs H1 f1 d1 => ⟨by rw [d1.1]; exact Nat.le_trans h1 (by decide), fun a ha => ?_⟩)
    exact q _ _ (f1.trans (Fr.new ha)) (Dt.newL ha (fun z => f1.old z ha) d1)
/-- a list of constants -/
theorem re_dataL {es : List Expr} {ds : List D} {p : Pos} (h : DEs es ds) (h1 : ds.length ≤ 1000) {σ : L2.St} {H : Hp} {Q : VK} (q : ∀ a vs H', H a = none → Fr NoB H H' → H' a = some (.lst vs) → Dts X.K (Old H) H' vs ds → Q (.ref a) H') : RE X (.List es p) σ H Q := by
  refine re_lst (ra_de h.len (fun i e d a b => ⟨h.at_ i e d a b, re_de (h.at_ i e d a b)⟩) σ H _ fun vs H1 f1 d1 => ⟨by rw [d1.1]; exact Nat.le_trans h1 (by decide), fun a ha => ?_⟩)
  exact q a vs _ (f1.free ha) (f1.trans (Fr.new ha)) upd_same (d1.fr (Fr.new ha))
end
/-! ### // by any number but nought -/
section
variable {X : Cx} {H : Hp} {Q : VK}
theorem op_fdivX : OpR X (binaryOp .FloorDiv) (rI (fun _ j => j ≠ 0 ∧ j.natAbs.log2 < 9000) fun i j => .int (i.fdiv j)) := opI fun _ _ _ _ _ _ _ hc q => floordiv_int hc.1 q (.inl (PyProof.noPylong_of_log2 hc.2))
theorem ov_fdivX {i j : Int} {b : Nat} (h : j ≠ 0) (hb : j.natAbs < 2 ^ b) (h0 : 0 < b) (h9 : b ≤ 9000) (q : Q (.int (i.fdiv j)) H) : OpV X .FloorDiv (.int i) (.int j) H Q :=
  ⟨⟨_, op_fdivX, i, j, rfl, rfl, ⟨h, Nat.lt_of_lt_of_le (PySem.Flt.log2_lt_of h0 hb) h9⟩, q⟩⟩
end
end GT
namespace GT
open PySem PySem.Spec PyProof.Rows L2
section
variable {X : Cx} {σ : L2.St} {H H1 : Hp} {N : List Str} {L Lc : List (Str × KN)} {k : Nat} {pos p0 p1 p2 p3 pe : Pos} {Q : VK} {D : Ends} {scope : Scope} {x : Str} {elt t : Expr} {ifs : List Expr} {a p : Addr} {xs : List V}
/-- e[::-1], e a list -/
theorem re_revL {e : Expr} {k : Nat} (q : RE X e σ H fun x H1 => ∃ a xs, x = .ref a ∧ SqL X.K H1 a xs ∧ ∀ p, H1 p = none → Q (.ref p) (upd H1 p (.lst xs.reverse))) :
    RE X (.Subscript e (.Slice none none (some (.UnaryOp .USub (.Constant (.int 1) k p1) p2)) p3) pos) σ H Q := re_of (pe_revL PE.self) q
/-- t[lo:] of a tuple -/
theorem sv_tupD (h : SqT X.K H p xs) {lo : Nat} (h2 : lo ≤ xs.length) (q1 : lo = 0 → Q (.ref p) H) (q : lo ≠ 0 → ∀ l, H l = none → Q (.ref l) (upd H l (.tup (xs.drop lo)))) : SlV X (.ref p) (some (lo : Int)) none H Q := by
  refine ⟨⟨_, sl_tupA, p, xs, rfl, h, fun z => ?_, fun z l hl => ?_⟩⟩
  · have := z.1
    rw [HT.sIx_nat] at this
    exact q1 (by omega)
  · have z2 : lo ≠ 0 := fun e => z ⟨by rw [HT.sIx_nat, e]; simp, HT.sIx_none _ _⟩
    have e : cutV xs (some (lo : Int)) none = xs.drop lo := by
      show (xs.drop (HT.sIx xs.length 0 (some (lo : Int)))).take (HT.sIx xs.length xs.length none - HT.sIx xs.length 0 (some (lo : Int))) = _
      rw [HT.sIx_nat, HT.sIx_none, Nat.min_eq_left h2]
      exact List.take_of_length_le (by rw [List.length_drop]; exact Nat.le_refl _)
    rw [e]
    exact q z2 l hl
end
end GT
namespace GT
open PySem PySem.Spec PyProof.Rows L2
section
variable {X : Cx} {σ : L2.St} {H : Hp} {N : List Str} {L : List (Str × KN)} {k : Nat} {pos p0 p1 p2 p3 : Pos} {Q : VK} {D : Ends} {p : Addr} {z : Str} {v x : V} {xs : List V}
/-- d[k], d a dict of the module -/
theorem iv_kd (h : KDct X.K X.w p z v) (q : Q v H) : IxV X (.ref p) (.str z) H Q := ⟨⟨_, ix_kdict, p, z, v, rfl, rfl, h, q⟩⟩
/-- for x, y in t, t a tuple of pairs -/
theorem rs_for_tup2 (c : Ctx X N L k) {x y : Str} {l : Expr} {body : List Stmt} {j j' : KN} {kt : Nat} {q0 q1 q2 : Pos} (h : (x, j) ∈ L) (m : Own j) (hx : x ∈ N) (h' : (y, j') ∈ L) (m' : Own j') (hy : y ∈ N)
    (q : RE X l σ H fun v H1 => ∃ a xs, v = .ref a ∧ SqT X.K H1 a xs ∧ ∃ Pv : Nat → L2.St → Hp → Prop, Pv 0 σ H1 ∧ (∀ i σ H, Pv i σ H → SqT X.K H a xs) ∧
      (∀ i w σ H, xs[i]? = some w → Pv i σ H → ∃ t u v, w = .ref t ∧ SqT X.K H t [u, v] ∧ ∃ σ' σ'', Put N σ x u σ' ∧ Put N σ' y v σ'' ∧ RB X body { D with nx := Pv (i + 1), ct := Pv (i + 1), bk := D.nx } σ'' H) ∧ (∀ σ H, Pv xs.length σ H → D.nx σ H))
    (hs : ∀ x, foldedSetIterable l X.env x = pure x := by intro _; with_unfolding_all rfl)
    (hn : (assignEach [.Name x q0, .Name y q1] X.env).length = 2 := by with_unfolding_all rfl) (hst : (assignEach [.Name x q0, .Name y q1] X.env).findIdx? (·.1) = none := by with_unfolding_all rfl)
    (ha : (assignEach [.Name x q0, .Name y q1] X.env).map (·.2) = assign (.Name x q0) X.env :: (assignEach [.Name y q1] X.env).map (·.2) := by with_unfolding_all rfl) (hb : (assignEach [.Name y q1] X.env).map (·.2) = assign (.Name y q1) X.env :: (assignEach [] X.env).map (·.2) := by with_unfolding_all rfl) :
    RS X (.For (.Tuple [.Name x q0, .Name y q1] kt q2) l body [] pos) D σ H := by
  obtain ⟨i, g, h2⟩ := c.pg (p0 := q0) h m hx
  obtain ⟨i', g', h2'⟩ := c.pg (p0 := q1) h' m' hy
  refine rs_of (ps_for c.po c.calm (pi_tup PE.self) (pg_tup (n := 2) c.calm (pgs_cons g (pgs_cons g' pgs_nil hb) ha) hn hst) PSs.self hs) (pe_mono q fun v H1 ⟨a, xs, e, hq, Pv, p1, p2, p3, p4⟩ => ⟨a, e, ⟨xs, hq⟩, ?_⟩)
  refine for_tup (K := X.K) (a := a) (xs := xs) Pv p1 (fun i σ H _ p => p2 i σ H p) (fun i w σ H e p => ?_) p4
  obtain ⟨t, u, v, rfl, hT, σ', σ'', a1, a2, r⟩ := p3 i w σ H e p
  rw [h2' a2, h2 a1] at r
  exact ⟨t, _, rfl, hT, rfl, _, _, rfl, _, _, rfl, rfl, r⟩
end
end GT
namespace GT
open PySem PySem.Spec PyProof.Rows L2
/-! ### tuples and tables of the top, told by Bools -/
def tupAB (K : PySem.W.Frag) (a : Addr) (vs : List V) : Bool := match K.lookup a with
  | none => false
  | some o => match o.cls, o.data with
    | .type c, .seq its _ => (c == "tuple" && Nat.ble its.size sizeLine) && He.relAll vs its.toList
    | _, _ => false
theorem tupAB_ok {K : PySem.W.Frag} {a : Addr} {vs : List V} (h : tupAB K a vs = true) (H : Hp) : SqT K H a vs := by
  unfold tupAB at h
  split at h
  · cases h
  · rename_i o ho
    split at h
    · rename_i c its n hc hd
      simp only [Bool.and_eq_true, beq_iff_eq] at h
      obtain ⟨⟨h1, h2⟩, h3⟩ := h
      exact .inr ⟨o, its, n, ho, by rw [hc, h1], hd, Nat.le_of_ble_eq_true h2, He.relAll_ok h3⟩
    · cases h
/-- what a table holds at a key, where it is an object -/
def atK (K : PySem.W.Frag) (d : Addr) (x : Str) : Addr := match PySem.W.nsIn K d x with
  | some (some (.ref p)) => p
  | _ => 0
theorem kdct_of {K : PySem.W.Frag} {w : World} {d : Addr} {x : Str} {es : Array DictEntry} {n : Nat} (D : KDict K w d es n) (h : He.eqO (PySem.W.nsIn K d x) (some (some (.ref (atK K d x)))) = true) : KDct K w d x (.ref (atK K d x)) :=
  ⟨es, n, _, D.at_, D.lit, He.eqO_ok h, rfl⟩
end GT
namespace GT
open PySem PySem.Spec PyProof.Rows L2
section
variable {X : Cx} {σ : L2.St} {H : Hp} {N : List Str} {L : List (Str × KN)} {k : Nat} {pos p0 p1 p2 p3 : Pos} {Q : VK} {D : Ends} {p : Addr} {z : Str} {v x : V} {xs : List V}
/-- the tuple of the top at a -/
def tupDB (K : PySem.W.Frag) (a : Addr) : Bool := match K.lookup a with
  | none => false
  | some o => match o.cls, o.dict with
    | .type c, none => c == "tuple"
    | _, _ => false
theorem tupDB_ok {K : PySem.W.Frag} {a : Addr} (h : tupDB K a = true) : ∃ ob : Obj, K.lookup a = some ob ∧ ob.cls = .type "tuple" ∧ ob.dict = none := by
  unfold tupDB at h
  split at h
  · cases h
  · rename_i o ho
    split at h
    · rename_i c hc hd
      rw [beq_iff_eq] at h
      exact ⟨o, ho, by rw [hc, h], hd⟩
    · cases h
/-- while c: body, by a word and a measure -/
theorem rs_while (c : Ctx X N L k) {e : Expr} {body : List Stmt} (Pv : L2.St → Hp → Prop) (μ : L2.St → Hp → Nat) (h0 : Pv σ H)
    (hs : ∀ σ H, Pv σ H → RT X e σ H fun b H1 => if b = true then RB X body { D with nx := fun σ' H' => Pv σ' H' ∧ μ σ' H' < μ σ H, ct := fun σ' H' => Pv σ' H' ∧ μ σ' H' < μ σ H, bk := D.nx } σ H1 else D.nx σ H1) :
    RS X (.While e body [] pos) D σ H :=
  rs_of (ps_while c.po PT.self PSs.self) (while_by Pv μ h0 hs fun σ H Q Q' m q => rt_mono q m)
/-- x.append(e), x a name -/
theorem rs_app (c : Ctx X N L k) {x : Str} {j : KN} {l : Addr} {e : Expr} {apos : Pos} (h : (x, j) ∈ L) (m : Mine j) (s : Slot N σ x (.ref l)) (h0 : H l = some (.lst xs)) (q : RE X e σ H fun y H2 => ∃ xs', H2 l = some (.lst xs') ∧ xs'.length < sizeLine ∧ D.nx σ (upd H2 l (.lst (xs' ++ [y]))))
    (hbase : attributeBase (.Name x p0) "append" X.env (eval (.Name x p0) X.env) = eval (.Name x p0) X.env := by with_unfolding_all rfl)
    (hfew : ((backTo p1 (starEach [e] X.env)).all (fun x => !x.1) && (backToKw p1 (keywordEach [] X.env)).all (fun x => x.1.isSome) && decide (([e] : List Expr).length + ([] : List Keyword).length + (if ([] : List Keyword).isEmpty then 0 else 1) < 30)) = true := by with_unfolding_all rfl)
    (hline : (apos.endLine == p1.line) = true := by with_unfolding_all rfl) (hs : starEach [e] X.env = (false, eval e X.env) :: starEach [] X.env := by with_unfolding_all rfl) (hplain : (backTo p1 (starEach [] X.env)).any (·.1) = false := by with_unfolding_all rfl)
    (hsw : swapsWith (.Call (.Attribute (.Name x p0) "append" apos) [e] [] p1) none pos.line X.env = pure false := by with_unfolding_all rfl) :
    RS X (.Expr (.Call (.Attribute (.Name x p0) "append" apos) [e] [] p1) pos) D σ H :=
  rs_expr (re_append (re_name c s h m ⟨l, xs, rfl, h0, q⟩) hbase hfew hline hs hplain) hsw
/-- l.index(e), l a list of texts -/
theorem re_lindex {o e : Expr} {apos : Pos} (q : RE X o σ H fun x H1 => ∃ (l : Addr) (ys : List Str), x = .ref l ∧ SqL X.K H1 l (ys.map V.str) ∧ RE X e σ H1 fun y H2 => ∃ (z : Str) (j : Nat), y = .str z ∧ SqL X.K H2 l (ys.map V.str) ∧ ys[j]? = some z ∧ (∀ m, m < j → ys[m]? ≠ some z) ∧ Q (.int (j : Nat)) H2)
    (hbase : attributeBase o "index" X.env (eval o X.env) = eval o X.env := by with_unfolding_all rfl)
    (hfew : ((backTo pos (starEach [e] X.env)).all (fun x => !x.1) && (backToKw pos (keywordEach [] X.env)).all (fun x => x.1.isSome) && decide (([e] : List Expr).length + ([] : List Keyword).length + (if ([] : List Keyword).isEmpty then 0 else 1) < 30)) = true := by with_unfolding_all rfl)
    (hline : (apos.endLine == pos.line) = true := by with_unfolding_all rfl) (hs : starEach [e] X.env = (false, eval e X.env) :: starEach [] X.env := by with_unfolding_all rfl) (hplain : (backTo pos (starEach [] X.env)).any (·.1) = false := by with_unfolding_all rfl) :
    RE X (.Call (.Attribute o "index" apos) [e] [] pos) σ H Q := by
  refine re_of (pe_bm PySem.F.plainAttrs_list PySem.F.slot_list_index PySem.F.type_list_index mt_index PE.self PA.self hbase hfew hline hs hplain) ?_
  refine pe_mono q fun x H1 ⟨l, ys, e1, h1, q1⟩ => ?_
  subst e1
  have flat : (ys.map V.str).all flatV = true := by
    rw [List.all_map]
    exact List.all_eq_true.mpr fun _ _ => rfl
  have eqS : ∀ a b : Str, eqV (.str a) (.str b) = (a == b) := fun _ _ => rfl
  refine ⟨.inl ⟨rfl, _, h1⟩, ra_cons (pe_mono q1 fun y H2 ⟨z, j, e2, h2, h3, h4, q2⟩ => ra_nil ⟨l, ys.map V.str, .str z, j, .str z, rfl, by rw [e2], h2, rfl, flat, by rw [List.getElem?_map, h3]; rfl, by rw [eqS]; exact beq_self_eq_true z, fun m z' hm hz' => ?_, q2⟩) hs⟩
  rw [List.getElem?_map] at hz'
  obtain ⟨w, hw, rfl⟩ := Option.map_eq_some_iff.mp hz'
  rw [eqS, beq_eq_false_iff_ne]
  exact fun e => h4 m hm (by rw [hw, e])
/-- sorted(l), l a list of texts -/
theorem lv_sortedS {ys : List Str} (h : SqL X.K H p (ys.map V.str)) (hl : ys.length < 64) (q : ∀ (zs : List Str) (l : Addr), zs.Perm ys → H l = none → Q (.ref l) (upd H l (.lst (zs.map V.str)))) : ClV X (.builtin "sorted") [.ref p] H Q :=
  ⟨⟨_, cr_sortedS, p, ys, rfl, h, hl, fun zs l hp _ hn => q zs l hp hn⟩⟩
end
end GT
namespace GT
open PySem PySem.Spec PyProof.Rows L2
/-! ### zip of a list and a tuple -/
def IteM (K : PySem.W.Frag) (a b : Addr) : It where
  go := fun i H => ∃ xs ys : List V, (SqL K H a xs ∧ SqT K H b ys) ∧ (∃ x, xs[i]? = some x) ∧ ∃ y, ys[i]? = some y
  yld := fun i H v H' => ∃ T x y, v = .ref T ∧ H T = none ∧ H' = upd H T (.tup [x, y]) ∧ ∀ xs ys, SqL K H a xs → SqT K H b ys → xs[i]? = some x ∧ ys[i]? = some y
  stop := fun i H => ∃ xs ys : List V, (SqL K H a xs ∧ SqT K H b ys) ∧ xs.length = i ∧ ys.length = i
theorem turn_zipM {P : Program} {w : World} {K : PySem.W.Frag} {elts : List Expr} {kk : Nat} {tpos : Pos} {a b z TI TO i1 i2 : Addr} (S : ZipSep2 z TI TO i1 i2 [i1, a] [i2, b]) (na : a ≠ i1) (nb : b ≠ i2) :
    Turn P w K (.Tuple elts kk tpos) (IteM K a b) [z, TI, TO, i1, i2] z (fun i h => IsZip h z TI TO .none ∧ IsTupOf2 h TI (.ref i1) (.ref i2) ∧ (∃ x y, IsTupOf2 h TO x y) ∧ h.IsListIter i1 a i ∧ h.IsTupleIter i2 b i) where
  mem := List.mem_cons_self
  obj := by
    intro i h ⟨hz, ht, ⟨x, y, ho⟩, ⟨o1, g1, _, d1⟩, ⟨o2, g2, _, d2⟩⟩ c hc
    simp only [List.mem_cons, List.not_mem_nil, or_false] at hc
    rcases hc with rfl | rfl | rfl | rfl | rfl
    · exact ⟨_, hz, fun v q => nomatch q⟩
    · exact ⟨_, ht, fun v q => nomatch q⟩
    · exact ⟨_, ho, fun v q => nomatch q⟩
    · exact ⟨o1, g1, fun v q => by rw [d1] at q; cases q⟩
    · exact ⟨o2, g2, fun v q => by rw [d2] at q; cases q⟩
  keep := by
    intro i h h' ⟨hz, ht, ⟨x, y, ho⟩, g1, g2⟩ k
    exact ⟨k z (by simp) _ hz, k TI (by simp) _ ht, ⟨x, y, k TO (by simp) _ ho⟩, g1.at fun o q => k i1 (by simp) o q, g2.at fun o q => k i2 (by simp) o q⟩
  item := by
    intro X hP hw hK hc i pins s σ H E I hf st hg
    subst hP hw hK
    obtain ⟨hz, ht, ⟨x0, y0, ho⟩, g1, g2⟩ := st
    obtain ⟨xs, ys, ⟨qx, qy⟩, ⟨x, hx⟩, ⟨y, hy⟩⟩ := hg
    obtain ⟨its, rv, p, _⟩ := I.list qx
    obtain ⟨jts, rw2, r, _⟩ := I.tuple qy
    obtain ⟨u, hu, ru⟩ := rv.get hx
    obtain ⟨v, hv, rv2⟩ := rw2.get hy
    have hh : X.A.in1.handled = none := I.ok.hd hc
    have hzl : z < s.heap.objs.size := Heap.lt_size hz
    have htl : TI < s.heap.objs.size := Heap.lt_size ht
    have hol : TO < s.heap.objs.size := Heap.lt_size ho
    have l1 : i1 < s.heap.objs.size := by obtain ⟨_, e, _⟩ := g1; exact Heap.lt_size e
    have l2 : i2 < s.heap.objs.size := by obtain ⟨_, e, _⟩ := g2; exact Heap.lt_size e
    have lt1 : i < its.toArray.size := by
      rcases Nat.lt_or_ge i its.length with q | q
      · simpa using q
      · rw [List.getElem?_eq_none q] at hu; cases hu
    have lt2 : i < jts.toArray.size := by
      rcases Nat.lt_or_ge i jts.length with q | q
      · simpa using q
      · rw [List.getElem?_eq_none q] at hv; cases hv
    refine wpAny_pyNext_zipD2_item S (Draws.list (prog := X.prog) (w := X.w) (A := X.A.in1) hh i1 a na its.toArray) (Draws.tuple (prog := X.prog) (w := X.w) (A := X.A.in1) hh i2 b nb jts.toArray) hz ht ho ⟨g1, p.isList⟩ ⟨g2, r⟩ lt1 lt2 fun v1 v2 h' tk e1 e2 z' o' k1 k2 hT hsz hk => ?_
    have ev1 : v1 = u := Option.some.inj ((show its.toArray[i]? = some v1 from e1).symm.trans (by simpa using hu))
    have ev2 : v2 = v := Option.some.inj ((show jts.toArray[i]? = some v2 from e2).symm.trans (by simpa using hv))
    subst ev1 ev2
    refine ⟨_, rfl, wpAny_letOwnedTupleGo_zip (s := { s with heap := h', toks := tk }) z' fun h'' z'' sb => ?_⟩
    have hT2 := (sb.2 _ (Nat.ne_of_gt hzl)).trans hT
    have new : ObjOk X.prog X.w (upd H s.heap.objs.size (.tup [x, y])) h'' s.heap.objs.size (.tup [x, y]) := ⟨by show 2 ≤ sizeLine; decide, [v1, v2], .cons ru (.cons rv2 .nil), ⟨_, hT2, rfl, _, rfl⟩⟩
    have I1 : Inv X pins σ (upd H s.heap.objs.size (.tup [x, y])) { s with heap := h'', toks := tk } :=
      I.turnedNew (ch := [z, TI, TO, i1, i2]) (fun c o hb q => (sb.2 c fun e => hb (by simp [e])).trans (hk c o (fun e => hb (by simp [e])) (fun e => hb (by simp [e])) (fun e => hb (by simp [e])) (fun e => hb (by simp [e])) q)) hf (Nat.le_refl _) new
    refine ⟨.ref s.heap.objs.size, _, I1, rfl, ⟨_, x, y, rfl, I.hok.fresh (Nat.le_refl _), rfl, fun xs' ys' a1 a2 => ⟨by rw [I.list_inj a1 qx]; exact hx, by rw [I.tuple_inj a2 qy]; exact hy⟩⟩, ⟨z'', ?_, ⟨v1, v2, (sb.2 _ S.TOz).trans o'⟩, k1.1.at fun o q => (sb.2 _ S.zi1.symm).trans q, k2.1.at fun o q => (sb.2 _ S.zi2.symm).trans q⟩, fun c hcm => ?_⟩
    · exact (sb.2 _ S.TIz).trans (hk _ _ S.TIz S.TITO S.TIi1 S.TIi2 ht)
    · have hlt : c < s.heap.objs.size := by
        simp only [List.mem_cons, List.not_mem_nil, or_false] at hcm
        rcases hcm with rfl | rfl | rfl | rfl | rfl <;> assumption
      rw [upd_ne (Nat.ne_of_lt hlt)]
      exact (hf c hcm).1
  done := by
    intro X hP hw hK hc i pins s σ H E I hf st hg
    subst hP hw hK
    obtain ⟨hz, ht, ⟨x0, y0, ho⟩, g1, g2⟩ := st
    obtain ⟨xs, ys, ⟨qx, qy⟩, e1, e2⟩ := hg
    obtain ⟨its, rv, p, _⟩ := I.list qx
    obtain ⟨jts, rw2, r, _⟩ := I.tuple qy
    have hh : X.A.in1.handled = none := I.ok.hd hc
    have n1 : i = its.toArray.size := by have := rv.length; simp; omega
    have n2 : i = jts.toArray.size := by have := rw2.length; simp; omega
    exact wpAny_pyNext_zipD2_end S (Draws.list (prog := X.prog) (w := X.w) (A := X.A.in1) hh i1 a na its.toArray) (Draws.tuple (prog := X.prog) (w := X.w) (A := X.A.in1) hh i2 b nb jts.toArray) hz ht ho ⟨g1, p.isList⟩ ⟨g2, r⟩ (Nat.le_of_eq n1) (Nat.le_of_eq n2) (.inl n1) fun h' tk hk =>
      ⟨rfl, I.turnedL (t' := tk) (ch := [z, TI, TO, i1, i2]) (fun c o hb q => hk c o (fun e => hb (by simp [e])) (fun e => hb (by simp [e])) (fun e => hb (by simp [e])) (fun e => hb (by simp [e])) q) hf⟩
  self := fun A i s Q E st h => wpAny_pyIter_zip st.1 h
def iZipM (K : PySem.W.Frag) (ta : TA) : TI := fun σ H R => ta σ H fun vs H1 => ∃ a b xs ys, vs = [.ref a, .ref b] ∧ (SqL K H1 a xs ∧ SqT K H1 b ys) ∧ R (IteM K a b) H1
theorem pi_zipM {X : Cx} {e e2 : Expr} {ta : TA} {p pos tpos : Pos} {elts : List Expr} {kk : Nat} (hg : Gl X "zip") (hm : X.mg "zip" = none) (ha : PA X [e, e2] ta)
    (he : starEach [e, e2] X.env = (false, eval e X.env) :: starEach [e2] X.env) (hb : (backTo pos (starEach [e2] X.env)).any (·.1) = false) : PI X (.Tuple elts kk tpos) (.Call (.Name "zip" p) [e, e2] [] pos) (iZipM X.K ta) := by
  refine ⟨fun pins s σ H R I h => Call_ (ld_blt I hg hm PyProof.Rows.boot_zip (PyProof.Rows.callWith_type1 (thn (ha.run pos pins s σ H _ I h) fun us s1 ⟨vs, H1, I1, r1, a, b, xs, ys, ex, ⟨qx, qy⟩, q⟩ => ?_) he hb))⟩
  subst ex
  cases r1 with
  | cons r rr =>
    cases rr with
    | cons r' rr =>
      cases rr
      cases r
      cases r'
      obtain ⟨its, rv, p1, _⟩ := I1.list qx
      obtain ⟨jts, rw2, p2, _⟩ := I1.tuple qy
      have la : a < s1.heap.objs.size := p1.lt
      have lb : b < s1.heap.objs.size := p2.lt
      refine zip_begins2 (begins_list a its.toArray) (begins_tuple b jts.toArray) p1.isList p2 fun h' hz ht ho o1 o2 hsz hk => wpAny_pyIter_zip hz ?_
      have I2 : Inv X pins σ H1 { s1 with heap := h' } := I1.kept (t' := s1.toks) hk
      have sep := zip_sep2 (N := s1.heap.objs.size) (fp1 := [a]) (fp2 := [b]) (fun c hc => by rw [List.mem_singleton.mp hc]; exact la) (fun c hc => by rw [List.mem_singleton.mp hc]; exact lb)
      refine ⟨s1.heap.objs.size + 4, [s1.heap.objs.size + 4, s1.heap.objs.size + 2, s1.heap.objs.size + 3, s1.heap.objs.size, s1.heap.objs.size + 1], _, _, H1, rfl, I2, turn_zipM sep (Nat.ne_of_lt la) (Nat.ne_of_lt (Nat.lt_succ_of_lt lb)), ⟨hz, ht, ⟨_, _, ho⟩, ⟨_, o1, rfl, rfl⟩, ⟨_, o2, rfl, rfl⟩⟩, fun c hcm => ?_, q⟩
      have hle : s1.heap.objs.size ≤ c := by
        simp only [List.mem_cons, List.not_mem_nil, or_false] at hcm
        rcases hcm with rfl | rfl | rfl | rfl | rfl
        · exact Nat.le_add_right _ _
        · exact Nat.le_add_right _ _
        · exact Nat.le_add_right _ _
        · exact Nat.le_refl _
        · exact Nat.le_add_right _ _
      exact I1.fpOk hle (I1.hok.fresh hle)
theorem walk_zipM {K : PySem.W.Frag} {a b : Addr} {xs ys : List V} (hl : xs.length = ys.length) : Walk (IteM K a b) xs.length (fun H => SqL K H a xs ∧ SqT K H b ys) (YPair (fun i => xs[i]?) (fun i => ys[i]?)) := by
  refine ⟨fun i _ hi q => ⟨xs, ys, q, ⟨xs[i], by simp [hi]⟩, ⟨ys[i]'(by omega), List.getElem?_eq_getElem (by omega)⟩⟩, fun _ q => ⟨xs, ys, q, rfl, hl.symm⟩, fun i H v H' _ q y => ?_⟩
  obtain ⟨T, x, z, h1, h2, h3, h4⟩ := y
  exact ⟨T, x, z, h1, h2, h3, (h4 xs ys q.1 q.2).1, (h4 xs ys q.1 q.2).2⟩
section
variable {X : Cx} {σ : L2.St} {H : Hp} {N : List Str} {L Lc : List (Str × KN)} {k : Nat} {pos p0 p1 p2 p3 : Pos} {Q : VK} {D : Ends} {scope : Scope} {x y : Str} {e elt e1 e2 : Expr} {ifs : List Expr} {body : List Stmt} {j j' : KN} {kt : Nat} {q0 q1 q2 : Pos}
/-- for x, y in zip(a, b): a list, b tuple, of one length -/
theorem rs_for_zipM (c : Ctx X N L k) (h : (x, j) ∈ L) (m : Own j) (hx : x ∈ N) (h' : (y, j') ∈ L) (m' : Own j') (hy : y ∈ N) (hg : (("zip" : Str), KN.glob) ∈ L) (hm : X.mg "zip" = none)
    (q : RA X [e1, e2] σ H fun vs H1 => ∃ a b xs ys, vs = [.ref a, .ref b] ∧ xs.length = ys.length ∧ SqL X.K H1 a xs ∧ SqT X.K H1 b ys ∧ PTurns X N x y body D (fun H => SqL X.K H a xs ∧ SqT X.K H b ys) xs.length (fun i => xs[i]?) (fun i => ys[i]?) σ H1)
    (hs : ∀ x, foldedSetIterable (.Call (.Name "zip" p1) [e1, e2] [] p2) X.env x = pure x := by intro _; with_unfolding_all rfl) (he : starEach [e1, e2] X.env = (false, eval e1 X.env) :: starEach [e2] X.env := by with_unfolding_all rfl) (hpl : (backTo p2 (starEach [e2] X.env)).any (·.1) = false := by with_unfolding_all rfl)
    (hn : (assignEach [.Name x q0, .Name y q1] X.env).length = 2 := by with_unfolding_all rfl) (hst : (assignEach [.Name x q0, .Name y q1] X.env).findIdx? (·.1) = none := by with_unfolding_all rfl)
    (ha : (assignEach [.Name x q0, .Name y q1] X.env).map (·.2) = assign (.Name x q0) X.env :: (assignEach [.Name y q1] X.env).map (·.2) := by with_unfolding_all rfl) (hb : (assignEach [.Name y q1] X.env).map (·.2) = assign (.Name y q1) X.env :: (assignEach [] X.env).map (·.2) := by with_unfolding_all rfl) :
    RS X (.For (.Tuple [.Name x q0, .Name y q1] kt q2) (.Call (.Name "zip" p1) [e1, e2] [] p2) body [] pos) D σ H := by
  obtain ⟨i, g, h2⟩ := c.pg (p0 := q0) h m hx
  obtain ⟨i', g', h2'⟩ := c.pg (p0 := q1) h' m' hy
  refine rs_of (ps_for c.po c.calm (pi_zipM (c.gl hg) hm PA.self he hpl) (pg_tup (n := 2) c.calm (pgs_cons g (pgs_cons g' pgs_nil hb) ha) hn hst) PSs.self hs) ?_
  exact ra_mono q fun vs H1 ⟨a, b, xs, ys, e, hl, s1, s2, t⟩ => ⟨a, b, xs, ys, e, ⟨s1, s2⟩, pturns_go (walk_zipM hl) h2 h2' t⟩
/-- y = [.. for x in range(e)] on one line -/
theorem rs_lc_range (c : Ctx X N L k) (Lc : List (Str × KN)) (hok : lcOk N L scope Lc x = true) {py cp : Pos} (hg : (("range" : Str), KN.glob) ∈ L) (hm : X.mg "range" = none) (hy : (y, KN.loc) ∈ L) (my : y ∈ N)
    (q : RE X e σ H fun v H1 => ∃ n : Int, v = .int n ∧ -(2 ^ 62) ≤ n ∧ n < 2 ^ 62 ∧ CTurns X N Lc k scope x elt ifs (fun _ => True) n.toNat (fun i y => y = .int i) σ H1 fun v H2 => ∃ σ', Put N σ y v σ' ∧ D.nx σ' H2)
    (hln : (py.line == cp.line) = true := by with_unfolding_all rfl) (ha : (scope.names.any fun (n, k) => n == y && (k == .local || k == .cell)) = false := by decide +kernel)
    (hs : ∀ x, foldedSetIterable (.Call (.Name "range" p1) [e] [] p2) X.env x = pure x := by intro _; with_unfolding_all rfl) (hsE : starEach [e] X.env = [(false, eval e X.env)] := by with_unfolding_all rfl) :
    RS X (.Assign [.Name y py] (.ListComp elt [⟨.Name x p0, .Call (.Name "range" p1) [e] [] p2, ifs, 0⟩] scope cp) pos) D σ H := by
  obtain ⟨S, hx, hl, ok⟩ := lcOk_of c hok
  obtain ⟨i, hput, bk, g⟩ := blk_at (p0 := p0) c S hx hl ok
  obtain ⟨i2, h1, h2⟩ := c.put my
  refine rs_of (ps_setLc (i := i2) c.calm c.nodup h1 (c.lcl hy) (sw_true c.kind (c.lcl hy) hln ha) (pi_range1 (c.gl hg) hm PA.self hsE) bk g (fun s H C cl fp => PTs.rta c S s H C cl fp) (fun s H C cl fp => PE.rea c S s H C cl fp) hs) ?_
  refine ra_cons (pe_mono q fun v H1 ⟨n, e, n1, n2, q1⟩ => ra_nil ⟨n, by rw [e], n1, n2, ?_⟩) hsE
  refine lc_go (it := fun (i : Nat) y => y = V.int (i : Int)) hput (walk_range.mono (fun _ h => h) fun j H y H' hj _ hy => ?_) (Q := fun v H1 => D.nx (σ.set i2 (some v)) H1) (fun Dn hD => ?_)
  · obtain ⟨h1, h2⟩ := hy
    exact ⟨h1, by rw [h2]; simp⟩
  · obtain ⟨Pv, a1, a2, a3, a4⟩ := q1 Dn hD
    refine ⟨Pv, a1, a2, a3, fun H2 hp => ?_⟩
    obtain ⟨σ', p, d⟩ := a4 H2 hp
    rw [h2 p] at d
    exact d
end
end GT
namespace GT
open PySem PySem.Spec PyProof.Rows L2
/-! ### data as the library reads it -/
/-! ### == and in, of data -/
section
variable {X : Cx} {σ : L2.St} {H : Hp} {N : List Str} {L Lc : List (Str × KN)} {k n m : Nat} {pos p0 p1 p2 p3 : Pos} {Q : VK} {D : Ends} {B B' : Addr → Prop} {v w : V} {d e : GT.D} {p : Addr} {xs : List V} {z : Str}
/-! ### isinstance of data -/
end
end GT
namespace GT
open PySem PySem.Spec PyProof.Rows L2
/-! ### comprehensions over zip -/
section
variable {X : Cx} {σ : L2.St} {H : Hp} {N : List Str} {L Lc : List (Str × KN)} {k : Nat} {pos p0 p1 p2 p3 q0 q1 q2 : Pos} {Q : VK} {D : Ends} {scope : Scope} {x y : Str} {elt e1 e2 : Expr} {ifs : List Expr} {kt : Nat} {xs ys : List V} {p a b : Addr}
/-! ### slices of tuples, texts by order, signs in texts, all of bools -/
theorem cv_leS {z w : Str} (q : Q (.bl (!decide (w.cps.toList < z.cps.toList))) H) : CpV X .LtE (.str z) (.str w) H Q := ⟨⟨_, op_le_str, z, w, rfl, rfl, q⟩⟩
/-! ### chains of two comparisons -/
end
end GT
namespace GT
open PySem PySem.Spec PyProof.Rows L2
section
variable {X : Cx} {σ : L2.St} {H1 : Hp} {N : List Str} {L Lc : List (Str × KN)} {k n : Nat} {Q : VK} {scope : Scope} {x y : Str} {elt t : Expr} {stand : Hp → Prop} {it : Nat → V → Prop} {fx fy : Nat → Option V}
end
end GT
namespace GT
open PySem PySem.Spec PyProof.Rows L2
section
variable {X : Cx} {σ : L2.St} {H : Hp} {pos : Pos} {Q : VK} {a b d e : Expr} {o1 o2 o3 : CmpOp}
end
end GT
namespace GT
open PySem PySem.Spec PyProof.Rows L2
section
variable {X : Cx} {σ : L2.St} {H : Hp} {N : List Str} {L : List (Str × KN)} {k : Nat} {pos : Pos} {Q : VK} {o i : Expr} {p : Addr} {kvs : List (Key × V)} {z : Str}
end
end GT
namespace GT
open PySem PySem.Spec PyProof.Rows L2
/-! ### the hook that reads given addresses alone -/
def obsL (as : List Addr) (fa : List He.Fa) (fn : List He.DefD) (ts : List He.Tab) (tf : List He.Defn) (ex : PySem.W.Frag → Bool) (g : Addr → Option Obj) : He.AlX := (He.obsT fa fn ts (He.frT g as), ex (He.frT g as) && He.tabsB g tf (He.frT g as))
theorem saysL_of {as : List Addr} {fa : List He.Fa} {fn : List He.DefD} {ts : List He.Tab} {tf : List He.Defn} {ex : PySem.W.Frag → Bool} {w : World} {h : Heap} (e : obsL as fa fn ts tf ex h.get? = He.valX fn ts w) : He.SaysX fa fn ts tf ex w h (He.frT h.get? as) := by
  unfold obsL He.valX at e
  obtain ⟨e1, e2⟩ := Prod.mk.inj e
  obtain ⟨hm, htb⟩ := He.ba e2
  have row : ∀ p ∈ tf, PySem.W.codeHdIn (He.frT h.get? as) (He.cT (He.frT h.get? as) p).1 (He.cT (He.frT h.get? as) p).2 = true ∧ ∃ ob, h.get? (He.cT (He.frT h.get? as) p).2 = some ob ∧ He.emptyTab ob = true := by
    intro p hp
    unfold He.tabsB at htb
    obtain ⟨a1, a2⟩ := He.ba (List.all_eq_true.mp htb p hp)
    refine ⟨a1, ?_⟩
    generalize h.get? (He.cT (He.frT h.get? as) p).2 = ob at a2
    cases ob with
    | none => cases a2
    | some o => exact ⟨o, rfl, a2⟩
  refine ⟨e1, hm, fun p hp => (row p hp).1, fun p hp => ?_, fun p hp => ?_⟩
  · obtain ⟨_, o, ho, hz⟩ := row p hp
    exact He.frT_none ho hz
  · obtain ⟨_, o, ho, hz⟩ := row p hp
    rw [ho, He.emptyTab_eq hz]
def hookL (as : List Addr) (fa : List He.Fa) (fn : List He.DefD) (ts : List He.Tab) (tf : List He.Defn) (ex : PySem.W.Frag → Bool) : PySem.W.Hook where
  α := He.AlX
  obs := fun s => obsL as fa fn ts tf ex s.heap.get?
  val := fun w => He.valX fn ts w
  says := fun w h => ∃ K : PySem.W.Frag, K.In h ∧ He.SaysX fa fn ts tf ex w h K
  of := fun _ _ z => ⟨_, He.frT_in, saysL_of z⟩
  keeps := fun _ _ _ ⟨K, hK, c⟩ k => ⟨K, PySem.W.Frag.In.keeps hK k, ⟨c.t, c.more, c.hd, c.out, fun p hp => k _ _ (c.empty p hp)⟩⟩
end GT
namespace GT
open PySem PySem.Spec PyProof.Rows L2
/-! ### a def of the program that is handed the caught exception, called within the suite -/
section
variable {P : Program} {w : World} {K : PySem.W.Frag} {mg : Str → Option Value} {base : Heap} {x : Str} {st : Stmt} {N ps : List Str} {L : List (Str × KN)} {f : Addr} {fd : FuncData}
end
section
variable {X : Cx} {σ : L2.St} {H : Hp} {N N' ps : List Str} {L L' : List (Str × KN)} {k : Nat} {pos p0 p1 : Pos} {Q : VK} {x n : Str} {st : Stmt} {f a : Addr} {fd : FuncData} {oe : Obj} {pn : List (Addr × Obj)}
end
section
variable {P : Program} {w : World} {K : PySem.W.Frag} {mg : Str → Option Value} {base : Heap} {x : Str} {st : Stmt} {N ps : List Str} {L : List (Str × KN)} {k : Nat} {sp : Sp} {f : Addr} {fd : FuncData}
end
end GT
namespace GT
open PySem PySem.Spec PyProof.Rows L2
/-! ### data expressions beside a box of draws -/
section
variable {K : PySem.W.Frag} {Bx : Addr → Prop} {b : Addr} {Γ : List (V × D)} {H H' : Hp}
end
section
variable {X : Cx} {Bx : Addr → Prop} {b : Addr} {Γ : List (V × D)} {σ : L2.St} {N : List Str} {L : List (Str × KN)} {k n m l : Nat} {R R' : D → Prop} {e e1 e2 : Expr} {es : List Expr} {pos p0 p1 p2 p3 : Pos} {x : Str} {v : V} {d : D}
end
end GT
namespace GT
open PySem PySem.Spec PyProof.Rows L2
section
variable {X : Cx} {Bx : Addr → Prop} {b : Addr} {Γ : List (V × D)} {σ : L2.St} {N : List Str} {L Lc : List (Str × KN)} {k n m l : Nat} {R R' : D → Prop} {e e1 e2 elt : Expr} {es : List Expr} {pos p0 p1 p2 p3 : Pos} {x : Str} {v : V} {d : D} {scope : Scope}
end
end GT
namespace GT
open PySem PySem.Spec PyProof.Rows L2
section
variable {X : Cx} {N : List Str} {L : List (Str × KN)} {k : Nat} {σ : L2.St} {b : Addr} {Bx : Addr → Prop} {Γ : List (V × D)} {R : D → Prop} {e e1 e2 : Expr} {pos p0 p1 : Pos}
variable {Lc : List (Str × KN)} {n m l : Nat} {es : List Expr} {x : Str} {v : V} {d : D}
end
end GT
namespace GT
open PySem PySem.Spec PyProof.Rows L2
section
variable {X : Cx} {N : List Str} {L : List (Str × KN)} {k l : Nat} {σ : L2.St} {b : Addr} {Bx : Addr → Prop} {Γ : List (V × D)} {R : D → Prop} {e e1 e2 : Expr} {es : List Expr} {pos p0 p1 : Pos}
end
end GT
namespace GT
open PySem PySem.Spec PyProof.Rows L2 PySem.Froz
/-! ### sets of texts: what they hold, and how many at most -/
section
variable {P : Program} {w : World} {A : Around} {E : Value → Shared → Prop} {s : Shared}
end
end GT
namespace GT
open PySem PySem.Spec PyProof.Rows L2 PySem.Froz
section
variable {P : Program} {w : World} {A : Around} {E : Value → Shared → Prop} {s : Shared}
end
section
variable {X : Cx} {N : List Str} {L : List (Str × KN)} {k n : Nat} {σ : L2.St} {H : Hp} {Q : VK} {p : Addr} {R : Str → Prop}
end
end GT
namespace GT
open PySem PySem.Spec PyProof.Rows L2
section
variable {X : Cx} {N : List Str} {L : List (Str × KN)} {k n l : Nat} {σ : L2.St} {b : Addr} {Bx : Addr → Prop} {Γ : List (V × D)} {R : D → Prop} {e e1 e2 : Expr} {es : List Expr} {pos p0 p1 : Pos} {x : Str}
end
end GT
namespace GT
open PySem PySem.Spec PyProof.Rows L2
section
variable {K : PySem.W.Frag} {B Bx : Addr → Prop} {b p : Addr} {Γ : List (V × D)} {H H1 H2 : Hp} {v : V} {d : D}
end
section
variable {X : Cx} {N : List Str} {L : List (Str × KN)} {k n m : Nat} {σ : L2.St} {H : Hp} {b p : Addr} {Bx : Addr → Prop} {Γ : List (V × D)} {R : D → Prop} {e l elt : Expr} {pos p0 p1 : Pos}
end
end GT
namespace GT
open PySem PySem.Spec PyProof.Rows L2
section
variable {X : Cx} {N : List Str} {L : List (Str × KN)} {k n m : Nat} {σ : L2.St} {H : Hp} {b p : Addr} {Bx : Addr → Prop} {Γ : List (V × D)} {R : D → Prop} {e l elt : Expr} {pos p0 p1 : Pos}
end
end GT
namespace GT
open PySem PySem.Spec PyProof.Rows L2
section
variable {X : Cx} {N : List Str} {L : List (Str × KN)} {k n m : Nat} {σ : L2.St} {H : Hp} {b p : Addr} {Bx : Addr → Prop} {Γ : List (V × D)} {R : D → Prop} {pos p0 p1 : Pos}
theorem swapped_three {x y z : Str} {a b e : Expr} {px py pz q1 q2 : Pos} {kt k2 : Nat} {env : Env} (hb : env.blockKind = .function) (hx : env.kindOf x = some .local) (hy : env.kindOf y = some .local) (hz : env.kindOf z = some .local) (hl : (px.line == py.line) = true) (hl2 : (px.line == pz.line) = true) (hd : ([x, y, z] : List Str).eraseDups = [x, y, z])
    (ha : ∀ v p, a ≠ .Starred v p) (hb2 : ∀ v p, b ≠ .Starred v p) (he : ∀ v p, e ≠ .Starred v p) (h1 : [a, b, e].all (foldedForSure 8) = false) (h2 : [a, b, e].all (constantsAlone 8) = false) :
    swappedStores [.Tuple [.Name x px, .Name y py, .Name z pz] kt q1] (.Tuple [a, b, e] k2 q2) env = pure (some [x, y, z]) := by
  have hl' : px.line = py.line := by simpa using hl
  have hl2' : px.line = pz.line := by simpa using hl2
  unfold swappedStores
  dsimp only
  rw [h1, h2]
  simp only [Bool.false_eq_true, if_false]
  rw [if_neg (by simp [hb])]
  have hstar : ∀ (f : Expr → Bool), (∀ e, (∀ v p, e ≠ .Starred v p) → f e = false) → [a, b, e].any f = false := fun f hf => by
    simp [hf a ha, hf b hb2, hf e he]
  rw [hstar _ (fun e he => by
    split
    · exact absurd rfl (he _ _)
    · rfl)]
  simp [hx, hy, hz, ← hl', ← hl2', hd, Expr.pos]
/-- x, y, z = a, b, e -/
theorem rs_par3 (c : Ctx X N L k) {x y z : Str} {a b e : Expr} {px py pz pt : Pos} {kt k2 : Nat} {pt2 : Pos} {D : Ends} (hx : (x, KN.loc) ∈ L) (hy : (y, KN.loc) ∈ L) (hz : (z, KN.loc) ∈ L) (mx : x ∈ N) (my : y ∈ N) (mz : z ∈ N) (hxy : x ≠ y) (hxz : x ≠ z) (hyz : y ≠ z)
    (q : RA X [a, b, e] σ H fun vs H1 => ∃ u v w σ1 σ2 σ3, vs = [u, v, w] ∧ Put N σ x u σ1 ∧ Put N σ1 y v σ2 ∧ Put N σ2 z w σ3 ∧ D.nx σ3 H1)
    (hl : (px.line == py.line) = true := by decide +kernel) (hl2 : (px.line == pz.line) = true := by decide +kernel) (hd : ([x, y, z] : List Str).eraseDups = [x, y, z] := by decide +kernel) (ha : ∀ v p, a ≠ .Starred v p := by intros; nofun) (hb2 : ∀ v p, b ≠ .Starred v p := by intros; nofun) (he : ∀ v p, e ≠ .Starred v p := by intros; nofun)
    (h1 : [a, b, e].all (foldedForSure 8) = false := by decide +kernel) (h2 : [a, b, e].all (constantsAlone 8) = false := by decide +kernel)
    (hs : swapsWithSole [.Tuple [.Name x px, .Name y py, .Name z pz] kt pt] (.Tuple [a, b, e] k2 pt2) pos.line X.env = pure false := by with_unfolding_all rfl) :
    RS X (.Assign [.Tuple [.Name x px, .Name y py, .Name z pz] kt pt] (.Tuple [a, b, e] k2 pt2) pos) D σ H := by
  obtain ⟨i, i1, i2⟩ := c.put mx
  obtain ⟨j, j1, j2⟩ := c.put my
  obtain ⟨l, l1, l2⟩ := c.put mz
  have hij : i ≠ j := fun e => hxy (by rw [e, j1] at i1; exact (Option.some.inj i1).symm)
  have hil : i ≠ l := fun e => hxz (by rw [e, l1] at i1; exact (Option.some.inj i1).symm)
  have hjl : j ≠ l := fun e => hyz (by rw [e, l1] at j1; exact (Option.some.inj j1).symm)
  refine rs_of (ps_par3 (i := i) (j := j) (l := l) c.calm c.nodup i1 j1 l1 hij hil hjl (c.lcl hx) (c.lcl hy) (c.lcl hz) PA.self (swapped_three c.bk (c.lcl hx) (c.lcl hy) (c.lcl hz) hl hl2 hd ha hb2 he h1 h2) hs) ?_
  refine ra_mono q fun vs H1 ⟨u, v, w, σ1, σ2, σ3, e, a1, a2, a3, d⟩ => ?_
  rw [l2 a3, j2 a2, i2 a1] at d
  exact ⟨u, v, w, e, d⟩
end
end GT
namespace GT
open PySem PySem.Spec PyProof.Rows L2
section
variable {X : Cx} {N : List Str} {L : List (Str × KN)} {k n m : Nat} {σ : L2.St} {H : Hp} {b p : Addr} {Bx : Addr → Prop} {Γ : List (V × D)} {R : D → Prop} {e l elt : Expr} {pos p0 p1 : Pos}
end
end GT
namespace GT
open PySem PySem.Spec PyProof.Rows L2
/-! ### expressions whose datum is known -/
section
variable {X : Cx} {N : List Str} {L : List (Str × KN)} {k n m : Nat} {σ : L2.St} {H : Hp} {b p : Addr} {Bx : Addr → Prop} {Γ : List (V × D)} {R : D → Prop} {e e1 e2 l elt : Expr} {es : List Expr} {pos p0 p1 p2 : Pos} {d d1 d2 : D} {ds ds1 ds2 : List D} {x : Str} {v : V}
theorem lst_at {K : PySem.W.Frag} {H : Hp} {v : V} (h : Dt K Bx H v (.lst ds)) : ∃ p vs, v = .ref p ∧ ¬ Bx p ∧ H p = some (.lst vs) ∧ Dts K Bx H vs ds := by
  cases h with
  | lst nb t ll hh => exact ⟨_, _, rfl, nb, t, ll, hh⟩
end
end GT
/-! Classes with methods, as backward rules. -/
namespace GT
open PySem PySem.Spec PyProof.Rows L2
section
variable {X : Cx} {σ : L2.St} {H : Hp} {N : List Str} {L Lc : List (Str × KN)} {k : Nat} {pos p0 p1 p2 p3 apos tpos : Pos} {Q : VK} {D : Ends} {C : Addr} {e o : Expr} {es : List Expr} {f m : Str}
/-- e.f, a field of an instance -/
theorem re_fld (q : RE X e σ H fun x H1 => ∃ (a C dx : Addr) (fs : List (Str × V)) (v : V), x = .ref a ∧ H1 a = some (.ins C dx fs) ∧ Cls X.K C ∧ NoAttr X.K C f ∧ fs.lookup f = some v ∧ Q v H1)
    (hb : attributeBase e f X.env (eval e X.env) = eval e X.env := by with_unfolding_all rfl) : RE X (.Attribute e f pos) σ H Q := re_of (pe_fld PE.self hb) q
/-- o.f = e -/
theorem rs_fld (q : RE X e σ H fun y H1 => RE X o σ H1 fun x H2 => ∃ (a C dx : Addr) (fs : List (Str × V)), x = .ref a ∧ H2 a = some (.ins C dx fs) ∧ Cls X.K C ∧ NoAttr X.K C f ∧ fs.length < 1000 ∧ D.nx σ (upd H2 a (.ins C dx (putF f y fs))))
    (hs : swapsWith e (some (.Attribute o f p1)) pos.line X.env = pure false := by with_unfolding_all rfl) : RS X (.Assign [.Attribute o f p1] e pos) D σ H := rs_of (ps_fld PE.self PE.self hs) q
/-- o.f += e, whole numbers -/
theorem rs_fldadd (q : RE X o σ H fun x H1 => ∃ (a C dx : Addr) (fs : List (Str × V)) (v : V), x = .ref a ∧ H1 a = some (.ins C dx fs) ∧ Cls X.K C ∧ NoAttr X.K C f ∧ fs.lookup f = some v ∧
    RE X e σ H1 fun y H2 => ∃ i j : Int, v = .int i ∧ y = .int j ∧ ∃ (dx' : Addr) (fs' : List (Str × V)), H2 a = some (.ins C dx' fs') ∧ fs'.length < 1000 ∧ D.nx σ (upd H2 a (.ins C dx' (putF f (.int (i + j)) fs')))) :
    RS X (.AugAssign (.Attribute o f tpos) .Add e pos) D σ H := by
  refine rs_of (ps_fldaug PE.self PE.self in_add) (pe_mono q fun x H1 ⟨a, C, dx, fs, v, e1, h, c, n, l, q1⟩ => ⟨a, C, dx, fs, v, e1, h, c, n, l, pe_mono q1 fun y H2 ⟨i, j, e2, e3, dx', fs', h2, l2, q2⟩ => ⟨i, j, e2, e3, dx', fs', h2, l2, q2⟩⟩)
/-- a method's promise -/
structure MethP (P : Program) (wd : World) (K : PySem.W.Frag) (mg : Str → Option Value) (base : Heap) (CXs : CXT) (C : Addr) (m : Str) (ps : List Str) (k : Nat) (sp : Sp) : Prop where
  ex : ∃ f fd, FnOk P wd K mg base CXs k f fd ps sp ∧ Meth K C m f ∧ Binds K fd ps []
/-- o.m(e, ..) -/
theorem re_meth (c : Ctx X N L k) {CXs : CXT} {ps : List Str} {n : Nat} {sp : Sp} {E : XK} (cl : Cls X.K C) (F : MethP X.prog X.w X.K X.mg X.base CXs C m ps n sp) (hn : n ≤ k) (hx : Passes CXs X E)
    (q : RE X o σ H fun x H1 => ∃ (a dx : Addr) (fs : List (Str × V)), x = .ref a ∧ H1 a = some (.ins C dx fs) ∧ fs.lookup m = none ∧ RA X (e :: es) σ H1 fun vs H2 => sp (x :: vs) H2 Q E)
    {pl : Sem Bool} (he : starEach (e :: es) X.env = (false, eval e X.env) :: starEach es X.env := by with_unfolding_all rfl) (hpl : (backTo pos (starEach es X.env)).any (·.1) = false := by with_unfolding_all rfl)
    (ht : eval (.Call (.Attribute o m apos) (e :: es) [] pos) X.env = (do
      let ov ← eval o X.env
      standAt apos.atName
      let (f, first) ← holding [ov] (getMethod ov m pl)
      callWith pos f first (backTo pos (starEach (e :: es) X.env)) (backToKw pos (keywordEach [] X.env))) := by with_unfolding_all rfl) : RE X (.Call (.Attribute o m apos) (e :: es) [] pos) σ H Q := by
  obtain ⟨f, fd, F1, mm, b⟩ := F.ex
  refine re_of (pe_meth (pl := pl) PE.self cl mm F1 (c.room.mono hn) b .nil hx PA.self he hpl ht) ?_
  exact pe_mono q fun x H1 ⟨a, dx, fs, e1, h, l, q1⟩ => ⟨a, dx, fs, e1, h, l, ra_mono q1 fun vs H2 d => by rw [List.append_nil]; exact d⟩
/-- o.m() -/
theorem re_meth0 (c : Ctx X N L k) {CXs : CXT} {ps : List Str} {n : Nat} {sp : Sp} {E : XK} (cl : Cls X.K C) (F : MethP X.prog X.w X.K X.mg X.base CXs C m ps n sp) (hn : n ≤ k) (hx : Passes CXs X E)
    (q : RE X o σ H fun x H1 => ∃ (a dx : Addr) (fs : List (Str × V)), x = .ref a ∧ H1 a = some (.ins C dx fs) ∧ fs.lookup m = none ∧ sp [x] H1 Q E)
    {pl : Sem Bool} (ht : eval (.Call (.Attribute o m apos) [] [] pos) X.env = (do
      let ov ← eval o X.env
      standAt apos.atName
      let (f, first) ← holding [ov] (getMethod ov m pl)
      callWith pos f first (backTo pos (starEach [] X.env)) (backToKw pos (keywordEach [] X.env))) := by with_unfolding_all rfl) : RE X (.Call (.Attribute o m apos) [] [] pos) σ H Q := by
  obtain ⟨f, fd, F1, mm, b⟩ := F.ex
  refine re_of (pe_meth0 (pl := pl) PE.self cl mm F1 (c.room.mono hn) b .nil hx ht) ?_
  exact pe_mono q fun x H1 ⟨a, dx, fs, e1, h, l, q1⟩ => ⟨a, dx, fs, e1, h, l, q1⟩

/-- C(e, ..), C's own __init__ -/
theorem re_make (c : Ctx X N L k) {CXs : CXT} {x : Str} {fI : Addr} {fd : FuncData} {ps : List Str} {n : Nat} {sp : Sp} {E : XK} (M : Mk X.K C fI) (F : FnOk X.prog X.w X.K X.mg X.base CXs n fI fd ps sp) (hb : Binds X.K fd ps []) (hn : n + 1 ≤ k) (h : (x, KN.glob) ∈ L) (hm : X.mg x = some (.ref C)) (hx : Passes CXs X E)
    (q : RA X (e :: es) σ H fun vs H1 => ∀ (x dx : Addr), H1 x = none → H1 dx = none → dx ≠ x → sp (.ref x :: vs) (upd (upd H1 dx (.own x)) x (.ins C dx [])) (fun v H2 => v = .non ∧ Q (.ref x) H2) E)
    (he : starEach (e :: es) X.env = (false, eval e X.env) :: starEach es X.env := by with_unfolding_all rfl) (hpl : (backTo pos (starEach es X.env)).any (·.1) = false := by with_unfolding_all rfl) : RE X (.Call (.Name x p0) (e :: es) [] pos) σ H Q := by
  refine re_of (pe_make M F (c.room.mono hn) (c.gl h) hm hb .nil hx PA.self (c.d1 h) he hpl) ?_
  exact ra_mono q fun vs H1 d x dx a1 a2 a3 => by rw [List.append_nil]; exact d x dx a1 a2 a3
/-- a def's call, its exceptions in any form -/
theorem re_callN (c : Ctx X N L k) {CXs : CXT} {x : Str} {ps : List Str} {n : Nat} {sp : Sp} {E : XK} (F : DefP X.prog X.w X.K X.mg X.base CXs x ps n sp) (hn : n ≤ k) (h : (x, KN.glob) ∈ L) (hx : Passes CXs X E) (q : RA X (e :: es) σ H fun vs H1 => sp vs H1 Q E)
    (he : starEach (e :: es) X.env = (false, eval e X.env) :: starEach es X.env := by with_unfolding_all rfl) (hpl : (backTo pos (starEach es X.env)).any (·.1) = false := by with_unfolding_all rfl) : RE X (.Call (.Name x p0) (e :: es) [] pos) σ H Q := by
  obtain ⟨f, fd, F1, m, kp, b⟩ := F.ex
  refine re_of (pe_call F1 (c.room.mono hn) (c.gl h) m kp b .nil hx PA.self (c.d1 h) he hpl) ?_
  exact ra_mono q fun vs H1 d => by rw [List.append_nil]; exact d
theorem re_callSN (c : Ctx X N L k) {CXs : CXT} {x : Str} {ps : List Str} {n : Nat} {sp : Sp} {E : L2.St → XK} (F : DefP X.prog X.w X.K X.mg X.base CXs x ps n sp) (hn : n ≤ k) (h : (x, KN.glob) ∈ L) (hx : ∀ σ, PassesAt CXs X σ (E σ)) (q : RA X (e :: es) σ H fun vs H1 => sp vs H1 Q (E σ))
    (he : starEach (e :: es) X.env = (false, eval e X.env) :: starEach es X.env := by with_unfolding_all rfl) (hpl : (backTo pos (starEach es X.env)).any (·.1) = false := by with_unfolding_all rfl) : RE X (.Call (.Name x p0) (e :: es) [] pos) σ H Q := by
  obtain ⟨f, fd, F1, m, kp, b⟩ := F.ex
  exact re_of (pe_callS F1 (c.room.mono hn) (c.gl h) m kp b hx PA.self (c.d1 h) he hpl) q
/-- a call of a local that holds a def, its exceptions in any form -/
theorem re_callLN (c : Ctx X N L k) {CXs : CXT} {x : Str} {j : KN} {g : Addr} {fd : FuncData} {ps : List Str} {sp : Sp} {n : Nat} {E : XK} (F : FnOk X.prog X.w X.K X.mg X.base CXs n g fd ps sp) (hn : n ≤ k) (kp : PySem.W.keepIn X.K (.ref g) = true) (b : Binds X.K fd ps []) (h : (x, j) ∈ L) (mm : Mine j) (s : Slot N σ x (.ref g)) (hx : Passes CXs X E)
    (q : RA X (e :: es) σ H fun vs H1 => sp vs H1 Q E)
    (he : starEach (e :: es) X.env = (false, eval e X.env) :: starEach es X.env := by with_unfolding_all rfl) (hpl : (backTo pos (starEach es X.env)).any (·.1) = false := by with_unfolding_all rfl) : RE X (.Call (.Name x p0) (e :: es) [] pos) σ H Q := by
  obtain ⟨i, h1, h2⟩ := s.ix
  rw [← c.n] at h1
  refine re_of (pe_callL F (c.room.mono hn) h1 (c.vis h mm) kp b .nil hx PA.self (c.d1 h) (c.d2 h) he hpl) ⟨h2, ?_⟩
  exact ra_mono q fun vs H1 d => by rw [List.append_nil]; exact d
end
end GT
/-! Exceptions whose context is None; a try that catches one and raises another from None. -/
namespace GT
open PySem PySem.Spec PyProof.Rows L2
section
variable {X : Cx} {σ : L2.St} {H : Hp} {N : List Str} {L Lc : List (Str × KN)} {k : Nat} {pos p0 p1 p2 p3 p pos' : Pos} {Q : VK} {D : Ends} {C : Addr} {e o : Expr} {es : List Expr} {f m x : Str}
theorem pmkN {CXs : CXT} {fI : Addr} {n : Nat} {fd : FuncData} {ps : List Str} {sp : Sp} {ta : TA} (T : OexC X.K C) (iC : PySem.W.findIn X.K (.ref C) "__init__" = some (some (.ref fI))) (tI : PySem.W.typeIn X.K (.ref fI) = some (.type "function"))
    (F1 : FnOk X.prog X.w X.K X.mg X.base CXs n fI fd ps sp) (hr : Room (n + 1) X.A) (hb : Binds X.K fd ps []) (hx : Passes CXs X (fun _ _ _ => False)) (hg : Gl X x) (hm : X.mg x = some (.ref C)) (ha : PA X (e :: es) ta)
    (hdb : (x == ("__debug__" : Str)) = false) (he : starEach (e :: es) X.env = (false, eval e X.env) :: starEach es X.env) (hpl : (backTo pos (starEach es X.env)).any (·.1) = false) :
    L2N.PMk X (.Call (.Name x p) (e :: es) [] pos) (tMkO C sp [] ta) := by
  intro pins s σ H Q I h
  obtain ⟨nm, q, N, bs, bm, sn, sub, ab, col, dd, k0, k1, k2, k3, k5, hC, hbm⟩ := T.cls
  refine wpAny_Call_Name_kw (ld_glob I hg hm ?_ hdb)
  refine PySem.W.callWith_K (h₀ := X.base) I.ok.mod.kin T.kC (thn (ha.run pos pins s σ H _ I h) fun us s1 ⟨vs, H1, I1, r1, hz, q1⟩ => ⟨I1.kIn, ?_⟩) he hpl
  show wpAny _ _ (call (.ref C) us) _ _ _
  obtain ⟨hp, g, dr, tk, os⟩ := s1
  have sz : hp.objs.size ≤ hp.objs.size + 1 := Nat.le_succ _
  have n1 : H1 (hp.objs.size + 1) = none := I1.hok.fresh sz
  have w1 := q1 (hp.objs.size + 1) n1
  rw [List.append_nil] at w1
  have kp2 : ∀ b o, hp.get? b = some o → ((hp.push (PySem.W.kdv_tup us)).push (PySem.HandSPX.excO C hp.objs.size)).get? b = some o := fun b o z => Heap.get?_push_of_some _ (Heap.get?_push_of_some _ z)
  have at2 : ((hp.push (PySem.W.kdv_tup us)).push (PySem.HandSPX.excO C hp.objs.size)).get? (hp.objs.size + 1) = some (PySem.HandSPX.excO C hp.objs.size) := by heap_get
  have I2 : Inv X pins σ (upd H1 (hp.objs.size + 1) (exo (hp.objs.size + 1) C none)) ⟨(hp.push (PySem.W.kdv_tup us)).push (PySem.HandSPX.excO C hp.objs.size), g, dr, tk, os⟩ :=
    I1.laid (t' := tk) (a := hp.objs.size + 1) (o := exo (hp.objs.size + 1) C none) (h' := (hp.push (PySem.W.kdv_tup us)).push (PySem.HandSPX.excO C hp.objs.size)) kp2 sz (exo_ok at2)
  have rv2 : Vals (V.ref (hp.objs.size + 1) :: vs) (Value.ref (hp.objs.size + 1) :: us) := .cons rfl r1
  have ln : (Value.ref (hp.objs.size + 1) :: us ++ []).length = ps.length := by
    have z := rv2.length
    rw [F1.len _ _ _ _ w1] at z
    rw [List.append_nil]
    exact z.symm
  have lu : us.length ≤ sizeLine := by
    rw [← Paired.length r1, sizeLine_eq]
    omega
  have bb := hb _ (Value.ref (hp.objs.size + 1) :: us) I2.kIn ln
  rw [List.append_nil] at bb
  refine wpAny_call (PySem.HandSPX.call_own F.excBase_ValueError (fun Y => PySem.HandSPX.refsVE_contains Y bm hbm) (I1.kIn _ _ hC) (PySem.W.looks_findIn I1.kIn iC) (fun self => PySem.W.bind_fn I1.kIn self tI) lu
    (codeAny_mono (F1.run _ X.stack _ _ ⟨Value.ref (hp.objs.size + 1) :: us, []⟩ (Value.ref (hp.objs.size + 1) :: us) _ _ (fun _ _ _ => False) (hr.make C us []) (I2.env0.make C us []) bb rv2 w1) fun r s' hq' => ?_))
  cases r with
  | error er => exact hx pins σ _ _ er s' I2 hq'
  | ok fl =>
    cases fl with
    | ret u =>
      obtain ⟨v, H2, os2, bare2, un2, hok2, rv, ev, d, fs, ea, ed, hd1, q2⟩ := hq'
      subst ev
      obtain ⟨h2, g2, d2, t2, os'⟩ := s'
      obtain ⟨t0, G, J, kG, ge, hoe, na⟩ := mk_end0 (d2 := d2) (t2 := t2) I1 sz kp2 un2 hok2 os2 bare2 ea ed hd1
      refine ⟨rv, hp.objs.size + 1, _, _, ⟨G, g2, d2, t2, os'⟩, _, .ref C, some d, rfl, J, kG, ge, hoe, ⟨rfl, rfl, fun vs hv => ?_⟩, rfl, rfl, na, rfl, bare2, raises_own T.exC T.tyC, q2⟩
      cases hv
      rfl
    | next => exact False.elim hq'
    | brk => exact False.elim hq'
    | cont => exact False.elim hq'
/-- what remains of the heap when an exception was made -/
theorem exc_heap {H1 : Hp} {a d C : Addr} {fl : Str} {v : V} (ha : H1 a = none) (hd : d ≠ a) : upd (del (upd (upd (upd H1 a (exo a C none)) d (exd d [(fl, v)])) a (exo a C (some d))) a) d (.xd [(fl, v)]) = upd H1 d (.xd [(fl, v)]) := by
  funext b
  by_cases hb1 : b = d
  · subst hb1
    rw [upd_same, upd_same]
  · rw [upd_ne hb1, upd_ne hb1]
    by_cases hb2 : b = a
    · subst hb2
      rw [del_same, ha]
    · rw [del_ne hb2, upd_ne hb2, upd_ne hb1, upd_ne hb2]
/-- raise C(e), the context None -/
theorem rs_raiseN (c : Ctx X N L k) {nm fl : Str} (EC : ErrC X.prog X.w X.K X.mg X.base nm fl C) (hk : 2 ≤ k) (hg : (nm, KN.glob) ∈ L) {W : WX} (tk : L2N.Takes X W)
    (q : RE X e σ H fun v H1 => ∀ d, H1 d = none → W (.ref C) (some d) σ (upd H1 d (.xd [(fl, v)])))
    (he : starEach (e :: []) X.env = (false, eval e X.env) :: starEach [] X.env := by with_unfolding_all rfl) (hpl : (backTo p1 (starEach [] X.env)).any (·.1) = false := by with_unfolding_all rfl) :
    RS X (.Raise (some (.Call (.Name nm p0) [e] [] p1)) none pos) D σ H := by
  obtain ⟨fI, fd, ps, iC, tI, F1, hb⟩ := EC.ini
  refine rs_of (L2N.ps_raise c.calm tk (pmkN EC.oex iC tI F1 (c.room.mono hk) hb pass0 (c.gl hg) EC.gC PA.self (c.d1 hg) he hpl)) ?_
  refine ra_cons (pe_mono q fun v H1 q1 => ra_nil ⟨by show 1 ≤ 1000; decide, fun a ha => ⟨a, C, v, rfl, EC.oex, EC.no, upd_same, fun d hd hda => ?_⟩⟩) he
  have hd1 : H1 d = none := by rwa [upd_ne hda] at hd
  refine ⟨rfl, d, [(fl, v)], upd_same, ?_, hd1, ?_⟩
  · rw [upd_ne hda, upd_same]
  · rw [exc_heap ha hda]
    exact q1 d hd1
/-- an own exception class over Exception without an __init__ -/
structure ErrN (K : PySem.W.Frag) (mg : Str → Option Value) (nm : Str) (C : Addr) : Prop where
  exc : PySem.W.excIn K C [.type "Exception", .type "BaseException", .type "object"] "Exception.__new__" = true
  gC : mg nm = some (.ref C)
  kC : PySem.W.keepIn K (.ref C) = true
  sb : PySem.W.subIn K (.ref C) (.type "BaseException") = some true
  ty : PySem.W.typeIn K (.ref C) = some (.type "type")
theorem pmkN0 {bmB : List Value} {B newId initId : String} (F : ExcBaseFacts B newId initId bmB) (q : PySem.W.excIn X.K C bmB newId = true) (gC : X.mg x = some (.ref C)) (kC : PySem.W.keepIn X.K (.ref C) = true) (r : Raises X (.ref C)) (hg : Gl X x) (hdb : (x == ("__debug__" : Str)) = false) :
    L2N.PMk X (.Call (.Name x p) [] [] pos) (fun σ H Q => Q (.ref C) none H) := by
  intro pins s σ H Q I h
  refine wpAny_Call_Name_kw (ld_glob I hg gC ?_ hdb)
  refine PySem.W.callWith_K0 I.kIn kC ?_
  show wpAny _ _ (call (.ref C) []) _ _ _
  obtain ⟨bm, N, nm, qn, bs, hdct, sn, sub, ab, col, dd, k0, k1, k2, k3, k5, mN, hC, hN, hni, T⟩ := exc_obj I.kIn q
  refine wpAny_call_exc_subT F T hC hN hni (fun h' e hm => ?_) (Nat.zero_le _)
  exact L2N.mk_of I hm r h (I.hok.gone hm.new)
/-- raise C() -/
theorem rs_raiseN0 (c : Ctx X N L k) {nm : Str} (EC : ErrN X.K X.mg nm C) (hg : (nm, KN.glob) ∈ L) {W : WX} (tk : L2N.Takes X W) (q : W (.ref C) none σ H) : RS X (.Raise (some (.Call (.Name nm p0) [] [] p1)) none pos) D σ H :=
  rs_of (L2N.ps_raise c.calm tk (pmkN0 PySem.F.excBase_Exception EC.exc EC.gC EC.kC (raises_own EC.sb EC.ty) (c.gl hg) (c.d1 hg))) q
/-- an own exception's __init__ where one is handled -/
structure ErrH (P : Program) (w : World) (K : PySem.W.Frag) (mg : Str → Option Value) (base : Heap) (nm fl : Str) (C : Addr) : Prop where
  ec : ErrC P w K mg base nm fl C
  ini : ∃ (fI : Addr) (fd : FuncData) (ps : List Str), PySem.W.findIn K (.ref C) "__init__" = some (some (.ref fI)) ∧ PySem.W.typeIn K (.ref fI) = some (.type "function") ∧ L2H.FnH P w K mg base CX0 1 fI fd ps (spIni K fl) ∧ Binds K fd ps []
/-- raise C(e) from None, in a suite -/
theorem rs_raiseFN (c : CtxS X N L) (hot : L2H.HotC X) {W : WX} (tk : L2.Takes X W) {nm fl : Str} (EH : ErrH X.prog X.w X.K X.mg X.base nm fl C) (hr : L2H.RoomH 2 X.A) (hg : (nm, KN.glob) ∈ L) {j : Nat}
    (q : RE X e σ H fun v H1 => ∀ d, H1 d = none → W (.ref C) (some d) σ (upd H1 d (.xd [(fl, v)])))
    (he : starEach (e :: []) X.env = (false, eval e X.env) :: starEach [] X.env := by with_unfolding_all rfl) (hpl : (backTo p1 (starEach [] X.env)).any (·.1) = false := by with_unfolding_all rfl) :
    RS X (.Raise (some (.Call (.Name nm p0) [e] [] p1)) (some (.Constant .none j p2)) pos) D σ H := by
  obtain ⟨fI, fd, ps, iC, tI, F1, hb⟩ := EH.ini
  refine rs_of (L2H.ps_raiseHN hot tk (L2H.pmk5_oexH EH.ec.oex iC tI F1 hr hot hb pass0 (c.gl hg) EH.ec.gC PA.self (okName_of (c.dbg _ hg)).1 he hpl)) ?_
  refine ra_cons (pe_mono q fun v H1 q1 => ra_nil ⟨by show 1 ≤ 1000; decide, fun a ha => ⟨a, C, v, rfl, EH.ec.oex, EH.ec.no, upd_same, fun d hd hda => ?_⟩⟩) he
  have hd1 : H1 d = none := by rwa [upd_ne hda] at hd
  refine ⟨rfl, d, [(fl, v)], upd_same, ?_, hd1, ?_⟩
  · rw [upd_ne hda, upd_same]
  · rw [exc_heap ha hda]
    exact q1 d hd1
/-- len(e, ..) in a suite -/
theorem re_lenS (c : CtxS X N L) (h : (("len" : Str), KN.glob) ∈ L) (hm : X.mg "len" = none) (q : RA X (e :: es) σ H fun vs H1 => ClV X (.builtin "len") vs H1 Q)
    (he : starEach (e :: es) X.env = (false, eval e X.env) :: starEach es X.env := by with_unfolding_all rfl) (hpl : (backTo pos (starEach es X.env)).any (·.1) = false := by with_unfolding_all rfl) : RE X (.Call (.Name "len" p0) (e :: es) [] pos) σ H Q :=
  re_of (pe_callB ClR.self (c.gl h) hm (by decide +kernel) PA.self (okName_of (c.dbg _ h)).2.2 (okName_of (c.dbg _ h)).1 he hpl) q
/-- try: body, except x: suite (that may raise) -/
theorem rs_try_only (c : Ctx X N L k) (hs : X.stack = X.env :: X.outer) (hf : X.env.frame = some X.env.locals) (hpa : ∀ hd : Option Value, PassesOwnAt (model X.prog X.w) (X.A.mark hd) X.A X.env X.xe) {c0 : Value} {b₀ : Stmt} {body suite : List Stmt} {np : Pos} (hc : Names X x c0) {Wout : WX} (tk : L2.Takes X Wout)
    (q : ∀ (pn : List (Addr × Obj)) (xe : Value → Shared → Prop) (W : WX), L2N.Takes (X.tr pn xe) W → L2.Takes (X.tr pn xe) (L2H.wPass X.K c0 Wout) → Ctx (X.tr pn xe) N L k →
      (∀ (cls : Value) (d : Option Addr) (σ' : L2.St) (H' : Hp), PySem.W.exmOne X.K cls c0 = some true →
        (∀ (a : Addr) (oe : Obj) (pn2 : List (Addr × Obj)), H' a = none → L2.Takes (L2H.suiteX X a ((a, oe) :: pn2)) Wout → L2H.HotC (L2H.suiteX X a ((a, oe) :: pn2)) → L2H.RoomH k (L2H.suiteX X a ((a, oe) :: pn2)).A → CtxS (L2H.suiteX X a ((a, oe) :: pn2)) N L →
          RB (L2H.suiteX X a ((a, oe) :: pn2)) (b₀ :: suite) D σ' H') → W cls d σ' H') →
      (∀ (cls : Value) (d : Option Addr) (σ' : L2.St) (H' : Hp), PySem.W.exmOne X.K cls c0 = some false → Wout cls d σ' H' → W cls d σ' H') → RB (X.tr pn xe) body D σ H) :
    RS X (.Try body [.ExceptHandler (some (.Name x np)) none (b₀ :: suite) pos'] [] [] pos) D σ H := by
  refine rs_of (L2H.ps_try_onlyX (c := c0) (Wout := Wout)
    (tb := fun W D σ H => ∀ (pn : List (Addr × Obj)) (xe : Value → Shared → Prop), L2N.Takes (X.tr pn xe) W → L2.Takes (X.tr pn xe) (L2H.wPass X.K c0 Wout) → PassesOwn (model X.prog X.w) X.A X.env xe → RB (X.tr pn xe) body D σ H)
    (ts := fun a cls d D σ H => ∀ (oe : Obj) (pn2 : List (Addr × Obj)), L2.Takes (L2H.suiteX X a ((a, oe) :: pn2)) Wout → L2H.HotC (L2H.suiteX X a ((a, oe) :: pn2)) → RB (L2H.suiteX X a ((a, oe) :: pn2)) (b₀ :: suite) D σ H)
    hs hf hc hpa tk (fun W pn xe t1 t2 po => ⟨fun pins s σ H D I h => PSs.self.run pins s σ H D I (h pn xe t1 t2 po)⟩) (fun a oe cls d pn hz hd t1 ht => ⟨fun pins s σ H D I h => PSs.self.run pins s σ H D I (h oe pn t1 ht)⟩)) ?_
  intro pn xe t1 t2 po
  exact q pn xe _ t1 t2 (c.tr pn xe po) (fun cls d σ' H' e1 r => ⟨true, e1, fun _ a ha oe pn2 t3 ht => r a oe pn2 ha t3 ht (L2H.roomH_mark c.room _) ⟨c.n, c.nd, c.look, c.dbg⟩, fun z => nomatch z⟩) (fun cls d σ' H' e1 w => ⟨false, e1, (fun z => nomatch z), fun _ => w⟩)
end
section
variable {P : Program} {w : World} {K : PySem.W.Frag} {mg : Str → Option Value} {base : Heap} {x qual : Str} {st : Stmt} {N ps : List Str} {L : List (Str × KN)} {k : Nat} {sp : Sp} {f : Addr} {fd : FuncData}
/-- a def (or a method) that may raise, its exceptions' contexts None -/
theorem fnNN_of (F : FunD K x qual (defArgs st) (defBody st) (defScope st) [] [] f fd) (M : Nms st N ps L) (len : ∀ vs H Q E, sp vs H Q E → vs.length = ps.length)
    (body : ∀ (X : Cx), Ctx X N L k → At5 X P w K mg base → ∀ (vs : List V) (H : Hp) (Q : VK) (E : XK), L2N.Takes X (fun cls d _ H' => E cls d H') → sp vs H Q E → RB X (defBody st) { nx := fun _ H' => Q .non H', rt := Q } (start N vs) H) : FnOk P w K mg base (L2N.CX P w) (k + 1) f fd ps sp := by
  refine F.ok M.S len (fun cdv A outer s H vs Q E hr h => ?_)
  have c : Ctx (cxOf (L2N.CX P w) P w K mg base N qual (defScope st) f cdv A outer s H E) N L k := ⟨rfl, M.S.nd, knIs_of M rfl (fun _ => rfl), M.db, rfl, hr, passes_of rfl, M.S.kind⟩
  exact (body _ c ⟨rfl, rfl, rfl, rfl, rfl⟩ vs H Q E (L2N.takes_of rfl rfl rfl rfl) h).ex
theorem defPN_of (F : FnP K x st f fd) (gx : mg x = some (.ref f)) (M : Nms st N ps L) (hb : Binds K fd ps []) (len : ∀ vs H Q E, sp vs H Q E → vs.length = ps.length)
    (body : ∀ (X : Cx), Ctx X N L k → At5 X P w K mg base → ∀ (vs : List V) (H : Hp) (Q : VK) (E : XK), L2N.Takes X (fun cls d _ H' => E cls d H') → sp vs H Q E → RB X (defBody st) { nx := fun _ H' => Q .non H', rt := Q } (start N vs) H) : DefP P w K mg base (L2N.CX P w) x ps (k + 1) sp :=
  ⟨f, fd, fnNN_of F M len body, gx, F.kp, hb⟩
/-- a def whose body needs no more of its place than a suite does, called where an exception is handled -/
theorem fnHH_of (F : FunD K x qual (defArgs st) (defBody st) (defScope st) [] [] f fd) (M : Nms st N ps L) (len : ∀ vs H Q E, sp vs H Q E → vs.length = ps.length)
    (body : ∀ (X : Cx), CtxS X N L → At5 X P w K mg base → ∀ (vs : List V) (H : Hp) (Q : VK) (E : XK), sp vs H Q E → RB X (defBody st) { nx := fun _ H' => Q .non H', rt := Q } (start N vs) H) : L2H.FnH P w K mg base CX0 (k + 1) f fd ps sp := by
  obtain ⟨oc, od, dV, kV, doc, pm, an, cdv, ct, osl, rfl, lk, hcd, _, _⟩ := F.ex
  refine L2H.fn_ofH lk hcd M.S len (fun A outer s H vs Q E p hot hr h => ?_)
  exact (body _ ⟨rfl, M.S.nd, knIs_of M rfl (fun _ => rfl), M.db⟩ ⟨rfl, rfl, rfl, rfl, rfl⟩ vs H Q E h).ex
end
end GT
/-! Rows that are read, item by item: what is told, or where it stops. -/
namespace GT
open PySem PySem.Spec PyProof.Rows L2
abbrev ORow := List (Option Int)
inductive Rdg (α : Type) where
  | ok (a : α) (p : Nat)
  | bad (j : Nat)
def Rdg.bind {α β : Type} (r : Rdg α) (f : α → Nat → Rdg β) : Rdg β :=
  match r with
  | .ok a p => f a p
  | .bad j => .bad j
def Rdg.map {α β : Type} (g : α → β) (r : Rdg α) : Rdg β := r.bind fun a p => .ok (g a) p
theorem Rdg.map_map {α β γ : Type} {g : α → β} {h : β → γ} {r : Rdg α} : (r.map g).map h = r.map fun a => h (g a) := by
  cases r <;> rfl
theorem Rdg.map_bind {α β γ : Type} {g : α → β} {r : Rdg α} {f : β → Nat → Rdg γ} : (r.map g).bind f = r.bind fun a p => f (g a) p := by
  cases r <;> rfl
theorem Rdg.bind_map {α β γ : Type} {g : β → γ} {r : Rdg α} {f : α → Nat → Rdg β} : (r.bind f).map g = r.bind fun a p => (f a p).map g := by
  cases r <;> rfl
theorem Rdg.bind_bind {α β γ : Type} {r : Rdg α} {f : α → Nat → Rdg β} {g : β → Nat → Rdg γ} : (r.bind f).bind g = r.bind fun a p => (f a p).bind g := by
  cases r <;> rfl
theorem Rdg.map_id {α : Type} {r : Rdg α} : (r.map fun a => a) = r := by
  cases r <;> rfl
def rTake (os : ORow) (lo hi : Int) (p : Nat) : Rdg Int :=
  match os[p]? with
  | some (some i) => if lo ≤ i ∧ i ≤ hi then .ok i (p + 1) else .bad p
  | _ => .bad p
def rDigs (os : ORow) : Int → Nat → Nat → Rdg (List Int)
  | _, 0, p => .bad p
  | lo, n + 1, p => (rTake os lo 255 p).bind fun a p1 => if a < 128 then .ok [a] p1 else (rDigs os 1 n p1).map (a :: ·)
def worth : List Int → Int
  | [] => 0
  | a :: r => a % 128 + 128 * worth r
def rNum (os : ORow) (p : Nat) : Rdg Int := (rDigs os 0 (os.length + 1) p).map worth
/-- what goes on behind a first octet -/
def rBehind (os : ORow) (a : Int) (p : Nat) : Rdg (List Int) := if a < 128 then .ok [a] p else (rDigs os 1 os.length p).map (a :: ·)
def topOf (s : Int) : Int := if s % 2 = 0 then s / 2 else -(s / 2) - 1
def rFrac (os : ORow) (p : Nat) : Rdg D := (rNum os p).bind fun s p1 => (rTake os 1 255 p1).bind fun a p2 =>
  if 128 ≤ a ∧ (topOf s = 0 ∨ (topOf s % 2 = 0 ∧ a % 2 = 0)) then .bad p1 else (rBehind os a p2).bind fun l p3 =>
    if Nat.gcd (topOf s).natAbs (worth l).natAbs = 1 then .ok (.tup [.int (topOf s), .int (worth l)]) p3 else .bad (p3 - 1)
/-- the greatest text of m letters that begins so -/
def zTo (m : Nat) (f : List Nat) : List Nat := f ++ List.replicate (m - f.length) 122
def rLets (os : ORow) (floor : List Nat) (m : Nat) : Nat → List Nat → Nat → Rdg (List Nat)
  | 0, f, p => .ok f p
  | k + 1, f, p => (rTake os 0 25 p).bind fun a p1 => if floor < zTo m (f ++ [97 + a.toNat]) then rLets os floor m k (f ++ [97 + a.toNat]) p1 else .bad p
def rLabel (os : ORow) (floor : List Nat) (p : Nat) : Rdg (List Nat) := (rTake os 1 8 p).bind fun m p1 => if floor < zTo m.toNat [] then rLets os floor m.toNat m.toNat [] p1 else .bad p
def sD (l : List Nat) : D := .str ⟨l.toArray⟩
def rMany {α : Type} (rd : Nat → Rdg α) : Nat → Nat → Rdg (List α)
  | 0, p => .ok [] p
  | n + 1, p => (rd p).bind fun a p1 => (rMany rd n p1).map (a :: ·)
theorem rMany_snoc {α : Type} {rd : Nat → Rdg α} {n i : Nat} {r : Rdg (List α)} {l : List α} {p : Nat} (h : r = (rMany rd n p).map (l ++ ·)) (hi : n = i + 1) : r = (rd p).bind fun a p1 => (rMany rd i p1).map ((l ++ [a]) ++ ·) := by
  subst hi
  rw [h]
  show ((rd p).bind fun a p1 => (rMany rd i p1).map (a :: ·)).map (l ++ ·) = _
  rw [Rdg.bind_map]
  congr 1
  funext a p1
  rw [Rdg.map_map]
  simp only [List.append_assoc, List.singleton_append]
def rName (os : ORow) (p : Nat) : Rdg D := (rTake os 1 6 p).bind fun m p1 => (rMany (rLabel os []) m.toNat p1).map fun l => .tup (l.map sD)
def rId2 (os : ORow) (a : Int) (p : Nat) : Rdg D := (rNum os p).bind fun l p1 => (rNum os p1).bind fun n p2 => .ok (.tup [.int a, .int l, .int n]) p2
def rId (os : ORow) (p : Nat) : Rdg D := (rTake os 0 31 p).bind fun a p1 => rId2 os a p1
def rTerm (os : ORow) (none : D) (p : Nat) : Rdg D := (rTake os 0 32 p).bind fun a p1 => if a = 0 then .ok none p1 else rId2 os (a - 1) p1
def rPlain (os : ORow) (k : Int) (p : Nat) : Rdg D := if k = 1 then (rNum os p).bind fun n p1 => .ok (.tup [.str "value", .int n]) p1 else (rName os p).bind fun n p1 => .ok (.tup [.str "name", n]) p1
def z8 : List Nat := List.replicate 8 122
def rRows (os : ORow) : Nat → List Nat → Nat → Rdg (List D)
  | 0, _, p => (rTake os 0 0 p).bind fun _ p1 => .ok [] p1
  | k + 1, floor, p => (rTake os 0 (if floor = z8 then 0 else 1) p).bind fun a p1 => if a = 0 then .ok [] p1 else (rLabel os floor p1).bind fun l p2 => (rTake os 1 2 p2).bind fun kd p3 => (rPlain os kd p3).bind fun e p4 => (rRows os k l p4).map (.tup [sD l, e] :: ·)
def rEntry (os : ORow) (lo hi : Int) (p : Nat) : Rdg D := (rTake os lo hi p).bind fun k p1 => if k = 0 then .ok .non p1 else if k = 3 then (rTake os 0 31 p1).bind fun h p2 => (rRows os 6 [] p2).bind fun rs p3 => .ok (.tup [.str "page", .int h, .tup rs]) p3 else rPlain os k p1
def rFound (os : ORow) (p : Nat) : Rdg D := (rTake os 0 4 p).bind fun k p1 => if k = 0 then (rNum os p1).bind fun n p2 => .ok (.tup [.str "value", .int n]) p2 else if k = 1 then (rTake os 0 31 p1).bind fun h p2 => (rTerm os (.tup []) p2).bind fun t p3 => .ok (.tup [.str "page", .int h, t]) p3 else
  .ok (.tup [.str (if k = 2 then "nothing" else if k = 3 then "long" else "far")]) p1
def rAnswer (os : ORow) (p : Nat) : Rdg D := (rFound os p).bind fun w p1 => (rTake os 0 9 p1).bind fun m p2 => (rMany (rName os) m.toNat p2).bind fun l p3 => .ok (.tup [w, .tup l]) p3
/-- the parts of a deed, by their words -/
inductive Wd where
  | kept | term | node | most | id | label | fraction | name | entry | answer
def rPart (os : ORow) : Wd → Nat → Rdg D
  | .kept, p => rTerm os .non p
  | .term, p => rTerm os (.tup []) p
  | .node, p => (rTake os 0 31 p).map .int
  | .most, p => (rTake os 0 8 p).map .int
  | .id, p => rId os p
  | .label, p => (rLabel os [] p).map sD
  | .fraction, p => rFrac os p
  | .name, p => rName os p
  | .entry, p => rEntry os 0 3 p
  | .answer, p => rAnswer os p
def rParts (os : ORow) : List Wd → Nat → Rdg (List D)
  | [], p => .ok [] p
  | w :: r, p => (rPart os w p).bind fun a p1 => (rParts os r p1).map (a :: ·)
def wdS : Wd → Str
  | .kept => "kept"
  | .term => "term"
  | .node => "node"
  | .most => "most"
  | .id => "id"
  | .label => "label"
  | .fraction => "fraction"
  | .name => "name"
  | .entry => "entry"
  | .answer => "answer"
def deeds : List (Str × List Wd) := [("start", [.kept]), ("tick", []), ("send", [.node]), ("hear", [.id]), ("put", [.term, .label, .entry]), ("give", [.term, .label, .fraction, .node]), ("pass", [.id, .node]), ("swear", [.id]), ("hand", [.term, .node]), ("tell", [.name, .most, .answer]), ("ask", [.name, .most])]
def rEvent (os : ORow) (p : Nat) : Rdg D := (rId os p).bind fun i p1 => (rFrac os p1).bind fun f p2 => (rTake os 0 10 p2).bind fun k p3 =>
  (rParts os (deeds.getD k.toNat ("", [])).2 p3).bind fun ds p4 => .ok (.tup [i, f, .tup (.str (deeds.getD k.toNat ("", [])).1 :: ds)]) p4
/-! ### places -/
theorem take_ok {os : ORow} {lo hi : Int} {p : Nat} {a : Int} {p1 : Nat} (h : rTake os lo hi p = .ok a p1) : p1 = p + 1 ∧ p < os.length ∧ lo ≤ a ∧ a ≤ hi ∧ os[p]? = some (some a) := by
  unfold rTake at h
  split at h
  · rename_i i e
    split at h
    · rename_i c
      cases h
      exact ⟨rfl, (List.getElem?_eq_some_iff.mp e).1, c.1, c.2, e⟩
    · cases h
  · cases h
/-! ### what stands, whatever is written into lists and instances -/
/-- tuples stay, lists stay lists -/
structure KF (H H' : Hp) : Prop where
  t : ∀ (a : Addr) xs, H a = some (.tup xs) → H' a = some (.tup xs)
  l : ∀ (a : Addr) xs, H a = some (.lst xs) → ∃ ys, H' a = some (.lst ys)
structure Fk (B : Addr → Prop) (H H' : Hp) : Prop where
  f : Fr B H H'
  k : KF H H'
section
variable {B B' : Addr → Prop} {H H1 H2 H' : Hp} {a p : Addr} {o : HO} {xs ys : List V}
theorem KF.refl : KF H H := ⟨fun _ _ h => h, fun _ _ h => ⟨_, h⟩⟩
theorem KF.trans (a : KF H H1) (b : KF H1 H2) : KF H H2 := ⟨fun x xs h => b.t _ _ (a.t _ _ h), fun x xs h => by obtain ⟨ys, h1⟩ := a.l _ _ h; exact b.l _ _ h1⟩
theorem KF.new (h : H p = none) : KF H (upd H p o) := ⟨fun a xs e => by rw [upd_ne (ne_of_none e h)]; exact e, fun a xs e => ⟨xs, by rw [upd_ne (ne_of_none e h)]; exact e⟩⟩
theorem KF.putL (h : H p = some (.lst xs)) : KF H (upd H p (.lst ys)) := ⟨fun a zs e => by
    rw [upd_ne (fun z => by subst z; rw [h] at e; cases e)]
    exact e, fun a zs e => by
    by_cases z : a = p
    · subst z
      exact ⟨ys, upd_same⟩
    · exact ⟨zs, by rw [upd_ne z]; exact e⟩⟩
theorem KF.putI {C dx : Addr} {fs : List (Str × V)} (h : H p = some (.ins C dx fs)) : KF H (upd H p o) := ⟨fun a zs e => by
    rw [upd_ne (fun z => by subst z; rw [h] at e; cases e)]
    exact e, fun a zs e => ⟨zs, by
    rw [upd_ne (fun z => by subst z; rw [h] at e; cases e)]
    exact e⟩⟩
theorem Fk.refl : Fk B H H := ⟨Fr.refl, KF.refl⟩
theorem Fk.trans (a : Fk B H H1) (b : Fk B H1 H2) : Fk B H H2 := ⟨a.f.trans b.f, a.k.trans b.k⟩
theorem Fk.mono (a : Fk B H H1) (s : ∀ x, B x → B' x) : Fk B' H H1 := ⟨fun x o n e => a.f x o (fun z => n (s _ z)) e, a.k⟩
theorem Fk.new (h : H p = none) : Fk B H (upd H p o) := ⟨Fr.new h, KF.new h⟩
theorem Fk.putL (h : H p = some (.lst xs)) (b : B p) : Fk B H (upd H p (.lst ys)) := ⟨fun x u n e => by rw [upd_ne (fun z => n (by rw [z]; exact b))]; exact e, KF.putL h⟩
theorem Fk.putI {C dx : Addr} {fs : List (Str × V)} (h : H p = some (.ins C dx fs)) (b : B p) : Fk B H (upd H p o) := ⟨fun x u n e => by rw [upd_ne (fun z => n (by rw [z]; exact b))]; exact e, KF.putI h⟩
/-- what is written besides stood not there at first -/
theorem Fk.loc (a : Fk B H H1) (b : Fk B' H1 H2) (s : ∀ x, B' x → B x ∨ H x = none) : Fk B H H2 := ⟨fun x o n e => b.f x o (fun z => (s x z).elim n fun y => by rw [y] at e; cases e) (a.f x o n e), a.k.trans b.k⟩
theorem Fk.gone (a : Fk B H H1) (n : ¬ B p) (h : H1 p = none) : H p = none := a.f.gone n h
end
/-- data without lists -/
inductive Dz (H : Hp) : V → D → Prop
  | non : Dz H .non .non
  | bl {b : Bool} : Dz H (.bl b) (.bl b)
  | int {i : Int} : Dz H (.int i) (.int i)
  | str {s : Str} : Dz H (.str s) (.str s)
  | tup {a : Addr} {vs : List V} {ds : List D} (t : H a = some (.tup vs)) (l : vs.length = ds.length) (h : ∀ (i : Nat) v d, vs[i]? = some v → ds[i]? = some d → Dz H v d) : Dz H (.ref a) (.tup ds)
def Dzs (H : Hp) (vs : List V) (ds : List D) : Prop := vs.length = ds.length ∧ ∀ (i : Nat) v d, vs[i]? = some v → ds[i]? = some d → Dz H v d
section
variable {H H' : Hp} {v : V} {d : D} {vs : List V} {ds : List D} {a : Addr}
theorem Dz.kf (h : Dz H v d) (f : KF H H') : Dz H' v d := by
  induction h with
  | non => exact .non
  | bl => exact .bl
  | int => exact .int
  | str => exact .str
  | tup t l _ ih => exact .tup (f.t _ _ t) l ih
theorem Dzs.kf (h : Dzs H vs ds) (f : KF H H') : Dzs H' vs ds := ⟨h.1, fun i v d a b => (h.2 i v d a b).kf f⟩
theorem Dzs.nil : Dzs H [] [] := ⟨rfl, fun i v d h => by simp at h⟩
theorem Dzs.cons (h : Dz H v d) (t : Dzs H vs ds) : Dzs H (v :: vs) (d :: ds) := by
  refine ⟨by rw [List.length_cons, List.length_cons, t.1], fun i u e h1 h2 => ?_⟩
  cases i with
  | zero =>
    simp at h1 h2
    subst h1 h2
    exact h
  | succ i => exact t.2 i u e (by simpa using h1) (by simpa using h2)
theorem Dzs.snoc (t : Dzs H vs ds) (h : Dz H v d) : Dzs H (vs ++ [v]) (ds ++ [d]) := by
  refine ⟨by rw [List.length_append, List.length_append, t.1]; rfl, fun i u e h1 h2 => ?_⟩
  rcases Nat.lt_or_ge i vs.length with z | z
  · rw [List.getElem?_append_left z] at h1
    rw [List.getElem?_append_left (by rw [← t.1]; exact z)] at h2
    exact t.2 i u e h1 h2
  · rw [List.getElem?_append_right z] at h1
    rw [List.getElem?_append_right (by rw [← t.1]; exact z)] at h2
    rw [← t.1] at h2
    have e0 : i - vs.length = 0 := by
      rcases Nat.eq_zero_or_pos (i - vs.length) with y | y
      · exact y
      · rw [List.getElem?_eq_none (by simp; omega)] at h1
        cases h1
    rw [e0] at h1 h2
    simp at h1 h2
    subst h1 h2
    exact h
theorem Dz.ofT (t : H a = some (.tup vs)) (h : Dzs H vs ds) : Dz H (.ref a) (.tup ds) := .tup t h.1 h.2
theorem Dz.newT (hp : H a = none) (h : Dzs H vs ds) : Dz (upd H a (.tup vs)) (.ref a) (.tup ds) := .ofT upd_same (h.kf (KF.new hp))
theorem Dz.dt {K : PySem.W.Frag} {B : Addr → Prop} (h : Dz H v d) (n : ∀ b, B b → ∀ xs, H b ≠ some (.tup xs)) : Dt K B H v d := by
  induction h with
  | non => exact .non
  | bl => exact .bl
  | int => exact .int
  | str => exact .str
  | tup t l _ ih => exact .tup (fun z => n _ z _ t) t l ih
end
theorem dz_tup {H : Hp} {v : V} {ds : List D} (h : Dz H v (.tup ds)) : ∃ a vs, v = .ref a ∧ H a = some (.tup vs) ∧ Dzs H vs ds := by
  cases h with
  | tup t l h => exact ⟨_, _, rfl, t, l, h⟩
theorem dzs_cons {H : Hp} {vs : List V} {d : D} {ds : List D} (h : Dzs H vs (d :: ds)) : ∃ v us, vs = v :: us ∧ Dz H v d ∧ Dzs H us ds := by
  cases vs with
  | nil => exact absurd h.1 (by simp)
  | cons v us => exact ⟨v, us, rfl, h.2 0 v d rfl rfl, by simpa using h.1, fun i x y a b => h.2 (i + 1) x y a b⟩
/-- an item of a row: an octet's number, or none -/
inductive ItemR (H : Hp) : V → Option Int → Prop
  | int {i : Int} : ItemR H (.int i) (some i)
  | non : ItemR H .non none
  | bl {b : Bool} : ItemR H (.bl b) none
  | str {s : Str} : ItemR H (.str s) none
  | tup {a : Addr} {xs : List V} (t : H a = some (.tup xs)) : ItemR H (.ref a) none
  | lst {a : Addr} {xs : List V} (t : H a = some (.lst xs)) : ItemR H (.ref a) none
theorem ItemR.kf {H H' : Hp} {v : V} {o : Option Int} (h : ItemR H v o) (f : KF H H') : ItemR H' v o := by
  cases h with
  | int => exact .int
  | non => exact .non
  | bl => exact .bl
  | str => exact .str
  | tup t => exact .tup (f.t _ _ t)
  | lst t => obtain ⟨ys, h⟩ := f.l _ _ t; exact .lst h
def Items (H : Hp) (vs : List V) (os : ORow) : Prop := vs.length = os.length ∧ ∀ (i : Nat) v o, vs[i]? = some v → os[i]? = some o → ItemR H v o
theorem Items.kf {H H' : Hp} {vs : List V} {os : ORow} (h : Items H vs os) (f : KF H H') : Items H' vs os := ⟨h.1, fun i v o a b => (h.2 i v o a b).kf f⟩
/-! ### the program's reader -/
/-- the reader at a stands ahead of the item p of the row at oc -/
def RdAt (CL oc : Addr) (os : ORow) (p : Nat) (H : Hp) (a : Addr) : Prop := ∃ (dx : Addr) (vs : List V), H a = some (.ins CL dx [("octets", .ref oc), ("at", .int p)]) ∧ (H oc = some (.lst vs) ∨ H oc = some (.tup vs)) ∧ Items H vs os ∧ p ≤ os.length
/-- what a reading promises -/
structure PPost {α : Type} (CC CB CL oc : Addr) (os : ORow) (r : Rdg α) (rel : Hp → V → α → Prop) (a : Addr) (H : Hp) (Q : VK) (E : XK) : Prop where
  ok : ∀ x p v H', r = .ok x p → Fk (· = a) H H' → RdAt CL oc os p H' a → rel H' v x → Q v H'
  bad : ∀ j d H', r = .bad j → j < os.length → Fk (· = a) H H' → H d = none → H' d = some (.xd [("at", .int j)]) → E (.ref CB) (some d) H'
  cut : ∀ p H', r = .bad os.length → Fk (· = a) H H' → RdAt CL oc os p H' a → E (.ref CC) none H'
section
variable {α β : Type} {CC CB CL oc : Addr} {os : ORow} {r : Rdg α} {f : α → Nat → Rdg β} {rel : Hp → V → α → Prop} {rel2 : Hp → V → β → Prop} {a l : Addr} {p : Nat} {B : Addr → Prop} {H H' : Hp} {Q Q1 : VK} {E : XK}
theorem RdAt.fk (h : RdAt CL oc os p H a) (f : Fk B H H') (n : ∀ x, B x → x ≠ a ∧ x ≠ oc) : RdAt CL oc os p H' a := by
  obtain ⟨dx, vs, h1, h2, h3, h4⟩ := h
  refine ⟨dx, vs, f.f _ _ (fun z => (n _ z).1 rfl) h1, ?_, h3.kf f.k, h4⟩
  rcases h2 with h2 | h2
  · exact .inl (f.f _ _ (fun z => (n _ z).2 rfl) h2)
  · exact .inr (f.f _ _ (fun z => (n _ z).2 rfl) h2)
theorem RdAt.new {o : HO} (h : RdAt CL oc os p H a) (hp : H l = none) : RdAt CL oc os p (upd H l o) a := h.fk (B := fun _ => False) (Fk.new hp) (fun _ z => z.elim)
theorem RdAt.ne (h : RdAt CL oc os p H a) (hp : H l = none) : l ≠ a ∧ l ≠ oc := by
  obtain ⟨dx, vs, h1, h2, h3, h4⟩ := h
  refine ⟨fun z => ?_, fun z => ?_⟩
  · rw [z, h1] at hp
    cases hp
  · rw [z] at hp
    rcases h2 with h2 | h2 <;> rw [h2] at hp <;> cases hp
theorem RdAt.free {d : Addr} (h : RdAt CL oc os p H' a) (f : Fk (· = a) H H') (n : H' d = none) : H d = none := f.gone (h.ne n).1 n
theorem RdAt.le (h : RdAt CL oc os p H a) : p ≤ os.length := h.choose_spec.choose_spec.2.2.2
theorem PPost.move (q : PPost CC CB CL oc os r rel a H Q E) (h : RdAt CL oc os p H' a) (f : Fk (· = a) H H') : PPost CC CB CL oc os r rel a H' Q E :=
  ⟨fun x p v H2 e f2 => q.ok x p v H2 e (f.trans f2), fun j d H2 e l f2 n => q.bad j d H2 e l (f.trans f2) (h.free f n), fun p H2 e f2 => q.cut p H2 e (f.trans f2)⟩
theorem PPost.bind (q : PPost CC CB CL oc os (r.bind f) rel2 a H Q E) (k : ∀ x p v H', r = .ok x p → Fk (· = a) H H' → RdAt CL oc os p H' a → rel H' v x → PPost CC CB CL oc os (f x p) rel2 a H' Q E → Q1 v H') : PPost CC CB CL oc os r rel a H Q1 E where
  ok := fun x p v H' e f1 h hr => by
    subst e
    exact k x p v H' rfl f1 h hr (q.move h f1)
  bad := fun j d H' e l f1 n => by
    subst e
    exact q.bad j d H' rfl l f1 n
  cut := fun p H' e f1 => by
    subst e
    exact q.cut p H' rfl f1
theorem PPost.map {g : α → β} (q : PPost CC CB CL oc os (r.map g) rel2 a H Q E) : PPost CC CB CL oc os r (fun H v x => rel2 H v (g x)) a H Q E where
  ok := fun x p v H' e f1 h hr => by
    subst e
    exact q.ok _ p v H' rfl f1 h hr
  bad := fun j d H' e l f1 n => by
    subst e
    exact q.bad j d H' rfl l f1 n
  cut := fun p H' e f1 => by
    subst e
    exact q.cut p H' rfl f1
end
/-! ### the law's own reading -/
abbrev Two (c o : Addr) : Addr → Prop := fun z => z = c ∨ z = o
structure LPost {α : Type} (r : Rdg α) (rel : Hp → V → α → Prop) (cu ou : Addr) (ys : List V) (H : Hp) (Q : VK) : Prop where
  ok : ∀ x p v H', r = .ok x p → Fk (Two cu ou) H H' → H' cu = some (.lst [.int (p : Nat)]) → H' ou = some (.lst (ys ++ [v])) → rel H' v x → Q (.bl true) H'
  bad : ∀ j H', r = .bad j → Fk (Two cu ou) H H' → H' cu = some (.lst [.int (j : Nat)]) → (∃ zs, H' ou = some (.lst zs)) → Q (.bl false) H'
/-- the row, the cursor and where the read things go -/
structure LAt (os : ORow) (li cu ou : Addr) (p : Nat) (ys : List V) (H : Hp) : Prop where
  row : ∃ vs, H li = some (.lst vs) ∧ Items H vs os
  cur : H cu = some (.lst [.int (p : Nat)])
  out : H ou = some (.lst ys)
  n1 : li ≠ cu
  n2 : li ≠ ou
  n3 : cu ≠ ou
  le : p ≤ os.length
section
variable {α β : Type} {os : ORow} {r : Rdg α} {f : α → Nat → Rdg β} {rel : Hp → V → α → Prop} {rel2 : Hp → V → β → Prop} {li cu ou fo : Addr} {p : Nat} {ys zs : List V} {H H1 H' : Hp} {Q Q1 : VK} {E : XK}
theorem LPost.bind (q : LPost (r.bind f) rel2 cu ou ys H Q) (f0 : Fk (Two cu ou) H H1) (hn : H fo = none) (ho : ∃ us, H1 ou = some (.lst us)) (n3 : cu ≠ ou) (n4 : ou ≠ fo)
    (k : ∀ x p v H', r = .ok x p → Fk (Two cu ou) H H' → Fk (Two cu fo) H1 H' → H' cu = some (.lst [.int (p : Nat)]) → H' fo = some (.lst (zs ++ [v])) → rel H' v x → LPost (f x p) rel2 cu ou ys H Q → Q1 (.bl true) H') (kb : ∀ H', Q (.bl false) H' → Q1 (.bl false) H') :
    LPost r rel cu fo zs H1 Q1 where
  ok := fun x p v H' e f1 h1 h2 hr => by
    subst e
    exact k x p v H' rfl (f0.loc f1 fun y z => z.elim (fun z => .inl (.inl z)) fun z => .inr (by rw [z]; exact hn)) f1 h1 h2 hr q
  bad := fun j H' e f1 h1 h2 => by
    subst e
    obtain ⟨us, hu⟩ := ho
    exact kb H' (q.bad j H' rfl (f0.loc f1 fun y z => z.elim (fun z => .inl (.inl z)) fun z => .inr (by rw [z]; exact hn)) h1 ⟨us, f1.f _ _ (fun z => z.elim (fun z => n3 z.symm) n4) hu⟩)
theorem LPost.map {g : α → β} (q : LPost (r.map g) rel2 cu ou ys H Q) : LPost r (fun H v x => rel2 H v (g x)) cu ou ys H Q where
  ok := fun x p v H' e f1 h1 h2 hr => by
    subst e
    exact q.ok _ p v H' rfl f1 h1 h2 hr
  bad := fun j H' e f1 h1 h2 => by
    subst e
    exact q.bad j H' rfl f1 h1 h2
theorem LPost.eq {r2 : Rdg α} (q : LPost r rel cu ou ys H Q) (e : r2 = r) : LPost r2 rel cu ou ys H Q := by
  subst e
  exact q
end
/-! ### text * number -/
def repS (z : Str) (n : Nat) : Str := ⟨(List.replicate n z.cps.toList).flatten.toArray⟩
theorem fold_rep (a : Array Nat) : ∀ (n : Nat) (b : Array Nat), (List.replicate n a).foldl (· ++ ·) b = b ++ (List.replicate n a.toList).flatten.toArray
  | 0, b => by simp
  | n + 1, b => by
    rw [List.replicate_succ, List.foldl_cons, fold_rep a n, List.replicate_succ, List.flatten_cons]
    apply Array.ext'
    simp
theorem repS_fold (z : Str) (n : Nat) : (⟨(List.replicate n z.cps).foldl (· ++ ·) #[]⟩ : Str) = repS z n := by
  rw [fold_rep]
  simp [repS]
section
variable {X : Cx} {H : Hp} {Q : VK}
theorem op_repS : OpR X (binaryOp .Mult) (fun x y H Q => ∃ (z : Str) (n : Int), x = .str z ∧ y = .int n ∧ 0 ≤ n ∧ n ≤ 1000 ∧ z.length ≤ 1000 ∧ Q (.str (repS z n.toNat)) H) := by
  intro pins s σ H x y v u Q I rx ry h
  obtain ⟨z, n, rfl, rfl, h0, h1, hl, q⟩ := h
  obtain ⟨t, rfl⟩ := rx
  obtain ⟨t', rfl⟩ := ry
  have e1 : decide (n < -(2 ^ 63 : Int)) = false := decide_eq_false (by omega)
  have e2 : decide (n ≥ 2 ^ 63) = false := decide_eq_false (by omega)
  have fin : ∀ (w : Str), w = repS z n.toNat → ∀ t2 k, EP X pins σ Q (.str w t2) { s with toks := k } := fun w e t2 k => ⟨.str w, H, I.tok k, ⟨t2, rfl⟩, by rw [e]; exact q⟩
  have bl : z.length * n.toNat ≤ 1000 * 1000 := Nat.mul_le_mul hl (by omega)
  have rl : ∀ m : Nat, (repS z m).length = m * z.length := fun m => by
    show (List.replicate m z.cps.toList).flatten.toArray.size = m * z.cps.size
    simp
  refine PySem.P.mul_str (by rw [e1, e2]; rfl) (fun g _ => ?_) (fun _ _ => ?_) ?_
  · have b1 : (1000 : Int) * n ≤ 2 ^ 63 - 1 := by omega
    have b2 := Int.le_ediv_of_mul_le (show 0 < n by omega) b1
    omega
  · show decide (_ > sizeLine) = false
    refine decide_eq_false (fun w => ?_)
    have : (1000 * 1000 : Nat) ≤ sizeLine := by decide
    omega
  · by_cases g : n < 1
    · rw [if_pos g]
      have n0 : n = 0 := by omega
      subst n0
      exact ⟨by decide, fin _ rfl _ _⟩
    · rw [if_neg g]
      by_cases g2 : (n == 1 || z.length == 0) = true
      · rw [if_pos g2]
        refine fin z ?_ t s.toks
        rw [Bool.or_eq_true] at g2
        obtain ⟨c⟩ := z
        rcases g2 with g2 | g2
        · have n1 : n = 1 := by simpa using g2
          subst n1
          simp [repS]
        · have c0 : c = #[] := by
            have : c.size = 0 := beq_iff_eq.mp g2
            exact Array.eq_empty_of_size_eq_zero this
          subst c0
          simp [repS]
      · rw [if_neg g2, repS_fold]
        refine ⟨?_, fin _ rfl _ _⟩
        rw [rl]
        have : (1000 * 1000 : Nat) ≤ sizeLine := by decide
        have := Nat.mul_comm n.toNat z.length
        omega
theorem ov_repS {z : Str} {n : Int} (h0 : 0 ≤ n) (h1 : n ≤ 1000) (hl : z.length ≤ 1000) (q : Q (.str (repS z n.toNat)) H) : OpV X .Mult (.str z) (.int n) H Q := ⟨⟨_, op_repS, z, n, rfl, rfl, h0, h1, hl, q⟩⟩
/-- i & (2 ^ k - 1) -/
theorem ov_and {i : Int} {k : Nat} {m : Int} (e : m = 2 ^ k - 1) (q : Q (.int (i % 2 ^ k)) H) : OpV X .BitAnd (.int i) (.int m) H Q := ⟨⟨_, op_andM, i, k, rfl, by rw [e], q⟩⟩
theorem kit_LT {K : PySem.W.Frag} {t : String} {b1 b2 : Bool} (e1 : kitB t "list" = some b1) (e2 : kitB t "tuple" = some b2) : PySem.W.kitAny K (.type t) [.type "list", .type "tuple"] = some (b1 || b2) := by
  have k1 : PySem.W.kitOne K (.type t) (.type "list") = some b1 := kit_ty e1
  have k2 : PySem.W.kitOne K (.type t) (.type "tuple") = some b2 := kit_ty e2
  unfold PySem.W.kitAny
  rw [k1]
  cases b1
  · show PySem.W.kitAny K (.type t) [.type "tuple"] = _
    unfold PySem.W.kitAny
    rw [k2]
    cases b2 <;> rfl
  · rfl
end
end GT
namespace K08
open PySem PySem.Spec PyProof.Rows L2 GT
def top (i : Nat) : Stmt := PySem.Challenge.pw_goodtill_k08_octets_that_are_no_event.main.body.getD i (.Pass ⟨0, 0, 0, 0⟩)
/-! is_whole -/
abbrev sq_is_whole : Stmt := top 17
abbrev nq_is_whole : List Str := ["value"]
abbrev lq_is_whole : List (Str × KN) := [("value", .loc), ("isinstance", .glob), ("int", .glob), ("bool", .glob)]
theorem mq_is_whole : Nms sq_is_whole nq_is_whole ["value"] lq_is_whole := ⟨⟨rfl, rfl, rfl, by decide +kernel, rfl, by decide +kernel, by decide +kernel⟩, by decide +kernel, by decide +kernel, by decide +kernel⟩
/-! groups_behind -/
abbrev sq_groups_behind : Stmt := top 28
abbrev nq_groups_behind : List Str := ["reader", "first", "number", "unit", "octet"]
abbrev lq_groups_behind : List (Str × KN) := [("reader", .loc), ("first", .loc), ("number", .loc), ("unit", .loc), ("octet", .loc)]
theorem mq_groups_behind : Nms sq_groups_behind nq_groups_behind ["reader", "first"] lq_groups_behind := ⟨⟨rfl, rfl, rfl, by decide +kernel, rfl, by decide +kernel, by decide +kernel⟩, by decide +kernel, by decide +kernel, by decide +kernel⟩
/-! read_groups -/
abbrev sq_read_groups : Stmt := top 29
abbrev nq_read_groups : List Str := ["reader"]
abbrev lq_read_groups : List (Str × KN) := [("reader", .loc), ("groups_behind", .glob)]
theorem mq_read_groups : Nms sq_read_groups nq_read_groups ["reader"] lq_read_groups := ⟨⟨rfl, rfl, rfl, by decide +kernel, rfl, by decide +kernel, by decide +kernel⟩, by decide +kernel, by decide +kernel, by decide +kernel⟩
/-! read_node -/
abbrev sq_read_node : Stmt := top 30
abbrev nq_read_node : List Str := ["reader"]
abbrev lq_read_node : List (Str × KN) := [("reader", .loc), ("LAST_NODE", .glob)]
theorem mq_read_node : Nms sq_read_node nq_read_node ["reader"] lq_read_node := ⟨⟨rfl, rfl, rfl, by decide +kernel, rfl, by decide +kernel, by decide +kernel⟩, by decide +kernel, by decide +kernel, by decide +kernel⟩
/-! read_most -/
abbrev sq_read_most : Stmt := top 31
abbrev nq_read_most : List Str := ["reader"]
abbrev lq_read_most : List (Str × KN) := [("reader", .loc), ("MOST_NAMES", .glob)]
theorem mq_read_most : Nms sq_read_most nq_read_most ["reader"] lq_read_most := ⟨⟨rfl, rfl, rfl, by decide +kernel, rfl, by decide +kernel, by decide +kernel⟩, by decide +kernel, by decide +kernel, by decide +kernel⟩
/-! read_id -/
abbrev sq_read_id : Stmt := top 32
abbrev nq_read_id : List Str := ["reader", "node", "life"]
abbrev lq_read_id : List (Str × KN) := [("reader", .loc), ("node", .loc), ("read_node", .glob), ("life", .loc), ("read_groups", .glob)]
theorem mq_read_id : Nms sq_read_id nq_read_id ["reader"] lq_read_id := ⟨⟨rfl, rfl, rfl, by decide +kernel, rfl, by decide +kernel, by decide +kernel⟩, by decide +kernel, by decide +kernel, by decide +kernel⟩
/-! read_term -/
abbrev sq_read_term : Stmt := top 33
abbrev nq_read_term : List Str := ["reader", "first", "life"]
abbrev lq_read_term : List (Str × KN) := [("reader", .loc), ("first", .loc), ("LAST_NODE", .glob), ("life", .loc), ("read_groups", .glob)]
theorem mq_read_term : Nms sq_read_term nq_read_term ["reader"] lq_read_term := ⟨⟨rfl, rfl, rfl, by decide +kernel, rfl, by decide +kernel, by decide +kernel⟩, by decide +kernel, by decide +kernel, by decide +kernel⟩
/-! read_kept -/
abbrev sq_read_kept : Stmt := top 34
abbrev nq_read_kept : List Str := ["reader", "term"]
abbrev lq_read_kept : List (Str × KN) := [("reader", .loc), ("term", .loc), ("read_term", .glob)]
theorem mq_read_kept : Nms sq_read_kept nq_read_kept ["reader"] lq_read_kept := ⟨⟨rfl, rfl, rfl, by decide +kernel, rfl, by decide +kernel, by decide +kernel⟩, by decide +kernel, by decide +kernel, by decide +kernel⟩
/-! read_fraction_octets -/
abbrev sq_read_fraction_octets : Stmt := top 35
abbrev nq_read_fraction_octets : List Str := ["reader", "sign", "n", "first", "d"]
abbrev lq_read_fraction_octets : List (Str × KN) := [("reader", .loc), ("sign", .loc), ("read_groups", .glob), ("n", .loc), ("first", .loc), ("d", .loc), ("groups_behind", .glob), ("gcd", .glob)]
theorem mq_read_fraction_octets : Nms sq_read_fraction_octets nq_read_fraction_octets ["reader"] lq_read_fraction_octets := ⟨⟨rfl, rfl, rfl, by decide +kernel, rfl, by decide +kernel, by decide +kernel⟩, by decide +kernel, by decide +kernel, by decide +kernel⟩
/-! read_label_above -/
abbrev sq_read_label_above : Stmt := top 36
abbrev nq_read_label_above : List Str := ["reader", "ahead", "letters", "label"]
abbrev lq_read_label_above : List (Str × KN) := [("reader", .loc), ("ahead", .loc), ("letters", .loc), ("LABEL_LETTERS", .glob), ("label", .loc), ("len", .glob), ("LETTERS", .glob)]
theorem mq_read_label_above : Nms sq_read_label_above nq_read_label_above ["reader", "ahead"] lq_read_label_above := ⟨⟨rfl, rfl, rfl, by decide +kernel, rfl, by decide +kernel, by decide +kernel⟩, by decide +kernel, by decide +kernel, by decide +kernel⟩
/-! read_label -/
abbrev sq_read_label : Stmt := top 37
abbrev nq_read_label : List Str := ["reader"]
abbrev lq_read_label : List (Str × KN) := [("reader", .loc), ("read_label_above", .glob)]
theorem mq_read_label : Nms sq_read_label nq_read_label ["reader"] lq_read_label := ⟨⟨rfl, rfl, rfl, by decide +kernel, rfl, by decide +kernel, by decide +kernel⟩, by decide +kernel, by decide +kernel, by decide +kernel⟩
/-! read_name -/
abbrev sq_read_name : Stmt := top 38
abbrev nq_read_name : List Str := ["reader", "many", "labels"]
abbrev lq_read_name : List (Str × KN) := [("reader", .loc), ("many", .loc), ("NAME_LABELS", .glob), ("labels", .loc), ("len", .glob), ("read_label", .glob), ("tuple", .glob)]
theorem mq_read_name : Nms sq_read_name nq_read_name ["reader"] lq_read_name := ⟨⟨rfl, rfl, rfl, by decide +kernel, rfl, by decide +kernel, by decide +kernel⟩, by decide +kernel, by decide +kernel, by decide +kernel⟩
/-! plain_entry -/
abbrev sq_plain_entry : Stmt := top 39
abbrev nq_plain_entry : List Str := ["reader", "kind"]
abbrev lq_plain_entry : List (Str × KN) := [("reader", .loc), ("kind", .loc), ("read_groups", .glob), ("read_name", .glob)]
theorem mq_plain_entry : Nms sq_plain_entry nq_plain_entry ["reader", "kind"] lq_plain_entry := ⟨⟨rfl, rfl, rfl, by decide +kernel, rfl, by decide +kernel, by decide +kernel⟩, by decide +kernel, by decide +kernel, by decide +kernel⟩
/-! read_first_entries -/
abbrev sq_read_first_entries : Stmt := top 40
abbrev nq_read_first_entries : List Str := ["reader", "rows", "ahead"]
abbrev lq_read_first_entries : List (Str × KN) := [("reader", .loc), ("rows", .loc), ("ahead", .loc), ("len", .glob), ("FIRST_ENTRIES", .glob), ("LAST_LABEL", .glob), ("read_label_above", .glob), ("plain_entry", .glob), ("tuple", .glob)]
theorem mq_read_first_entries : Nms sq_read_first_entries nq_read_first_entries ["reader"] lq_read_first_entries := ⟨⟨rfl, rfl, rfl, by decide +kernel, rfl, by decide +kernel, by decide +kernel⟩, by decide +kernel, by decide +kernel, by decide +kernel⟩
/-! read_entry -/
abbrev sq_read_entry : Stmt := top 41
abbrev nq_read_entry : List Str := ["reader", "kind", "house"]
abbrev lq_read_entry : List (Str × KN) := [("reader", .loc), ("kind", .loc), ("house", .loc), ("read_node", .glob), ("read_first_entries", .glob), ("plain_entry", .glob)]
theorem mq_read_entry : Nms sq_read_entry nq_read_entry ["reader"] lq_read_entry := ⟨⟨rfl, rfl, rfl, by decide +kernel, rfl, by decide +kernel, by decide +kernel⟩, by decide +kernel, by decide +kernel, by decide +kernel⟩
/-! read_found -/
abbrev sq_read_found : Stmt := top 42
abbrev nq_read_found : List Str := ["reader", "kind", "house"]
abbrev lq_read_found : List (Str × KN) := [("reader", .loc), ("kind", .loc), ("read_groups", .glob), ("house", .loc), ("read_node", .glob), ("read_term", .glob)]
theorem mq_read_found : Nms sq_read_found nq_read_found ["reader"] lq_read_found := ⟨⟨rfl, rfl, rfl, by decide +kernel, rfl, by decide +kernel, by decide +kernel⟩, by decide +kernel, by decide +kernel, by decide +kernel⟩
/-! read_answer -/
abbrev sq_read_answer : Stmt := top 43
abbrev nq_read_answer : List Str := ["reader", "found", "many", "names"]
abbrev lq_read_answer : List (Str × KN) := [("reader", .loc), ("found", .loc), ("read_found", .glob), ("many", .loc), ("MOST_NAMES", .glob), ("names", .loc), ("len", .glob), ("read_name", .glob), ("tuple", .glob)]
theorem mq_read_answer : Nms sq_read_answer nq_read_answer ["reader"] lq_read_answer := ⟨⟨rfl, rfl, rfl, by decide +kernel, rfl, by decide +kernel, by decide +kernel⟩, by decide +kernel, by decide +kernel, by decide +kernel⟩
/-! read_event -/
abbrev sq_read_event : Stmt := top 45
abbrev nq_read_event : List Str := ["reader", "event_id", "reading", "kind", "deed", "part", "read"]
abbrev lq_read_event : List (Str × KN) := [("reader", .loc), ("event_id", .loc), ("read_id", .glob), ("reading", .loc), ("read_fraction_octets", .glob), ("kind", .loc), ("KINDS", .glob), ("len", .glob), ("deed", .loc), ("part", .loc), ("PARTS", .glob), ("read", .loc), ("READERS", .glob), ("tuple", .glob)]
theorem mq_read_event : Nms sq_read_event nq_read_event ["reader"] lq_read_event := ⟨⟨rfl, rfl, rfl, by decide +kernel, rfl, by decide +kernel, by decide +kernel⟩, by decide +kernel, by decide +kernel, by decide +kernel⟩
/-! decode_event -/
abbrev sq_decode_event : Stmt := top 47
abbrev nq_decode_event : List Str := ["octets", "reader", "event"]
abbrev lq_decode_event : List (Str × KN) := [("octets", .loc), ("reader", .loc), ("Reader", .glob), ("event", .loc), ("read_event", .glob), ("CutShort", .glob), ("BadOctets", .glob), ("len", .glob)]
theorem mq_decode_event : Nms sq_decode_event nq_decode_event ["octets"] lq_decode_event := ⟨⟨rfl, rfl, rfl, by decide +kernel, rfl, by decide +kernel, by decide +kernel⟩, by decide +kernel, by decide +kernel, by decide +kernel⟩
/-! _law_box -/
abbrev sq_box : Stmt := top 49
abbrev nq_box : List Str := ["script", "k", "cell", "great"]
abbrev lq_box : List (Str × KN) := [("script", .loc), ("k", .loc), ("cell", .loc), ("len", .glob), ("abs", .glob), ("int", .glob), ("great", .loc)]
theorem mq_box : Nms sq_box nq_box ["script", "k"] lq_box := ⟨⟨rfl, rfl, rfl, by decide +kernel, rfl, by decide +kernel, by decide +kernel⟩, by decide +kernel, by decide +kernel, by decide +kernel⟩
/-! _law_take -/
abbrev sq_take : Stmt := top 50
abbrev nq_take : List Str := ["box", "many", "digit", "raw"]
abbrev lq_take : List (Str × KN) := [("box", .loc), ("many", .loc), ("digit", .loc), ("int", .glob), ("raw", .loc)]
theorem mq_take : Nms sq_take nq_take ["box", "many"] lq_take := ⟨⟨rfl, rfl, rfl, by decide +kernel, rfl, by decide +kernel, by decide +kernel⟩, by decide +kernel, by decide +kernel, by decide +kernel⟩
/-! _law_pick -/
abbrev sq_pick : Stmt := top 51
abbrev nq_pick : List Str := ["box", "some"]
abbrev lq_pick : List (Str × KN) := [("box", .loc), ("some", .loc), ("_law_take", .glob), ("len", .glob)]
theorem mq_pick : Nms sq_pick nq_pick ["box", "some"] lq_pick := ⟨⟨rfl, rfl, rfl, by decide +kernel, rfl, by decide +kernel, by decide +kernel⟩, by decide +kernel, by decide +kernel, by decide +kernel⟩
/-! _law_number -/
abbrev sq_number : Stmt := top 52
abbrev nq_number : List Str := ["box", "way"]
abbrev lq_number : List (Str × KN) := [("box", .loc), ("way", .loc), ("_law_take", .glob), ("_law_pick", .glob)]
theorem mq_number : Nms sq_number nq_number ["box"] lq_number := ⟨⟨rfl, rfl, rfl, by decide +kernel, rfl, by decide +kernel, by decide +kernel⟩, by decide +kernel, by decide +kernel, by decide +kernel⟩
/-! _law_part -/
abbrev sq_part : Stmt := top 53
abbrev nq_part : List Str := ["one", "two", "turn"]
abbrev lq_part : List (Str × KN) := [("one", .loc), ("two", .loc), ("abs", .glob), ("turn", .loc), ("range", .glob), ("int", .glob)]
theorem mq_part : Nms sq_part nq_part ["one", "two"] lq_part := ⟨⟨rfl, rfl, rfl, by decide +kernel, rfl, by decide +kernel, by decide +kernel⟩, by decide +kernel, by decide +kernel, by decide +kernel⟩
/-! _law_fraction -/
abbrev sq_fraction : Stmt := top 54
abbrev nq_fraction : List Str := ["box", "way", "top", "low", "turn", "part"]
abbrev lq_fraction : List (Str × KN) := [("box", .loc), ("way", .loc), ("_law_take", .glob), ("top", .loc), ("low", .loc), ("_law_pick", .glob), ("turn", .loc), ("range", .glob), ("part", .loc), ("_law_part", .glob)]
theorem mq_fraction : Nms sq_fraction nq_fraction ["box"] lq_fraction := ⟨⟨rfl, rfl, rfl, by decide +kernel, rfl, by decide +kernel, by decide +kernel⟩, by decide +kernel, by decide +kernel, by decide +kernel⟩
/-! _law_label -/
abbrev sq_label : Stmt := top 55
abbrev nq_label : List Str := ["box", "many", "some", "turn"]
abbrev lq_label : List (Str × KN) := [("box", .cell), ("many", .loc), ("_law_pick", .glob), ("some", .cell), ("range", .glob)]
theorem mq_label : Nms sq_label nq_label ["box"] lq_label := ⟨⟨rfl, rfl, rfl, by decide +kernel, rfl, by decide +kernel, by decide +kernel⟩, by decide +kernel, by decide +kernel, by decide +kernel⟩
abbrev lq_label_c0 : List (Str × KN) := [("turn", .loc), ("some", .cap), ("_law_take", .glob), ("box", .cap), ("len", .glob)]
/-! _law_name -/
abbrev sq_name : Stmt := top 56
abbrev nq_name : List Str := ["box", "most", "turn"]
abbrev lq_name : List (Str × KN) := [("box", .cell), ("most", .loc), ("tuple", .glob), ("range", .glob), ("_law_take", .glob)]
theorem mq_name : Nms sq_name nq_name ["box", "most"] lq_name := ⟨⟨rfl, rfl, rfl, by decide +kernel, rfl, by decide +kernel, by decide +kernel⟩, by decide +kernel, by decide +kernel, by decide +kernel⟩
abbrev lq_name_c0 : List (Str × KN) := [("turn", .loc), ("_law_label", .glob), ("box", .cap)]
/-! _law_id -/
abbrev sq_id : Stmt := top 57
abbrev nq_id : List Str := ["box", "node"]
abbrev lq_id : List (Str × KN) := [("box", .loc), ("node", .loc), ("_law_pick", .glob), ("_law_take", .glob), ("_law_number", .glob)]
theorem mq_id : Nms sq_id nq_id ["box"] lq_id := ⟨⟨rfl, rfl, rfl, by decide +kernel, rfl, by decide +kernel, by decide +kernel⟩, by decide +kernel, by decide +kernel, by decide +kernel⟩
/-! _law_rows -/
abbrev sq_rows : Stmt := top 58
abbrev nq_rows : List Str := ["box", "most", "labels", "last", "turn", "way", "found", "label", "one"]
abbrev lq_rows : List (Str × KN) := [("box", .loc), ("most", .loc), ("labels", .loc), ("last", .cell), ("_law_label", .glob), ("turn", .loc), ("range", .glob), ("_law_take", .glob), ("way", .loc), ("len", .glob), ("_law_pick", .glob), ("found", .loc), ("label", .loc), ("sorted", .glob), ("_law_number", .glob), ("_law_name", .glob), ("tuple", .glob)]
theorem mq_rows : Nms sq_rows nq_rows ["box", "most"] lq_rows := ⟨⟨rfl, rfl, rfl, by decide +kernel, rfl, by decide +kernel, by decide +kernel⟩, by decide +kernel, by decide +kernel, by decide +kernel⟩
abbrev lq_rows_c0 : List (Str × KN) := [("one", .loc), ("last", .cap)]
/-! _law_entry -/
abbrev sq_entry : Stmt := top 59
abbrev nq_entry : List Str := ["box", "most", "way"]
abbrev lq_entry : List (Str × KN) := [("box", .loc), ("most", .loc), ("way", .loc), ("_law_take", .glob), ("_law_pick", .glob), ("_law_number", .glob), ("_law_name", .glob), ("_law_rows", .glob)]
theorem mq_entry : Nms sq_entry nq_entry ["box", "most"] lq_entry := ⟨⟨rfl, rfl, rfl, by decide +kernel, rfl, by decide +kernel, by decide +kernel⟩, by decide +kernel, by decide +kernel, by decide +kernel⟩
/-! _law_answer -/
abbrev sq_answer : Stmt := top 60
abbrev nq_answer : List Str := ["box", "most", "what", "turn"]
abbrev lq_answer : List (Str × KN) := [("box", .cell), ("most", .loc), ("what", .loc), ("_law_pick", .glob), ("_law_number", .glob), ("_law_take", .glob), ("_law_id", .glob), ("tuple", .glob), ("range", .glob)]
theorem mq_answer : Nms sq_answer nq_answer ["box", "most"] lq_answer := ⟨⟨rfl, rfl, rfl, by decide +kernel, rfl, by decide +kernel, by decide +kernel⟩, by decide +kernel, by decide +kernel, by decide +kernel⟩
abbrev lq_answer_c0 : List (Str × KN) := [("turn", .loc), ("_law_name", .glob), ("box", .cap)]
/-! _law_words -/
abbrev sq_words : Stmt := top 61
abbrev nq_words : List Str := ["kind", "two", "words"]
abbrev lq_words : List (Str × KN) := [("kind", .loc), ("two", .loc), ("words", .loc)]
theorem mq_words : Nms sq_words nq_words ["kind"] lq_words := ⟨⟨rfl, rfl, rfl, by decide +kernel, rfl, by decide +kernel, by decide +kernel⟩, by decide +kernel, by decide +kernel, by decide +kernel⟩
/-! _law_kinds -/
abbrev sq_kinds : Stmt := top 62
abbrev nq_kinds : List Str := []
abbrev lq_kinds : List (Str × KN) := []
theorem mq_kinds : Nms sq_kinds nq_kinds [] lq_kinds := ⟨⟨rfl, rfl, rfl, by decide +kernel, rfl, by decide +kernel, by decide +kernel⟩, by decide +kernel, by decide +kernel, by decide +kernel⟩
/-! _law_piece -/
abbrev sq_piece : Stmt := top 63
abbrev nq_piece : List Str := ["box", "word", "most"]
abbrev lq_piece : List (Str × KN) := [("box", .loc), ("word", .loc), ("most", .loc), ("_law_pick", .glob), ("_law_id", .glob), ("_law_take", .glob), ("_law_label", .glob), ("_law_fraction", .glob), ("_law_name", .glob), ("_law_entry", .glob), ("_law_answer", .glob)]
theorem mq_piece : Nms sq_piece nq_piece ["box", "word", "most"] lq_piece := ⟨⟨rfl, rfl, rfl, by decide +kernel, rfl, by decide +kernel, by decide +kernel⟩, by decide +kernel, by decide +kernel, by decide +kernel⟩
/-! _law_event -/
abbrev sq_event : Stmt := top 64
abbrev nq_event : List Str := ["box", "kind", "most", "parts", "word"]
abbrev lq_event : List (Str × KN) := [("box", .cell), ("kind", .loc), ("most", .cell), ("parts", .loc), ("_law_words", .glob), ("_law_id", .glob), ("_law_fraction", .glob), ("tuple", .glob), ("_law_kinds", .glob)]
theorem mq_event : Nms sq_event nq_event ["box", "kind", "most"] lq_event := ⟨⟨rfl, rfl, rfl, by decide +kernel, rfl, by decide +kernel, by decide +kernel⟩, by decide +kernel, by decide +kernel, by decide +kernel⟩
abbrev lq_event_c0 : List (Str × KN) := [("word", .loc), ("_law_piece", .glob), ("box", .cap), ("most", .cap)]
/-! _law_groups -/
abbrev sq_groups : Stmt := top 65
abbrev nq_groups : List Str := ["worth", "found", "turn"]
abbrev lq_groups : List (Str × KN) := [("worth", .loc), ("found", .loc), ("turn", .loc), ("range", .glob), ("int", .glob)]
theorem mq_groups : Nms sq_groups nq_groups ["worth"] lq_groups := ⟨⟨rfl, rfl, rfl, by decide +kernel, rfl, by decide +kernel, by decide +kernel⟩, by decide +kernel, by decide +kernel, by decide +kernel⟩
/-! _law_form_label -/
abbrev sq_form_label : Stmt := top 66
abbrev nq_form_label : List Str := ["label", "sign"]
abbrev lq_form_label : List (Str × KN) := [("label", .loc), ("len", .glob)]
theorem mq_form_label : Nms sq_form_label nq_form_label ["label"] lq_form_label := ⟨⟨rfl, rfl, rfl, by decide +kernel, rfl, by decide +kernel, by decide +kernel⟩, by decide +kernel, by decide +kernel, by decide +kernel⟩
abbrev lq_form_label_c0 : List (Str × KN) := [("sign", .loc)]
/-! _law_form_name -/
abbrev sq_form_name : Stmt := top 67
abbrev nq_form_name : List Str := ["name", "found", "label"]
abbrev lq_form_name : List (Str × KN) := [("name", .loc), ("found", .loc), ("len", .glob), ("label", .loc), ("_law_form_label", .glob)]
theorem mq_form_name : Nms sq_form_name nq_form_name ["name"] lq_form_name := ⟨⟨rfl, rfl, rfl, by decide +kernel, rfl, by decide +kernel, by decide +kernel⟩, by decide +kernel, by decide +kernel, by decide +kernel⟩
/-! _law_form_fraction -/
abbrev sq_form_fraction : Stmt := top 68
abbrev nq_form_fraction : List Str := ["one", "top"]
abbrev lq_form_fraction : List (Str × KN) := [("one", .loc), ("top", .loc), ("_law_groups", .glob)]
theorem mq_form_fraction : Nms sq_form_fraction nq_form_fraction ["one"] lq_form_fraction := ⟨⟨rfl, rfl, rfl, by decide +kernel, rfl, by decide +kernel, by decide +kernel⟩, by decide +kernel, by decide +kernel, by decide +kernel⟩
/-! _law_form_id -/
abbrev sq_form_id : Stmt := top 69
abbrev nq_form_id : List Str := ["one", "more"]
abbrev lq_form_id : List (Str × KN) := [("one", .loc), ("more", .loc), ("_law_groups", .glob)]
theorem mq_form_id : Nms sq_form_id nq_form_id ["one", "more"] lq_form_id := ⟨⟨rfl, rfl, rfl, by decide +kernel, rfl, by decide +kernel, by decide +kernel⟩, by decide +kernel, by decide +kernel, by decide +kernel⟩
/-! _law_form_entry -/
abbrev sq_form_entry : Stmt := top 70
abbrev nq_form_entry : List Str := ["entry", "found", "label", "one"]
abbrev lq_form_entry : List (Str × KN) := [("entry", .loc), ("_law_groups", .glob), ("_law_form_name", .glob), ("found", .loc), ("label", .loc), ("one", .loc), ("_law_form_label", .glob), ("_law_form_entry", .glob)]
theorem mq_form_entry : Nms sq_form_entry nq_form_entry ["entry"] lq_form_entry := ⟨⟨rfl, rfl, rfl, by decide +kernel, rfl, by decide +kernel, by decide +kernel⟩, by decide +kernel, by decide +kernel, by decide +kernel⟩
/-! _law_form_answer -/
abbrev sq_form_answer : Stmt := top 71
abbrev nq_form_answer : List Str := ["answer", "what", "names", "found", "name"]
abbrev lq_form_answer : List (Str × KN) := [("answer", .loc), ("what", .loc), ("names", .loc), ("found", .loc), ("_law_groups", .glob), ("_law_form_id", .glob), ("len", .glob), ("name", .loc), ("_law_form_name", .glob)]
theorem mq_form_answer : Nms sq_form_answer nq_form_answer ["answer"] lq_form_answer := ⟨⟨rfl, rfl, rfl, by decide +kernel, rfl, by decide +kernel, by decide +kernel⟩, by decide +kernel, by decide +kernel, by decide +kernel⟩
/-! _law_form_part -/
abbrev sq_form_part : Stmt := top 72
abbrev nq_form_part : List Str := ["word", "part"]
abbrev lq_form_part : List (Str × KN) := [("word", .loc), ("part", .loc), ("_law_form_id", .glob), ("_law_form_label", .glob), ("_law_form_fraction", .glob), ("_law_form_name", .glob), ("_law_form_entry", .glob), ("_law_form_answer", .glob)]
theorem mq_form_part : Nms sq_form_part nq_form_part ["word", "part"] lq_form_part := ⟨⟨rfl, rfl, rfl, by decide +kernel, rfl, by decide +kernel, by decide +kernel⟩, by decide +kernel, by decide +kernel, by decide +kernel⟩
/-! _law_form -/
abbrev sq_form : Stmt := top 73
abbrev nq_form : List Str := ["event", "kind", "found", "word", "part"]
abbrev lq_form : List (Str × KN) := [("event", .loc), ("kind", .loc), ("_law_kinds", .glob), ("found", .loc), ("_law_form_id", .glob), ("_law_form_fraction", .glob), ("word", .loc), ("part", .loc), ("zip", .glob), ("_law_words", .glob), ("_law_form_part", .glob)]
theorem mq_form : Nms sq_form nq_form ["event"] lq_form := ⟨⟨rfl, rfl, rfl, by decide +kernel, rfl, by decide +kernel, by decide +kernel⟩, by decide +kernel, by decide +kernel, by decide +kernel⟩
/-! _law_get -/
abbrev sq_get : Stmt := top 74
abbrev nq_get : List Str := ["items", "cursor", "low", "high", "out", "spot", "item"]
abbrev lq_get : List (Str × KN) := [("items", .loc), ("cursor", .loc), ("low", .loc), ("high", .loc), ("out", .loc), ("spot", .loc), ("len", .glob), ("item", .loc), ("isinstance", .glob), ("int", .glob), ("bool", .glob)]
theorem mq_get : Nms sq_get nq_get ["items", "cursor", "low", "high", "out"] lq_get := ⟨⟨rfl, rfl, rfl, by decide +kernel, rfl, by decide +kernel, by decide +kernel⟩, by decide +kernel, by decide +kernel, by decide +kernel⟩
/-! _law_back -/
abbrev sq_back : Stmt := top 75
abbrev nq_back : List Str := ["cursor"]
abbrev lq_back : List (Str × KN) := [("cursor", .loc)]
theorem mq_back : Nms sq_back nq_back ["cursor"] lq_back := ⟨⟨rfl, rfl, rfl, by decide +kernel, rfl, by decide +kernel, by decide +kernel⟩, by decide +kernel, by decide +kernel, by decide +kernel⟩
/-! _law_worth -/
abbrev sq_worth : Stmt := top 76
abbrev nq_worth : List Str := ["digits", "worth", "octet"]
abbrev lq_worth : List (Str × KN) := [("digits", .loc), ("worth", .loc), ("octet", .loc), ("int", .glob)]
theorem mq_worth : Nms sq_worth nq_worth ["digits"] lq_worth := ⟨⟨rfl, rfl, rfl, by decide +kernel, rfl, by decide +kernel, by decide +kernel⟩, by decide +kernel, by decide +kernel, by decide +kernel⟩
/-! _law_get_number -/
abbrev sq_get_number : Stmt := top 77
abbrev nq_get_number : List Str := ["items", "cursor", "out", "digits", "turn"]
abbrev lq_get_number : List (Str × KN) := [("items", .loc), ("cursor", .loc), ("out", .loc), ("digits", .loc), ("turn", .loc), ("range", .glob), ("len", .glob), ("_law_get", .glob), ("_law_worth", .glob)]
theorem mq_get_number : Nms sq_get_number nq_get_number ["items", "cursor", "out"] lq_get_number := ⟨⟨rfl, rfl, rfl, by decide +kernel, rfl, by decide +kernel, by decide +kernel⟩, by decide +kernel, by decide +kernel, by decide +kernel⟩
/-! _law_get_fraction -/
abbrev sq_get_fraction : Stmt := top 78
abbrev nq_get_fraction : List Str := ["items", "cursor", "out", "tops", "digits", "top", "turn"]
abbrev lq_get_fraction : List (Str × KN) := [("items", .loc), ("cursor", .loc), ("out", .loc), ("tops", .loc), ("digits", .loc), ("_law_get_number", .glob), ("top", .loc), ("int", .glob), ("turn", .loc), ("range", .glob), ("len", .glob), ("_law_get", .glob), ("_law_back", .glob), ("_law_part", .glob), ("_law_worth", .glob)]
theorem mq_get_fraction : Nms sq_get_fraction nq_get_fraction ["items", "cursor", "out"] lq_get_fraction := ⟨⟨rfl, rfl, rfl, by decide +kernel, rfl, by decide +kernel, by decide +kernel⟩, by decide +kernel, by decide +kernel, by decide +kernel⟩
/-! _law_get_label -/
abbrev sq_get_label : Stmt := top 79
abbrev nq_get_label : List Str := ["items", "cursor", "floor", "out", "many", "found", "turn", "signs"]
abbrev lq_get_label : List (Str × KN) := [("items", .loc), ("cursor", .loc), ("floor", .loc), ("out", .loc), ("many", .loc), ("found", .loc), ("_law_get", .glob), ("_law_back", .glob), ("turn", .loc), ("range", .glob), ("signs", .loc)]
theorem mq_get_label : Nms sq_get_label nq_get_label ["items", "cursor", "floor", "out"] lq_get_label := ⟨⟨rfl, rfl, rfl, by decide +kernel, rfl, by decide +kernel, by decide +kernel⟩, by decide +kernel, by decide +kernel, by decide +kernel⟩
/-! _law_get_name -/
abbrev sq_get_name : Stmt := top 80
abbrev nq_get_name : List Str := ["items", "cursor", "out", "many", "found", "turn"]
abbrev lq_get_name : List (Str × KN) := [("items", .loc), ("cursor", .loc), ("out", .loc), ("many", .loc), ("found", .loc), ("_law_get", .glob), ("turn", .loc), ("range", .glob), ("_law_get_label", .glob), ("tuple", .glob)]
theorem mq_get_name : Nms sq_get_name nq_get_name ["items", "cursor", "out"] lq_get_name := ⟨⟨rfl, rfl, rfl, by decide +kernel, rfl, by decide +kernel, by decide +kernel⟩, by decide +kernel, by decide +kernel, by decide +kernel⟩
/-! _law_get_id -/
abbrev sq_get_id : Stmt := top 81
abbrev nq_get_id : List Str := ["items", "cursor", "none", "out", "found"]
abbrev lq_get_id : List (Str × KN) := [("items", .loc), ("cursor", .loc), ("none", .loc), ("out", .loc), ("found", .loc), ("_law_get", .glob), ("len", .glob), ("_law_get_number", .glob), ("tuple", .glob)]
theorem mq_get_id : Nms sq_get_id nq_get_id ["items", "cursor", "none", "out"] lq_get_id := ⟨⟨rfl, rfl, rfl, by decide +kernel, rfl, by decide +kernel, by decide +kernel⟩, by decide +kernel, by decide +kernel, by decide +kernel⟩
/-! _law_get_rows -/
abbrev sq_get_rows : Stmt := top 82
abbrev nq_get_rows : List Str := ["items", "cursor", "out", "found", "floor", "turn", "more", "pair"]
abbrev lq_get_rows : List (Str × KN) := [("items", .loc), ("cursor", .loc), ("out", .loc), ("found", .loc), ("floor", .loc), ("turn", .loc), ("range", .glob), ("more", .loc), ("pair", .loc), ("_law_get", .glob), ("_law_get_label", .glob), ("_law_get_entry", .glob), ("tuple", .glob)]
theorem mq_get_rows : Nms sq_get_rows nq_get_rows ["items", "cursor", "out"] lq_get_rows := ⟨⟨rfl, rfl, rfl, by decide +kernel, rfl, by decide +kernel, by decide +kernel⟩, by decide +kernel, by decide +kernel, by decide +kernel⟩
/-! _law_get_entry -/
abbrev sq_get_entry : Stmt := top 83
abbrev nq_get_entry : List Str := ["items", "cursor", "low", "high", "out", "kind", "found"]
abbrev lq_get_entry : List (Str × KN) := [("items", .loc), ("cursor", .loc), ("low", .loc), ("high", .loc), ("out", .loc), ("kind", .loc), ("found", .loc), ("_law_get", .glob), ("_law_get_number", .glob), ("_law_get_name", .glob), ("_law_get_rows", .glob), ("tuple", .glob)]
theorem mq_get_entry : Nms sq_get_entry nq_get_entry ["items", "cursor", "low", "high", "out"] lq_get_entry := ⟨⟨rfl, rfl, rfl, by decide +kernel, rfl, by decide +kernel, by decide +kernel⟩, by decide +kernel, by decide +kernel, by decide +kernel⟩
/-! _law_get_answer -/
abbrev sq_get_answer : Stmt := top 84
abbrev nq_get_answer : List Str := ["items", "cursor", "out", "kind", "many", "names", "what", "turn"]
abbrev lq_get_answer : List (Str × KN) := [("items", .loc), ("cursor", .loc), ("out", .loc), ("kind", .loc), ("many", .loc), ("names", .loc), ("_law_get", .glob), ("what", .loc), ("_law_get_number", .glob), ("_law_get_id", .glob), ("turn", .loc), ("range", .glob), ("_law_get_name", .glob), ("tuple", .glob)]
theorem mq_get_answer : Nms sq_get_answer nq_get_answer ["items", "cursor", "out"] lq_get_answer := ⟨⟨rfl, rfl, rfl, by decide +kernel, rfl, by decide +kernel, by decide +kernel⟩, by decide +kernel, by decide +kernel, by decide +kernel⟩
/-! _law_get_part -/
abbrev sq_get_part : Stmt := top 85
abbrev nq_get_part : List Str := ["items", "cursor", "word", "out"]
abbrev lq_get_part : List (Str × KN) := [("items", .loc), ("cursor", .loc), ("word", .loc), ("out", .loc), ("_law_get_id", .glob), ("_law_get", .glob), ("_law_get_label", .glob), ("_law_get_fraction", .glob), ("_law_get_name", .glob), ("_law_get_entry", .glob), ("_law_get_answer", .glob)]
theorem mq_get_part : Nms sq_get_part nq_get_part ["items", "cursor", "word", "out"] lq_get_part := ⟨⟨rfl, rfl, rfl, by decide +kernel, rfl, by decide +kernel, by decide +kernel⟩, by decide +kernel, by decide +kernel, by decide +kernel⟩
/-! _law_one -/
abbrev sq_one : Stmt := top 86
abbrev nq_one : List Str := ["items", "cursor", "found", "kind", "deed", "word"]
abbrev lq_one : List (Str × KN) := [("items", .loc), ("cursor", .loc), ("found", .loc), ("kind", .loc), ("_law_get_id", .glob), ("_law_get_fraction", .glob), ("_law_get", .glob), ("deed", .loc), ("_law_kinds", .glob), ("word", .loc), ("_law_words", .glob), ("_law_get_part", .glob), ("tuple", .glob)]
theorem mq_one : Nms sq_one nq_one ["items", "cursor"] lq_one := ⟨⟨rfl, rfl, rfl, by decide +kernel, rfl, by decide +kernel, by decide +kernel⟩, by decide +kernel, by decide +kernel, by decide +kernel⟩
/-! _law_same -/
abbrev sq_same : Stmt := top 87
abbrev nq_same : List Str := ["told", "due", "is_kind", "one", "other"]
abbrev lq_same : List (Str × KN) := [("told", .loc), ("due", .loc), ("isinstance", .glob), ("tuple", .glob), ("list", .glob), ("is_kind", .loc), ("len", .glob), ("one", .loc), ("other", .loc), ("zip", .glob), ("_law_same", .glob), ("bool", .glob), ("int", .glob), ("str", .glob)]
theorem mq_same : Nms sq_same nq_same ["told", "due"] lq_same := ⟨⟨rfl, rfl, rfl, by decide +kernel, rfl, by decide +kernel, by decide +kernel⟩, by decide +kernel, by decide +kernel, by decide +kernel⟩
/-! _law_heard -/
abbrev sq_heard : Stmt := top 88
abbrev nq_heard : List Str := ["ask", "fault", "other"]
abbrev lq_heard : List (Str × KN) := [("ask", .loc), ("BadOctets", .glob), ("fault", .loc), ("other", .loc), ("isinstance", .glob), ("BadDeed", .glob), ("BadEvent", .glob), ("BadFraction", .glob), ("BadLabel", .glob), ("BadName", .glob), ("BadRoster", .glob), ("BadRun", .glob), ("BadText", .glob), ("BadView", .glob), ("Refused", .glob), ("OwnError", .glob), ("ValueError", .glob)]
theorem mq_heard : Nms sq_heard nq_heard ["ask"] lq_heard := ⟨⟨rfl, rfl, rfl, by decide +kernel, rfl, by decide +kernel, by decide +kernel⟩, by decide +kernel, by decide +kernel, by decide +kernel⟩
/-! _law_limits -/
abbrev sq_limits : Stmt := top 89
abbrev nq_limits : List Str := ["found", "page", "six", "turn"]
abbrev lq_limits : List (Str × KN) := [("found", .loc), ("page", .loc), ("six", .loc), ("turn", .loc), ("range", .glob)]
theorem mq_limits : Nms sq_limits nq_limits [] lq_limits := ⟨⟨rfl, rfl, rfl, by decide +kernel, rfl, by decide +kernel, by decide +kernel⟩, by decide +kernel, by decide +kernel, by decide +kernel⟩
/-! _law_heads -/
abbrev sq_heads : Stmt := top 90
abbrev nq_heads : List Str := ["found"]
abbrev lq_heads : List (Str × KN) := [("found", .loc)]
theorem mq_heads : Nms sq_heads nq_heads [] lq_heads := ⟨⟨rfl, rfl, rfl, by decide +kernel, rfl, by decide +kernel, by decide +kernel⟩, by decide +kernel, by decide +kernel, by decide +kernel⟩
/-! _law_item -/
abbrev sq_item : Stmt := top 91
abbrev nq_item : List Str := ["box"]
abbrev lq_item : List (Str × KN) := [("box", .loc), ("_law_take", .glob), ("_law_pick", .glob)]
theorem mq_item : Nms sq_item nq_item ["box"] lq_item := ⟨⟨rfl, rfl, rfl, by decide +kernel, rfl, by decide +kernel, by decide +kernel⟩, by decide +kernel, by decide +kernel, by decide +kernel⟩
/-! _law_items -/
abbrev sq_items : Stmt := top 92
abbrev nq_items : List Str := ["box", "form", "way", "spot", "many", "digits", "ahead", "turn"]
abbrev lq_items : List (Str × KN) := [("box", .cell), ("form", .loc), ("_law_form", .glob), ("_law_event", .glob), ("_law_take", .glob), ("way", .loc), ("spot", .loc), ("len", .glob), ("range", .glob), ("many", .loc), ("_law_pick", .glob), ("digits", .loc), ("ahead", .loc), ("turn", .loc), ("_law_item", .glob)]
theorem mq_items : Nms sq_items nq_items ["box"] lq_items := ⟨⟨rfl, rfl, rfl, by decide +kernel, rfl, by decide +kernel, by decide +kernel⟩, by decide +kernel, by decide +kernel, by decide +kernel⟩
abbrev lq_items_c0 : List (Str × KN) := [("turn", .loc), ("_law_item", .glob), ("box", .cap)]
abbrev lq_items_c1 : List (Str × KN) := [("turn", .loc), ("_law_pick", .glob), ("box", .cap)]
abbrev lq_items_c2 : List (Str × KN) := [("turn", .loc), ("_law_take", .glob), ("box", .cap)]
/-! _law_right -/
abbrev sq_right : Stmt := top 93
abbrev nq_right : List Str := ["items", "handed", "cursor", "event"]
abbrev lq_right : List (Str × KN) := [("items", .loc), ("handed", .cell), ("cursor", .loc), ("event", .loc), ("_law_one", .glob), ("len", .glob), ("_law_same", .glob), ("_law_heard", .glob)]
theorem mq_right : Nms sq_right nq_right ["items", "handed"] lq_right := ⟨⟨rfl, rfl, rfl, by decide +kernel, rfl, by decide +kernel, by decide +kernel⟩, by decide +kernel, by decide +kernel, by decide +kernel⟩
abbrev lq_right_l0 : List (Str × KN) := [("decode_event", .glob), ("handed", .cap)]
/-! _law_spoilt_right -/
abbrev sq_spoilt_right : Stmt := top 94
abbrev nq_spoilt_right : List Str := ["box", "form", "spot", "items"]
abbrev lq_spoilt_right : List (Str × KN) := [("box", .loc), ("form", .loc), ("spot", .loc), ("range", .glob), ("min", .glob), ("len", .glob), ("items", .loc), ("_law_item", .glob), ("_law_right", .glob)]
theorem mq_spoilt_right : Nms sq_spoilt_right nq_spoilt_right ["box", "form"] lq_spoilt_right := ⟨⟨rfl, rfl, rfl, by decide +kernel, rfl, by decide +kernel, by decide +kernel⟩, by decide +kernel, by decide +kernel, by decide +kernel⟩
/-! law -/
abbrev sq_law : Stmt := top 95
abbrev nq_law : List Str := ["script", "items", "k", "box", "turn", "handed", "odd"]
abbrev lq_law : List (Str × KN) := [("script", .loc), ("items", .loc), ("_law_heads", .glob), ("_law_right", .glob), ("_law_limits", .glob), ("tuple", .glob), ("k", .loc), ("range", .glob), ("max", .glob), ("min", .glob), ("len", .glob), ("box", .loc), ("_law_box", .glob), ("turn", .loc), ("_law_items", .glob), ("handed", .loc), ("_law_same", .glob), ("_law_spoilt_right", .glob), ("_law_form", .glob), ("_law_event", .glob), ("_law_take", .glob), ("odd", .cell), ("_law_pick", .glob), ("_law_heard", .glob)]
theorem mq_law : Nms sq_law nq_law ["script"] lq_law := ⟨⟨rfl, rfl, rfl, by decide +kernel, rfl, by decide +kernel, by decide +kernel⟩, by decide +kernel, by decide +kernel, by decide +kernel⟩
abbrev lq_law_l0 : List (Str × KN) := [("decode_event", .glob), ("odd", .cap)]
end K08
namespace K08
open PySem PySem.Spec PyProof.Rows L2 GT
local macro_rules | `(tactic| walk_at "gm") => `(tactic| with_reducible (repeat (first | exact List.mem_cons_self | apply List.mem_cons_of_mem)))
local macro_rules | `(tactic| walk_at "gs") => `(tactic| with_reducible (repeat (first | exact Slot.here | exact Put.here | apply Slot.there | apply Put.there)))
local macro_rules | `(tactic| walk_at "gCall") => `(tactic| first
  | (show RE _ (.Call (.Name "len" _) _ _ _) _ _ _; refine re_c_len (by assumption) (by walk_at "gm") (by assumption) ?_)
  | (show RE _ (.Call (.Name "isinstance" _) _ _ _) _ _ _; refine re_c_isinstance (by assumption) (by walk_at "gm") (by assumption) ?_)
  | (show RE _ (.Call (.Name "int" _) _ _ _) _ _ _; refine re_c_int (by assumption) (by walk_at "gm") (by assumption) ?_)
  | (show RE _ (.Call (.Name "abs" _) _ _ _) _ _ _; refine re_c_abs (by assumption) (by walk_at "gm") (by assumption) ?_)
  | (show RE _ (.Call (.Name "min" _) _ _ _) _ _ _; refine re_c_min (by assumption) (by walk_at "gm") (by assumption) ?_)
  | (show RE _ (.Call (.Name "max" _) _ _ _) _ _ _; refine re_c_max (by assumption) (by walk_at "gm") (by assumption) ?_)
  | (show RE _ (.Call (.Name "tuple" _) _ _ _) _ _ _; refine re_c_tuple (by assumption) (by walk_at "gm") (by assumption) ?_)
  | (show RE _ (.Call (.Name "list" _) _ _ _) _ _ _; refine re_c_list (by assumption) (by walk_at "gm") (by assumption) ?_))
local macro_rules | `(tactic| walk_at "gName") => `(tactic| first
  | refine re_name (by assumption) (by walk_at "gs") (by walk_at "gm") (by constructor) ?_
  | (show RE _ (.Name "int" _) _ _ _; refine re_ty_int (by assumption) (by walk_at "gm") (by assumption) ?_)
  | (show RE _ (.Name "bool" _) _ _ _; refine re_ty_bool (by assumption) (by walk_at "gm") (by assumption) ?_)
  | (show RE _ (.Name "str" _) _ _ _; refine re_ty_str (by assumption) (by walk_at "gm") (by assumption) ?_)
  | (show RE _ (.Name "tuple" _) _ _ _; refine re_ty_tuple (by assumption) (by walk_at "gm") (by assumption) ?_)
  | (show RE _ (.Name "list" _) _ _ _; refine re_ty_list (by assumption) (by walk_at "gm") (by assumption) ?_)
  | (show RE _ (.Name "ValueError" _) _ _ _; refine re_ty_ValueError (by assumption) (by walk_at "gm") (by assumption) ?_))
local macro_rules | `(tactic| walk_at "gRE") => `(tactic| first
  | (show RE _ (.Name _ _) _ _ _; walk_at "gName")
  | (show RE _ (.Constant _ _ _) _ _ _; first | refine re_int ?_ | refine re_str ?_ | refine re_non ?_ | refine re_bl ?_)
  | (show RE _ (.BinOp _ _ _ _) _ _ _; refine re_bin ?_)
  | (show RE _ (.Compare _ [_] [_] _) _ _ _; refine re_cmp ?_)
  | (show RE _ (.Compare _ [_, _] [_, _] _) _ _ _; refine re_chain ?_)
  | (show RE _ (.Subscript _ (.Slice _ _ _ _) _) _ _ _; refine re_slice ?_)
  | (show RE _ (.Subscript _ _ _) _ _ _; refine re_ix ?_)
  | (show RE _ (.Call (.Name _ _) _ _ _) _ _ _; walk_at "gCall")
  | (show RE _ (.Tuple _ _ _) _ _ _; refine re_tup ?_)
  | (show RE _ (.List _ _) _ _ _; refine re_lst ?_)
  | (show RE _ (.IfExp _ _ _ _) _ _ _; refine re_if ?_)
  | (show RE _ (.BoolOp _ _ _) _ _ _; first | refine re_one ?_ | refine re_and ?_ | refine re_or ?_)
  | (show RE _ (.UnaryOp _ _ _) _ _ _; first | refine re_not ?_ | refine re_neg ?_))
local macro_rules | `(tactic| walk_at "gRT") => `(tactic| first
  | (show RT _ (.Compare _ [_] [_] _) _ _ _; refine rt_cmp ?_)
  | (show RT _ (.Compare _ [_, _] [_, _] _) _ _ _; refine rt_chain ?_)
  | (show RT _ (.BoolOp _ _ _) _ _ _; refine rt_bool ?_)
  | (show RT _ (.UnaryOp .Not _ _) _ _ _; refine rt_not ?_)
  | (show RT _ (.Call _ _ _ _) _ _ _; refine rt_val ?_)
  | (show RT _ (.Name _ _) _ _ _; refine rt_val ?_))
local macro_rules | `(tactic| walk_at "gRS") => `(tactic| first
  | (show RS _ (.Return (some _) _) _ _ _; refine rs_ret ?_)
  | (show RS _ (.If _ _ _ _) _ _ _; refine rs_if ?_)
  | (show RS _ (.Assign [.Subscript _ _ _] _ _) _ _ _; refine rs_sub ?_)
  | (show RS _ (.Assign [.Name _ _] (.ListComp _ _ _ _) _) _ _ _; fail)
  | (show RS _ (.Assign [.Name _ _] _ _) _ _ _; refine rs_set (by assumption) (by walk_at "gm") (by constructor) (by walk_at "gm") ?_)
  | (show RS _ (.Expr _ _) _ _ _; refine rs_expr ?_)
  | (show RS _ (.Pass _) _ _ _; refine rs_pass ?_)
  | (show RS _ (.Break _) _ _ _; refine rs_break ?_)
  | (show RS _ (.Continue _) _ _ _; refine rs_continue ?_))
local macro_rules | `(tactic| walk_at "gV") => `(tactic| first
  | (show OpV _ _ _ _ _ _; first | refine ov_add ?_ | refine ov_sub ?_ | refine ov_mulR (by decide) ?_ | refine ov_mulL (by decide) ?_ | refine ov_mod (by first | decide | assumption) ?_)
  | (show CpV _ _ _ _ _ _; first | refine cv_lt ?_ | refine cv_le ?_ | refine cv_gt ?_ | refine cv_ge ?_ | refine cv_eqI ?_ | refine cv_neI ?_ | refine cv_eqS ?_ | refine cv_neS ?_ | refine cv_isN_n ?_ | refine cv_isN_s ?_ | refine cv_isN_i ?_ | refine cv_isN_b ?_ | refine cv_isN_r ?_ | refine cv_notN_n ?_ | refine cv_notN_s ?_ | refine cv_notN_i ?_ | refine cv_notN_b ?_ | refine cv_notN_r ?_ | refine cv_ltS ?_ | refine cv_gtS ?_ | refine cv_leS ?_ | refine cv_geS ?_ | refine cv_isB_b ?_ | refine cv_isB_i ?_ | refine cv_isB_s ?_ | refine cv_isB_n ?_)
  | (show IxV _ _ _ _ _; first | refine iv_list (by assumption) (by with_unfolding_all exact rfl) ?_ | refine iv_list (SqL.of (by assumption)) (by with_unfolding_all exact rfl) ?_ | refine iv_tup (SqT.of (by assumption)) (by with_unfolding_all exact rfl) ?_)
  | (show ClV _ _ _ _ _; first | refine lv_isT_n (b := false) (by decide +kernel) ?_ | refine lv_isT_n (b := true) (by decide +kernel) ?_ | refine lv_isT_b (b := false) (by decide +kernel) ?_ | refine lv_isT_b (b := true) (by decide +kernel) ?_ | refine lv_isT_i (b := false) (by decide +kernel) ?_ | refine lv_isT_i (b := true) (by decide +kernel) ?_ | refine lv_isT_s (b := false) (by decide +kernel) ?_ | refine lv_isT_s (b := true) (by decide +kernel) ?_ | refine lv_isT_l (b := false) (by assumption) (by decide +kernel) ?_ | refine lv_isT_l (b := true) (by assumption) (by decide +kernel) ?_ | refine lv_isT_t (b := false) (by assumption) (by decide +kernel) ?_ | refine lv_isT_t (b := true) (by assumption) (by decide +kernel) ?_ | refine lv_int ?_ | refine lv_abs ?_ | refine lv_max (Ctx.calm (by assumption)) ?_ | refine lv_min (Ctx.calm (by assumption)) ?_))
local macro_rules | `(tactic| walk_at "e1") => `(tactic| with_reducible first
  | (show RE _ _ _ _ _; walk_at "gRE")
  | (show RA _ _ _ _ _; first | refine ra_cons ?_ | refine ra_nil ?_)
  | (show RT _ _ _ _ _; walk_at "gRT")
  | (show RW _ _ _ _ _; first | refine rw_and1 ?_ | refine rw_or1 ?_ | refine rw_and ?_ | refine rw_or ?_)
  | (show RS _ _ _ _ _; walk_at "gRS")
  | refine rb_nil ?_
  | (show RO _ _ _ _ _; first | refine ro_none ?_ | refine ro_some ?_)
  | (show if true = true then _ else _; refine iteT ?_)
  | (show if false = true then _ else _; refine iteF ?_)
  | (show if (!true) = true then _ else _; refine iteNT ?_)
  | (show if (!false) = true then _ else _; refine iteNF ?_)
  | walk_at "gV"
  | refine ⟨_, rfl, ?_⟩
  | refine ⟨_, by walk_at "gs", ?_⟩)
local macro_rules | `(tactic| walk_at "e") => `(tactic| repeat walk_at "e1")
local macro_rules | `(tactic| walk_at "g1") => `(tactic| first | walk_at "e1" | with_reducible refine rb_cons ?_)
local macro_rules | `(tactic| walk_at "g") => `(tactic| repeat walk_at "g1")
local macro_rules | `(tactic| walk_at "g0") => `(tactic| (refine rb_cons ?_; walk_at "g"))
local macro_rules | `(tactic| walk_at "e0") => `(tactic| (refine rb_cons ?_; walk_at "e"))
local macro_rules | `(tactic| walk_at "de") => `(tactic| repeat (first | exact DEs.nil | apply DEs.cons | exact DE.non | exact DE.bl | exact DE.int | exact DE.str | exact DE.neg | apply DE.tupS | apply DE.lstS | apply DE.sub | apply DE.add | apply DE.mul | apply DE.pow | exact ⟨by decide, by decide, by decide⟩ | (show List.length _ ≤ 1000; decide) | decide))
local macro_rules | `(tactic| walk_at "gd") => `(tactic| repeat (first | exact gdl_nil | refine gdl_cons ?_ ?_ | exact Gd.non | exact Gd.bl | exact Gd.int (by decide +kernel) | exact Gd.str (by decide +kernel) (by decide +kernel) | refine Gd.tup (by simp) ?_ | refine Gd.lst (by simp) ?_))
local macro_rules | `(tactic| walk_at "evI") => `(tactic| first
  | exact ev_de (by walk_at "de") ⟨_, rfl, by decide +kernel, by decide +kernel⟩
  | exact Ev.mono (ev_take (by assumption) (by assumption) (by decide) (by walk_at "gm") (by walk_at "gs") (by walk_at "gm") (by constructor) (by walk_at "de") (by decide +kernel) (by decide +kernel)) (ir_mono (by decide +kernel) (by decide +kernel))
  | exact Ev.mono (ev_addCI (by walk_at "de") (ev_take (by assumption) (by assumption) (by decide) (by walk_at "gm") (by walk_at "gs") (by walk_at "gm") (by constructor) (by walk_at "de") (by decide +kernel) (by decide +kernel)) (Int.le_refl _) (Int.le_refl _)) (ir_mono (by decide +kernel) (by decide +kernel))
  | exact Ev.mono (ev_subIC (ev_take (by assumption) (by assumption) (by decide) (by walk_at "gm") (by walk_at "gs") (by walk_at "gm") (by constructor) (by walk_at "de") (by decide +kernel) (by decide +kernel)) (by walk_at "de") (Int.le_refl _) (Int.le_refl _)) (ir_mono (by decide +kernel) (by decide +kernel)))
local macro_rules | `(tactic| walk_at "evP") => `(tactic| (refine ev_pick (by assumption) (by assumption) (by decide) (by walk_at "gm") (by walk_at "gs") (by walk_at "gm") (by constructor) (ev_items ?_)))
local macro_rules | `(tactic| walk_at "evs") => `(tactic| repeat' (first | exact evs_nil | refine evs_cons ?_ ?_))
local macro_rules | `(tactic| walk_at "ev1") => `(tactic| first
  | exact ev_de (by walk_at "de") (by walk_at "gd")
  | exact ev_name (by assumption) (by walk_at "gs") (by walk_at "gm") (by walk_at "gm") (by constructor) (gd_up (by assumption) _ (by decide))
  | refine Ev.tg (ev_tup (l := 200) ?_)
  | refine Ev.lg (ev_lst (l := 200) ?_)
  | exact evs_nil | refine evs_cons ?_ ?_)
local macro_rules | `(tactic| walk_at "ev") => `(tactic| repeat' walk_at "ev1")
local macro_rules | `(tactic| walk_at "ie") => `(tactic| repeat (first | walk_at "e1" | refine ov_pow (by exact ⟨by decide, by decide, by decide⟩) ?_ | refine ov_mulL (by decide) ?_))
local macro_rules | `(tactic| walk_at "evT") => `(tactic| exact ev_takeX (by assumption) (by assumption) (by decide) (by walk_at "gm") (by walk_at "gs") (by walk_at "gm") (by constructor) (fun H Q q => by walk_at "ie"; exact q) (by decide +kernel) (by decide +kernel))
local macro_rules | `(tactic| walk_at "nl") => `(tactic| repeat (first | exact nol_nil | refine nol_cons ?_ ?_ | exact NoL.non | exact NoL.bl | exact NoL.int | exact NoL.str | refine NoL.tup ?_))
local macro_rules | `(tactic| walk_at "evB") => `(tactic| first
  | exact ev_de (by walk_at "de") ⟨_, rfl, by decide +kernel, by decide +kernel⟩
  | exact Ev.mono (by walk_at "evT") (ir_mono (by decide +kernel) (by decide +kernel))
  | exact Ev.mono (ev_addCI (by walk_at "de") (by walk_at "evT") (Int.le_refl _) (Int.le_refl _)) (ir_mono (by decide +kernel) (by decide +kernel)))
local macro_rules | `(tactic| walk_at "evN") => `(tactic| first
  | (show Ev _ _ _ _ _ _ (.Call (.Name "_law_take" _) _ _ _); exact Ev.mono (by walk_at "evT") (gn_IR (by decide +kernel) (by decide +kernel)))
  | (show Ev _ _ _ _ _ _ (.Name _ _); exact ev_name (by assumption) (by walk_at "gs") (by walk_at "gm") (by walk_at "gm") (by constructor) (by first | assumption | exact gn_up (by assumption) (by decide)))
  | (show Ev _ _ _ _ _ _ (.Call (.Name "_law_id" _) _ _ _); exact Ev.mono (ev_drN (by assumption) (by assumption) (by decide) (by walk_at "gm") (by walk_at "gs") (by walk_at "gm") (by constructor) fun d hd => gd_id hd) fun d r => r.2)
  | (show Ev _ _ _ _ _ _ (.Call (.Name "_law_name" _) _ _ _); exact Ev.mono (ev_drN (by assumption) (by assumption) (by decide) (by walk_at "gm") (by walk_at "gs") (by walk_at "gm") (by constructor) fun d hd => gd_nam hd) fun d r => r.2)
  | (show Ev _ _ _ _ _ _ (.Call (.Name "_law_label" _) _ _ _); exact Ev.mono (ev_drN (by assumption) (by assumption) (by decide) (by walk_at "gm") (by walk_at "gs") (by walk_at "gm") (by constructor) fun d hd => gd_lab hd) fun d r => r.2)
  | (show Ev _ _ _ _ _ _ (.Call _ _ _ _); exact Ev.mono (ev_drN (by assumption) (by assumption) (by decide) (by walk_at "gm") (by walk_at "gs") (by walk_at "gm") (by constructor) fun d hd => hd) fun d r => gn_up r.2 (by decide))
  | exact ev_de (by walk_at "de") ⟨by walk_at "gd", by walk_at "nl"⟩)
local macro_rules | `(tactic| walk_at "en1") => `(tactic| first
  | exact evs_nil
  | refine evs_cons ?_ ?_
  | (show Ev _ _ _ _ _ _ (.Call (.Name "_law_pick" _) _ _ _); refine ev_pick (by assumption) (by assumption) (by decide) (by walk_at "gm") (by walk_at "gs") (by walk_at "gm") (by constructor) (ev_items ?_))
  | (show Ev _ _ _ _ _ _ (.Call _ _ _ _); walk_at "evN")
  | (show Ev _ _ _ _ _ _ (.Name _ _); walk_at "evN")
  | (show Ev _ _ _ _ _ _ (.Constant _ _ _); exact ev_de (by walk_at "de") ⟨by walk_at "gd", by walk_at "nl"⟩)
  | (show Ev _ _ _ _ _ _ (.UnaryOp _ _ _); exact ev_de (by walk_at "de") ⟨by walk_at "gd", by walk_at "nl"⟩)
  | (show Ev _ _ _ _ _ _ (.BinOp _ .Pow _ _); exact ev_de (by walk_at "de") ⟨by walk_at "gd", by walk_at "nl"⟩)
  | (show Ev _ _ _ _ _ _ (.BinOp (.BinOp _ .Pow _ _) .Sub _ _); exact ev_de (by walk_at "de") ⟨by walk_at "gd", by walk_at "nl"⟩)
  | refine Ev.tn (ev_tupN ?_))
local macro_rules | `(tactic| walk_at "en") => `(tactic| repeat' walk_at "en1")
local macro_rules | `(tactic| walk_at "em1") => `(tactic| first
  | exact evs_nil
  | refine evs_cons ?_ ?_
  | (show Ev _ _ _ _ _ _ (.Name _ _); exact ev_name (by assumption) (by walk_at "gs") (by walk_at "gm") (by walk_at "gm") (by constructor) (by first | assumption | exact gd_up (by assumption) _ (by decide) | exact tg_up (by assumption) (by decide) (by decide) | exact lg_up (by assumption) (by decide) (by decide)))
  | (show Ev _ _ _ _ _ _ (.BinOp (.Name _ _) .Add (.Constant _ _ _) _); exact ev_ws (by assumption) (by walk_at "gs") (by walk_at "gm") (by constructor) (by assumption))
  | (show Ev _ _ _ _ _ (TG _ _) (.Subscript _ (.Slice _ _ _ _) _); refine ev_cut ?_ (fun H Q q => by walk_at "e"; exact q _) (fun H Q q => by walk_at "e"; exact q _))
  | (show Ev _ _ _ _ _ _ (.Subscript _ (.Slice _ _ _ _) _); refine Ev.tg (ev_cut (l := 60) ?_ (fun H Q q => by walk_at "e"; exact q _) (fun H Q q => by walk_at "e"; exact q _)))
  | (show Ev _ _ _ _ _ _ (.Call (.Name "list" _) _ _ _); refine Ev.lg (ev_list (l := 60) (by assumption) (by walk_at "gm") (by assumption) ?_))
  | (show Ev _ _ _ _ _ _ (.Subscript _ _ _); exact ev_ix0 (by assumption) (by walk_at "gs") (by walk_at "gm") (by walk_at "gm") (by constructor) (by assumption))
  | (show Ev _ _ _ _ _ _ (.Call (.Name "_law_id" _) _ _ _); exact Ev.mono (ev_drN (by assumption) (by assumption) (by decide) (by walk_at "gm") (by walk_at "gs") (by walk_at "gm") (by constructor) fun d hd => gd_id hd) fun d r => r.2.1)
  | (show Ev _ _ _ _ _ _ (.Call (.Name "_law_fraction" _) _ _ _); exact Ev.mono (ev_drN (by assumption) (by assumption) (by decide) (by walk_at "gm") (by walk_at "gs") (by walk_at "gm") (by constructor) fun d hd => gd_fr hd) fun d r => r.2.1)
  | (show Ev _ _ _ _ _ _ (.Call (.Name "_law_entry" _) _ _ _); exact Ev.mono (ev_drN (by assumption) (by assumption) (by decide) (by walk_at "gm") (by walk_at "gs") (by walk_at "gm") (by constructor) fun d hd => hd) fun d r => gd_up r.2.1 _ (by decide))
  | (show Ev _ _ _ _ _ _ (.Call (.Name "str" _) _ _ _); exact ev_str (by assumption) (by assumption) (by walk_at "gm") (by walk_at "gs") (by walk_at "gm") (by constructor) (by assumption))
  | (show Ev _ _ _ _ _ _ (.Call (.Name "_law_many_rows" _) _ _ _); exact Ev.mono (ev_nr (by assumption) (by assumption) (by decide) (by walk_at "gm") (by decide) (by decide)) fun d r => gd_up (gd_TG r.1 (by decide)) _ (by decide))
  | (show Ev _ _ _ _ _ _ (.Call (.Name "_law_many_rows" _) _ _ _); exact Ev.mono (ev_nr (by assumption) (by assumption) (by decide) (by walk_at "gm") (by decide) (by decide)) fun d r => tg_up r.1 (by decide) (by decide))
  | refine ev_lst ?_
  | refine ev_tup ?_
  | (show Ev _ _ _ _ _ _ (.Constant _ _ _); exact ev_de (by walk_at "de") (by walk_at "gd"))
  | (show Ev _ _ _ _ _ _ (.UnaryOp _ _ _); exact ev_de (by walk_at "de") (by walk_at "gd"))
  | (show Ev _ _ _ _ _ _ (.BinOp _ .Pow _ _); exact ev_de (by walk_at "de") (by walk_at "gd"))
  | (show Ev _ _ _ _ _ _ (.BinOp (.BinOp _ .Pow _ _) .Sub _ _); exact ev_de (by walk_at "de") (by walk_at "gd"))
  | refine Ev.tg (ev_tup (l := 60) ?_)
  | refine Ev.lg (ev_lst (l := 60) ?_)
  | refine ev_cat (l1 := 30) (l2 := 30) ?_ ?_
  | refine ev_cat (l1 := 10) (l2 := 10) ?_ ?_
  | refine ev_catL (l1 := 30) (l2 := 30) ?_ ?_
  | refine Ev.tg (ev_cat (l := 60) (l1 := 30) (l2 := 30) ?_ ?_)
  | refine Ev.tg (ev_rep (l := 60) (ev_one ?_) (by walk_at "de") (by decide) (by decide)))
local macro_rules | `(tactic| walk_at "em") => `(tactic| repeat' walk_at "em1")
local macro_rules | `(tactic| walk_at "ee1") => `(tactic| first
  | exact eve_nil
  | apply eve_cons
  | (show Ev _ _ _ _ _ _ (.Name _ _); exact eve_name (by assumption) (by walk_at "gs") (by walk_at "gm") (by walk_at "gm") (by constructor))
  | (show Ev _ _ _ _ _ _ (.Constant _ _ _); exact eve_de (by walk_at "de"))
  | (show Ev _ _ _ _ _ _ (.UnaryOp _ _ _); exact eve_de (by walk_at "de"))
  | (show Ev _ _ _ _ _ _ (.Call (.Name "str" _) _ _ _); exact eve_str (by assumption) (by assumption) (by walk_at "gm") (by walk_at "gs") (by walk_at "gm") (by constructor) (by omega))
  | (show Ev _ _ _ _ _ _ (.BinOp (.Name _ _) _ (.Constant _ _ _) _); exact eve_int (fun H Q q => by walk_at "e"; exact q))
  | apply eve_tup
  | apply eve_lst
  | (with_unfolding_all rfl)
  | decide)
local macro_rules | `(tactic| walk_at "ee") => `(tactic| repeat' walk_at "ee1")
/-- a draw: below many -/
def spTake : Sp := fun vs H Q _ => ∃ (b : Addr) (n : Int), vs = [.ref b, .int n] ∧ BoxAt H b ∧ 0 < n ∧ n < 2 ^ 31 ∧
  ∀ (d : Int) (H' : Hp), 0 ≤ d → d < n → Fr (· = b) H H' → BoxAt H' b → Q (.int d) H'
theorem fr_box {H : Hp} {b : Addr} {o : HO} : Fr (· = b) H (upd H b o) := fun a u n e => by
  rw [upd_ne n]
  exact e
theorem body_take {X : Cx} (c : Ctx X nq_take lq_take 0) (zi : X.mg "int" = none) {vs : List V} {H : Hp} {Q : VK} {E : XK} (h : spTake vs H Q E) : RB X (defBody sq_take) { nx := fun _ H' => Q .non H', rt := Q } (start nq_take vs) H := by
  obtain ⟨b, n, rfl, hB, h0, h1, q⟩ := h
  obtain ⟨g, r, hb, g0, r0, r1⟩ := id hB
  show RB X (defBody sq_take) _ [some (.ref b), some (.int n), none, none] H
  walk_at "g0"
  refine ite2 (fun e => ?_) (fun e => ?_)
  · walk_at "g"
    refine ov_fdiv (wide_div (b := 32) h0 (by omega) (by decide) (by decide)) ?_
    walk_at "g"
    refine ⟨b, [.int g, .int r], 0, 0, rfl, rfl, hb, rfl, ?_⟩
    walk_at "g"
    exact q _ _ (Int.emod_nonneg _ (by omega)) (Int.emod_lt_of_pos _ h0) fr_box ⟨g / n, r, upd_same, Int.ediv_nonneg g0 (by omega), r0, r1⟩
  · walk_at "g"
    refine ⟨b, [.int g, .int r], 1, 1, rfl, rfl, hb, rfl, ?_⟩
    walk_at "g"
    refine iv_list (SqL.of upd_same) (by exact rfl) ?_
    walk_at "g"
    refine ov_fdiv (wide_div (b := 32) (by decide) (by decide) (by decide) (by decide)) ?_
    walk_at "g"
    have m1 : ∀ z : Int, 0 ≤ z % 2147483563 + 1 ∧ z % 2147483563 + 1 < 2 ^ 32 := fun z => by omega
    exact q _ _ (Int.emod_nonneg _ (by omega)) (Int.emod_lt_of_pos _ h0) fr_box ⟨g, _, upd_same, g0, (m1 _).1, (m1 _).2⟩
/-- an item of a list, or a sign of a text, by a draw -/
def spPick (K : PySem.W.Frag) : Sp := fun vs H Q _ => ∃ (b : Addr), BoxAt H b ∧
  ((∃ p xs, vs = [.ref b, .ref p] ∧ H p = some (.lst xs) ∧ p ≠ b ∧ 0 < xs.length ∧ xs.length < 2 ^ 31 ∧ ∀ v H', v ∈ xs → Fr (· = b) H H' → BoxAt H' b → Q v H'))
theorem mem_at {α : Type} {xs : List α} {d : Int} (h0 : 0 ≤ d) (h1 : d < (xs.length : Int)) : ∃ v, atI xs d = some v ∧ v ∈ xs := by
  have h2 : d.toNat < xs.length := by omega
  refine ⟨xs[d.toNat], ?_, List.getElem_mem h2⟩
  unfold atI ixN
  rw [if_pos h0, if_pos h1]
  show xs[d.toNat]? = _
  rw [List.getElem?_eq_getElem h2]
theorem body_pick {X : Cx} (c : Ctx X nq_pick lq_pick 1) (zl : X.mg "len" = none) (dT : DefP X.prog X.w X.K X.mg X.base CX0 "_law_take" ["box", "many"] 1 spTake) {vs : List V} {H : Hp} {Q : VK} {E : XK} (h : spPick X.K vs H Q E) :
    RB X (defBody sq_pick) { nx := fun _ H' => Q .non H', rt := Q } (start nq_pick vs) H := by
  obtain ⟨b, hB, p, xs, rfl, hp, hpb, h0, h1, q⟩ := h
  show RB X (defBody sq_pick) _ [some (.ref b), some (.ref p)] H
  walk_at "g0"
  refine re_call c dT (by decide) (by walk_at "gm") ?_
  walk_at "g"
  refine lv_lenL (SqL.of hp) ?_
  walk_at "g"
  refine ⟨b, _, rfl, hB, by omega, by omega, fun d H' d0 d1 f hB' => ?_⟩
  obtain ⟨v, hv, hm⟩ := mem_at (xs := xs) d0 d1
  exact iv_list (SqL.of (f _ _ hpb hp)) hv (q v H' hm f hB')
/-- the box of a draw -/
def spBox (K : PySem.W.Frag) : Sp := fun vs H Q _ => ∃ (a : Addr) (ns : List Int) (k : Int), vs = [.ref a, .int k] ∧ SqL K H a (ns.map V.int) ∧ ns.length ≤ 63 ∧ 0 ≤ k ∧ k < 1000 ∧
  ∀ p H', H p = none → Fr NoB H H' → BoxAt H' p → Q (.ref p) H'
theorem body_box {X : Cx} (c : Ctx X nq_box lq_box 0) (zl : X.mg "len" = none) (zi : X.mg "int" = none) (za : X.mg "abs" = none) {vs : List V} {H : Hp} {Q : VK} {E : XK} (h : spBox X.K vs H Q E) :
    RB X (defBody sq_box) { nx := fun _ H' => Q .non H', rt := Q } (start nq_box vs) H := by
  obtain ⟨a, ns, k, rfl, hS, h63, k0, k1, q⟩ := h
  have lm : (ns.map V.int).length = ns.length := List.length_map _
  have item : ∀ i : Int, 0 ≤ i → i < (ns.length : Int) → ∃ v, atI (ns.map V.int) i = some (.int v) := fun i h0 h1 => by
    obtain ⟨v, h2, h3⟩ := mem_at (xs := ns.map V.int) h0 (by rw [lm]; exact h1)
    obtain ⟨w, _, e⟩ := List.mem_map.mp h3
    exact ⟨w, by rw [h2, e]⟩
  have fin : ∀ g z : Int, 0 ≤ g → ∀ p, H p = none → Q (.ref p) (upd H p (.lst [.int g, .int (z % 2147483563 + 1)])) := fun g z hg p hp =>
    q p _ hp (Fr.new hp) ⟨g, _, upd_same, hg, by omega, by omega⟩
  -- behind the choice of the cell
  have rest : ∀ cell : Int, 0 ≤ cell → RB X (List.drop 2 (defBody sq_box)) { nx := fun _ H' => Q .non H', rt := Q } [some (.ref a), some (.int k), some (.int cell), none] H := fun cell hc => by
    walk_at "g0"
    refine ov_pow ⟨by decide, by decide, by decide⟩ ?_
    walk_at "g"
    refine ite2 (fun e => ?_) (fun e => ?_)
    · walk_at "g"
      exact ⟨by show 2 ≤ sizeLine; decide, fun p hp => fin _ _ hc p hp⟩
    · walk_at "g"
      exact ⟨by show 2 ≤ sizeLine; decide, fun p hp => fin _ _ (by decide) p hp⟩
  show RB X (defBody sq_box) _ [some (.ref a), some (.int k), none, none] H
  walk_at "g0"
  refine lv_lenL hS ?_
  walk_at "g"
  refine ite2 (fun e => ?_) (fun e => ?_)
  · obtain ⟨v, hv⟩ := item k k0 (by rw [lm] at e; exact of_decide_eq_true e)
    walk_at "g"
    refine iv_list hS hv ?_
    walk_at "e"
    exact rest _ (by split <;> omega)
  · walk_at "g"
    refine lv_lenL hS ?_
    walk_at "g"
    refine ite2 (fun e => ?_) (fun e => ?_)
    · rw [lm] at e
      have hn : (0 : Int) < ns.length := of_decide_eq_true e
      obtain ⟨v, hv⟩ := item (k % ns.length) (Int.emod_nonneg _ (by omega)) (Int.emod_lt_of_pos _ hn)
      walk_at "g"
      refine lv_lenL hS ?_
      rw [lm]
      walk_at "g"
      refine iv_list hS hv ?_
      walk_at "e"
      exact rest _ (by omega)
    · walk_at "e"
      exact rest _ (by omega)
theorem sz30 {n : Nat} (h : n ≤ 100000) : n ≤ sizeLine := Nat.le_trans h (by decide)

/-! ### fractions -/
def gi (a b : Int) : Int := ((Nat.gcd a.natAbs b.natAbs : Nat) : Int)
def fc (n d : Int) : Int := if d < 0 then -(gi n d) else gi n d
def fN (n d : Int) : Int := n.fdiv (fc n d)
def fM (n d : Int) : Int := d.fdiv (fc n d)
def fp (n m : Int) : Option Int := if m < 1 then some 1 else if gi n m = 1 then none else some 2
def fd2 : D → D → Option Int
  | .int n, .int m => fp n m
  | .int _, _ => some 1
  | _, _ => some 0
def fdl : List D → Option Int
  | [a, b] => fd2 a b
  | _ => some (-1)
def fd : D → Option Int
  | .tup ds => fdl ds
  | _ => some (-1)
def W3 (n : Int) : Prop := n.natAbs < 2 ^ 300
theorem gi_pos {n d : Int} (h : d ≠ 0) : 0 < gi n d := by
  unfold gi
  have := Nat.gcd_pos_of_pos_right n.natAbs (Int.natAbs_pos.mpr h)
  omega
theorem gi_w {n d : Int} (h : d ≠ 0) (w : W3 d) : (gi n d).natAbs < 2 ^ 300 := by
  unfold gi
  have h1 : Nat.gcd n.natAbs d.natAbs ≤ d.natAbs := Nat.gcd_le_right _ (Int.natAbs_pos.mpr h)
  rw [Int.natAbs_natCast]
  exact Nat.lt_of_le_of_lt h1 w
def eB (i a b : Nat) : Prop := (i % 2 = 0 ∧ b < 2 ^ (1000 - i / 2)) ∨ (i % 2 = 1 ∧ a < 2 ^ (1000 - i / 2) ∧ b < a)
theorem eB_step {i a b : Nat} (hi : i < 2000) (h : eB i a b) (hb : 0 < b) : eB (i + 1) b (a % b) := by
  have h1 := Nat.mod_lt a hb
  rcases h with ⟨p, h⟩ | ⟨p, h, hba⟩
  · refine .inr ⟨by omega, ?_, h1⟩
    have e : (i + 1) / 2 = i / 2 := by omega
    rw [e]
    exact h
  · refine .inl ⟨by omega, ?_⟩
    have e : (i + 1) / 2 = i / 2 + 1 := by omega
    rw [e]
    obtain ⟨k, hk⟩ : ∃ k, 1000 - i / 2 = k + 1 := ⟨999 - i / 2, by omega⟩
    have e2 : 1000 - (i / 2 + 1) = k := by omega
    rw [hk] at h
    rw [e2]
    rw [Nat.pow_succ] at h
    have h2 : a % b + b ≤ a := by
      have h3 := Nat.div_add_mod a b
      have h4 : 1 ≤ a / b := (Nat.one_le_div_iff hb).mpr (by omega)
      have h5 : b * 1 ≤ b * (a / b) := Nat.mul_le_mul_left b h4
      omega
    omega
def spPart : Sp := fun vs H Q _ => ∃ a b : Int, vs = [.int a, .int b] ∧ W3 a ∧ W3 b ∧ Q (.int (gi a b)) H
theorem abs_nat (a : Int) : (if a < 0 then -a else a) = ((a.natAbs : Nat) : Int) := by split <;> omega
theorem fc_dvd_left {n d : Int} : fc n d ∣ n := by
  have h : gi n d ∣ n := Int.natAbs_dvd_natAbs.mp (by unfold gi; rw [Int.natAbs_natCast]; exact Nat.gcd_dvd_left _ _)
  unfold fc
  split
  · exact (Int.neg_dvd).mpr h
  · exact h
theorem fc_dvd_right {n d : Int} : fc n d ∣ d := by
  have h : gi n d ∣ d := Int.natAbs_dvd_natAbs.mp (by unfold gi; rw [Int.natAbs_natCast]; exact Nat.gcd_dvd_right _ _)
  unfold fc
  split
  · exact (Int.neg_dvd).mpr h
  · exact h
theorem fc_abs {n d : Int} : (fc n d).natAbs = Nat.gcd n.natAbs d.natAbs := by
  unfold fc gi
  split
  · rw [Int.natAbs_neg, Int.natAbs_natCast]
  · rw [Int.natAbs_natCast]
theorem frac_ok {n d : Int} (d0 : d ≠ 0) : fd (.tup [.int (fN n d), .int (fM n d)]) = none ∧ (fN n d).natAbs ≤ n.natAbs ∧ (fM n d).natAbs ≤ d.natAbs := by
  have c0 : fc n d ≠ 0 := by
    have := gi_pos (n := n) d0
    unfold fc
    split <;> omega
  obtain ⟨a, ha⟩ := fc_dvd_left (n := n) (d := d)
  obtain ⟨e, he⟩ := fc_dvd_right (n := n) (d := d)
  have hN : fN n d = a := by
    unfold fN
    have := Int.mul_fdiv_cancel_left a c0
    rwa [← ha] at this
  have hM : fM n d = e := by
    unfold fM
    have := Int.mul_fdiv_cancel_left e c0
    rwa [← he] at this
  have na : n.natAbs = (fc n d).natAbs * a.natAbs := by rw [← Int.natAbs_mul, ← ha]
  have de : d.natAbs = (fc n d).natAbs * e.natAbs := by rw [← Int.natAbs_mul, ← he]
  have cp : 0 < (fc n d).natAbs := Int.natAbs_pos.mpr c0
  have g1 : Nat.gcd a.natAbs e.natAbs = 1 := by
    have h1 : (fc n d).natAbs = (fc n d).natAbs * Nat.gcd a.natAbs e.natAbs := by
      have h2 := Nat.gcd_mul_left (fc n d).natAbs a.natAbs e.natAbs
      rw [← na, ← de, ← fc_abs] at h2
      exact h2
    have h3 : (fc n d).natAbs * Nat.gcd a.natAbs e.natAbs = (fc n d).natAbs * 1 := by rw [Nat.mul_one]; exact h1.symm
    exact Nat.eq_of_mul_eq_mul_left cp h3
  have ep : ¬ e < 1 := by
    intro z
    have z2 : e ≤ 0 := by omega
    have c1 : (d < 0 → fc n d < 0) ∧ (0 < d → 0 < fc n d) := by
      have := gi_pos (n := n) d0
      unfold fc
      constructor
      · intro h
        rw [if_pos h]
        omega
      · intro h
        rw [if_neg (by omega)]
        omega
    rcases Int.lt_or_gt_of_ne d0 with h | h
    · have h1 := Int.mul_nonneg_of_nonpos_of_nonpos (Int.le_of_lt (c1.1 h)) z2
      rw [← he] at h1
      omega
    · have h1 := Int.mul_nonpos_of_nonneg_of_nonpos (Int.le_of_lt (c1.2 h)) z2
      rw [← he] at h1
      omega
  rw [hN, hM]
  refine ⟨?_, ?_, ?_⟩
  · show fp a e = none
    unfold fp gi
    rw [if_neg ep, g1]
    rfl
  · rw [na]
    exact Nat.le_mul_of_pos_left _ cp
  · rw [de]
    exact Nat.le_mul_of_pos_left _ cp
def Nt (H0 : Hp) (b : Addr) : Prop := ∀ o, (∀ ps, o ≠ .tbl ps) → H0 b ≠ some o
theorem Fx.nt {H0 H : Hp} {b : Addr} (f : Fx NoB H0 H) (h : H b = none) : Nt H0 b := fun o t e => by
  have := f b o (fun z => z) t e
  rw [h] at this
  cases this
theorem fx_boxX {H0 H H' : Hp} {b : Addr} (f : Fx NoB H0 H) (hb : Nt H0 b) (g : Fx (· = b) H H') : Fx NoB H0 H' := fun a o n t e => g a o (fun q => hb o t (by rw [← q]; exact e)) t (f a o n t e)
/-- the same data, of so many levels -/
def spSame (K : PySem.W.Frag) (n : Nat) : Sp := fun vs H Q _ => ∃ (d : D) (u v : V) (B B' : Addr → Prop), vs = [u, v] ∧ Dt K B H u d ∧ Dt K B' H v d ∧ Dep n d ∧ ∀ H', Fr NoB H H' → Q (.bl true) H'
theorem body_same {X : Cx} {n : Nat} (c : Ctx X nq_same lq_same n) (zl : X.mg "len" = none) (zi : X.mg "isinstance" = none) (zt : X.mg "tuple" = none) (zL : X.mg "list" = none) (zz : X.mg "zip" = none) (zb : X.mg "bool" = none) (zI : X.mg "int" = none) (zs : X.mg "str" = none)
    (rec : ∀ m, n = m + 1 → DefP X.prog X.w X.K X.mg X.base CX0 "_law_same" ["told", "due"] (m + 1) (spSame X.K m)) {vs : List V} {H : Hp} {Q : VK} {E : XK} (h : spSame X.K n vs H Q E) :
    RB X (defBody sq_same) { nx := fun _ H' => Q .non H', rt := Q } (start nq_same vs) H := by
  obtain ⟨d, u, v, B, B', rfl, hu, hv, hd, q⟩ := h
  have q0 := q H Fr.refl
  -- behind the kinds: row by row
  have rest : ∀ (a b : Addr) (xs ys : List V) (ds : List D) (m : Nat), n = m + 1 → (∃ Sq : Hp → Addr → List V → Prop, (Sq = (fun H => SqL X.K H) ∨ Sq = fun H => SqT X.K H) ∧ ∀ H', Fr NoB H H' → Sq H' a xs ∧ Sq H' b ys) → Dts X.K B H xs ds → Dts X.K B' H ys ds → (∀ d ∈ ds, Dep m d) →
      ∀ (nx : L2.St → Hp → Prop) (tl : List Stmt), tl = List.drop 1 ((fun s => match s with | Stmt.If _ x _ _ => x | _ => []) ((defBody sq_same).headD (.Pass ⟨0, 0, 0, 0⟩))) →
      RB X tl { nx := nx, rt := Q } [some (.ref a), some (.ref b), some (.bl true), none, none] H := by
    rintro a b xs ys ds m hm ⟨Sq, hSq, sq⟩ hx hy hds nx tl rfl
    have lenQ : ∀ (a : Addr) (xs : List V) (H' : Hp) (Q' : VK), Sq H' a xs → Q' (.int xs.length) H' → ClV X (.builtin "len") [.ref a] H' Q' := fun a xs H' Q' hs hq => by
      rcases hSq with rfl | rfl
      · exact lv_lenL hs hq
      · exact lv_lenT hs hq
    have el : xs.length = ys.length := hx.1.trans hy.1.symm
    walk_at "e0"
    refine lenQ _ _ _ _ (sq H Fr.refl).1 ?_
    walk_at "e"
    refine lenQ _ _ _ _ (sq H Fr.refl).2 ?_
    walk_at "e"
    rw [el]
    simp only [decide_true]
    walk_at "e"
    refine rb_cons ?_
    refine rs_for_zip c (by walk_at "gm") .loc (by walk_at "gm") (by walk_at "gm") .loc (by walk_at "gm") (by walk_at "gm") zz ?_
    walk_at "e"
    refine ⟨a, b, xs, ys, rfl, el, Sq, hSq, (sq H Fr.refl).1, (sq H Fr.refl).2, fun i σ H' => Fr NoB H H' ∧ ∃ s1 s2 : Option V, σ = [some (.ref a), some (.ref b), some (.bl true), s1, s2], ⟨Fr.refl, none, none, rfl⟩, fun i σ H' h => sq H' h.1, ?_, ?_⟩
    · rintro i u v σ H' T hu hv ⟨f, s1, s2, rfl⟩ hT
      refine ⟨_, _, by walk_at "gs", by walk_at "gs", ?_⟩
      walk_at "e0"
      refine re_call c (rec m hm) (by omega) (by walk_at "gm") ?_
      walk_at "e"
      have hi : i < ds.length := by
        rw [← hx.1]
        rcases Nat.lt_or_ge i xs.length with z | z
        · exact z
        · rw [List.getElem?_eq_none z] at hu; cases hu
      have hdi : ds[i]? = some ds[i] := List.getElem?_eq_getElem hi
      have f2 := f.trans (Fr.new (o := .tup [u, v]) hT)
      refine ⟨ds[i], u, v, B, B', rfl, (hx.2 i u _ hu hdi).fr f2.any, (hy.2 i v _ hv hdi).fr f2.any, hds _ (List.getElem_mem hi), fun H'' f3 => ?_⟩
      walk_at "e"
      exact ⟨f2.trans f3, _, _, rfl⟩
    · rintro σ H' ⟨f, s1, s2, rfl⟩
      walk_at "g"
      exact q H' f
  cases hu with
  | non =>
    cases hv
    show RB X (defBody sq_same) _ [some .non, some .non, none, none, none] H
    walk_at "g0"
    exact q0
  | bl =>
    cases hv
    rename_i bb
    show RB X (defBody sq_same) _ [some (.bl bb), some (.bl bb), none, none, none] H
    cases bb
    · walk_at "g0"
      refine iteDN (by decide) ?_
      walk_at "g"
      refine iteD rfl ?_
      walk_at "g"
      refine cv_eq (by rfl) ?_
      rw [decide_eq_true rfl]
      exact q0
    · walk_at "g0"
      refine iteD rfl ?_
      walk_at "g"
      refine cv_eq (by rfl) ?_
      rw [decide_eq_true rfl]
      exact q0
  | int =>
    cases hv
    rename_i ii
    show RB X (defBody sq_same) _ [some (.int ii), some (.int ii), none, none, none] H
    walk_at "g0"
    rw [decide_eq_true rfl]
    exact q0
  | str =>
    cases hv
    rename_i ss
    show RB X (defBody sq_same) _ [some (.str ss), some (.str ss), none, none, none] H
    walk_at "g0"
    rw [decide_eq_true rfl]
    exact q0
  | @lst a xs ds nb ta la ha =>
    cases hv with
    | @lst b ys _ nb' tb lb hb =>
      cases hd with
      | @lst m _ hds =>
        show RB X (defBody sq_same) _ [some (.ref a), some (.ref b), none, none, none] H
        walk_at "e0"
        walk_at "e0"
        refine rest a b xs ys ds m rfl ⟨fun H => SqL X.K H, .inl rfl, fun H' f => ⟨SqL.of (f _ _ (fun z => z) ta), SqL.of (f _ _ (fun z => z) tb)⟩⟩ ⟨la, ha⟩ ⟨lb, hb⟩ hds _ _ rfl
  | @tup a xs ds nb ta la ha =>
    cases hv with
    | @tup b ys _ nb' tb lb hb =>
      cases hd with
      | @tup m _ hds =>
        show RB X (defBody sq_same) _ [some (.ref a), some (.ref b), none, none, none] H
        walk_at "e0"
        walk_at "e0"
        refine rest a b xs ys ds m rfl ⟨fun H => SqT X.K H, .inr rfl, fun H' f => ⟨SqT.of (f _ _ (fun z => z) ta), SqT.of (f _ _ (fun z => z) tb)⟩⟩ ⟨la, ha⟩ ⟨lb, hb⟩ hds _ _ rfl
/-! ### a draw from a display -/
/-- what stands for e draws at the box alone and gives data for which P holds -/
def It (X : Cx) (b : Addr) (σ : L2.St) (H0 : Hp) (P : D → Prop) (e : Expr) : Prop :=
  ∀ (H1 : Hp) (Q : VK), Fr (· = b) H0 H1 → BoxAt H1 b → (∀ v d H2, P d → Fr (· = b) H1 H2 → BoxAt H2 b → Dt X.K (· = b) H2 v d → Q v H2) → RE X e σ H1 Q
def NoStar (e : Expr) : Prop := ∀ es env, starEach (e :: es) env = (false, eval e env) :: starEach es env
inductive ItL (X : Cx) (b : Addr) (σ : L2.St) (H0 : Hp) (P : D → Prop) : List Expr → Prop
  | nil : ItL X b σ H0 P []
  | cons {e : Expr} {es : List Expr} (s : NoStar e) (h : It X b σ H0 P e) (t : ItL X b σ H0 P es) : ItL X b σ H0 P (e :: es)
section
variable {X : Cx} {b : Addr} {σ : L2.St} {H0 : Hp} {P : D → Prop}
theorem it_de {e : Expr} {d : D} (h : DE e d) (hp : P d) : It X b σ H0 P e := fun H1 Q _ hB k => re_de h σ H1 Q fun v H2 f hd => k v d H2 hp f.any (hB.fr f) (hd.mono fun a e => by subst e; exact old_box hB)
theorem ra_its {es : List Expr} (h : ItL X b σ H0 P es) : ∀ (H1 : Hp) (Q : List V → Hp → Prop), Fr (· = b) H0 H1 → BoxAt H1 b →
    (∀ vs H2, vs.length = es.length → (∀ v ∈ vs, ∃ d, P d ∧ Dt X.K (· = b) H2 v d) → Fr (· = b) H1 H2 → BoxAt H2 b → Q vs H2) → RA X es σ H1 Q := by
  induction h with
  | nil => exact fun H1 Q f hB q => ra_nil (q [] H1 rfl (fun v hv => by cases hv) Fr.refl hB)
  | cons s h t ih =>
    intro H1 Q f hB q
    refine ra_cons (h H1 _ f hB fun v d H2 hp f2 hB2 hd => ih H2 _ (f.trans f2) hB2 fun vs H3 hl hv f3 hB3 => ?_) (s _ _)
    refine q _ H3 (by rw [List.length_cons, List.length_cons, hl]) (fun u hu => ?_) (f2.trans f3) hB3
    rcases List.mem_cons.mp hu with rfl | hu
    · exact ⟨d, hp, hd.fr f3⟩
    · exact hv u hu
theorem re_pickI {N : List Str} {L : List (Str × KN)} {k : Nat} (c : Ctx X N L k) (hk : 2 ≤ k) (dP : DefP X.prog X.w X.K X.mg X.base CX0 "_law_pick" ["box", "some"] 2 (spPick X.K)) {es : List Expr} {p0 p1 p2 p3 : Pos} {j : KN} (hg : (("_law_pick" : Str), KN.glob) ∈ L) (hb : (("box" : Str), j) ∈ L) (mb : Mine j) (sb : Slot N σ "box" (.ref b))
    (hB : BoxAt H0 b) (h : ItL X b σ H0 P es) (h0 : 0 < es.length) (h1 : es.length ≤ 1000) {Q : VK} (q : ∀ v d H2, P d → Dt X.K (· = b) H2 v d → Fr (· = b) H0 H2 → BoxAt H2 b → Q v H2) :
    RE X (.Call (.Name "_law_pick" p0) [.Name "box" p1, .List es p2] [] p3) σ H0 Q := by
  refine re_call c dP hk hg (ra_cons (re_name c sb hb mb ?_))
  refine ra_cons (re_lst (ra_its h H0 _ Fr.refl hB fun vs H1 hl hv f1 hB1 => ⟨by rw [hl]; exact Nat.le_trans h1 (by decide), fun a ha => ?_⟩))
  have g : Fr NoB H1 (upd H1 a (.lst vs)) := Fr.new ha
  refine ra_nil ⟨b, hB1.fr g, a, vs, rfl, upd_same, hB1.ne ha, by omega, by omega, fun v H2 hm f2 hB2 => ?_⟩
  obtain ⟨d, hp, hd⟩ := hv v hm
  exact q v d H2 hp ((hd.fr g.any).fr f2) (f1.trans (g.any.trans f2)) hB2
end
def Lw (n m : Int) : Prop := 0 < m ∧ gi n m = 1
theorem dep_ints {n : Nat} {l : List Int} : ∀ d ∈ l.map D.int, Dep n d := fun d hd => by
  obtain ⟨i, _, rfl⟩ := List.mem_map.mp hd
  exact .int
/-! ### pairs of whole numbers -/
theorem lw_of_fd {n m : Int} (h : fd (.tup [.int n, .int m]) = none) : Lw n m := by
  have h1 : fp n m = none := h
  unfold fp at h1
  split at h1
  · cases h1
  · split at h1
    · exact ⟨by omega, by assumption⟩
    · cases h1
section
variable {H H' : Hp} {v : V} {n m : Int} {b p : Addr} {K : PySem.W.Frag} {B : Addr → Prop}
end
theorem at_nat {α : Type} {xs : List α} {i : Nat} {v : α} (h : xs[i]? = some v) : atI xs (i : Int) = some v := by
  have h2 : i < xs.length := by
    rcases Nat.lt_or_ge i xs.length with z | z
    · exact z
    · rw [List.getElem?_eq_none z] at h; cases h
  unfold atI ixN
  rw [if_pos (Int.natCast_nonneg i), if_pos (by omega)]
  exact h
theorem str_len (z : Str) : z.length = z.cps.toList.length := by show z.cps.size = _; simp
theorem tl_app (a b : Str) : (a ++ b).cps.toList = a.cps.toList ++ b.cps.toList := TL.tl_append a b
theorem joined_signs (cs : List Nat) : Txt.join "" (cs.map fun c => (⟨#[c]⟩ : Str)) = ⟨cs.toArray⟩ := by
  have e := TL.tl_join "" (cs.map fun c => (⟨#[c]⟩ : Str))
  have h : ∀ l : List (List Nat), TL.joinL (TL.tl "") l = l.flatten := fun l => by
    have e0 : TL.tl ("" : Str) = [] := by decide +kernel
    rw [e0]
    induction l with
    | nil => rfl
    | cons p r ih =>
      cases r with
      | nil => simp [TL.joinL]
      | cons q r =>
        show p ++ ([] ++ TL.joinL [] (q :: r)) = _
        rw [ih, List.nil_append]
        rfl
  rw [h, List.map_map] at e
  have e2 : ∀ l : List Nat, (List.map (TL.tl ∘ fun c => (⟨#[c]⟩ : Str)) l).flatten = l := fun l => by
    have e3 : (TL.tl ∘ fun c => (⟨#[c]⟩ : Str)) = fun c => [c] := by funext c; rfl
    rw [e3]
    induction l with
    | nil => rfl
    | cons c r ih => simpa using ih
  rw [e2] at e
  refine TL.ext_tl ?_
  rw [TL.join_eq]
  exact e
theorem dts_strs_inv {K : PySem.W.Frag} {B : Addr → Prop} {H : Hp} : ∀ {ls : List Str} {vs : List V}, Dts K B H vs (ls.map D.str) → vs = ls.map V.str
  | [], vs, h => List.eq_nil_of_length_eq_zero h.1
  | s :: r, [], h => by cases h.1
  | s :: r, v :: t, h => by
    have hv : Dt K B H v (.str s) := h.2 0 v _ rfl rfl
    have ht := dts_strs_inv (ls := r) (vs := t) ⟨by have := h.1; simpa using this, fun i u y a b => h.2 (i + 1) u y a b⟩
    rw [ht]
    cases hv
    rfl
abbrev DT (X : Cx) := DefP X.prog X.w X.K X.mg X.base CX0
/-! ### octets -/
def grp (n : Nat) : List Int := if h : n < 128 then [(n : Int)] else ((128 + n % 128 : Nat) : Int) :: grp (n / 128)
termination_by n
decreasing_by omega
theorem grp_lt {n : Nat} (h : n < 128) : grp n = [(n : Int)] := by rw [grp, dif_pos h]
theorem grp_ge {n : Nat} (h : ¬ n < 128) : grp n = ((128 + n % 128 : Nat) : Int) :: grp (n / 128) := by rw [grp, dif_neg h]
theorem grp_len : ∀ (k n : Nat), n < 128 ^ k → (grp n).length ≤ k + 1
  | 0, n, h => by
    have : n = 0 := by
      have h2 : n < 1 := h
      omega
    subst this
    rw [grp_lt (by decide)]
    exact Nat.le_refl _
  | k + 1, n, h => by
    by_cases z : n < 128
    · rw [grp_lt z]
      show 1 ≤ _
      omega
    · rw [grp_ge z, List.length_cons]
      have := grp_len k (n / 128) (by rw [Nat.pow_succ] at h; omega)
      omega
def WN (n : Nat) : Prop := n < 2 ^ 140
theorem grp_21 {n : Nat} (h : WN n) : (grp n).length ≤ 21 := grp_len 20 n (Nat.lt_of_lt_of_le h (by decide +kernel))
def LowL (z : Str) : Prop := Low z ∧ z.length ≤ 30
def encL (z : Str) : List Int := (z.length : Int) :: z.cps.toList.map fun c : Nat => (c : Int) - 97
theorem encL_len {z : Str} (h : LowL z) : (encL z).length ≤ 31 := by
  unfold encL
  rw [List.length_cons, List.length_map, ← str_len]
  have := h.2
  omega
inductive EncI (more : Int) : D → List Int → Prop
  | mk (a : Int) (b c : Nat) (hb : WN b) (hc : WN c) : EncI more (.tup [.int a, .int b, .int c]) ((a + more) :: (grp b ++ grp c))
inductive EncT : D → List Int → Prop
  | non : EncT .non [0]
  | emp : EncT (.tup []) [0]
  | id {d : D} {bs : List Int} (h : EncI 1 d bs) : EncT d bs
def zig (n : Int) : Nat := (if 0 ≤ n then 2 * n else -2 * n - 1).toNat
inductive EncF : D → List Int → Prop
  | mk (n : Int) (d : Nat) (hn : n.natAbs < 2 ^ 138) (hd : WN d) : EncF (.tup [.int n, .int d]) (grp (zig n) ++ grp d)
inductive EncN : D → List Int → Prop
  | mk (zs : List Str) (h : ∀ z ∈ zs, LowL z) (l : zs.length ≤ 20) : EncN (.tup (zs.map D.str)) ((zs.length : Int) :: (zs.map encL).flatten)
inductive Ent1 : D → List Int → Prop
  | val (k : Nat) (h : WN k) : Ent1 (.tup [.str "value", .int k]) (1 :: grp k)
  | nm {d : D} {bs : List Int} (h : EncN d bs) : Ent1 (.tup [.str "name", d]) (2 :: bs)
abbrev Row := Str × D × List Int
def rowD (r : Row) : D := .tup [.str r.1, r.2.1]
def rowB (r : Row) : List Int := 1 :: (encL r.1 ++ r.2.2)
def RowOk (r : Row) : Prop := LowL r.1 ∧ Ent1 r.2.1 r.2.2
inductive EncE : D → List Int → Prop
  | non : EncE .non [0]
  | one {d : D} {bs : List Int} (h : Ent1 d bs) : EncE d bs
  | page (i : Int) (rs : List Row) (h : ∀ r ∈ rs, RowOk r) (l : rs.length ≤ 20) : EncE (.tup [.str "page", .int i, .tup (rs.map rowD)]) (3 :: i :: ((rs.map rowB).flatten ++ [0]))
inductive EncH : D → List Int → Prop
  | value (k : Nat) (h : WN k) : EncH (.tup [.str "value", .int k]) (0 :: grp k)
  | page (i : Int) {t : D} {bs : List Int} (h : EncT t bs) (n : t ≠ .non) : EncH (.tup [.str "page", .int i, t]) (1 :: i :: bs)
  | nothing : EncH (.tup [.str "nothing"]) [2]
  | long : EncH (.tup [.str "long"]) [3]
  | far : EncH (.tup [.str "far"]) [4]
inductive EncA : D → List Int → Prop
  | mk {w : D} {bs : List Int} (ns : List (D × List Int)) (h : EncH w bs) (g : ∀ n ∈ ns, EncN n.1 n.2) (l : ns.length ≤ 20) : EncA (.tup [w, .tup (ns.map (·.1))]) (bs ++ (ns.length : Int) :: (ns.map (·.2)).flatten)
/-! ### data, taken apart -/
section
variable {K : PySem.W.Frag} {B : Addr → Prop} {H H' : Hp} {v : V} {d : D} {ds : List D} {us : List V}
theorem dt_tup_inv (h : Dt K B H v (.tup ds)) : ∃ p us, v = .ref p ∧ ¬ B p ∧ H p = some (.tup us) ∧ Dts K B H us ds := by
  cases h with
  | @tup p us _ n t l hh => exact ⟨p, us, rfl, n, t, l, hh⟩
theorem dts_nil_inv (h : Dts K B H us []) : us = [] := List.eq_nil_of_length_eq_zero h.1
theorem dts_cons_inv (h : Dts K B H us (d :: ds)) : ∃ u ur, us = u :: ur ∧ Dt K B H u d ∧ Dts K B H ur ds := by
  cases us with
  | nil => cases h.1
  | cons u ur => exact ⟨u, ur, rfl, h.2 0 u d rfl rfl, by have := h.1; simpa using this, fun i x y a b => h.2 (i + 1) x y a b⟩
theorem dt_int_inv {i : Int} (h : Dt K B H v (.int i)) : v = .int i := by cases h; rfl
theorem dt_str_inv {s : Str} (h : Dt K B H v (.str s)) : v = .str s := by cases h; rfl
theorem dt_ids (h : Dt K B H v (.tup [.int i, .int j, .int k])) : ∃ p, v = .ref p ∧ ¬ B p ∧ H p = some (.tup [.int i, .int j, .int k]) := by
  obtain ⟨p, us, rfl, n, t, g⟩ := dt_tup_inv h
  obtain ⟨a, _, rfl, ha, g⟩ := dts_cons_inv g
  obtain ⟨b, _, rfl, hb, g⟩ := dts_cons_inv g
  obtain ⟨c, _, rfl, hc, g⟩ := dts_cons_inv g
  obtain rfl := dts_nil_inv g
  rw [dt_int_inv ha, dt_int_inv hb, dt_int_inv hc] at t
  exact ⟨p, rfl, n, t⟩
theorem dt_two {x y : D} (h : Dt K B H v (.tup [x, y])) : ∃ p u w, v = .ref p ∧ ¬ B p ∧ H p = some (.tup [u, w]) ∧ Dt K B H u x ∧ Dt K B H w y := by
  obtain ⟨p, us, rfl, n, t, g⟩ := dt_tup_inv h
  obtain ⟨a, _, rfl, ha, g⟩ := dts_cons_inv g
  obtain ⟨b, _, rfl, hb, g⟩ := dts_cons_inv g
  obtain rfl := dts_nil_inv g
  exact ⟨p, a, b, rfl, n, t, ha, hb⟩
theorem dt_three {x y z : D} (h : Dt K B H v (.tup [x, y, z])) : ∃ p u w r, v = .ref p ∧ ¬ B p ∧ H p = some (.tup [u, w, r]) ∧ Dt K B H u x ∧ Dt K B H w y ∧ Dt K B H r z := by
  obtain ⟨p, us, rfl, n, t, g⟩ := dt_tup_inv h
  obtain ⟨a, _, rfl, ha, g⟩ := dts_cons_inv g
  obtain ⟨b, _, rfl, hb, g⟩ := dts_cons_inv g
  obtain ⟨c, _, rfl, hc, g⟩ := dts_cons_inv g
  obtain rfl := dts_nil_inv g
  exact ⟨p, a, b, c, rfl, n, t, ha, hb, hc⟩
theorem dt_one {x : D} (h : Dt K B H v (.tup [x])) : ∃ p u, v = .ref p ∧ ¬ B p ∧ H p = some (.tup [u]) ∧ Dt K B H u x := by
  obtain ⟨p, us, rfl, n, t, g⟩ := dt_tup_inv h
  obtain ⟨a, _, rfl, ha, g⟩ := dts_cons_inv g
  obtain rfl := dts_nil_inv g
  exact ⟨p, a, rfl, n, t, ha⟩
end
theorem dt_strs {K : PySem.W.Frag} {B : Addr → Prop} {H : Hp} {v : V} {zs : List Str} (h : Dt K B H v (.tup (zs.map D.str))) : ∃ p, v = .ref p ∧ ¬ B p ∧ H p = some (.tup (zs.map V.str)) := by
  obtain ⟨p, us, rfl, n, t, g⟩ := dt_tup_inv h
  rw [dts_strs_inv g] at t
  exact ⟨p, rfl, n, t⟩
/-- == with (): of a tuple of whole numbers -/
theorem cv_eqEmp {X : Cx} {N : List Str} {L : List (Str × KN)} {k : Nat} (c : Ctx X N L k) {H : Hp} {Q : VK} {p r : Addr} {a b d : Int} (e : Bool) (h : H p = some (.tup (if e then [] else [.int a, .int b, .int d]))) (hr : H r = some (.tup [])) (q : Q (.bl e) H) : CpV X .Eq (.ref p) (.ref r) H Q := by
  have hu := c.room.units
  refine ⟨⟨_, op_eqD hu, .tuple (if e then [] else [.int a, .int b, .int d]), .tuple [], .tup (SqT.of h) ?_, .tup (SqT.of hr) .nil, ?_, rfl, ?_⟩⟩
  · cases e
    · exact .cons (.int a) (.cons (.int b) (.cons (.int d) .nil))
    · exact .nil
  · cases e <;> rfl
  · cases e <;> exact q
/-! ### the program's writers -/
def EncO (d : D) (bs : List Int) : Prop := ∃ i, d = .int i ∧ bs = [i]
def EncB (d : D) (bs : List Int) : Prop := ∃ z, d = .str z ∧ LowL z ∧ bs = encL z
section
variable {X : Cx} {vs : List V} {H : Hp} {Q : VK} {E : XK}
end
local macro_rules | `(tactic| walk_at "sq") => `(tactic| first | refine iteD rfl ?_ | refine iteDN (by decide +kernel) ?_)
theorem flat_le {α : Type} (f : α → List Int) {l : List α} {i : Nat} {x : α} (h : l[i]? = some x) : ((l.take i).map f).flatten.length + (f x).length ≤ (l.map f).flatten.length := by
  induction l generalizing i with
  | nil => cases h
  | cons y t ih =>
    cases i with
    | zero =>
      cases h
      simp
    | succ j =>
      have := ih (i := j) h
      simp only [List.take_succ_cons, List.map_cons, List.flatten_cons, List.length_append]
      omega
theorem flat_succ {α : Type} (f : α → List Int) {l : List α} {i : Nat} {x : α} (h : l[i]? = some x) : ((l.take (i + 1)).map f).flatten = ((l.take i).map f).flatten ++ f x := by
  rw [List.take_succ, h]
  simp
theorem flat_bd {α : Type} (f : α → List Int) {m : Nat} : ∀ {l : List α}, (∀ x ∈ l, (f x).length ≤ m) → (l.map f).flatten.length ≤ l.length * m
  | [], _ => by simp
  | y :: t, h => by
    have h1 := h y List.mem_cons_self
    have h2 := flat_bd f (l := t) fun x hx => h x (List.mem_cons_of_mem _ hx)
    rw [List.map_cons, List.flatten_cons, List.length_append, List.length_cons, Nat.add_mul]
    omega
theorem encI_bd {m : Int} {d : D} {bs : List Int} (h : EncI m d bs) : bs.length ≤ 43 := by
  cases h with
  | mk a b c hb hc =>
    have := grp_21 hb
    have := grp_21 hc
    simp only [List.length_cons, List.length_append]
    omega
theorem encT_bd {d : D} {bs : List Int} (h : EncT d bs) : bs.length ≤ 43 := by
  cases h with
  | non => decide
  | emp => decide
  | id h => exact encI_bd h
theorem encF_bd {d : D} {bs : List Int} (h : EncF d bs) : bs.length ≤ 42 := by
  cases h with
  | mk n e hn he =>
    have wz : WN (zig n) := by
      unfold WN zig
      have h2 : 2 ^ 138 * 4 = 2 ^ 140 := by decide +kernel
      split <;> omega
    have := grp_21 wz
    have := grp_21 he
    simp only [List.length_append]
    omega
theorem encN_bd {d : D} {bs : List Int} (h : EncN d bs) : bs.length ≤ 621 := by
  cases h with
  | mk zs h l =>
    have := flat_bd encL (m := 31) fun z hz => encL_len (h z hz)
    rw [List.length_cons]
    omega
theorem ent1_bd {d : D} {bs : List Int} (h : Ent1 d bs) : bs.length ≤ 622 := by
  cases h with
  | val k h =>
    have := grp_21 h
    rw [List.length_cons]
    omega
  | nm h =>
    have := encN_bd h
    rw [List.length_cons]
    omega
theorem row_bd {r : Row} (h : RowOk r) : (rowB r).length ≤ 654 := by
  have := encL_len h.1
  have := ent1_bd h.2
  unfold rowB
  simp only [List.length_cons, List.length_append]
  omega
theorem encE_bd {d : D} {bs : List Int} (h : EncE d bs) : bs.length ≤ 13100 := by
  cases h with
  | non => decide
  | one h =>
    have := ent1_bd h
    omega
  | page i rs h l =>
    have := flat_bd rowB (m := 654) fun r hr => row_bd (h r hr)
    simp only [List.length_cons, List.length_append, List.length_nil]
    omega
theorem encA_bd {d : D} {bs : List Int} (h : EncA d bs) : bs.length ≤ 13100 := by
  cases h with
  | mk ns h g l =>
    have := flat_bd (fun x : D × List Int => x.2) (m := 621) (l := ns) fun n hn => encN_bd (g n hn)
    have hb : ∀ {w : D} {bs : List Int}, EncH w bs → bs.length ≤ 45 := by
      intro w bs h
      cases h with
      | value k h =>
        have := grp_21 h
        rw [List.length_cons]
        omega
      | page i h n =>
        have := encT_bd h
        simp only [List.length_cons]
        omega
      | nothing => decide
      | long => decide
      | far => decide
    have := hb h
    simp only [List.length_cons, List.length_append]
    omega
section
variable {X : Cx} {vs : List V} {H : Hp} {Q : VK} {E : XK}
end
local macro_rules | `(tactic| walk_at "sq") => `(tactic| first | refine iteD rfl ?_ | refine iteDN (by decide +kernel) ?_)
abbrev FOUNDS : List Str := ["value", "page", "nothing", "long", "far"]
abbrev KINDSL : List Str := ["start", "tick", "send", "hear", "put", "give", "pass", "swear", "hand", "tell", "ask"]
abbrev kindTab : List (Str × List Str) := [("start", ["kept"]), ("tick", []), ("send", ["node"]), ("hear", ["id"]), ("put", ["term", "label", "entry"]), ("give", ["term", "label", "fraction", "node"]), ("pass", ["id", "node"]), ("swear", ["id"]), ("hand", ["term", "node"]), ("tell", ["name", "most", "answer"]), ("ask", ["name", "most"])]
abbrev WORDS : List Str := ["kept", "node", "id", "term", "label", "entry", "fraction", "name", "most", "answer"]
def TabT (X : Cx) (x : Str) (ys : List Str) : Prop := ∃ a, X.mg x = some (.ref a) ∧ (∀ H, SqT X.K H a (ys.map V.str)) ∧ (∃ ob : Obj, X.K.lookup a = some ob ∧ ob.cls = .type "tuple" ∧ ob.dict = none)
inductive EncP : Str → D → List Int → Prop
  | kept {d bs} (h : EncT d bs) : EncP "kept" d bs
  | term {d bs} (h : EncT d bs) : EncP "term" d bs
  | node {d bs} (h : EncO d bs) : EncP "node" d bs
  | most {d bs} (h : EncO d bs) : EncP "most" d bs
  | id {d bs} (h : EncI 0 d bs) : EncP "id" d bs
  | label {d bs} (h : EncB d bs) : EncP "label" d bs
  | entry {d bs} (h : EncE d bs) : EncP "entry" d bs
  | fraction {d bs} (h : EncF d bs) : EncP "fraction" d bs
  | name {d bs} (h : EncN d bs) : EncP "name" d bs
  | answer {d bs} (h : EncA d bs) : EncP "answer" d bs
theorem encP_bd {w : Str} {d : D} {bs : List Int} (h : EncP w d bs) : bs.length ≤ 13100 ∧ w ∈ WORDS := by
  cases h with
  | kept h => exact ⟨by have := encT_bd h; omega, by decide⟩
  | term h => exact ⟨by have := encT_bd h; omega, by decide⟩
  | node h => obtain ⟨i, rfl, rfl⟩ := h; exact ⟨by show 1 ≤ 13100; decide, by decide⟩
  | most h => obtain ⟨i, rfl, rfl⟩ := h; exact ⟨by show 1 ≤ 13100; decide, by decide⟩
  | id h => exact ⟨by have := encI_bd h; omega, by decide⟩
  | label h => obtain ⟨z, rfl, h, rfl⟩ := h; exact ⟨by have := encL_len h; omega, by decide⟩
  | entry h => exact ⟨encE_bd h, by decide⟩
  | fraction h => exact ⟨by have := encF_bd h; omega, by decide⟩
  | name h => exact ⟨by have := encN_bd h; omega, by decide⟩
  | answer h => exact ⟨encA_bd h, by decide⟩
inductive EncV : D → List Int → Prop
  | mk {i f : D} {ib fb : List Int} (j : Nat) (k : Str) (ws : List Str) (ps : List (D × List Int)) (hi : EncI 0 i ib) (hf : EncF f fb) (hj : kindTab[j]? = some (k, ws)) (l : ps.length = ws.length)
      (hp : ∀ (m : Nat) w x, ws[m]? = some w → ps[m]? = some x → EncP w x.1 x.2) : EncV (.tup [i, f, .tup (.str k :: ps.map (·.1))]) (ib ++ (fb ++ (j : Int) :: (ps.map (·.2)).flatten))
theorem kind_bd {j : Nat} {k : Str} {ws : List Str} (h : kindTab[j]? = some (k, ws)) : ws.length ≤ 4 ∧ KINDSL[j]? = some k ∧ ∀ m, m < j → KINDSL[m]? ≠ some k := by
  have key : ∀ j : _root_.Fin 11, ((kindTab[j.val]?).map fun x => decide (x.2.length ≤ 4) && (decide (KINDSL[j.val]? = some x.1) && (List.range j.val).all fun m => decide (KINDSL[m]? ≠ some x.1))) = some true := by decide +kernel
  have hj : j < 11 := by
    rcases Nat.lt_or_ge j 11 with z | z
    · exact z
    · rw [List.getElem?_eq_none z] at h; cases h
  have kk := key ⟨j, hj⟩
  rw [show kindTab[(⟨j, hj⟩ : _root_.Fin 11).val]? = some (k, ws) from h] at kk
  have k2 := Option.some.inj kk
  rw [Bool.and_eq_true, Bool.and_eq_true, List.all_eq_true] at k2
  exact ⟨of_decide_eq_true k2.1, of_decide_eq_true k2.2.1, fun m hm => of_decide_eq_true (k2.2.2 m (List.mem_range.mpr hm))⟩
theorem encV_bd {d : D} {bs : List Int} (h : EncV d bs) : bs.length ≤ 60000 := by
  cases h with
  | mk j k ws ps hi hf hj l hp =>
    have a := encI_bd hi
    have b := encF_bd hf
    have e := (kind_bd hj).1
    have g := flat_bd (fun x : D × List Int => x.2) (m := 13100) (l := ps) fun x hx => by
      obtain ⟨m, hm⟩ := List.mem_iff_getElem?.mp hx
      have hm2 : m < ws.length := by
        rcases Nat.lt_or_ge m ps.length with z | z
        · omega
        · rw [List.getElem?_eq_none z] at hm; cases hm
      exact (encP_bd (hp m _ x (List.getElem?_eq_getElem hm2) hm)).1
    simp only [List.length_append, List.length_cons]
    omega
def PaT (X : Cx) : Prop := ∃ a, X.mg "PARTS" = some (.ref a) ∧ ∀ (j : Nat) k ws, kindTab[j]? = some (k, ws) → ∃ t, KDct X.K X.w a k (.ref t) ∧ ∀ H, SqT X.K H t (ws.map V.str)
section
variable {X : Cx} {vs : List V} {H : Hp} {Q : VK} {E : XK}
end
def PZ (lo hi : Int) (d : D) : Prop := ∃ i, d = .int i ∧ lo ≤ i ∧ i ≤ hi
theorem pz {lo hi i : Int} (h : lo ≤ i ∧ i ≤ hi) : PZ lo hi (.int i) := ⟨i, rfl, h⟩
local macro_rules | `(tactic| walk_at "its") => `(tactic| repeat (first | exact ItL.nil | refine ItL.cons (fun _ _ => rfl) (it_de (by walk_at "de") (pz (by decide))) ?_))
def spNum : Sp := fun vs H Q _ => ∃ b, vs = [.ref b] ∧ BoxAt H b ∧ ∀ (i : Int) H', 0 ≤ i → i < 2 ^ 31 → Fr (· = b) H H' → BoxAt H' b → Q (.int i) H'
def spDr (P : D → Prop) (K : PySem.W.Frag) : Sp := fun vs H Q _ => ∃ b, vs = [.ref b] ∧ BoxAt H b ∧ ∀ v d H', P d → Dt K (· = b) H' v d → Fr (· = b) H H' → BoxAt H' b → Q v H'
def spDrM (P : D → Prop) (K : PySem.W.Frag) : Sp := fun vs H Q _ => ∃ (b : Addr) (m : Int), vs = [.ref b, .int m] ∧ 0 < m ∧ m ≤ 12 ∧ BoxAt H b ∧ ∀ v d H', P d → Dt K (· = b) H' v d → Fr (· = b) H H' → BoxAt H' b → Q v H'
def ER (R : D → List Int → Prop) (d : D) : Prop := ∃ bs, R d bs
def Low8 (z : Str) : Prop := Low z ∧ z.length ≤ 8
theorem Low8.l {z : Str} (h : Low8 z) : LowL z := ⟨h.1, by have := h.2; omega⟩
def PL (d : D) : Prop := ∃ z, d = .str z ∧ Low8 z
theorem nat_of {i : Int} (h0 : 0 ≤ i) (h1 : i < 2 ^ 31) : ∃ k : Nat, i = (k : Int) ∧ WN k := ⟨i.toNat, by omega, by
  have h2 : i.toNat < 2 ^ 31 := by omega
  exact Nat.lt_trans h2 (by decide +kernel)⟩
section
variable {X : Cx} {vs : List V} {H : Hp} {Q : VK} {E : XK}
theorem it_num {b : Addr} {σ : L2.St} {H0 : Hp} {N : List Str} {L : List (Str × KN)} {k : Nat} {lo hi : Int} (h0 : lo ≤ 0) (h1 : 2 ^ 31 - 1 ≤ hi) (c : Ctx X N L k) (hk : 3 ≤ k) (dN : DT X "_law_number" ["box"] 3 spNum) {p0 p1 p2 : Pos} {j : KN} (hg : (("_law_number" : Str), KN.glob) ∈ L) (hb : (("box" : Str), j) ∈ L) (mb : Mine j) (sb : Slot N σ "box" (.ref b)) :
    It X b σ H0 (PZ lo hi) (.Call (.Name "_law_number" p0) [.Name "box" p1] [] p2) := fun H1 Q _ hB k => by
  refine re_call c dN hk hg (ra_cons (re_name c sb hb mb (ra_nil ?_)))
  exact ⟨b, rfl, hB, fun i H2 i0 i1 f hB2 => k _ (.int i) H2 (pz (by omega)) f hB2 .int⟩
theorem it_take {b : Addr} {σ : L2.St} {H0 : Hp} {N : List Str} {L : List (Str × KN)} {k : Nat} {lo hi n : Int} (n0 : 0 < n) (n1 : n < 2 ^ 31) (h0 : lo ≤ 0) (h1 : n - 1 ≤ hi) (c : Ctx X N L k) (hk : 1 ≤ k) (dT : DT X "_law_take" ["box", "many"] 1 spTake) {p0 p1 p2 p3 : Pos} {j : KN} {j2 : Nat} (hg : (("_law_take" : Str), KN.glob) ∈ L) (hb : (("box" : Str), j) ∈ L) (mb : Mine j) (sb : Slot N σ "box" (.ref b)) :
    It X b σ H0 (PZ lo hi) (.Call (.Name "_law_take" p0) [.Name "box" p1, .Constant (.int n) j2 p3] [] p2) := fun H1 Q _ hB k => by
  refine re_call c dT hk hg (ra_cons (re_name c sb hb mb (ra_cons (re_int (ra_nil ?_)))))
  exact ⟨b, n, rfl, hB, n0, n1, fun i H2 i0 i1 f hB2 => k _ (.int i) H2 (pz (by omega)) f hB2 .int⟩
theorem body_number (c : Ctx X nq_number lq_number 2) (dT : DT X "_law_take" ["box", "many"] 1 spTake) (dP : DT X "_law_pick" ["box", "some"] 2 (spPick X.K)) (h : spNum vs H Q E) :
    RB X (defBody sq_number) { nx := fun _ H' => Q .non H', rt := Q } (start nq_number vs) H := by
  obtain ⟨b, rfl, hB, q⟩ := h
  show RB X (defBody sq_number) _ [some (.ref b), none] H
  walk_at "e0"
  refine re_call c dT (by decide) (by walk_at "gm") ?_
  walk_at "e"
  refine ⟨b, 6, rfl, hB, by decide, by decide, fun w H1 w0 w1 f1 hB1 => ?_⟩
  walk_at "e"
  walk_at "e0"
  refine ite2 (fun e => ?_) (fun e => ?_)
  · walk_at "e0"
    refine re_call c dT (by decide) (by walk_at "gm") ?_
    walk_at "e"
    exact ⟨b, 9, rfl, hB1, by decide, by decide, fun x H2 x0 x1 f2 hB2 => q x H2 x0 (by omega) (f1.trans f2) hB2⟩
  walk_at "e"
  walk_at "e0"
  refine ite2 (fun e => ?_) (fun e => ?_)
  · walk_at "e0"
    refine re_pickI (P := PZ 0 (2 ^ 31 - 1)) c (by decide) dP (by walk_at "gm") (by walk_at "gm") .loc (by walk_at "gs") hB1 (by walk_at "its") (by decide) (by decide) fun v d H2 hd dv f2 hB2 => ?_
    obtain ⟨i, rfl, i0, i1⟩ := hd
    obtain rfl := dt_int_inv dv
    exact q i H2 i0 (by omega) (f1.trans f2) hB2
  walk_at "e"
  walk_at "e0"
  refine ite2 (fun e => ?_) (fun e => ?_)
  · refine re_call c dT (by decide) (by walk_at "gm") ?_
    walk_at "e"
    exact ⟨b, 300, rfl, hB1, by decide, by decide, fun x H2 x0 x1 f2 hB2 => q x H2 x0 (by omega) (f1.trans f2) hB2⟩
  · refine re_call c dT (by decide) (by walk_at "gm") ?_
    walk_at "e"
    refine ov_pow ⟨by decide, by decide, by decide⟩ ?_
    walk_at "e"
    refine ⟨b, _, rfl, hB1, by decide, by decide, fun x H2 x0 x1 f2 hB2 => q x H2 x0 (Int.lt_trans x1 (by decide)) (f1.trans f2) hB2⟩
theorem body_id (c : Ctx X nq_id lq_id 3) (dT : DT X "_law_take" ["box", "many"] 1 spTake) (dP : DT X "_law_pick" ["box", "some"] 2 (spPick X.K)) (dN : DT X "_law_number" ["box"] 3 spNum) (h : spDr (ER (EncI 0)) X.K vs H Q E) :
    RB X (defBody sq_id) { nx := fun _ H' => Q .non H', rt := Q } (start nq_id vs) H := by
  obtain ⟨b, rfl, hB, q⟩ := h
  show RB X (defBody sq_id) _ [some (.ref b), none] H
  refine rb_cons (rs_set c (by walk_at "gm") .loc (by walk_at "gm") ?_)
  refine re_pickI (P := PZ 0 31) c (by decide) dP (by walk_at "gm") (by walk_at "gm") .loc (by walk_at "gs") hB (by
    walk_at "its"
    exact .cons (fun _ _ => rfl) (it_take (by decide) (by decide) (by decide) (by decide) c (by decide) dT (by walk_at "gm") (by walk_at "gm") .loc (by walk_at "gs")) .nil) (by decide) (by decide) fun v d H1 hd dv f1 hB1 => ?_
  obtain ⟨a, rfl, a0, a1⟩ := hd
  obtain rfl := dt_int_inv dv
  refine ⟨_, by walk_at "gs", ?_⟩
  walk_at "e0"
  refine re_pickI (P := PZ 0 (2 ^ 31 - 1)) c (by decide) dP (by walk_at "gm") (by walk_at "gm") .loc (by walk_at "gs") hB1 (by
    walk_at "its"
    exact .cons (fun _ _ => rfl) (it_num (by decide) (by decide) c (by decide) dN (by walk_at "gm") (by walk_at "gm") .loc (by walk_at "gs")) .nil) (by decide) (by decide) fun v d H2 hd dv f2 hB2 => ?_
  obtain ⟨i, rfl, i0, i1⟩ := hd
  obtain rfl := dt_int_inv dv
  walk_at "e"
  refine re_call c dN (by decide) (by walk_at "gm") ?_
  walk_at "e"
  refine ⟨b, rfl, hB2, fun y H3 y0 y1 f3 hB3 => ?_⟩
  walk_at "e"
  refine ⟨by show 3 ≤ sizeLine; decide, fun p hp => ?_⟩
  obtain ⟨k, rfl, wk⟩ := nat_of i0 (by omega)
  obtain ⟨l, rfl, wl⟩ := nat_of y0 y1
  exact q _ (.tup [.int a, .int k, .int l]) _ ⟨_, .mk a k l wk wl⟩ (Dt.newT hp (hB3.ne hp) (.cons .int (.cons .int (.cons .int .nil)))) (((f1.trans f2).trans f3).trans (Fr.new hp)) (hB3.fr (Fr.new hp))
theorem body_label (c : Ctx X nq_label lq_label 2) (zl : X.mg "len" = none) (zr : X.mg "range" = none) (dT : DT X "_law_take" ["box", "many"] 1 spTake) (dP : DT X "_law_pick" ["box", "some"] 2 (spPick X.K)) (h : spDr PL X.K vs H Q E) :
    RB X (defBody sq_label) { nx := fun _ H' => Q .non H', rt := Q } (start nq_label vs) H := by
  obtain ⟨b, rfl, hB, q⟩ := h
  show RB X (defBody sq_label) _ [some (.ref b), none, none, none] H
  refine rb_cons (rs_set c (by walk_at "gm") .loc (by walk_at "gm") ?_)
  refine re_pickI (P := PZ 1 8) c (by decide) dP (by walk_at "gm") (by walk_at "gm") .cell (by walk_at "gs") hB (by walk_at "its") (by decide) (by decide) fun v d H1 hd dv f1 hB1 => ?_
  obtain ⟨m, rfl, m0, m1⟩ := hd
  obtain rfl := dt_int_inv dv
  refine ⟨_, by walk_at "gs", ?_⟩
  refine rb_cons (rs_set c (by walk_at "gm") .cell (by walk_at "gm") ?_)
  have ps : ∀ {s : Str}, (s.cps.toList.all (fun c => decide (97 ≤ c) && decide (c ≤ 122)) && (decide (0 < s.length) && decide (s.length ≤ 26))) = true → ∃ z, D.str s = .str z ∧ Low z ∧ 0 < z.length ∧ z.length ≤ 26 := fun {s} h => by
    rw [Bool.and_eq_true, Bool.and_eq_true] at h
    refine ⟨s, rfl, fun c hc => ?_, of_decide_eq_true h.2.1, of_decide_eq_true h.2.2⟩
    have := List.all_eq_true.mp h.1 c hc
    rw [Bool.and_eq_true] at this
    exact ⟨of_decide_eq_true this.1, of_decide_eq_true this.2⟩
  refine re_pickI (P := fun d => ∃ z, d = .str z ∧ Low z ∧ 0 < z.length ∧ z.length ≤ 26) c (by decide) dP (by walk_at "gm") (by walk_at "gm") .cell (by walk_at "gs") hB1
    (.cons (fun _ _ => rfl) (it_de .str (ps (by decide +kernel))) (.cons (fun _ _ => rfl) (it_de .str (ps (by decide +kernel))) (.cons (fun _ _ => rfl) (it_de .str (ps (by decide +kernel))) (.cons (fun _ _ => rfl) (it_de .str (ps (by decide +kernel))) .nil)))) (by decide) (by decide) fun v d H2 hd dv f2 hB2 => ?_
  obtain ⟨z, rfl, hz, z0, z26⟩ := hd
  obtain rfl := dt_str_inv dv
  refine ⟨_, by walk_at "gs", ?_⟩
  have ff : Fr (· = b) H H2 := f1.trans f2
  refine rb_cons (rs_ret ?_)
  refine re_join ?_
  walk_at "e"
  refine re_lc_range c lq_label_c0 (by decide +kernel) (by walk_at "gm") zr ?_
  walk_at "e"
  refine ⟨by omega, by omega, fun Dn hD => ?_⟩
  refine ⟨fun i H' => ∃ cs : List Nat, cs.length = i ∧ (∀ c ∈ cs, 97 ≤ c ∧ c ≤ 122) ∧ H' Dn = some (.lst (cs.map fun c => V.str ⟨#[c]⟩)) ∧ BoxAt H' b ∧ Fr (· = b) H H', ⟨[], rfl, (fun _ h => by cases h), upd_same, hB2.fr (Fr.new hD), ff.trans (Fr.new hD)⟩, fun _ _ _ _ => trivial, ?_, ?_⟩
  · rintro i y H' hi rfl ⟨cs, h1, h2, h3, h4, h5⟩
    refine ⟨_, by walk_at "gs", fun s Hb C cl fp cb => rts_nil (iteT fun s Hb C cl fp cb => ?_)⟩
    walk_at "e"
    refine re_call cb dT (by decide) (by walk_at "gm") ?_
    walk_at "e"
    refine lv_lenS (sz30 (by omega)) ?_
    walk_at "e"
    refine ⟨b, _, rfl, h4, by omega, by omega, fun d H'' d0 d1 f5 hB5 => ?_⟩
    obtain ⟨n, hn, hn2⟩ := mem_at (xs := z.cps.toList) d0 (by rw [← str_len]; exact d1)
    refine iv_str (sz30 (by omega)) hn ?_
    have e : Dn ≠ b := hB2.ne hD
    refine ⟨_, f5 _ _ e h3, by rw [List.length_map]; exact Nat.lt_of_le_of_lt (by omega : cs.length ≤ 8) (by decide), cs ++ [n], by simp [h1], ?_, ?_, hB5.put e, (h5.trans f5).put (ff.gone e hD)⟩
    · intro c hc
      rcases List.mem_append.mp hc with hc | hc
      · exact h2 c hc
      · rw [List.mem_singleton.mp hc]
        exact hz n hn2
    rw [upd_same, List.map_append]
    rfl
  · rintro H' ⟨cs, h1, h2, h3, h4, h5⟩
    have h8 : cs.length ≤ 8 := by omega
    refine ⟨Dn, cs.map fun c => ⟨#[c]⟩, rfl, .inl (SqL.of ?_), ?_, ?_⟩
    · rw [h3, List.map_map]
      rfl
    · have e1 : (List.map (fun x : Str => x.length) (List.map (fun c => (⟨#[c]⟩ : Str)) cs)).sum = cs.length := by
        rw [List.map_map]
        clear h1 h2 h3 h8
        induction cs with
        | nil => rfl
        | cons c r ih =>
          rw [List.map_cons, List.sum_cons, ih, List.length_cons]
          show 1 + r.length = r.length + 1
          omega
      rw [e1, List.length_map]
      have e2 : ("" : Str).length = 0 := by decide +kernel
      show cs.length + cs.length * ("" : Str).length ≤ 16777216
      rw [e2]
      omega
    · rw [joined_signs]
      refine q _ (.str ⟨cs.toArray⟩) H' ⟨_, rfl, fun c hc => h2 c (by simpa using hc), by show cs.toArray.size ≤ 8; simpa using h8⟩ .str h5 h4
end
local macro_rules | `(tactic| walk_at "its") => `(tactic| repeat (first | exact ItL.nil | refine ItL.cons (fun _ _ => rfl) (it_de (by walk_at "de") (pz (by decide))) ?_))
theorem rs_cut {X : Cx} {st : Stmt} {D : Ends} {σ : L2.St} {H : Hp} (P : L2.St → Hp → Prop) (h : ∀ σ H, P σ H → D.nx σ H) (q : (∀ σ H, P σ H → D.nx σ H) → RS X st D σ H) : RS X st D σ H := q h
theorem swapped_cell {x y : Str} {a b : Expr} {px py q1 q2 : Pos} {kt k2 : Nat} {env : Env} (hy : (env.kindOf y == some .local) = false) : swappedStores [.Tuple [.Name x px, .Name y py] kt q1] (.Tuple [a, b] k2 q2) env = pure none := by
  unfold swappedStores
  dsimp only
  have e : (List.filterMap (fun t : Expr => match t with
    | .Name id pos => if (env.kindOf id == some .local && pos.line == ((([Expr.Name x px, Expr.Name y py].head?).map (·.pos.line)).getD 0)) = true then some id else none
    | _ => none) [.Name x px, .Name y py]).length ≤ 1 := by
    simp only [List.filterMap_cons, List.filterMap_nil, hy, Bool.false_and, Bool.false_eq_true, if_false]
    split <;> simp
  split
  · rfl
  · split
    · rfl
    · split
      · rfl
      · rename_i h
        exfalso
        apply h
        rw [Bool.or_eq_true]
        left
        rw [bne_iff_ne]
        intro z
        have z2 : _ = 2 := z
        exact absurd z2 (Nat.ne_of_lt (Nat.lt_of_le_of_lt e (by decide)))
theorem nine (t m : Nat) {u : Int} (h : 0 ≤ u) : ((t * m + u.toNat : Nat) : Int) = (t : Int) * (m : Int) + u := by
  rw [Int.natCast_add, Int.natCast_mul, Int.toNat_of_nonneg h]
theorem len_app (a b : Str) : (a ++ b).length = a.length + b.length := by rw [str_len, tl_app, List.length_append, ← str_len, ← str_len]
section
variable {X : Cx} {vs : List V} {H : Hp} {Q : VK} {E : XK}
theorem body_fraction (c : Ctx X nq_fraction lq_fraction 2) (zr : X.mg "range" = none) (dT : DT X "_law_take" ["box", "many"] 1 spTake) (dP : DT X "_law_pick" ["box", "some"] 2 (spPick X.K)) (dG : DT X "_law_part" ["one", "two"] 2 spPart) (h : spDr (ER EncF) X.K vs H Q E) :
    RB X (defBody sq_fraction) { nx := fun _ H' => Q .non H', rt := Q } (start nq_fraction vs) H := by
  obtain ⟨b, rfl, hB, q⟩ := h
  show RB X (defBody sq_fraction) _ [some (.ref b), none, none, none, none, none] H
  walk_at "e0"
  refine re_call c dT (by decide) (by walk_at "gm") ?_
  walk_at "e"
  refine ⟨b, 6, rfl, hB, by decide, by decide, fun w H1 w0 w1 f1 hB1 => ?_⟩
  walk_at "e"
  refine rb_cons ?_
  refine rs_cut (fun σ H2 => ∃ (top low : Int) (s5 : Option V), Fr (· = b) H H2 ∧ BoxAt H2 b ∧ 0 < low ∧ low.natAbs < 2 ^ 130 ∧ top.natAbs < 2 ^ 130 ∧ σ = [some (.ref b), some (.int w), some (.int top), some (.int low), s5, none]) ?_ fun go => ?_
  · rintro σ H2 ⟨top, low, s5, f2, hB2, l0, wl, wt, rfl⟩
    have wt3 : W3 top := Nat.lt_trans wt (by decide +kernel)
    have wl3 : W3 low := Nat.lt_trans wl (by decide +kernel)
    walk_at "e0"
    refine re_call c dG (by decide) (by walk_at "gm") ?_
    walk_at "e"
    refine ⟨top, low, rfl, wt3, wl3, ?_⟩
    walk_at "e"
    walk_at "e0"
    have d0 : low ≠ 0 := by omega
    have gp := gi_pos (n := top) d0
    have gw := gi_w (n := top) d0 wl3
    have ef : fc top low = gi top low := by unfold fc; rw [if_neg (by omega)]
    refine ov_fdivX (by omega) gw (by decide) (by decide) ?_
    walk_at "e"
    refine ov_fdivX (by omega) gw (by decide) (by decide) ?_
    walk_at "e"
    refine ⟨by show 2 ≤ sizeLine; decide, fun p hp => ?_⟩
    obtain ⟨fok, wn, wm⟩ := frac_ok (n := top) d0
    have lw := lw_of_fd fok
    unfold fN at lw wn
    unfold fM at lw wm
    rw [ef] at lw wn wm
    obtain ⟨dd, e1⟩ : ∃ k : Nat, low.fdiv (gi top low) = (k : Int) := ⟨(low.fdiv (gi top low)).toNat, by have := lw.1; omega⟩
    rw [e1] at wm ⊢
    refine q _ (.tup [.int (top.fdiv (gi top low)), .int (dd : Int)]) _ ⟨_, .mk _ _ ?_ ?_⟩ (Dt.newT hp (hB2.ne hp) (.cons .int (.cons .int .nil))) (f2.trans (Fr.new hp)) (hB2.fr (Fr.new hp))
    · exact Nat.lt_of_le_of_lt wn (Nat.lt_trans wt (by decide +kernel))
    · have : dd ≤ low.natAbs := by simpa using wm
      exact Nat.lt_of_le_of_lt this (Nat.lt_trans wl (by decide +kernel))
  have sm : ∀ {i : Int}, -(2 ^ 64) ≤ i ∧ i ≤ 2 ^ 64 → i.natAbs < 2 ^ 130 := fun h => Nat.lt_of_le_of_lt (by omega : _ ≤ 2 ^ 64) (by decide +kernel)
  walk_at "e"
  refine ite2 (fun e => ?_) (fun e => ?_)
  · refine rb_cons ?_
    refine rs_par2 c (by walk_at "gm") (by walk_at "gm") (by walk_at "gm") (by walk_at "gm") (by decide) ?_
    refine ra_cons ?_
    walk_at "e"
    refine re_call c dT (by decide) (by walk_at "gm") ?_
    walk_at "e"
    refine ⟨b, 9, rfl, hB1, by decide, by decide, fun x H2 x0 x1 f2 hB2 => ?_⟩
    walk_at "e"
    refine re_pickI (P := PZ 1 6) c (by decide) dP (by walk_at "gm") (by walk_at "gm") .loc (by walk_at "gs") hB2 (by walk_at "its") (by decide) (by decide) fun v d H3 hd dv f3 hB3 => ?_
    obtain ⟨low, rfl, l0, l1⟩ := hd
    obtain rfl := dt_int_inv dv
    walk_at "e"
    refine ⟨_, _, _, _, rfl, by walk_at "gs", by walk_at "gs", ?_⟩
    walk_at "e"
    exact go _ _ ⟨x - 2, low, none, (f1.trans f2).trans f3, hB3, by omega, sm (by omega), sm (by omega), rfl⟩
  walk_at "e"
  walk_at "e0"
  refine ite2 (fun e => ?_) (fun e => ?_)
  · refine rb_cons (rs_set c (by walk_at "gm") .loc (by walk_at "gm") ?_)
    refine re_bin ?_
    refine re_pickI (P := PZ 0 (2 ^ 31)) c (by decide) dP (by walk_at "gm") (by walk_at "gm") .loc (by walk_at "gs") hB1 (by
      walk_at "its"
      refine .cons (fun _ _ => rfl) ?_ .nil
      intro H3 K f hB3 k
      walk_at "e"
      refine re_call c dT (by decide) (by walk_at "gm") ?_
      walk_at "e"
      refine ov_pow ⟨by decide, by decide, by decide⟩ ?_
      walk_at "e"
      exact ⟨b, _, rfl, hB3, by decide, by decide, fun x H4 x0 x1 f4 hB4 => k _ (.int x) H4 (pz ⟨x0, Int.le_of_lt (Int.lt_trans x1 (by decide))⟩) f4 hB4 .int⟩) (by decide) (by decide) fun v d H2 hd dv f2 hB2 => ?_
    obtain ⟨t1, rfl, t0, t2⟩ := hd
    obtain rfl := dt_int_inv dv
    refine re_pickI (P := PZ (-1) 1) c (by decide) dP (by walk_at "gm") (by walk_at "gm") .loc (by walk_at "gs") hB2 (by walk_at "its") (by decide) (by decide) fun v d H3 hd dv f3 hB3 => ?_
    obtain ⟨sg, rfl, s0, s1⟩ := hd
    obtain rfl := dt_int_inv dv
    refine ov_mulR (by omega) ?_
    refine ⟨_, by walk_at "gs", ?_⟩
    refine rb_cons (rs_set c (by walk_at "gm") .loc (by walk_at "gm") ?_)
    refine re_pickI (P := PZ 1 (2 ^ 31)) c (by decide) dP (by walk_at "gm") (by walk_at "gm") .loc (by walk_at "gs") hB3 (by
      walk_at "its"
      refine .cons (fun _ _ => rfl) ?_ .nil
      intro H3 K f hB3 k
      walk_at "e"
      refine re_call c dT (by decide) (by walk_at "gm") ?_
      walk_at "e"
      refine ov_pow ⟨by decide, by decide, by decide⟩ ?_
      walk_at "e"
      refine ⟨b, _, rfl, hB3, by decide, by decide, fun x H4 x0 x1 f4 hB4 => ?_⟩
      have x2 : x < 10000 := x1
      walk_at "e"
      exact k _ (.int (1 + x)) H4 (pz (by omega)) f4 hB4 .int) (by decide) (by decide) fun v d H4 hd dv f4 hB4 => ?_
    obtain ⟨low, rfl, l0, l1⟩ := hd
    obtain rfl := dt_int_inv dv
    refine ⟨_, by walk_at "gs", ?_⟩
    walk_at "e"
    have st : (t1 * sg).natAbs ≤ 2 ^ 31 := by
      have : sg = -1 ∨ sg = 0 ∨ sg = 1 := by omega
      rcases this with rfl | rfl | rfl <;> omega
    exact go _ _ ⟨t1 * sg, low, none, ((f1.trans f2).trans f3).trans f4, hB4, by omega, sm (by omega), Nat.lt_of_le_of_lt st (by decide +kernel), rfl⟩
  walk_at "e"
  have p9 : ((10 : Int) ^ (9 : Int).toNat) = 1000000000 := by decide
  refine rb_cons ?_
  refine rs_tup2 c (by walk_at "gm") .loc (by walk_at "gm") (by walk_at "gm") .loc (by walk_at "gm") ?_ (swapped_folded (by decide +kernel))
  walk_at "e"
  refine ⟨by show 2 ≤ sizeLine; decide, fun T hT => ?_⟩
  refine ⟨T, .int 0, .int 0, rfl, SqT.of upd_same, _, _, by walk_at "gs", by walk_at "gs", ?_⟩
  have f2 : Fr (· = b) H (upd H1 T (.tup [.int 0, .int 0])) := f1.trans (Fr.new hT)
  have hB2 : BoxAt (upd H1 T (.tup [.int 0, .int 0])) b := hB1.fr (Fr.new hT)
  generalize upd H1 T (.tup [.int 0, .int 0]) = H2 at f2 hB2 ⊢
  refine rb_cons ?_
  refine rs_for_range c (by walk_at "gm") .loc (by walk_at "gm") (by walk_at "gm") zr ?_
  walk_at "e"
  refine re_call c dT (by decide) (by walk_at "gm") ?_
  walk_at "e"
  refine ⟨b, 4, rfl, hB2, by decide, by decide, fun x H3 x0 x1 f3 hB3 => ?_⟩
  walk_at "e"
  refine ⟨by omega, by omega, ?_⟩
  refine ⟨fun i σ H' => Fr (· = b) H H' ∧ BoxAt H' b ∧ ∃ (t l : Nat) (s5 : Option V), t < 1000000000 ^ i ∧ l < 1000000000 ^ i ∧ σ = [some (.ref b), some (.int w), some (.int (t : Int)), some (.int (l : Int)), s5, none], ⟨f2.trans f3, hB3, 0, 0, none, by decide, by decide, rfl⟩, fun _ _ _ _ _ => trivial, ?_, ?_⟩
  · rintro i y σ H4 hi rfl ⟨f4, hB4, t, l, s5, ht, hl, rfl⟩
    refine ⟨_, by walk_at "gs", ?_⟩
    refine rb_cons ?_
    refine rs_par2 c (by walk_at "gm") (by walk_at "gm") (by walk_at "gm") (by walk_at "gm") (by decide) ?_
    refine ra_cons ?_
    walk_at "e"
    refine ov_pow ⟨by decide, by decide, by decide⟩ ?_
    walk_at "e"
    refine re_call c dT (by decide) (by walk_at "gm") ?_
    walk_at "e"
    refine ov_pow ⟨by decide, by decide, by decide⟩ ?_
    walk_at "e"
    refine ⟨b, _, rfl, hB4, by decide, by decide, fun u H5 u0 u1 f5 hB5 => ?_⟩
    walk_at "e"
    refine ov_pow ⟨by decide, by decide, by decide⟩ ?_
    walk_at "e"
    refine re_call c dT (by decide) (by walk_at "gm") ?_
    walk_at "e"
    refine ov_pow ⟨by decide, by decide, by decide⟩ ?_
    walk_at "e"
    refine ⟨b, _, rfl, hB5, by decide, by decide, fun r H6 r0 r1 f6 hB6 => ?_⟩
    walk_at "e"
    refine ⟨_, _, _, _, rfl, by walk_at "gs", by walk_at "gs", ?_⟩
    walk_at "e"
    rw [p9] at u1 r1 ⊢
    clear p9
    refine ⟨(f4.trans f5).trans f6, hB6, t * 1000000000 + u.toNat, l * 1000000000 + r.toNat, some (.int (i : Int)), ?_, ?_, ?_⟩
    · rw [Nat.pow_succ]; omega
    · rw [Nat.pow_succ]; omega
    · have e1 := nine t 1000000000 u0
      have e2 := nine l 1000000000 r0
      have e3 : ((1000000000 : Nat) : Int) = 1000000000 := by decide
      rw [e3] at e1 e2
      rw [e1, e2]
  · rintro σ H4 ⟨f4, hB4, t, l, s5, ht, hl, rfl⟩
    have h36 : (1000000000 : Nat) ^ (1 + x).toNat ≤ 1000000000 ^ 4 := Nat.pow_le_pow_right (by decide) (by omega)
    have c36 : (1000000000 : Nat) ^ 4 + 1 < 2 ^ 130 := by decide +kernel
    refine rb_cons ?_
    refine rs_par2 c (by walk_at "gm") (by walk_at "gm") (by walk_at "gm") (by walk_at "gm") (by decide) ?_
    refine ra_cons ?_
    walk_at "e"
    refine re_pickI (P := PZ (-1) 1) c (by decide) dP (by walk_at "gm") (by walk_at "gm") .loc (by walk_at "gs") hB4 (by walk_at "its") (by decide) (by decide) fun v d H5 hd dv f5 hB5 => ?_
    obtain ⟨sg, rfl, s0, s1⟩ := hd
    obtain rfl := dt_int_inv dv
    refine ov_mulR (by omega) ?_
    walk_at "e"
    refine ⟨_, _, _, _, rfl, by walk_at "gs", by walk_at "gs", ?_⟩
    walk_at "e"
    have st : ((t : Int) * sg).natAbs ≤ t := by
      have : sg = -1 ∨ sg = 0 ∨ sg = 1 := by omega
      rcases this with rfl | rfl | rfl <;> omega
    exact go _ _ ⟨(t : Int) * sg, (l : Int) + 1, s5, f4.trans f5, hB5, by omega, by omega, by omega, rfl⟩
theorem body_name (c : Ctx X nq_name lq_name 3) (zr : X.mg "range" = none) (zt : X.mg "tuple" = none) (dT : DT X "_law_take" ["box", "many"] 1 spTake) (dL : DT X "_law_label" ["box"] 3 (spDr PL X.K)) (h : spDrM (ER EncN) X.K vs H Q E) :
    RB X (defBody sq_name) { nx := fun _ H' => Q .non H', rt := Q } (start nq_name vs) H := by
  obtain ⟨b, m, rfl, m0, m12, hB, q⟩ := h
  show RB X (defBody sq_name) _ [some (.ref b), some (.int m), none] H
  walk_at "e0"
  refine re_lc_range c lq_name_c0 (by decide +kernel) (by walk_at "gm") zr ?_
  walk_at "e"
  refine re_call c dT (by decide) (by walk_at "gm") ?_
  walk_at "e"
  refine ⟨b, m, rfl, hB, m0, by omega, fun x H2 x0 x1 ff hB2 => ?_⟩
  walk_at "e"
  refine ⟨by omega, by omega, fun Dn hD => ?_⟩
  refine ⟨fun i H' => ∃ zs : List Str, zs.length = i ∧ (∀ z ∈ zs, LowL z) ∧ H' Dn = some (.lst (zs.map V.str)) ∧ BoxAt H' b ∧ Fr (· = b) H H', ⟨[], rfl, (fun _ h => by cases h), upd_same, hB2.fr (Fr.new hD), ff.trans (Fr.new hD)⟩, fun _ _ _ _ => trivial, ?_, ?_⟩
  · rintro i y H' hi rfl ⟨zs, h1, h2, h3, h4, h5⟩
    refine ⟨_, by walk_at "gs", fun s Hb C cl fp cb => rts_nil (iteT fun s Hb C cl fp cb => ?_)⟩
    refine re_call cb dL (by decide) (by walk_at "gm") ?_
    walk_at "e"
    refine ⟨b, rfl, h4, fun v d H'' hd dv f5 hB5 => ?_⟩
    obtain ⟨z, rfl, hz⟩ := hd
    obtain rfl := dt_str_inv dv
    have e : Dn ≠ b := hB2.ne hD
    refine ⟨_, f5 _ _ e h3, by rw [List.length_map]; exact Nat.lt_of_le_of_lt (by omega : zs.length ≤ 20) (by decide), zs ++ [z], by simp [h1], ?_, ?_, hB5.put e, (h5.trans f5).put (ff.gone e hD)⟩
    · intro c hc
      rcases List.mem_append.mp hc with hc | hc
      · exact h2 c hc
      · rw [List.mem_singleton.mp hc]
        exact hz.l
    rw [upd_same, List.map_append]
    rfl
  · rintro H' ⟨zs, h1, h2, h3, h4, h5⟩
    walk_at "e"
    refine lv_tupL (SqL.of h3) fun l hl => ?_
    exact q _ (.tup (zs.map D.str)) _ ⟨_, .mk zs h2 (by omega)⟩ (Dt.newT hl (h4.ne hl) (dts_strs zs)) (h5.trans (Fr.new hl)) (h4.fr (Fr.new hl))
end
def onS (f : Str → Bool) : V → Bool
  | .str s => f s
  | _ => false
theorem cut_to (z : Str) (k : Nat) : (cutS z none (some (k : Int))).cps.toList = z.cps.toList.take k := by
  have e : z.length = z.cps.toList.length := by show z.cps.size = _; simp
  show ((z.cps.toList.drop (HT.sIx z.length 0 none)).take (HT.sIx z.length z.length (some (k : Int)) - HT.sIx z.length 0 none)) = _
  rw [HT.sIx_nat, HT.sIx_none, List.drop_zero, Nat.sub_zero, e]
  rcases Nat.le_total k z.cps.toList.length with h | h
  · rw [Nat.min_eq_left h]
  · rw [Nat.min_eq_right h, List.take_length, List.take_of_length_le h]
def spRows (K : PySem.W.Frag) : Sp := fun vs H Q _ => ∃ (b : Addr) (m : Int), vs = [.ref b, .int m] ∧ 0 < m ∧ m ≤ 12 ∧ BoxAt H b ∧ ∀ v (rs : List Row) H', (∀ r ∈ rs, RowOk r) → rs.length ≤ 20 → Dt K (· = b) H' v (.tup (rs.map rowD)) → Fr (· = b) H H' → BoxAt H' b → Q v H'
section
variable {X : Cx} {vs : List V} {H : Hp} {Q : VK} {E : XK}
theorem body_rows (c : Ctx X nq_rows lq_rows 4) (zl : X.mg "len" = none) (zr : X.mg "range" = none) (zt : X.mg "tuple" = none) (zs : X.mg "sorted" = none) (dT : DT X "_law_take" ["box", "many"] 1 spTake) (dP : DT X "_law_pick" ["box", "some"] 2 (spPick X.K)) (dL : DT X "_law_label" ["box"] 3 (spDr PL X.K))
    (dN : DT X "_law_number" ["box"] 3 spNum) (dM : DT X "_law_name" ["box", "most"] 4 (spDrM (ER EncN) X.K)) (h : spRows X.K vs H Q E) : RB X (defBody sq_rows) { nx := fun _ H' => Q .non H', rt := Q } (start nq_rows vs) H := by
  obtain ⟨b, m, rfl, m0, m12, hB, q⟩ := h
  show RB X (defBody sq_rows) _ [some (.ref b), some (.int m), none, none, none, none, none, none, none] H
  refine rb_cons ?_
  refine rs_tup2 c (by walk_at "gm") .loc (by walk_at "gm") (by walk_at "gm") .cell (by walk_at "gm") ?_ (swapped_cell (by
    show (X.env.kindOf "last" == some .local) = false
    have hk := (c.look (("last" : Str), KN.cell) (by walk_at "gm")).1
    have hk2 : X.env.kindOf "last" = some .cell := hk
    rw [hk2]
    rfl))
  walk_at "e"
  refine ⟨by show 0 ≤ sizeLine; decide, fun L hL => ?_⟩
  have f0 : Fr (· = b) H (upd H L (.lst [])) := Fr.new hL
  have hB0 : BoxAt (upd H L (.lst [])) b := hB.fr (Fr.new hL)
  have hL0 : upd H L (.lst []) L = some (.lst []) := upd_same
  have nL : ¬ L = b := hB.ne hL
  generalize upd H L (.lst []) = H0 at f0 hB0 hL0 ⊢
  walk_at "e"
  refine re_call c dL (by decide) (by walk_at "gm") ?_
  walk_at "e"
  refine ⟨b, rfl, hB0, fun v d H1 hd dv f1 hB1 => ?_⟩
  obtain ⟨z, rfl, hz⟩ := hd
  obtain rfl := dt_str_inv dv
  walk_at "e"
  refine ⟨by show 2 ≤ sizeLine; decide, fun T hT => ?_⟩
  refine ⟨T, .ref L, .str z, rfl, SqT.of upd_same, _, _, by walk_at "gs", by walk_at "gs", ?_⟩
  have fT : Fr (· = b) H (upd H1 T (.tup [.ref L, .str z])) := (f0.trans f1).trans (Fr.new hT)
  have hBT : BoxAt (upd H1 T (.tup [.ref L, .str z])) b := hB1.fr (Fr.new hT)
  have hLT : upd H1 T (.tup [.ref L, .str z]) L = some (.lst []) := (f1.trans (Fr.new hT)) _ _ nL hL0
  generalize upd H1 T (.tup [.ref L, .str z]) = H2 at fT hBT hLT ⊢
  refine rb_cons ?_
  refine rs_for_range c (by walk_at "gm") .loc (by walk_at "gm") (by walk_at "gm") zr ?_
  walk_at "e"
  refine re_call c dT (by decide) (by walk_at "gm") ?_
  walk_at "e"
  refine ⟨b, m + 1, rfl, hBT, by omega, by omega, fun n H3 n0 n1 f3 hB3 => ?_⟩
  walk_at "e"
  refine ⟨by omega, by omega, ?_⟩
  refine ⟨fun i σ H' => Fr (· = b) H H' ∧ BoxAt H' b ∧ ∃ (ls : List Str) (z : Str) (s5 s6 : Option V), ls.length ≤ i ∧ (∀ l ∈ ls, Low8 l) ∧ Low8 z ∧ H' L = some (.lst (ls.map V.str)) ∧ σ = [some (.ref b), some (.int m), some (.ref L), some (.str z), s5, s6, none, none, none],
    ⟨fT.trans f3, hB3, [], z, none, none, Nat.le_refl _, (fun _ h => by cases h), hz, f3 _ _ nL hLT, rfl⟩, fun _ _ _ _ _ => trivial, ?_, ?_⟩
  · rintro i y σ H4 hi rfl ⟨f4, hB4, ls, z, s5, s6, hll, hls, hz, hL4, rfl⟩
    refine ⟨_, by walk_at "gs", ?_⟩
    walk_at "e0"
    refine re_call c dT (by decide) (by walk_at "gm") ?_
    walk_at "e"
    refine ⟨b, 4, rfl, hB4, by decide, by decide, fun w H5 w0 w1 f5 hB5 => ?_⟩
    walk_at "e"
    refine rb_cons ?_
    refine rs_cut (fun σ H2 => ∃ (z : Str), Low8 z ∧ Fr (· = b) H5 H2 ∧ BoxAt H2 b ∧ σ = [some (.ref b), some (.int m), some (.ref L), some (.str z), some (.int (i : Int)), some (.int w), none, none, none]) ?_ fun go => ?_
    · rintro σ H6 ⟨z2, hz2, f6, hB6, rfl⟩
      have hL6 : H6 L = some (.lst (ls.map V.str)) := (f5.trans f6) _ _ nL hL4
      have hl64 : (ls.map V.str).length < sizeLine := by rw [List.length_map]; exact Nat.lt_of_le_of_lt (show ls.length ≤ 64 by omega) (by decide)
      walk_at "e0"
      refine re_lc_list c lq_rows_c0 (by decide +kernel) ?_
      walk_at "e"
      refine ⟨_, _, rfl, SqL.of hL6, cturns_filter (f := onS fun a => decide (a = z2)) hl64 (SqL.of hL6) (by walk_at "gm") (fun y => by walk_at "gs") ?_ ?_⟩
      · rintro y H' hy hf s Hb C cl fp cb
        obtain ⟨a, ha, rfl⟩ := List.mem_map.mp hy
        walk_at "g"
        exact ⟨rfl, Fr.refl⟩
      · rintro Dn H7 hD f7 hd
        have hB7 := hB6.fr f7
        have hL7 := f7 _ _ (fun z => z) hL6
        walk_at "e"
        refine lv_lenL (SqL.of hd) ?_
        walk_at "e"
        refine ite2 (fun e => ?_) (fun e => ?_)
        · refine rb_cons (rs_app c (by walk_at "gm") .loc (by walk_at "gs") hL7 ?_)
          walk_at "e"
          refine ⟨_, hL7, by rw [List.length_map]; exact Nat.lt_of_le_of_lt (show ls.length ≤ 64 by omega) (by decide), ?_⟩
          walk_at "e"
          refine ⟨fun a u na ea => ?_, hB7.put nL, ls ++ [z2], z2, _, _, by rw [List.length_append, List.length_singleton]; omega, ?_, hz2, ?_, rfl⟩
          · by_cases e2 : a = L
            · rw [e2, hL] at ea
              cases ea
            · rw [upd_ne e2]
              exact (((f4.trans f5).trans f6).trans f7.any) a u na ea
          · intro l hl
            rcases List.mem_append.mp hl with hl | hl
            · exact hls l hl
            · rw [List.mem_singleton.mp hl]
              exact hz2
          · rw [upd_same, List.map_append]
            rfl
        · walk_at "e"
          exact ⟨((f4.trans f5).trans f6).trans f7.any, hB7, ls, z2, _, _, by omega, hls, hz2, hL7, rfl⟩
    have zl8 := hz.2
    have oz : ("z" : Str).length = 1 := by decide +kernel
    have lz : Low ("z" : Str) := fun c hc => by
      have : ("z" : Str).cps.toList = [122] := by decide +kernel
      rw [this] at hc
      rw [List.mem_singleton.mp hc]
      exact ⟨by decide, by decide⟩
    have ps : ∀ {s : Str}, (s.cps.toList.all (fun c => decide (97 ≤ c) && decide (c ≤ 122)) && decide (s.length = 1)) = true → ∃ z, D.str s = .str z ∧ Low z ∧ z.length = 1 := fun {s} h => by
      rw [Bool.and_eq_true] at h
      refine ⟨s, rfl, fun c hc => ?_, of_decide_eq_true h.2⟩
      have := List.all_eq_true.mp h.1 c hc
      rw [Bool.and_eq_true] at this
      exact ⟨of_decide_eq_true this.1, of_decide_eq_true this.2⟩
    have lowa : ∀ {u v : Str}, Low u → Low v → Low (u ++ v) := fun {u v} hu hv ch hc => by
      rw [tl_app] at hc
      rcases List.mem_append.mp hc with hc | hc
      · exact hu ch hc
      · exact hv ch hc
    have lowt : ∀ {u : Str} (k : Nat), Low u → Low (cutS u none (some (k : Int))) ∧ (cutS u none (some (k : Int))).length ≤ k := fun {u} k hu => by
      refine ⟨fun ch hc => ?_, ?_⟩
      · rw [cut_to] at hc
        exact hu ch (List.mem_of_mem_take hc)
      · rw [str_len, cut_to, List.length_take]
        omega
    refine rs_if (rt_mono (Q := fun cc H1 => H1 = H5 ∧ (cc = true → z.length < 8)) ?_ ?_)
    · refine rt_bool (rw_and ?_)
      walk_at "e"
      refine ite2 (fun e => ?_) (fun e => ?_)
      · walk_at "e"
        refine lv_lenS (sz30 (by omega)) ?_
        walk_at "e"
        exact ⟨rfl, fun e => by have := of_decide_eq_true e; omega⟩
      · exact ⟨rfl, fun z => nomatch z⟩
    · rintro cc H6 ⟨rfl, hc⟩
      refine ite2 (fun e => ?_) (fun e => ?_)
      · have h8 := hc e
        refine rb_cons (rs_set c (by walk_at "gm") .cell (by walk_at "gm") ?_)
        refine re_bin ?_
        walk_at "e"
        refine re_pickI (P := fun d => ∃ z, d = .str z ∧ Low z ∧ z.length = 1) c (by decide) dP (by walk_at "gm") (by walk_at "gm") .loc (by walk_at "gs") hB5 (.cons (fun _ _ => rfl) (it_de .str (ps (by decide +kernel))) (.cons (fun _ _ => rfl) (it_de .str (ps (by decide +kernel))) .nil)) (by decide) (by decide) fun v d H7 hd dv f7 hB7 => ?_
        obtain ⟨s, rfl, hs, s1⟩ := hd
        obtain rfl := dt_str_inv dv
        refine ov_adds (sz30 (by omega)) ?_
        refine ⟨_, by walk_at "gs", ?_⟩
        walk_at "e"
        exact go _ _ ⟨z ++ s, ⟨lowa hz.1 hs, by rw [len_app]; omega⟩, f7, hB7, rfl⟩
      walk_at "e"
      walk_at "e0"
      refine ite2 (fun e => ?_) (fun e => ?_)
      · walk_at "e0"
        refine lv_lenS (sz30 (by omega)) ?_
        walk_at "e"
        by_cases z0 : z.length = 0
        · refine sv_str (sz30 (by omega)) ?_
          have hcut : Low (cutS z none (some ((z.length : Int) - 1))) ∧ (cutS z none (some ((z.length : Int) - 1))).length ≤ 0 := by
            have zn : z.cps.toList = [] := List.eq_nil_of_length_eq_zero (by rw [← str_len]; exact z0)
            have e9 : (cutS z none (some ((z.length : Int) - 1))).cps.toList = [] := by
              show ((z.cps.toList.drop _).take _) = _
              rw [zn]
              simp
            refine ⟨fun ch hc => ?_, by rw [str_len, e9]; exact Nat.le_refl _⟩
            rw [e9] at hc
            cases hc
          generalize cutS z none (some ((z.length : Int) - 1)) = y at hcut ⊢
          walk_at "e"
          refine ov_adds (sz30 (by omega)) ?_
          walk_at "e"
          exact go _ _ ⟨y ++ "z", ⟨lowa hcut.1 lz, by rw [len_app]; omega⟩, Fr.refl, hB5, rfl⟩
        · obtain ⟨k, e9⟩ : ∃ k : Nat, (z.length : Int) - 1 = (k : Int) := ⟨z.length - 1, by omega⟩
          rw [e9]
          refine sv_str (sz30 (by omega)) ?_
          have hcut := lowt k hz.1
          generalize cutS z none (some (k : Int)) = y at hcut ⊢
          walk_at "e"
          refine ov_adds (sz30 (by omega)) ?_
          walk_at "e"
          exact go _ _ ⟨y ++ "z", ⟨lowa hcut.1 lz, by rw [len_app]; omega⟩, Fr.refl, hB5, rfl⟩
      walk_at "e"
      walk_at "e0"
      refine ite2 (fun e => ?_) (fun e => ?_)
      · walk_at "e0"
        refine re_call c dT (by decide) (by walk_at "gm") ?_
        walk_at "e"
        refine ⟨b, 8, rfl, hB5, by decide, by decide, fun x H7 x0 x1 f7 hB7 => ?_⟩
        walk_at "e"
        obtain ⟨k, e9⟩ : ∃ k : Nat, 1 + x = (k : Int) := ⟨(1 + x).toNat, by omega⟩
        rw [e9]
        have l8 : Low ("zzzzzzzz" : Str) := fun ch hc => by
          have : ("zzzzzzzz" : Str).cps.toList = [122, 122, 122, 122, 122, 122, 122, 122] := by decide +kernel
          rw [this] at hc
          simp only [List.mem_cons, List.not_mem_nil, or_false, or_self] at hc
          rw [hc]
          exact ⟨by decide, by decide⟩
        refine sv_str (by decide) ?_
        have hcut := lowt k l8
        generalize cutS "zzzzzzzz" none (some (k : Int)) = y at hcut ⊢
        walk_at "e"
        exact go _ _ ⟨y, ⟨hcut.1, by omega⟩, f7, hB7, rfl⟩
      · walk_at "e0"
        refine re_call c dL (by decide) (by walk_at "gm") ?_
        walk_at "e"
        refine ⟨b, rfl, hB5, fun v d H7 hd dv f7 hB7 => ?_⟩
        obtain ⟨y, rfl, hy⟩ := hd
        obtain rfl := dt_str_inv dv
        walk_at "e"
        exact go _ _ ⟨y, hy, f7, hB7, rfl⟩
  · rintro σ H4 ⟨f4, hB4, ls, z, s5, s6, hll, hls, hz, hL4, rfl⟩
    walk_at "e0"
    refine ⟨by show 0 ≤ sizeLine; decide, fun F hF => ?_⟩
    have nF : ¬ F = b := hB4.ne hF
    have nFL : ¬ F = L := fun z => by rw [z, hL4] at hF; cases hF
    walk_at "e"
    have f5 : Fr (· = b) H (upd H4 F (.lst [])) := f4.trans (Fr.new hF)
    have hL5 : upd H4 F (.lst []) L = some (.lst (ls.map V.str)) := by rw [upd_ne (fun z => nFL z.symm)]; exact hL4
    have hF5 : upd H4 F (.lst []) F = some (.lst []) := upd_same
    have hB5 : BoxAt (upd H4 F (.lst [])) b := hB4.fr (Fr.new hF)
    generalize upd H4 F (.lst []) = H5 at f5 hL5 hF5 hB5 ⊢
    refine rb_cons ?_
    refine rs_for_list c (by walk_at "gm") .loc (by walk_at "gm") ?_
    refine re_c_sorted c (by walk_at "gm") zs ?_
    walk_at "e"
    refine lv_sortedS (SqL.of hL5) (by omega) fun ss S hp hS => ?_
    have nS : ¬ S = b := hB5.ne hS
    have nSF : ¬ S = F := fun z => by rw [z, hF5] at hS; cases hS
    have f6 : Fr (· = b) H (upd H5 S (.lst (ss.map V.str))) := f5.trans (Fr.new hS)
    have hB6 : BoxAt (upd H5 S (.lst (ss.map V.str))) b := hB5.fr (Fr.new hS)
    have hF6 : upd H5 S (.lst (ss.map V.str)) F = some (.lst []) := by rw [upd_ne (fun z => nSF z.symm)]; exact hF5
    have hS6 : upd H5 S (.lst (ss.map V.str)) S = some (.lst (ss.map V.str)) := upd_same
    generalize upd H5 S (.lst (ss.map V.str)) = H6 at f6 hB6 hF6 hS6 ⊢
    have hss : ∀ l ∈ ss, Low8 l := fun l hl => hls l (hp.mem_iff.mp hl)
    have lss : ss.length = ls.length := hp.length_eq
    have HFr : ∀ {H' : Hp}, H' F = some (.lst []) → True := fun _ => trivial
    refine ⟨S, _, rfl, SqL.of hS6, fun j σ H' => Fr (fun a => a = b ∨ a = F) H6 H' ∧ BoxAt H' b ∧ ∃ (us : List V) (rs : List Row) (s5 s6 s8 : Option V), rs.length = j ∧ (∀ r ∈ rs, RowOk r) ∧ H' F = some (.lst us) ∧ Dts X.K (fun a => a = b ∨ a = F) H' us (rs.map rowD) ∧ σ = [some (.ref b), some (.int m), some (.ref L), some (.str z), s5, s6, some (.ref F), s8, none],
      ⟨Fr.refl, hB6, [], [], s5, s6, none, rfl, (fun _ h => by cases h), hF6, Dts.nil, rfl⟩, fun j σ H' _ h => SqL.of (h.1 _ _ (fun z => by rcases z with z | z; exact nS z; exact nSF z) hS6), ?_, ?_⟩
    · rintro j y σ H7 hj hy ⟨f7, hB7, us, rs, s5, s6, s8, hrl, hrs, hF7, hus, rfl⟩
      obtain ⟨l, e1, rfl⟩ : ∃ z, ss[j]? = some z ∧ y = .str z := by
        rw [List.getElem?_map] at hy
        cases e : ss[j]? with
        | none => rw [e] at hy; cases hy
        | some z => rw [e] at hy; exact ⟨z, rfl, (Option.some.inj hy).symm⟩
      have hl := hss l (List.mem_of_getElem? e1)
      have hj2 : j < ss.length := by simpa using hj
      have lus : us.length = j := by rw [hus.1, List.length_map, hrl]
      refine ⟨_, by walk_at "gs", ?_⟩
      refine rb_cons (rs_app c (by walk_at "gm") .loc (by walk_at "gs") hF7 ?_)
      have fin : ∀ (u : V) (d : D) (bs : List Int) H8, Ent1 d bs → Dt X.K (fun a => a = b ∨ a = F) H8 u d → Fr (fun a => a = b ∨ a = F) H7 H8 → H8 F = some (.lst us) → BoxAt H8 b → ∀ p, H8 p = none → ∃ xs', upd H8 p (.tup [.str l, u]) F = some (.lst xs') ∧ xs'.length < sizeLine ∧
          (Fr (fun a => a = b ∨ a = F) H6 (upd (upd H8 p (.tup [.str l, u])) F (.lst (xs' ++ [.ref p]))) ∧ BoxAt (upd (upd H8 p (.tup [.str l, u])) F (.lst (xs' ++ [.ref p]))) b ∧ ∃ (us : List V) (rs : List Row) (s5' s6' s8' : Option V), rs.length = j + 1 ∧ (∀ r ∈ rs, RowOk r) ∧ upd (upd H8 p (.tup [.str l, u])) F (.lst (xs' ++ [.ref p])) F = some (.lst us) ∧
            Dts X.K (fun a => a = b ∨ a = F) (upd (upd H8 p (.tup [.str l, u])) F (.lst (xs' ++ [.ref p]))) us (rs.map rowD) ∧ [some (.ref b), some (.int m), some (.ref L), some (.str z), s5, s6, some (.ref F), some (V.str l), none] = [some (.ref b), some (.int m), some (.ref L), some (.str z), s5', s6', some (.ref F), s8', none]) := by
        intro u d bs H8 hE hu f8 hF8 hB8 p hp
        have np : ¬ p = F := fun z => by rw [z, hF8] at hp; cases hp
        have npb : ¬ p = b := hB8.ne hp
        have g : Fr (fun a => a = b ∨ a = F) H8 (upd H8 p (.tup [.str l, u])) := Fr.new hp
        have g2 : Fr (fun a => a = b ∨ a = F) (upd H8 p (.tup [.str l, u])) (upd (upd H8 p (.tup [.str l, u])) F (.lst (us ++ [.ref p]))) := fun a o n e => by rw [upd_ne (fun z => n (.inr z))]; exact e
        have nb : ¬ p = b ∧ ¬ p = F := ⟨npb, np⟩
        refine ⟨us, by rw [upd_ne (fun z => np z.symm)]; exact hF8, by rw [lus]; exact Nat.lt_of_le_of_lt (show j ≤ 64 by omega) (by decide), (f7.trans f8).trans (g.trans g2), ?_, us ++ [.ref p], rs ++ [(l, d, bs)], s5, s6, some (V.str l), by rw [List.length_append, List.length_singleton, hrl], ?_, upd_same, ?_, rfl⟩
        · exact (hB8.put npb).put (fun z => nF z)
        · intro r hr
          rcases List.mem_append.mp hr with hr | hr
          · exact hrs r hr
          · rw [List.mem_singleton.mp hr]
            exact ⟨hl.l, hE⟩
        · rw [List.map_append]
          refine dts_app (hus.fr (f8.trans (g.trans g2))) (.cons ?_ .nil)
          exact (Dt.newT hp (fun z => by rcases z with z | z; exact npb z; exact np z) (.cons .str (.cons hu .nil))).fr g2
      have ob : ∀ {H1 H2 : Hp}, Fr (· = b) H1 H2 → Fr (fun a => a = b ∨ a = F) H1 H2 := fun f => f.sub fun a h => .inl h
      walk_at "e"
      refine re_call c dT (by decide) (by walk_at "gm") ?_
      walk_at "e"
      refine ⟨b, 2, rfl, hB7, by decide, by decide, fun w H8 w0 w1 f8 hB8 => ?_⟩
      have hF8 := f8 _ _ nF hF7
      walk_at "e"
      refine ite2 (fun e => ?_) (fun e => ?_)
      · walk_at "e"
        refine re_call c dN (by decide) (by walk_at "gm") ?_
        walk_at "e"
        refine ⟨b, rfl, hB8, fun k H9 k0 k1 f9 hB9 => ?_⟩
        obtain ⟨k, rfl, wk⟩ := nat_of k0 k1
        have hF9 := f9 _ _ nF hF8
        walk_at "e"
        refine ⟨by show 2 ≤ sizeLine; decide, fun p hp => ?_⟩
        have np : ¬ p = F := fun z => by rw [z, hF9] at hp; cases hp
        have npb : ¬ p = b := hB9.ne hp
        walk_at "e"
        refine ⟨by show 2 ≤ sizeLine; decide, fun p2 hp2 => ?_⟩
        obtain ⟨xs', a1, a2, a3⟩ := fin (.ref p) _ _ (upd H9 p (.tup [.str "value", .int (k : Int)])) (.val k wk) (Dt.newT hp (fun z => by rcases z with z | z; exact npb z; exact np z) (.cons .str (.cons .int .nil))) ((ob (f8.trans f9)).trans (Fr.new hp)) (by rw [upd_ne (fun z => np z.symm)]; exact hF9) (hB9.fr (Fr.new hp)) p2 hp2
        refine ⟨xs', a1, a2, ?_⟩
        walk_at "e"
        exact a3
      · walk_at "e"
        refine re_call c dM (by decide) (by walk_at "gm") ?_
        walk_at "e"
        refine ⟨b, 2, rfl, by decide, by decide, hB8, fun v d H9 hd dv f9 hB9 => ?_⟩
        obtain ⟨bs, hN⟩ := hd
        have hF9 := f9 _ _ nF hF8
        walk_at "e"
        refine ⟨by show 2 ≤ sizeLine; decide, fun p hp => ?_⟩
        have np : ¬ p = F := fun z => by rw [z, hF9] at hp; cases hp
        have npb : ¬ p = b := hB9.ne hp
        walk_at "e"
        refine ⟨by show 2 ≤ sizeLine; decide, fun p2 hp2 => ?_⟩
        have dv2 : Dt X.K (fun a => a = b ∨ a = F) H9 v d := by
          cases hN with
          | mk zs hz lz =>
            obtain ⟨t, rfl, nt, ht⟩ := dt_strs dv
            exact Dt.ofT (fun z => by rcases z with z | z; exact nt z; (rw [z, hF9] at ht; cases ht)) ht (dts_strs zs)
        obtain ⟨xs', a1, a2, a3⟩ := fin (.ref p) _ _ (upd H9 p (.tup [.str "name", v])) (.nm hN) (Dt.newT hp (fun z => by rcases z with z | z; exact npb z; exact np z) (.cons .str (.cons dv2 .nil))) ((ob (f8.trans f9)).trans (Fr.new hp)) (by rw [upd_ne (fun z => np z.symm)]; exact hF9) (hB9.fr (Fr.new hp)) p2 hp2
        refine ⟨xs', a1, a2, ?_⟩
        walk_at "e"
        exact a3
    · rintro σ H7 ⟨f7, hB7, us, rs, s5, s6, s8, hrl, hrs, hF7, hus, rfl⟩
      rw [List.length_map] at hrl
      have f8 : Fr (· = b) H H7 := fun a u na ea => by
        refine f7 a u (fun z => ?_) (f6 a u na ea)
        rcases z with z | z
        · exact na z
        · subst z
          have := f4 _ _ na ea
          rw [hF] at this
          cases this
      walk_at "e0"
      refine lv_tupL (SqL.of hF7) fun l hl => ?_
      have nl : ¬ l = F := fun z => by rw [z, hF7] at hl; cases hl
      refine q _ rs _ hrs (by omega) ((Dt.newT hl (fun z => by rcases z with z | z; exact hB7.ne hl z; exact nl z) hus).mono fun a h => .inl h) (f8.trans (Fr.new hl)) (hB7.fr (Fr.new hl))
end
local macro_rules | `(tactic| walk_at "its") => `(tactic| repeat (first | exact ItL.nil | refine ItL.cons (fun _ _ => rfl) (it_de (by walk_at "de") (pz (by decide))) ?_))
local macro_rules | `(tactic| walk_at "gg") => `(tactic| repeat (first | walk_at "g1" | refine iteD rfl ?_ | refine iteDN (by decide +kernel) ?_))
theorem enc_01 {d : D} (h : ER (EncI 0) d) : ER (EncI 1) d := by
  obtain ⟨bs, h⟩ := h
  cases h with
  | mk a b c hb hc => exact ⟨_, .mk a b c hb hc⟩
theorem enc_0n {d : D} (h : ER (EncI 0) d) : d ≠ .non := by
  obtain ⟨bs, h⟩ := h
  cases h with
  | mk a b c hb hc => exact fun z => nomatch z
def spWords : Sp := fun vs H Q _ => ∃ (j : Nat) (k : Str) (ws : List Str), vs = [.int (j : Int)] ∧ kindTab[j]? = some (k, ws) ∧ ∀ l H', Fr NoB H H' → H' l = some (.lst (ws.map V.str)) → Q (.ref l) H'
def spKinds : Sp := fun vs H Q _ => vs = [] ∧ ∀ l, H l = none → Q (.ref l) (upd H l (.lst (KINDSL.map V.str)))
def spPiece (K : PySem.W.Frag) : Sp := fun vs H Q _ => ∃ (b : Addr) (w : Str) (m : Int), vs = [.ref b, .str w, .int m] ∧ w ∈ WORDS ∧ 0 < m ∧ m ≤ 6 ∧ BoxAt H b ∧ ∀ v d H', ER (EncP w) d → Dt K (· = b) H' v d → Fr (· = b) H H' → BoxAt H' b → Q v H'
def spEvent (K : PySem.W.Frag) : Sp := fun vs H Q _ => ∃ (b : Addr) (j : Nat) (m : Int), vs = [.ref b, .int (j : Int), .int m] ∧ j < 11 ∧ 0 < m ∧ m ≤ 6 ∧ BoxAt H b ∧ ∀ v d H', ER EncV d → Dt K (· = b) H' v d → Fr (· = b) H H' → BoxAt H' b → Q v H'
section
variable {X : Cx} {vs : List V} {H : Hp} {Q : VK} {E : XK}
theorem body_entry (c : Ctx X nq_entry lq_entry 5) (dT : DT X "_law_take" ["box", "many"] 1 spTake) (dP : DT X "_law_pick" ["box", "some"] 2 (spPick X.K)) (dN : DT X "_law_number" ["box"] 3 spNum) (dM : DT X "_law_name" ["box", "most"] 4 (spDrM (ER EncN) X.K))
    (dR : DT X "_law_rows" ["box", "most"] 5 (spRows X.K)) (h : spDrM (ER EncE) X.K vs H Q E) : RB X (defBody sq_entry) { nx := fun _ H' => Q .non H', rt := Q } (start nq_entry vs) H := by
  obtain ⟨b, m, rfl, m0, m12, hB, q⟩ := h
  show RB X (defBody sq_entry) _ [some (.ref b), some (.int m), none] H
  walk_at "e0"
  refine re_call c dT (by decide) (by walk_at "gm") ?_
  walk_at "e"
  refine ⟨b, 4, rfl, hB, by decide, by decide, fun w H1 w0 w1 f1 hB1 => ?_⟩
  walk_at "e"
  walk_at "e0"
  refine ite2 (fun e => ?_) (fun e => ?_)
  · walk_at "e0"
    exact q _ .non _ ⟨_, .non⟩ .non f1 hB1
  walk_at "e"
  walk_at "e0"
  refine ite2 (fun e => ?_) (fun e => ?_)
  · walk_at "e0"
    refine re_pickI (P := PZ 0 (2 ^ 31 - 1)) c (by decide) dP (by walk_at "gm") (by walk_at "gm") .loc (by walk_at "gs") hB1 (by
      walk_at "its"
      exact .cons (fun _ _ => rfl) (it_num (by decide) (by decide) c (by decide) dN (by walk_at "gm") (by walk_at "gm") .loc (by walk_at "gs")) .nil) (by decide) (by decide) fun v d H2 hd dv f2 hB2 => ?_
    obtain ⟨i, rfl, i0, i1⟩ := hd
    obtain rfl := dt_int_inv dv
    obtain ⟨k, rfl, wk⟩ := nat_of i0 (by omega)
    walk_at "e"
    refine ⟨by show 2 ≤ sizeLine; decide, fun p hp => ?_⟩
    exact q _ _ _ ⟨_, .one (.val k wk)⟩ (Dt.newT hp (hB2.ne hp) (.cons .str (.cons .int .nil))) ((f1.trans f2).trans (Fr.new hp)) (hB2.fr (Fr.new hp))
  walk_at "e"
  walk_at "e0"
  refine ite2 (fun e => ?_) (fun e => ?_)
  · walk_at "e0"
    refine re_call c dM (by decide) (by walk_at "gm") ?_
    walk_at "e"
    refine ⟨b, m, rfl, m0, m12, hB1, fun v d H2 hd dv f2 hB2 => ?_⟩
    obtain ⟨bs, hN⟩ := hd
    walk_at "e"
    refine ⟨by show 2 ≤ sizeLine; decide, fun p hp => ?_⟩
    exact q _ _ _ ⟨_, .one (.nm hN)⟩ (Dt.newT hp (hB2.ne hp) (.cons .str (.cons dv .nil))) ((f1.trans f2).trans (Fr.new hp)) (hB2.fr (Fr.new hp))
  walk_at "e"
  walk_at "e0"
  refine re_call c dT (by decide) (by walk_at "gm") ?_
  walk_at "e"
  refine ⟨b, 32, rfl, hB1, by decide, by decide, fun i H2 i0 i1 f2 hB2 => ?_⟩
  walk_at "e"
  refine re_call c dR (by decide) (by walk_at "gm") ?_
  walk_at "e"
  refine ⟨b, m, rfl, m0, m12, hB2, fun v rs H3 hrs lrs dv f3 hB3 => ?_⟩
  walk_at "e"
  refine ⟨by show 3 ≤ sizeLine; decide, fun p hp => ?_⟩
  exact q _ _ _ ⟨_, .page i rs hrs lrs⟩ (Dt.newT hp (hB3.ne hp) (.cons .str (.cons .int (.cons dv .nil)))) (((f1.trans f2).trans f3).trans (Fr.new hp)) (hB3.fr (Fr.new hp))
theorem body_answer (c : Ctx X nq_answer lq_answer 5) (zr : X.mg "range" = none) (zt : X.mg "tuple" = none) (dT : DT X "_law_take" ["box", "many"] 1 spTake) (dP : DT X "_law_pick" ["box", "some"] 2 (spPick X.K)) (dN : DT X "_law_number" ["box"] 3 spNum) (dI : DT X "_law_id" ["box"] 4 (spDr (ER (EncI 0)) X.K)) (dM : DT X "_law_name" ["box", "most"] 4 (spDrM (ER EncN) X.K))
    (h : spDrM (ER EncA) X.K vs H Q E) : RB X (defBody sq_answer) { nx := fun _ H' => Q .non H', rt := Q } (start nq_answer vs) H := by
  obtain ⟨b, m, rfl, m0, m12, hB, q⟩ := h
  show RB X (defBody sq_answer) _ [some (.ref b), some (.int m), none, none] H
  refine rb_cons (rs_set c (by walk_at "gm") .loc (by walk_at "gm") ?_)
  refine re_pickI (P := ER EncH) c (by decide) dP (by walk_at "gm") (by walk_at "gm") .cell (by walk_at "gs") hB
    (.cons (fun _ _ => rfl) ?_ (.cons (fun _ _ => rfl) (it_de (d := .tup [.str "nothing"]) (by walk_at "de") ⟨_, .nothing⟩) (.cons (fun _ _ => rfl) (it_de (d := .tup [.str "long"]) (by walk_at "de") ⟨_, .long⟩) (.cons (fun _ _ => rfl) (it_de (d := .tup [.str "far"]) (by walk_at "de") ⟨_, .far⟩) (.cons (fun _ _ => rfl) ?_ (.cons (fun _ _ => rfl) (it_de (d := .tup [.str "page", .int 31, .tup []]) (by walk_at "de") ⟨_, .page 31 .emp (fun z => nomatch z)⟩) .nil)))))) (by decide) (by decide) fun v d H1 hd dv f1 hB1 => ?_
  · intro H3 K f hB3 k
    walk_at "e"
    refine re_call c dN (by decide) (by walk_at "gm") ?_
    walk_at "e"
    refine ⟨b, rfl, hB3, fun i H4 i0 i1 f4 hB4 => ?_⟩
    obtain ⟨n, rfl, wn⟩ := nat_of i0 i1
    walk_at "e"
    exact ⟨by show 2 ≤ sizeLine; decide, fun p hp => k _ (.tup [.str "value", .int (n : Int)]) _ ⟨_, .value n wn⟩ (f4.trans (Fr.new hp)) (hB4.fr (Fr.new hp)) (Dt.newT hp (hB4.ne hp) (.cons .str (.cons .int .nil)))⟩
  · intro H3 K f hB3 k
    walk_at "e"
    refine re_call c dT (by decide) (by walk_at "gm") ?_
    walk_at "e"
    refine ⟨b, 32, rfl, hB3, by decide, by decide, fun i H4 i0 i1 f4 hB4 => ?_⟩
    walk_at "e"
    refine re_call c dI (by decide) (by walk_at "gm") ?_
    walk_at "e"
    refine ⟨b, rfl, hB4, fun v d H5 hd dv f5 hB5 => ?_⟩
    obtain ⟨bs, h1⟩ := enc_01 hd
    walk_at "e"
    exact ⟨by show 3 ≤ sizeLine; decide, fun p hp => k _ (.tup [.str "page", .int i, d]) _ ⟨_, .page i (.id h1) (enc_0n hd)⟩ ((f4.trans f5).trans (Fr.new hp)) (hB5.fr (Fr.new hp)) (Dt.newT hp (hB5.ne hp) (.cons .str (.cons .int (.cons dv .nil))))⟩
  obtain ⟨hb, hH⟩ := hd
  refine ⟨_, by walk_at "gs", ?_⟩
  walk_at "e0"
  refine re_lc_range c lq_answer_c0 (by decide +kernel) (by walk_at "gm") zr ?_
  refine re_call c dT (by decide) (by walk_at "gm") ?_
  walk_at "e"
  refine ⟨b, m + 1, rfl, hB1, by omega, by omega, fun x H2 x0 x1 f2 hB2 => ?_⟩
  have ff := f1.trans f2
  refine ⟨x, rfl, by omega, by omega, fun Dn hD => ?_⟩
  refine ⟨fun i H' => ∃ (us : List V) (ns : List (D × List Int)), ns.length = i ∧ (∀ n ∈ ns, EncN n.1 n.2) ∧ H' Dn = some (.lst us) ∧ Dts X.K (fun a => a = b ∨ a = Dn) H' us (ns.map (·.1)) ∧ BoxAt H' b ∧ Fr (· = b) H2 H', ⟨[], [], rfl, (fun _ h => by cases h), upd_same, Dts.nil, hB2.fr (Fr.new hD), Fr.new hD⟩, fun _ _ _ _ => trivial, ?_, ?_⟩
  · rintro i y H' hi rfl ⟨us, ns, h1, h2, h3, hus, h4, h5⟩
    refine ⟨_, by walk_at "gs", fun s Hb C cl fp cb => rts_nil (iteT fun s Hb C cl fp cb => ?_)⟩
    refine re_call cb dM (by decide) (by walk_at "gm") ?_
    walk_at "e"
    refine ⟨b, 2, rfl, by decide, by decide, h4, fun v d H'' hd dv f5 hB5 => ?_⟩
    obtain ⟨bs, hN⟩ := hd
    have e : Dn ≠ b := hB2.ne hD
    have lus : us.length = i := by rw [hus.1, List.length_map, h1]
    have hD5 := f5 _ _ e h3
    have dv2 : Dt X.K (fun a => a = b ∨ a = Dn) H'' v d := by
      cases hN with
      | mk zs hz lz =>
        obtain ⟨t, rfl, nt, ht⟩ := dt_strs dv
        exact Dt.ofT (fun z => by rcases z with z | z; exact nt z; (rw [z, hD5] at ht; cases ht)) ht (dts_strs zs)
    refine ⟨_, hD5, by rw [lus]; exact Nat.lt_of_le_of_lt (by omega : i ≤ 20) (by decide), us ++ [v], ns ++ [(d, bs)], by simp [h1], ?_, upd_same, ?_, hB5.put e, ?_⟩
    · intro c hc
      rcases List.mem_append.mp hc with hc | hc
      · exact h2 c hc
      · rw [List.mem_singleton.mp hc]
        exact hN
    · rw [List.map_append]
      have g2 : Fr (fun a => a = b ∨ a = Dn) H'' (upd H'' Dn (.lst (us ++ [v]))) := fun a o n e => by rw [upd_ne (fun z => n (.inr z))]; exact e
      exact dts_app (hus.fr ((f5.sub fun a h => .inl h).trans g2)) (.cons (dv2.fr g2) .nil)
    · exact fun a u na ea => by
        rw [upd_ne (fun z => by rw [z, hD] at ea; cases ea)]
        exact (h5.trans f5) a u na ea
  · rintro H' ⟨us, ns, h1, h2, h3, hus, h4, h5⟩
    walk_at "e"
    refine lv_tupL (SqL.of h3) fun l hl => ?_
    have nl := h4.ne hl
    have hl2 := Dt.newT (B := (· = b)) hl nl (hus.mono fun a h => .inl h)
    have g1 : Fr NoB H' (upd H' l (.tup us)) := Fr.new hl
    have hB9 := h4.fr g1
    generalize upd H' l (.tup us) = H9 at g1 hl2 hB9 ⊢
    walk_at "e"
    refine ⟨by show 2 ≤ sizeLine; decide, fun p hp => ?_⟩
    have dv9 : Dt X.K (· = b) H9 v d := ((dv.fr f2).fr h5).fr g1.any
    exact q _ (.tup [d, .tup (ns.map (·.1))]) _ ⟨_, .mk ns hH h2 (by omega)⟩ (Dt.newT hp (hB9.ne hp) (.cons dv9 (.cons hl2 .nil))) (((ff.trans h5).trans g1.any).trans (Fr.new hp)) (hB9.fr (Fr.new hp))
theorem body_kinds (c : Ctx X nq_kinds lq_kinds 0) (h : spKinds vs H Q E) : RB X (defBody sq_kinds) { nx := fun _ H' => Q .non H', rt := Q } (start nq_kinds vs) H := by
  obtain ⟨rfl, q⟩ := h
  show RB X (defBody sq_kinds) _ [] H
  walk_at "e0"
  exact ⟨by show 11 ≤ sizeLine; decide, fun p hp => q p hp⟩
theorem body_words (c : Ctx X nq_words lq_words 0) (h : spWords vs H Q E) : RB X (defBody sq_words) { nx := fun _ H' => Q .non H', rt := Q } (start nq_words vs) H := by
  obtain ⟨j, k, ws, rfl, hj, q⟩ := h
  show RB X (defBody sq_words) _ [some (.int (j : Int)), none, none] H
  refine rb_cons (rs_set c (by walk_at "gm") .loc (by walk_at "gm") ?_)
  refine re_de (d := .lst [.str "term", .str "node"]) (by walk_at "de") _ _ _ fun v1 H1 f1 hv1 => ?_
  refine ⟨_, by walk_at "gs", ?_⟩
  refine rb_cons (rs_set c (by walk_at "gm") .loc (by walk_at "gm") ?_)
  refine re_de (d := .lst [.lst [.str "kept"], .lst [], .lst [.str "node"], .lst [.str "id"], .lst [.str "term", .str "label", .str "entry"], .lst [.str "term", .str "label", .str "fraction", .str "node"], .lst [.str "id", .str "node"], .lst [.str "id"]]) (by walk_at "de") _ _ _ fun v2 H2 f2 hv2 => ?_
  refine ⟨_, by walk_at "gs", ?_⟩
  have hv1' := (hv1.mono (B' := NoB) fun a e => e.elim).fr f2
  have hv2' := hv2.mono (B' := NoB) fun a e => e.elim
  cases hv2' with
  | @lst a2 us2 _ n2 t2 l2 h2 =>
  walk_at "e0"
  refine ⟨by show 3 ≤ sizeLine; decide, fun p3 hp3 => ?_⟩
  have f3 : Fr NoB H2 (upd H2 p3 (.lst [.str "name", .str "most", .str "answer"])) := Fr.new hp3
  have hv3 : Dt X.K NoB (upd H2 p3 (.lst [.str "name", .str "most", .str "answer"])) (.ref p3) (.lst [.str "name", .str "most", .str "answer"]) := Dt.newL hp3 (fun z => z) (.cons .str (.cons .str (.cons .str .nil)))
  generalize upd H2 p3 (.lst [.str "name", .str "most", .str "answer"]) = H3 at f3 hv3 ⊢
  walk_at "e"
  refine ⟨by show 2 ≤ sizeLine; decide, fun p4 hp4 => ?_⟩
  have f4 : Fr NoB H3 (upd H3 p4 (.lst [.str "name", .str "most"])) := Fr.new hp4
  have hv4 : Dt X.K NoB (upd H3 p4 (.lst [.str "name", .str "most"])) (.ref p4) (.lst [.str "name", .str "most"]) := Dt.newL hp4 (fun z => z) (.cons .str (.cons .str .nil))
  generalize upd H3 p4 (.lst [.str "name", .str "most"]) = H4 at f4 hv4 ⊢
  walk_at "e"
  refine ⟨by show 3 ≤ sizeLine; decide, fun p hp => ?_⟩
  have f5 : Fr NoB H4 (upd H4 p (.lst [v1, .ref p3, .ref p4])) := Fr.new hp
  have h24 : upd H4 p (.lst [v1, .ref p3, .ref p4]) a2 = some (.lst us2) := (f3.trans (f4.trans f5)) _ _ (fun z => z) t2
  have lu : us2.length = 8 := l2
  refine ov_cat h24 upd_same (by rw [lu]; show 8 + 3 ≤ sizeLine; decide) fun l hl => ?_
  have all : Dts X.K NoB (upd H4 p (.lst [v1, .ref p3, .ref p4])) (us2 ++ [v1, .ref p3, .ref p4]) (kindTab.map fun x => .lst (x.2.map D.str)) := by
    refine dts_app (ds := [.lst [.str "kept"], .lst [], .lst [.str "node"], .lst [.str "id"], .lst [.str "term", .str "label", .str "entry"], .lst [.str "term", .str "label", .str "fraction", .str "node"], .lst [.str "id", .str "node"], .lst [.str "id"]]) (es := [.lst [.str "term", .str "node"], .lst [.str "name", .str "most", .str "answer"], .lst [.str "name", .str "most"]]) ?_ ?_
    · exact Dts.fr ⟨l2, h2⟩ (f3.trans (f4.trans f5))
    · exact .cons (hv1'.fr (f3.trans (f4.trans f5))) (.cons ((hv3.mono (B' := NoB) fun a e => e.elim).fr (f4.trans f5)) (.cons ((hv4.mono (B' := NoB) fun a e => e.elim).fr f5) .nil))
  have f6 : Fr NoB (upd H4 p (.lst [v1, .ref p3, .ref p4])) (upd (upd H4 p (.lst [v1, .ref p3, .ref p4])) l (.lst (us2 ++ [v1, .ref p3, .ref p4]))) := Fr.new hl
  have la : (us2 ++ [v1, .ref p3, .ref p4]).length = 11 := by rw [List.length_append, lu]; rfl
  have hj2 : j < 11 := by
    rcases Nat.lt_or_ge j 11 with z | z
    · exact z
    · rw [List.getElem?_eq_none z] at hj; cases hj
  obtain ⟨u, eu⟩ : ∃ u, (us2 ++ [v1, .ref p3, .ref p4])[j]? = some u := ⟨_, List.getElem?_eq_getElem (by omega)⟩
  have hu := all.2 j u (.lst (ws.map D.str)) eu (by rw [List.getElem?_map, hj]; rfl)
  walk_at "e"
  refine iv_list (SqL.of upd_same) (at_nat eu) ?_
  cases hu with
  | @lst a vs' _ nn tt ll hh =>
    have e9 := dts_strs_inv (ls := ws) ⟨ll, hh⟩
    subst e9
    refine q a _ ?_ ?_
    · exact (((f1.trans f2).trans f3).trans (f4.trans f5)).trans f6
    · exact f6 _ _ (fun z => z) tt
end
local macro_rules | `(tactic| walk_at "its") => `(tactic| repeat (first | exact ItL.nil | refine ItL.cons (fun _ _ => rfl) (it_de (by walk_at "de") (pz (by decide))) ?_))
local macro_rules | `(tactic| walk_at "gg") => `(tactic| repeat (first | walk_at "g1" | refine iteD rfl ?_ | refine iteDN (by decide +kernel) ?_))
inductive NoL : D → Prop
  | non : NoL .non
  | int {i : Int} : NoL (.int i)
  | str {z : Str} : NoL (.str z)
  | tup {ds : List D} (h : ∀ d ∈ ds, NoL d) : NoL (.tup ds)
theorem nl_nil : ∀ d ∈ ([] : List D), NoL d := fun d h => by cases h
theorem nl_cons {x : D} {ds : List D} (h : NoL x) (t : ∀ d ∈ ds, NoL d) : ∀ d ∈ x :: ds, NoL d := fun d hd => by
  rcases List.mem_cons.mp hd with rfl | hd
  · exact h
  · exact t d hd
theorem dt_noL {K : PySem.W.Frag} {B : Addr → Prop} {H : Hp} {v : V} {d : D} {q : Addr} (h : Dt K B H v d) (n : NoL d) (hq : ∃ xs, H q = some (.lst xs)) : Dt K (fun a => B a ∨ a = q) H v d := by
  induction h with
  | non => exact .non
  | bl => exact .bl
  | int => exact .int
  | str => exact .str
  | lst n t l _ ih => cases n
  | tup nb t l _ ih =>
    cases n with
    | tup all =>
      refine .tup (fun z => ?_) t l fun i v d a b => ih i v d a b (all d (List.mem_of_getElem? b))
      rcases z with z | z
      · exact nb z
      · subst z
        obtain ⟨xs, hq⟩ := hq
        rw [hq] at t
        cases t
theorem nl_I {m : Int} {d : D} {bs : List Int} (h : EncI m d bs) : NoL d := by
  cases h with
  | mk a b c hb hc => exact .tup (nl_cons .int (nl_cons .int (nl_cons .int nl_nil)))
theorem nl_T {d : D} {bs : List Int} (h : EncT d bs) : NoL d := by
  cases h with
  | non => exact .non
  | emp => exact .tup nl_nil
  | id h => exact nl_I h
theorem nl_N {d : D} {bs : List Int} (h : EncN d bs) : NoL d := by
  cases h with
  | mk zs h l =>
    refine .tup fun d hd => ?_
    obtain ⟨z, _, rfl⟩ := List.mem_map.mp hd
    exact .str
theorem nl_F {d : D} {bs : List Int} (h : EncF d bs) : NoL d := by
  cases h with
  | mk n e hn he => exact .tup (nl_cons .int (nl_cons .int nl_nil))
theorem nl_1 {d : D} {bs : List Int} (h : Ent1 d bs) : NoL d := by
  cases h with
  | val k h => exact .tup (nl_cons .str (nl_cons .int nl_nil))
  | nm h => exact .tup (nl_cons .str (nl_cons (nl_N h) nl_nil))
theorem nl_E {d : D} {bs : List Int} (h : EncE d bs) : NoL d := by
  cases h with
  | non => exact .non
  | one h => exact nl_1 h
  | page i rs h l =>
    refine .tup (nl_cons .str (nl_cons .int (nl_cons (.tup fun d hd => ?_) nl_nil)))
    obtain ⟨r, hr, rfl⟩ := List.mem_map.mp hd
    exact .tup (nl_cons .str (nl_cons (nl_1 (h r hr).2) nl_nil))
theorem nl_H {d : D} {bs : List Int} (h : EncH d bs) : NoL d := by
  cases h with
  | value k h => exact .tup (nl_cons .str (nl_cons .int nl_nil))
  | page i h n => exact .tup (nl_cons .str (nl_cons .int (nl_cons (nl_T h) nl_nil)))
  | nothing => exact .tup (nl_cons .str nl_nil)
  | long => exact .tup (nl_cons .str nl_nil)
  | far => exact .tup (nl_cons .str nl_nil)
theorem nl_A {d : D} {bs : List Int} (h : EncA d bs) : NoL d := by
  cases h with
  | mk ns h g l =>
    refine .tup (nl_cons (nl_H h) (nl_cons (.tup fun d hd => ?_) nl_nil))
    obtain ⟨n, hn, rfl⟩ := List.mem_map.mp hd
    exact nl_N (g n hn)
theorem nl_P {w : Str} {d : D} {bs : List Int} (h : EncP w d bs) : NoL d := by
  cases h with
  | kept h => exact nl_T h
  | term h => exact nl_T h
  | node h => obtain ⟨i, rfl, rfl⟩ := h; exact .int
  | most h => obtain ⟨i, rfl, rfl⟩ := h; exact .int
  | id h => exact nl_I h
  | label h => obtain ⟨z, rfl, h, rfl⟩ := h; exact .str
  | entry h => exact nl_E h
  | fraction h => exact nl_F h
  | name h => exact nl_N h
  | answer h => exact nl_A h
section
variable {X : Cx} {vs : List V} {H : Hp} {Q : VK} {E : XK}
theorem body_piece (c : Ctx X nq_piece lq_piece 6) (dT : DT X "_law_take" ["box", "many"] 1 spTake) (dP : DT X "_law_pick" ["box", "some"] 2 (spPick X.K)) (dI : DT X "_law_id" ["box"] 4 (spDr (ER (EncI 0)) X.K)) (dL : DT X "_law_label" ["box"] 3 (spDr PL X.K)) (dF : DT X "_law_fraction" ["box"] 3 (spDr (ER EncF) X.K))
    (dM : DT X "_law_name" ["box", "most"] 4 (spDrM (ER EncN) X.K)) (dE : DT X "_law_entry" ["box", "most"] 6 (spDrM (ER EncE) X.K)) (dA : DT X "_law_answer" ["box", "most"] 6 (spDrM (ER EncA) X.K)) (h : spPiece X.K vs H Q E) :
    RB X (defBody sq_piece) { nx := fun _ H' => Q .non H', rt := Q } (start nq_piece vs) H := by
  obtain ⟨b, w, m, rfl, hw, m0, m6, hB, q⟩ := h
  have itI : ∀ {P : D → Prop} {σ : L2.St}, σ = [some (.ref b), some (.str w), some (.int m)] → (∀ d, ER (EncI 0) d → P d) → ∀ {p0 p1 p2 : Pos}, It X b σ H P (.Call (.Name "_law_id" p0) [.Name "box" p1] [] p2) := by
    rintro P σ rfl hP p0 p1 p2 H3 K f hB3 k
    refine re_call c dI (by decide) (by walk_at "gm") ?_
    walk_at "e"
    exact ⟨b, rfl, hB3, fun v d H4 hd dv f4 hB4 => k v d H4 (hP d hd) f4 hB4 dv⟩
  have idT : ∀ {d : D}, ER (EncI 0) d → ER EncT d := fun h => by
    obtain ⟨bs, h⟩ := enc_01 h
    exact ⟨bs, .id h⟩
  simp only [List.mem_cons, List.not_mem_nil, or_false] at hw
  rcases hw with rfl | rfl | rfl | rfl | rfl | rfl | rfl | rfl | rfl | rfl
  · show RB X (defBody sq_piece) _ [some (.ref b), some (.str "kept"), some (.int m)] H
    walk_at "e0"
    walk_at "gg"
    refine re_pickI (P := ER (EncP "kept")) c (by decide) dP (by walk_at "gm") (by walk_at "gm") .loc (by walk_at "gs") hB
      (.cons (fun _ _ => rfl) ?_ (.cons (fun _ _ => rfl) (itI rfl fun d hd => by obtain ⟨bs, h⟩ := idT hd; exact ⟨bs, .kept h⟩) .nil)) (by decide) (by decide) fun v d H2 hd dv f2 hB2 => q v d H2 hd dv f2 hB2
    intro H3 K f hB3 k
    walk_at "gg"
    exact k _ .non _ ⟨_, .kept .non⟩ Fr.refl hB3 .non
  · show RB X (defBody sq_piece) _ [some (.ref b), some (.str "node"), some (.int m)] H
    walk_at "e0"
    walk_at "gg"
    refine re_pickI (P := PZ 0 31) c (by decide) dP (by walk_at "gm") (by walk_at "gm") .loc (by walk_at "gs") hB (by
      walk_at "its"
      exact .cons (fun _ _ => rfl) (it_take (by decide) (by decide) (by decide) (by decide) c (by decide) dT (by walk_at "gm") (by walk_at "gm") .loc (by walk_at "gs")) .nil) (by decide) (by decide) fun v d H1 hd dv f1 hB1 => ?_
    obtain ⟨a, rfl, a0, a1⟩ := hd
    exact q _ _ _ ⟨_, .node ⟨a, rfl, rfl⟩⟩ dv f1 hB1
  · show RB X (defBody sq_piece) _ [some (.ref b), some (.str "id"), some (.int m)] H
    walk_at "e0"
    walk_at "gg"
    refine re_call c dI (by decide) (by walk_at "gm") ?_
    walk_at "e"
    exact ⟨b, rfl, hB, fun v d H1 hd dv f1 hB1 => by obtain ⟨bs, h⟩ := hd; exact q v d H1 ⟨bs, .id h⟩ dv f1 hB1⟩
  · show RB X (defBody sq_piece) _ [some (.ref b), some (.str "term"), some (.int m)] H
    walk_at "e0"
    walk_at "gg"
    refine re_pickI (P := ER (EncP "term")) c (by decide) dP (by walk_at "gm") (by walk_at "gm") .loc (by walk_at "gs") hB
      (.cons (fun _ _ => rfl) ?_ (.cons (fun _ _ => rfl) (itI rfl fun d hd => by obtain ⟨bs, h⟩ := idT hd; exact ⟨bs, .term h⟩) .nil)) (by decide) (by decide) fun v d H2 hd dv f2 hB2 => q v d H2 hd dv f2 hB2
    intro H3 K f hB3 k
    walk_at "gg"
    exact ⟨by show 0 ≤ sizeLine; decide, fun p hp => k _ (.tup []) _ ⟨_, .term .emp⟩ (Fr.new hp) (hB3.fr (Fr.new hp)) (Dt.newT hp (hB3.ne hp) .nil)⟩
  · show RB X (defBody sq_piece) _ [some (.ref b), some (.str "label"), some (.int m)] H
    walk_at "e0"
    walk_at "gg"
    refine re_call c dL (by decide) (by walk_at "gm") ?_
    walk_at "e"
    exact ⟨b, rfl, hB, fun v d H1 hd dv f1 hB1 => by obtain ⟨z, rfl, h⟩ := hd; exact q v _ H1 ⟨_, .label ⟨z, rfl, h.l, rfl⟩⟩ dv f1 hB1⟩
  · show RB X (defBody sq_piece) _ [some (.ref b), some (.str "entry"), some (.int m)] H
    walk_at "e0"
    walk_at "gg"
    refine re_call c dE (by decide) (by walk_at "gm") ?_
    walk_at "e"
    exact ⟨b, m, rfl, m0, by omega, hB, fun v d H1 hd dv f1 hB1 => by obtain ⟨bs, h⟩ := hd; exact q v d H1 ⟨bs, .entry h⟩ dv f1 hB1⟩
  · show RB X (defBody sq_piece) _ [some (.ref b), some (.str "fraction"), some (.int m)] H
    walk_at "e0"
    walk_at "gg"
    refine re_call c dF (by decide) (by walk_at "gm") ?_
    walk_at "e"
    exact ⟨b, rfl, hB, fun v d H1 hd dv f1 hB1 => by obtain ⟨bs, h⟩ := hd; exact q v d H1 ⟨bs, .fraction h⟩ dv f1 hB1⟩
  · show RB X (defBody sq_piece) _ [some (.ref b), some (.str "name"), some (.int m)] H
    walk_at "e0"
    walk_at "gg"
    refine re_call c dM (by decide) (by walk_at "gm") ?_
    walk_at "e"
    exact ⟨b, m, rfl, m0, by omega, hB, fun v d H1 hd dv f1 hB1 => by obtain ⟨bs, h⟩ := hd; exact q v d H1 ⟨bs, .name h⟩ dv f1 hB1⟩
  · show RB X (defBody sq_piece) _ [some (.ref b), some (.str "most"), some (.int m)] H
    walk_at "e0"
    walk_at "gg"
    refine re_call c dT (by decide) (by walk_at "gm") ?_
    walk_at "e"
    exact ⟨b, 9, rfl, hB, by decide, by decide, fun x H1 x0 x1 f1 hB1 => q _ (.int x) H1 ⟨_, .most ⟨x, rfl, rfl⟩⟩ .int f1 hB1⟩
  · show RB X (defBody sq_piece) _ [some (.ref b), some (.str "answer"), some (.int m)] H
    walk_at "e0"
    walk_at "gg"
    refine re_call c dA (by decide) (by walk_at "gm") ?_
    walk_at "gg"
    refine ov_fdiv (wide_div (b := 32) (by decide) (by decide) (by decide) (by decide)) ?_
    walk_at "e"
    exact ⟨b, _, rfl, by omega, by omega, hB, fun v d H1 hd dv f1 hB1 => by obtain ⟨bs, h⟩ := hd; exact q v d H1 ⟨bs, .answer h⟩ dv f1 hB1⟩
theorem body_event (c : Ctx X nq_event lq_event 7) (zt : X.mg "tuple" = none) (dW : DT X "_law_words" ["kind"] 1 spWords) (dK : DT X "_law_kinds" [] 1 spKinds) (dI : DT X "_law_id" ["box"] 4 (spDr (ER (EncI 0)) X.K)) (dF : DT X "_law_fraction" ["box"] 3 (spDr (ER EncF) X.K)) (dC : DT X "_law_piece" ["box", "word", "most"] 7 (spPiece X.K))
    (h : spEvent X.K vs H Q E) : RB X (defBody sq_event) { nx := fun _ H' => Q .non H', rt := Q } (start nq_event vs) H := by
  obtain ⟨b, j, m, rfl, hj, m0, m6, hB, q⟩ := h
  obtain ⟨⟨k, ws⟩, ej⟩ : ∃ x, kindTab[j]? = some x := ⟨_, List.getElem?_eq_getElem hj⟩
  obtain ⟨wl, ek, _⟩ := kind_bd ej
  have wsW : ∀ (i : Nat) w, ws[i]? = some w → w ∈ WORDS := by
    have key : kindTab.all (fun x => x.2.all fun w => decide (w ∈ WORDS)) = true := by decide +kernel
    intro i w hw
    have := List.all_eq_true.mp key _ (List.mem_of_getElem? ej)
    exact of_decide_eq_true (List.all_eq_true.mp this w (List.mem_of_getElem? hw))
  show RB X (defBody sq_event) _ [some (.ref b), some (.int (j : Int)), some (.int m), none, none] H
  refine rb_cons ?_
  refine rs_lc_list c lq_event_c0 (by decide +kernel) (by walk_at "gm") (by walk_at "gm") ?_
  refine re_call c dW (by decide) (by walk_at "gm") ?_
  walk_at "e"
  refine ⟨j, k, ws, rfl, ej, fun l H1 f1 hl => ?_⟩
  have hB1 := hB.fr f1
  have nl : ¬ l = b := fun z => by
    obtain ⟨g, r, hb, _⟩ := hB1
    rw [z, hb] at hl
    have e2 := Option.some.inj hl
    injection e2 with e2
    cases ws with
    | nil => cases e2
    | cons x t => injection e2 with e3 _; cases e3
  refine ⟨l, _, rfl, SqL.of hl, fun Dn hD => ?_⟩
  have nD := hB1.ne hD
  have nDl : ¬ Dn = l := fun z => by rw [z, hl] at hD; cases hD
  refine ⟨fun i H' => ∃ (us : List V) (ps : List (D × List Int)), ps.length = i ∧ (∀ (m : Nat) w x, ws[m]? = some w → ps[m]? = some x → EncP w x.1 x.2) ∧ H' Dn = some (.lst us) ∧ Dts X.K (fun a => a = b ∨ a = Dn) H' us (ps.map (·.1)) ∧ BoxAt H' b ∧ Fr (· = b) H1 H', ⟨[], [], rfl, (fun _ _ _ _ h => by simp at h), upd_same, Dts.nil, hB1.fr (Fr.new hD), Fr.new hD⟩, fun _ H' _ h => SqL.of (h.choose_spec.choose_spec.2.2.2.2.2 _ _ nl hl), ?_, ?_⟩
  · rintro i y H' hi hy ⟨us, ps, h1, h2, h3, hus, h4, h5⟩
    obtain ⟨w, ew, rfl⟩ : ∃ z, ws[i]? = some z ∧ y = .str z := by
      rw [List.getElem?_map] at hy
      cases e : ws[i]? with
      | none => rw [e] at hy; cases hy
      | some z => rw [e] at hy; exact ⟨z, rfl, (Option.some.inj hy).symm⟩
    refine ⟨_, by walk_at "gs", fun s Hb C cl fp cb => rts_nil (iteT fun s Hb C cl fp cb => ?_)⟩
    refine re_call cb dC (by decide) (by walk_at "gm") ?_
    walk_at "e"
    refine ⟨b, w, m, rfl, wsW i w ew, m0, m6, h4, fun v d H'' hd dv f5 hB5 => ?_⟩
    obtain ⟨bs, hP⟩ := hd
    have lus : us.length = i := by rw [hus.1, List.length_map, h1]
    have hD5 := f5 _ _ nD h3
    have dv2 := dt_noL dv (nl_P hP) ⟨_, hD5⟩
    refine ⟨_, hD5, by rw [lus]; exact Nat.lt_of_le_of_lt (by rw [List.length_map] at hi; omega : i ≤ 20) (by decide), us ++ [v], ps ++ [(d, bs)], by simp [h1], ?_, upd_same, ?_, hB5.put nD, ?_⟩
    · intro m w2 x hw hx
      rcases Nat.lt_or_ge m ps.length with z | z
      · rw [List.getElem?_append_left z] at hx
        exact h2 m w2 x hw hx
      · rw [List.getElem?_append_right z] at hx
        have e0 : m - ps.length = 0 := by
          rcases Nat.eq_zero_or_pos (m - ps.length) with e | e
          · exact e
          · rw [List.getElem?_eq_none (by show 1 ≤ _; omega)] at hx
            cases hx
        rw [e0] at hx
        have e1 : m = i := by omega
        rw [e1, ew] at hw
        cases hw
        cases hx
        exact hP
    · rw [List.map_append]
      have g2 : Fr (fun a => a = b ∨ a = Dn) H'' (upd H'' Dn (.lst (us ++ [v]))) := fun a o n e => by rw [upd_ne (fun z => n (.inr z))]; exact e
      exact dts_app (hus.fr ((f5.sub fun a h => .inl h).trans g2)) (.cons (dv2.fr g2) .nil)
    · exact fun a u na ea => by
        rw [upd_ne (fun z => by rw [z, hD] at ea; cases ea)]
        exact (h5.trans f5) a u na ea
  · rintro H' ⟨us, ps, h1, h2, h3, hus, h4, h5⟩
    rw [List.length_map] at h1
    refine ⟨_, by walk_at "gs", ?_⟩
    have ff : Fr (· = b) H H' := f1.any.trans h5
    walk_at "e0"
    refine re_call c dI (by decide) (by walk_at "gm") ?_
    walk_at "e"
    refine ⟨b, rfl, h4, fun vi di H2 hdi dvi f2 hB2 => ?_⟩
    obtain ⟨bi, hI⟩ := hdi
    walk_at "e"
    refine re_call c dF (by decide) (by walk_at "gm") ?_
    walk_at "e"
    refine ⟨b, rfl, hB2, fun vf df H3 hdf dvf f3 hB3 => ?_⟩
    obtain ⟨bf, hF⟩ := hdf
    have hD3 := (f2.trans f3) _ _ nD h3
    walk_at "e"
    refine re_call0 c dK (by decide) (by walk_at "gm") ⟨rfl, fun lk hlk => ?_⟩
    have f4 : Fr NoB H3 (upd H3 lk (.lst (KINDSL.map V.str))) := Fr.new hlk
    walk_at "e"
    refine iv_list (SqL.of upd_same) (at_nat (i := j) (v := .str k) (by rw [List.getElem?_map, ek]; rfl)) ?_
    walk_at "e"
    refine ⟨by show 1 ≤ sizeLine; decide, fun p hp => ?_⟩
    have f5 : Fr NoB (upd H3 lk (.lst (KINDSL.map V.str))) (upd (upd H3 lk (.lst (KINDSL.map V.str))) p (.lst [.str k])) := Fr.new hp
    have f6 := f4.trans f5
    have hp6 : upd (upd H3 lk (.lst (KINDSL.map V.str))) p (.lst [.str k]) p = some (.lst [.str k]) := upd_same
    generalize upd (upd H3 lk (.lst (KINDSL.map V.str))) p (.lst [.str k]) = H6 at f6 hp6 ⊢
    have hD6 := f6 _ _ (fun z => z) hD3
    have lus : us.length = ws.length := by rw [hus.1, List.length_map, h1]
    walk_at "e"
    refine ov_cat hp6 hD6 (by show 1 + us.length ≤ sizeLine; rw [lus]; exact Nat.le_trans (by omega : 1 + ws.length ≤ 5) (by decide)) fun l7 hl7 => ?_
    have f7 : Fr NoB H3 (upd H6 l7 (.lst ([.str k] ++ us))) := f6.trans (Fr.new hl7)
    have h7 : upd H6 l7 (.lst ([.str k] ++ us)) l7 = some (.lst ([.str k] ++ us)) := upd_same
    generalize upd H6 l7 (.lst ([.str k] ++ us)) = H7 at f7 h7 ⊢
    walk_at "e"
    refine lv_tupL (SqL.of h7) fun l8 hl8 => ?_
    have hB7 := hB3.fr f7
    have husb : Dts X.K (· = b) H7 us (ps.map (·.1)) := (((hus.mono fun a h => .inl h).fr f2).fr f3).fr f7.any
    have n8 := hB7.ne hl8
    have d8 := Dt.newT (B := (· = b)) hl8 n8 (Dts.cons (v := .str k) .str husb)
    have f8 : Fr NoB H7 (upd H7 l8 (.tup (.str k :: us))) := Fr.new hl8
    have hB8 := hB7.fr f8
    have e8 : ([V.str k] ++ us) = .str k :: us := rfl
    rw [e8]
    generalize upd H7 l8 (.tup (.str k :: us)) = H8 at f8 hB8 d8 ⊢
    walk_at "e"
    refine ⟨by show 3 ≤ sizeLine; decide, fun p9 hp9 => ?_⟩
    have g38 : Fr (· = b) H3 H8 := (f7.trans f8).any
    exact q _ _ _ ⟨_, .mk j k ws ps hI hF ej h1 h2⟩ (Dt.newT hp9 (hB8.ne hp9) (.cons ((dvi.fr f3).fr g38) (.cons (dvf.fr g38) (.cons d8 .nil)))) ((((ff.trans f2).trans f3).trans g38).trans (Fr.new hp9)) (hB8.fr (Fr.new hp9))
end
local macro_rules | `(tactic| walk_at "sq") => `(tactic| first | refine iteD rfl ?_ | refine iteDN (by decide +kernel) ?_)
local macro_rules | `(tactic| walk_at "gg") => `(tactic| repeat (first | walk_at "g1" | refine iteD rfl ?_ | refine iteDN (by decide +kernel) ?_))
def NL (H H' : Hp) (l : Addr) (bs : List Int) : Prop := Fr NoB H H' ∧ H' l = some (.lst (bs.map V.int))
def spGr : Sp := fun vs H Q _ => ∃ n : Nat, vs = [.int (n : Int)] ∧ WN n ∧ ∀ l H', NL H H' l (grp n) → Q (.ref l) H'
def spFm (R : D → List Int → Prop) (K : PySem.W.Frag) : Sp := fun vs H Q _ => ∃ (v : V) (d : D) (bs : List Int), vs = [v] ∧ Dt K NoB H v d ∧ R d bs ∧ ∀ l H', NL H H' l bs → Q (.ref l) H'
def spFI (K : PySem.W.Frag) : Sp := fun vs H Q _ => ∃ (v : V) (m : Int) (d : D) (bs : List Int), vs = [v, .int m] ∧ Dt K NoB H v d ∧ EncI m d bs ∧ ∀ l H', NL H H' l bs → Q (.ref l) H'
def spFP (K : PySem.W.Frag) : Sp := fun vs H Q _ => ∃ (w : Str) (v : V) (d : D) (bs : List Int), vs = [.str w, v] ∧ Dt K NoB H v d ∧ EncP w d bs ∧ ∀ l H', NL H H' l bs → Q (.ref l) H'
theorem NL.trans {H H1 H2 : Hp} {l : Addr} {bs : List Int} (f : Fr NoB H H1) (h : NL H1 H2 l bs) : NL H H2 l bs := ⟨f.trans h.1, h.2⟩
theorem sl {n : Nat} (h : n ≤ 99000) : n ≤ sizeLine := Nat.le_trans h (by decide)
/-- two lists of whole numbers, one behind the other -/
theorem ov_catI {X : Cx} {H0 H : Hp} {a b : Addr} {xs ys : List Int} {Q : VK} (f : Fr NoB H0 H) (ha : H a = some (.lst (xs.map V.int))) (hb : H b = some (.lst (ys.map V.int))) (hl : xs.length + ys.length ≤ 90000) (q : ∀ l H', NL H0 H' l (xs ++ ys) → Q (.ref l) H') :
    OpV X .Add (.ref a) (.ref b) H Q := ov_cat ha hb (by rw [List.length_map, List.length_map]; exact sl (by omega)) fun l hl => q l _ ⟨f.trans (Fr.new hl), by rw [upd_same, List.map_append]⟩
section
variable {X : Cx} {vs : List V} {H : Hp} {Q : VK} {E : XK}
theorem body_groups (c : Ctx X nq_groups lq_groups 0) (zr : X.mg "range" = none) (zi : X.mg "int" = none) (h : spGr vs H Q E) : RB X (defBody sq_groups) { nx := fun _ H' => Q .non H', rt := Q } (start nq_groups vs) H := by
  obtain ⟨n, rfl, wn, q⟩ := h
  have gl := grp_21 wn
  show RB X (defBody sq_groups) _ [some (.int (n : Int)), none, none] H
  walk_at "e0"
  refine ⟨by show 0 ≤ sizeLine; decide, fun F hF => ?_⟩
  walk_at "e"
  refine rb_cons ?_
  refine rs_for_range c (by walk_at "gm") .loc (by walk_at "gm") (by walk_at "gm") zr ?_
  walk_at "e"
  refine ⟨by decide, by decide, ?_⟩
  have fin : ∀ (σ : L2.St) (H' : Hp) (m : Nat) (ys : List V) (s3 : Option V), Fr NoB H H' → H' F = some (.lst ys) → ys ++ (grp m).map V.int = (grp n).map V.int → m < 128 → σ = [some (.int (m : Int)), some (.ref F), s3] → RB X (List.drop 2 (defBody sq_groups)) { nx := fun _ H' => Q .non H', rt := Q } σ H' := by
    rintro σ H' m ys s3 f hF e m0 rfl
    have ly : ys.length ≤ 21 := by
      have := congrArg List.length e
      rw [List.length_append, List.length_map, List.length_map] at this
      omega
    walk_at "e0"
    refine ⟨by show 1 ≤ sizeLine; decide, fun p hp => ?_⟩
    have f1 : Fr NoB H' (upd H' p (.lst [.int (m : Int)])) := Fr.new hp
    refine ov_cat (f1 _ _ (fun z => z) hF) upd_same (sl (by show ys.length + 1 ≤ _; omega)) fun l hl => q l _ ⟨(f.trans f1).trans (Fr.new hl), ?_⟩
    rw [upd_same, ← e, grp_lt m0]
    rfl
  refine ⟨fun i σ H' => ∃ (m : Nat) (ys : List V) (s3 : Option V), Fr NoB H H' ∧ H' F = some (.lst ys) ∧ ys ++ (grp m).map V.int = (grp n).map V.int ∧ m < 2 ^ (1000 - i) ∧ σ = [some (.int (m : Int)), some (.ref F), s3],
    ⟨n, [], none, Fr.new hF, upd_same, rfl, Nat.lt_trans wn (by decide +kernel), rfl⟩, fun _ _ _ _ _ => trivial, ?_, ?_⟩
  · rintro i y σ H1 hi rfl ⟨m, ys, s3, f1, h1, e1, wm, rfl⟩
    have ly : ys.length ≤ 21 := by
      have := congrArg List.length e1
      rw [List.length_append, List.length_map, List.length_map] at this
      omega
    refine ⟨_, by walk_at "gs", ?_⟩
    walk_at "e0"
    refine ite2 (fun e => ?_) (fun e => ?_)
    · have m0 : m < 128 := by have := of_decide_eq_true e; omega
      walk_at "e0"
      exact fin _ H1 m ys _ f1 h1 e1 m0 rfl
    · have m0 : ¬ m < 128 := fun z => e (decide_eq_true (by omega))
      walk_at "e"
      refine rb_cons (rs_app c (by walk_at "gm") .loc (by walk_at "gs") h1 ?_)
      walk_at "e"
      refine ⟨ys, h1, Nat.lt_of_le_of_lt (show ys.length ≤ 99000 by omega) (by decide), ?_⟩
      walk_at "e0"
      refine ov_fdiv (wide_div (b := 32) (by decide) (by decide) (by decide) (by decide)) ?_
      walk_at "e"
      refine ⟨m / 128, ys ++ [.int ((128 + m % 128 : Nat) : Int)], some (.int (i : Int)), fun a o na ea => ?_, ?_, ?_, ?_, ?_⟩
      · rw [upd_ne (fun z => by rw [z, hF] at ea; cases ea)]
        exact f1 a o na ea
      · rw [upd_same]
        have e3 : (m : Int) % 128 + 128 = ((128 + m % 128 : Nat) : Int) := by omega
        rw [e3]
      · rw [← e1, grp_ge m0, List.map_cons, List.append_assoc]
        rfl
      · have e5 : 1000 - i = (1000 - (i + 1)) + 1 := by have : i < 999 := hi; omega
        rw [e5, Nat.pow_succ] at wm
        omega
      · rw [Int.natCast_ediv]
        rfl
  · rintro σ H1 ⟨m, ys, s3, f1, h1, e1, wm, rfl⟩
    have wm2 : m < 2 ^ 1 := wm
    exact fin _ H1 m ys s3 f1 h1 e1 (by omega) rfl
theorem body_form_label (c : Ctx X nq_form_label lq_form_label 0) (zl : X.mg "len" = none) (h : spFm EncB X.K vs H Q E) : RB X (defBody sq_form_label) { nx := fun _ H' => Q .non H', rt := Q } (start nq_form_label vs) H := by
  obtain ⟨v, d, bs, rfl, hv, ⟨z, rfl, hz, rfl⟩, q⟩ := h
  obtain rfl := dt_str_inv hv
  have lz := hz.2
  show RB X (defBody sq_form_label) _ [some (.str z), none] H
  walk_at "e0"
  refine lv_lenS (sz30 (by omega)) ?_
  walk_at "e"
  refine ⟨by show 1 ≤ sizeLine; decide, fun p hp => ?_⟩
  have f1 : Fr NoB H (upd H p (.lst [.int (z.length : Int)])) := Fr.new hp
  have h1 : upd H p (.lst [.int (z.length : Int)]) p = some (.lst [.int (z.length : Int)]) := upd_same
  generalize upd H p (.lst [.int (z.length : Int)]) = H1 at f1 h1 ⊢
  refine re_lc_str c lq_form_label_c0 (by decide +kernel) ?_
  walk_at "e"
  refine fun Dn hD => ?_
  refine ⟨fun i H' => Fr NoB H1 H' ∧ H' Dn = some (.lst ((z.cps.toList.take i).map fun c : Nat => V.int ((c : Int) - 97))), ⟨Fr.new hD, upd_same⟩, fun _ _ _ _ => trivial, ?_, ?_⟩
  · rintro i y H' hi ⟨ch, hch, rfl⟩ ⟨f2, h2⟩
    have hl : z.cps.toList[i]? = some ch := by rw [Array.getElem?_toList]; exact hch
    obtain ⟨c97, c122⟩ := hz.1 ch (List.mem_of_getElem? hl)
    have hi2 : i < z.length := hi
    refine ⟨_, by walk_at "gs", fun s Hb C cl fp cb => rts_nil (iteT fun s Hb C cl fp cb => ?_)⟩
    refine re_sindex cb.calm ?_
    walk_at "e"
    refine ⟨_, _, rfl, abc_at ch c97 c122, ?_⟩
    refine ⟨_, h2, by rw [List.length_map, List.length_take]; exact Nat.lt_of_le_of_lt (show min i z.cps.toList.length ≤ 100 by omega) (by decide), fun a o na ea => ?_, ?_⟩
    · rw [upd_ne (fun z => by rw [z, hD] at ea; cases ea)]
      exact f2 a o na ea
    · rw [upd_same, List.take_succ, hl]
      have e5 : ((ch - 97 : Nat) : Int) = (ch : Int) - 97 := by omega
      rw [e5]
      simp
  · rintro H' ⟨f2, h2⟩
    have e6 : z.cps.size = z.cps.toList.length := by simp
    rw [e6, List.take_length] at h2
    have e7 : (z.cps.toList.map fun c : Nat => V.int ((c : Int) - 97)) = (z.cps.toList.map fun c : Nat => (c : Int) - 97).map V.int := by rw [List.map_map]; rfl
    rw [e7] at h2
    refine ov_catI (xs := [(z.length : Int)]) (f1.trans f2) (f2 _ _ (fun z => z) h1) h2 ?_ fun l H3 hn => q l H3 hn
    rw [List.length_map, ← str_len]
    show 1 + z.length ≤ 90000
    omega
theorem body_form_name (c : Ctx X nq_form_name lq_form_name 1) (zl : X.mg "len" = none) (dL : DT X "_law_form_label" ["label"] 1 (spFm EncB X.K)) (h : spFm EncN X.K vs H Q E) : RB X (defBody sq_form_name) { nx := fun _ H' => Q .non H', rt := Q } (start nq_form_name vs) H := by
  obtain ⟨v, d, bs, rfl, hv, hR, q⟩ := h
  have bd := encN_bd hR
  cases hR with
  | mk zs hz lz =>
    obtain ⟨p, rfl, np, hp⟩ := dt_strs hv
    show RB X (defBody sq_form_name) _ [some (.ref p), none, none] H
    walk_at "e0"
    refine lv_lenT (SqT.of hp) ?_
    walk_at "e"
    refine ⟨by show 1 ≤ sizeLine; decide, fun F hF => ?_⟩
    have f1 : Fr NoB H (upd H F (.lst [.int ((zs.map V.str).length : Int)])) := Fr.new hF
    have h1 : upd H F (.lst [.int ((zs.map V.str).length : Int)]) F = some (.lst [.int ((zs.map V.str).length : Int)]) := upd_same
    generalize upd H F (.lst [.int ((zs.map V.str).length : Int)]) = H1 at f1 h1 ⊢
    walk_at "e"
    refine rb_cons ?_
    refine rs_for_tup c (by walk_at "gm") .loc (by walk_at "gm") ?_
    walk_at "e"
    refine ⟨p, zs.map V.str, rfl, SqT.of (f1 _ _ np hp), fun i σ H' => ∃ (F : Addr) (s3 : Option V), NL H H' F ((zs.length : Int) :: ((zs.take i).map encL).flatten) ∧ σ = [some (.ref p), some (.ref F), s3], ⟨F, none, ⟨f1, by rw [h1, List.length_map]; rfl⟩, rfl⟩, fun i σ H' _ h => SqT.of (h.choose_spec.choose_spec.1.1 _ _ np hp), ?_, ?_⟩
    · rintro i y σ H2 hi hy ⟨F, s3, ⟨f2, h2⟩, rfl⟩
      obtain ⟨z, e1, rfl⟩ : ∃ z, zs[i]? = some z ∧ y = .str z := by
        rw [List.getElem?_map] at hy
        cases e : zs[i]? with
        | none => rw [e] at hy; cases hy
        | some z => rw [e] at hy; exact ⟨z, rfl, (Option.some.inj hy).symm⟩
      have lowz := hz z (List.mem_of_getElem? e1)
      have l5 := flat_le encL e1
      refine ⟨_, by walk_at "gs", ?_⟩
      walk_at "e0"
      refine re_call c dL (by decide) (by walk_at "gm") ?_
      walk_at "e"
      refine ⟨.str z, .str z, _, rfl, .str, ⟨z, rfl, lowz, rfl⟩, fun l H3 hn => ?_⟩
      rw [List.length_cons] at bd
      refine ov_catI (f2.trans hn.1) (hn.1 _ _ (fun z => z) h2) hn.2 (by rw [List.length_cons]; omega) fun l2 H4 hn2 => ?_
      walk_at "e"
      refine ⟨l2, _, ⟨hn2.1, ?_⟩, rfl⟩
      rw [hn2.2, flat_succ encL e1, List.cons_append]
    · rintro σ H2 ⟨F, s3, hn, rfl⟩
      rw [List.length_map, List.take_length] at hn
      walk_at "e0"
      exact q F H2 hn
theorem body_form_fraction (c : Ctx X nq_form_fraction lq_form_fraction 1) (dG : DT X "_law_groups" ["worth"] 1 spGr) (h : spFm EncF X.K vs H Q E) : RB X (defBody sq_form_fraction) { nx := fun _ H' => Q .non H', rt := Q } (start nq_form_fraction vs) H := by
  obtain ⟨v, d, bs, rfl, hv, hR, q⟩ := h
  cases hR with
  | mk n e hn he =>
    obtain ⟨p, us, rfl, np, hp, g⟩ := dt_tup_inv hv
    obtain ⟨a, _, rfl, ha, g⟩ := dts_cons_inv g
    obtain ⟨b, _, rfl, hb, g⟩ := dts_cons_inv g
    obtain rfl := dts_nil_inv g
    rw [dt_int_inv ha, dt_int_inv hb] at hp
    have wz : WN (zig n) := by
      unfold WN zig
      have h2 : 2 ^ 138 * 4 = 2 ^ 140 := by decide +kernel
      split <;> omega
    have g1 := grp_21 wz
    have g2 := grp_21 he
    show RB X (defBody sq_form_fraction) _ [some (.ref p), none] H
    have rest : ∀ t : Int, t = (zig n : Int) → RB X (List.drop 1 (defBody sq_form_fraction)) { nx := fun _ H' => Q .non H', rt := Q } [some (.ref p), some (.int t)] H := by
      rintro t rfl
      walk_at "e0"
      refine re_call c dG (by decide) (by walk_at "gm") ?_
      walk_at "e"
      refine ⟨zig n, rfl, wz, fun l1 H1 n1 => ?_⟩
      have hp1 := n1.1 _ _ (fun z => z) hp
      refine re_call c dG (by decide) (by walk_at "gm") ?_
      walk_at "e"
      refine ⟨e, rfl, he, fun l2 H2 n2 => ?_⟩
      exact ov_catI (n1.1.trans n2.1) (n2.1 _ _ (fun z => z) n1.2) n2.2 (by omega) q
    walk_at "e0"
    refine ite2 (fun e1 => ?_) (fun e1 => ?_)
    · have n0 : 0 ≤ n := of_decide_eq_true e1
      walk_at "e"
      exact rest _ (by unfold zig; rw [if_pos n0]; omega)
    · have n0 : ¬ 0 ≤ n := fun z => e1 (decide_eq_true z)
      walk_at "e"
      exact rest _ (by unfold zig; rw [if_neg n0]; omega)
theorem body_form_id (c : Ctx X nq_form_id lq_form_id 1) (dG : DT X "_law_groups" ["worth"] 1 spGr) (h : spFI X.K vs H Q E) : RB X (defBody sq_form_id) { nx := fun _ H' => Q .non H', rt := Q } (start nq_form_id vs) H := by
  obtain ⟨v, m, d, bs, rfl, hv, hR, q⟩ := h
  cases hR with
  | mk a b e hb he =>
    obtain ⟨p, rfl, np, hp⟩ := dt_ids hv
    have g1 := grp_21 hb
    have g2 := grp_21 he
    show RB X (defBody sq_form_id) _ [some (.ref p), some (.int m)] H
    walk_at "e0"
    refine ⟨by show 1 ≤ sizeLine; decide, fun F hF => ?_⟩
    have f1 : Fr NoB H (upd H F (.lst [.int (a + m)])) := Fr.new hF
    have h1 : upd H F (.lst [.int (a + m)]) F = some (.lst [.int (a + m)]) := upd_same
    generalize upd H F (.lst [.int (a + m)]) = H1 at f1 h1 ⊢
    have hp1 := f1 _ _ (fun z => z) hp
    refine re_call c dG (by decide) (by walk_at "gm") ?_
    walk_at "e"
    refine ⟨b, rfl, hb, fun l2 H2 n2 => ?_⟩
    refine ov_catI (xs := [a + m]) (f1.trans n2.1) (n2.1 _ _ (fun z => z) h1) n2.2 (by show 1 + _ ≤ _; omega) fun l3 H3 n3 => ?_
    have hp3 := n3.1 _ _ (fun z => z) hp
    refine re_call c dG (by decide) (by walk_at "gm") ?_
    walk_at "e"
    refine ⟨e, rfl, he, fun l4 H4 n4 => ?_⟩
    refine ov_catI (n3.1.trans n4.1) (n4.1 _ _ (fun z => z) n3.2) n4.2 (by rw [List.length_append]; show 1 + _ + _ ≤ _; omega) fun l5 H5 n5 => q l5 H5 ?_
    rw [List.append_assoc] at n5
    exact n5
end
local macro_rules | `(tactic| walk_at "sq") => `(tactic| first | refine iteD rfl ?_ | refine iteDN (by decide +kernel) ?_)
local macro_rules | `(tactic| walk_at "gg") => `(tactic| repeat (first | walk_at "g1" | refine iteD rfl ?_ | refine iteDN (by decide +kernel) ?_))
section
variable {X : Cx} {vs : List V} {H : Hp} {Q : VK} {E : XK}
theorem body_form_entry1 (c : Ctx X nq_form_entry lq_form_entry 2) (dG : DT X "_law_groups" ["worth"] 1 spGr) (dN : DT X "_law_form_name" ["name"] 2 (spFm EncN X.K)) (h : spFm Ent1 X.K vs H Q E) : RB X (defBody sq_form_entry) { nx := fun _ H' => Q .non H', rt := Q } (start nq_form_entry vs) H := by
  obtain ⟨v, d, bs, rfl, hv, hR, q⟩ := h
  cases hR with
  | val k hk =>
    obtain ⟨p, u, w, rfl, np, hp, hu, hw⟩ := dt_two hv
    obtain rfl := dt_str_inv hu
    obtain rfl := dt_int_inv hw
    have g1 := grp_21 hk
    show RB X (defBody sq_form_entry) _ [some (.ref p), none, none, none] H
    walk_at "e0"
    walk_at "e0"
    walk_at "sq"
    walk_at "e"
    walk_at "e0"
    refine ⟨by show 1 ≤ sizeLine; decide, fun F hF => ?_⟩
    have f1 : Fr NoB H (upd H F (.lst [.int 1])) := Fr.new hF
    have h1 : upd H F (.lst [.int 1]) F = some (.lst [.int 1]) := upd_same
    generalize upd H F (.lst [.int 1]) = H1 at f1 h1 ⊢
    have hp1 := f1 _ _ (fun z => z) hp
    refine re_call c dG (by decide) (by walk_at "gm") ?_
    walk_at "e"
    refine ⟨k, rfl, hk, fun l2 H2 n2 => ?_⟩
    exact ov_catI (xs := [1]) (f1.trans n2.1) (n2.1 _ _ (fun z => z) h1) n2.2 (by show 1 + _ ≤ _; omega) q
  | nm hN =>
    obtain ⟨p, u, w, rfl, np, hp, hu, hw⟩ := dt_two hv
    obtain rfl := dt_str_inv hu
    have g1 := encN_bd hN
    show RB X (defBody sq_form_entry) _ [some (.ref p), none, none, none] H
    walk_at "e0"
    walk_at "e0"
    walk_at "sq"
    walk_at "e"
    walk_at "e0"
    walk_at "sq"
    walk_at "e"
    walk_at "e0"
    refine ⟨by show 1 ≤ sizeLine; decide, fun F hF => ?_⟩
    have f1 : Fr NoB H (upd H F (.lst [.int 2])) := Fr.new hF
    have h1 : upd H F (.lst [.int 2]) F = some (.lst [.int 2]) := upd_same
    generalize upd H F (.lst [.int 2]) = H1 at f1 h1 ⊢
    have hp1 := f1 _ _ (fun z => z) hp
    have hw1 := hw.fr f1
    refine re_call c dN (by decide) (by walk_at "gm") ?_
    walk_at "e"
    refine ⟨w, _, _, rfl, hw1, hN, fun l2 H2 n2 => ?_⟩
    exact ov_catI (xs := [2]) (f1.trans n2.1) (n2.1 _ _ (fun z => z) h1) n2.2 (by show 1 + _ ≤ _; omega) q
theorem body_form_entry (c : Ctx X nq_form_entry lq_form_entry 3) (c1 : Ctx X nq_form_entry lq_form_entry 2) (dG : DT X "_law_groups" ["worth"] 1 spGr) (dN : DT X "_law_form_name" ["name"] 2 (spFm EncN X.K)) (dL : DT X "_law_form_label" ["label"] 1 (spFm EncB X.K)) (d1 : DT X "_law_form_entry" ["entry"] 3 (spFm Ent1 X.K))
    (h : spFm EncE X.K vs H Q E) : RB X (defBody sq_form_entry) { nx := fun _ H' => Q .non H', rt := Q } (start nq_form_entry vs) H := by
  obtain ⟨v, d, bs, rfl, hv, hR, q⟩ := h
  have bd := encE_bd hR
  cases hR with
  | non =>
    cases hv
    show RB X (defBody sq_form_entry) _ [some .non, none, none, none] H
    walk_at "e0"
    walk_at "e0"
    exact ⟨by show 1 ≤ sizeLine; decide, fun F hF => q F _ ⟨Fr.new hF, upd_same⟩⟩
  | one hE => exact body_form_entry1 (E := E) c1 dG dN ⟨v, d, bs, rfl, hv, hE, q⟩
  | page i rs hr lr =>
    obtain ⟨p, u, w, r, rfl, np, hp, hu, hw, hrs⟩ := dt_three hv
    obtain rfl := dt_str_inv hu
    obtain rfl := dt_int_inv hw
    obtain ⟨t, us, rfl, nt, ht, hus⟩ := dt_tup_inv hrs
    have hlen : us.length = rs.length := by rw [hus.1, List.length_map]
    simp only [List.length_cons, List.length_append, List.length_nil] at bd
    show RB X (defBody sq_form_entry) _ [some (.ref p), none, none, none] H
    walk_at "e0"
    walk_at "e0"
    walk_at "sq"
    walk_at "e"
    walk_at "e0"
    walk_at "sq"
    walk_at "e"
    walk_at "e0"
    refine ⟨by show 2 ≤ sizeLine; decide, fun F hF => ?_⟩
    have f1 : Fr NoB H (upd H F (.lst [.int 3, .int i])) := Fr.new hF
    have h1 : upd H F (.lst [.int 3, .int i]) F = some (.lst [.int 3, .int i]) := upd_same
    generalize upd H F (.lst [.int 3, .int i]) = H1 at f1 h1 ⊢
    have hp1 := f1 _ _ (fun z => z) hp
    have ht1 := f1 _ _ (fun z => z) ht
    walk_at "e"
    refine rb_cons ?_
    refine rs_for_tup2 c (by walk_at "gm") .loc (by walk_at "gm") (by walk_at "gm") .loc (by walk_at "gm") ?_
    walk_at "e"
    refine ⟨t, us, rfl, SqT.of ht1, fun j σ H' => ∃ (F : Addr) (s3 s4 : Option V), NL H H' F (3 :: i :: ((rs.take j).map rowB).flatten) ∧ σ = [some (.ref p), some (.ref F), s3, s4], ⟨F, none, none, ⟨f1, h1⟩, rfl⟩, fun j σ H' h => SqT.of (h.choose_spec.choose_spec.choose_spec.1.1 _ _ nt ht), ?_, ?_⟩
    · rintro j w σ H3 hj ⟨F, s3, s4, n3, rfl⟩
      obtain ⟨rw1, e1⟩ : ∃ r, rs[j]? = some r := by
        rcases Nat.lt_or_ge j us.length with z | z
        · exact ⟨_, List.getElem?_eq_getElem (by omega)⟩
        · rw [List.getElem?_eq_none z] at hj; cases hj
      have hw := hus.2 j w (rowD rw1) hj (by rw [List.getElem?_map, e1]; rfl)
      obtain ⟨a, u, b, rfl, na, ha, hu, hb⟩ := dt_two hw
      obtain rfl := dt_str_inv hu
      have ok := hr rw1 (List.mem_of_getElem? e1)
      have l5 := flat_le rowB e1
      have l6 : (rowB rw1).length = 1 + ((encL rw1.1).length + rw1.2.2.length) := by unfold rowB; rw [List.length_cons, List.length_append]; omega
      refine ⟨a, _, _, rfl, SqT.of (n3.1 _ _ na ha), _, _, by walk_at "gs", by walk_at "gs", ?_⟩
      walk_at "e0"
      refine ⟨by show 1 ≤ sizeLine; decide, fun G hG => ?_⟩
      have f4 : Fr NoB H3 (upd H3 G (.lst [.int 1])) := Fr.new hG
      have h4 : upd H3 G (.lst [.int 1]) G = some (.lst [.int 1]) := upd_same
      generalize upd H3 G (.lst [.int 1]) = H4 at f4 h4 ⊢
      refine ov_catI (ys := [1]) (n3.1.trans f4) (f4 _ _ (fun z => z) n3.2) h4 (by simp only [List.length_cons, List.length_nil]; omega) fun l5 H5 n5 => ?_
      refine re_call c dL (by decide) (by walk_at "gm") ?_
      walk_at "e"
      refine ⟨.str rw1.1, .str rw1.1, _, rfl, .str, ⟨_, rfl, ok.1, rfl⟩, fun l6 H6 n6 => ?_⟩
      refine ov_catI (n5.1.trans n6.1) (n6.1 _ _ (fun z => z) n5.2) n6.2 (by simp only [List.length_cons, List.length_append, List.length_nil]; omega) fun l7 H7 n7 => ?_
      refine re_call c d1 (by decide) (by walk_at "gm") ?_
      walk_at "e"
      refine ⟨b, rw1.2.1, rw1.2.2, rfl, hb.fr n7.1, ok.2, fun l8 H8 n8 => ?_⟩
      refine ov_catI (n7.1.trans n8.1) (n8.1 _ _ (fun z => z) n7.2) n8.2 (by simp only [List.length_cons, List.length_append, List.length_nil]; omega) fun l9 H9 n9 => ?_
      walk_at "e"
      refine ⟨l9, _, _, ⟨n9.1, ?_⟩, rfl⟩
      rw [n9.2, flat_succ rowB e1]
      unfold rowB
      simp
    · rintro σ H3 ⟨F, s3, s4, n3, rfl⟩
      rw [hlen, List.take_length] at n3
      walk_at "e0"
      refine ⟨by show 1 ≤ sizeLine; decide, fun G hG => ?_⟩
      have f4 : Fr NoB H3 (upd H3 G (.lst [.int 0])) := Fr.new hG
      refine ov_catI (ys := [0]) (n3.1.trans f4) (f4 _ _ (fun z => z) n3.2) upd_same (by simp only [List.length_cons, List.length_nil]; omega) fun l5 H5 n5 => q l5 H5 n5
theorem body_form_answer (c : Ctx X nq_form_answer lq_form_answer 3) (zl : X.mg "len" = none) (dG : DT X "_law_groups" ["worth"] 1 spGr) (dI : DT X "_law_form_id" ["one", "more"] 2 (spFI X.K)) (dN : DT X "_law_form_name" ["name"] 2 (spFm EncN X.K))
    (h : spFm EncA X.K vs H Q E) : RB X (defBody sq_form_answer) { nx := fun _ H' => Q .non H', rt := Q } (start nq_form_answer vs) H := by
  obtain ⟨v, d, bs, rfl, hv, hR, q⟩ := h
  have bd := encA_bd hR
  cases hR with
  | @mk w hb ns hH hN ln =>
    obtain ⟨p, u, y, rfl, np, hp, hu, hy⟩ := dt_two hv
    obtain ⟨pn, us, rfl, nn, hpn, hus⟩ := dt_tup_inv hy
    have lus : us.length = ns.length := by rw [hus.1, List.length_map]
    simp only [List.length_cons, List.length_append] at bd
    show RB X (defBody sq_form_answer) _ [some (.ref p), none, none, none, none] H
    refine rb_cons ?_
    refine rs_tup2 c (by walk_at "gm") .loc (by walk_at "gm") (by walk_at "gm") .loc (by walk_at "gm") ?_ (by with_unfolding_all rfl)
    walk_at "e"
    refine ⟨p, _, _, rfl, SqT.of hp, _, _, by walk_at "gs", by walk_at "gs", ?_⟩
    have tail : ∀ (F : Addr) (H1 : Hp), H F = none → Fr NoB H H1 → H1 F = some (.lst (hb.map V.int)) → RB X (List.drop 4 (defBody sq_form_answer)) { nx := fun _ H' => Q .non H', rt := Q } [some (.ref p), some u, some (.ref pn), some (.ref F), none] H1 := by
      intro F H1 hF f1 h1
      have hpn1 := f1 _ _ nn hpn
      refine rb_cons (rs_app c (by walk_at "gm") .loc (by walk_at "gs") h1 ?_)
      walk_at "e"
      refine lv_lenT (SqT.of hpn1) ?_
      walk_at "e"
      refine ⟨_, h1, Nat.lt_of_le_of_lt (show _ ≤ 99000 by rw [List.length_map]; omega) (by decide), ?_⟩
      have f2 : Fr NoB H (upd H1 F (.lst (hb.map V.int ++ [.int (us.length : Int)]))) := fun a o na ea => by
        rw [upd_ne (fun z => by rw [z, hF] at ea; cases ea)]
        exact f1 a o na ea
      have h2 : upd H1 F (.lst (hb.map V.int ++ [.int (us.length : Int)])) F = some (.lst (hb.map V.int ++ [.int (us.length : Int)])) := upd_same
      generalize upd H1 F (.lst (hb.map V.int ++ [.int (us.length : Int)])) = H2 at f2 h2 ⊢
      refine rb_cons ?_
      refine rs_for_tup c (by walk_at "gm") .loc (by walk_at "gm") ?_
      walk_at "e"
      refine ⟨pn, us, rfl, SqT.of (f2 _ _ nn hpn), fun i σ H' => ∃ (F : Addr) (s3 : Option V), NL H H' F (hb ++ (ns.length : Int) :: ((ns.take i).map (·.2)).flatten) ∧ σ = [some (.ref p), some u, some (.ref pn), some (.ref F), s3], ⟨F, none, ⟨f2, by rw [h2, lus]; simp⟩, rfl⟩, fun i σ H' _ h => SqT.of (h.choose_spec.choose_spec.1.1 _ _ nn hpn), ?_, ?_⟩
      · rintro i y σ H3 hi hy ⟨F, s3, n3, rfl⟩
        obtain ⟨n, e1⟩ : ∃ n, ns[i]? = some n := ⟨_, List.getElem?_eq_getElem (by omega)⟩
        have hy1 := hus.2 i y n.1 hy (by rw [List.getElem?_map, e1]; rfl)
        have l5 := flat_le (fun x : D × List Int => x.2) e1
        refine ⟨_, by walk_at "gs", ?_⟩
        walk_at "e0"
        refine re_call c dN (by decide) (by walk_at "gm") ?_
        walk_at "e"
        refine ⟨y, n.1, n.2, rfl, hy1.fr n3.1, hN n (List.mem_of_getElem? e1), fun l4 H4 n4 => ?_⟩
        refine ov_catI (n3.1.trans n4.1) (n4.1 _ _ (fun z => z) n3.2) n4.2 (by simp only [List.length_append, List.length_cons]; omega) fun l5 H5 n5 => ?_
        walk_at "e"
        refine ⟨l5, _, ⟨n5.1, ?_⟩, rfl⟩
        rw [n5.2, flat_succ (fun x : D × List Int => x.2) e1]
        simp
      · rintro σ H3 ⟨F, s3, n3, rfl⟩
        rw [lus, List.take_length] at n3
        walk_at "e0"
        exact q F H3 n3
    have ap : ∀ (j : Nat) (k : Str) (pf : Addr) (ys : List V), H pf = some (.tup (.str k :: ys)) → u = .ref pf → FOUNDS[j]? = some k → (∀ m, m < j → FOUNDS[m]? ≠ some k) →
        (∀ F H1, H F = none → Fr NoB H H1 → H1 F = some (.lst [.int (j : Int)]) → RB X (List.drop 2 (defBody sq_form_answer)) { nx := fun _ H' => Q .non H', rt := Q } [some (.ref p), some u, some (.ref pn), some (.ref F), none] H1) →
        RB X (List.drop 1 (defBody sq_form_answer)) { nx := fun _ H' => Q .non H', rt := Q } [some (.ref p), some u, some (.ref pn), none, none] H := by
      rintro j k pf ys hpf rfl e1 e2 go
      refine rb_cons (rs_set c (by walk_at "gm") .loc (by walk_at "gm") ?_)
      refine re_lst (ra_cons (re_lindex ?_))
      walk_at "e"
      refine ⟨by show 5 ≤ sizeLine; decide, fun L hL => ?_⟩
      have f1 : Fr NoB H (upd H L (.lst (FOUNDS.map V.str))) := Fr.new hL
      refine ⟨L, FOUNDS, rfl, SqL.of upd_same, ?_⟩
      walk_at "e"
      refine iv_tup (SqT.of (f1 _ _ (fun z => z) hpf)) (at_nat (i := 0) rfl) ?_
      refine ⟨k, j, rfl, SqL.of upd_same, e1, e2, ?_⟩
      walk_at "e"
      refine ⟨by show 1 ≤ sizeLine; decide, fun F hF => ?_⟩
      refine ⟨_, by walk_at "gs", ?_⟩
      exact go F _ (f1.free hF) (f1.trans (Fr.new hF)) upd_same
    cases hH with
    | value k hk =>
      obtain ⟨pf, u1, u2, rfl, nf, hf, hu1, hu2⟩ := dt_two hu
      obtain rfl := dt_str_inv hu1
      obtain rfl := dt_int_inv hu2
      have g1 := grp_21 hk
      refine ap 0 "value" pf _ hf rfl rfl (fun m hm => by omega) fun F H1 hF f1 h1 => ?_
      have hf1 := f1 _ _ nf hf
      walk_at "e0"
      walk_at "sq"
      walk_at "e0"
      refine re_call c dG (by decide) (by walk_at "gm") ?_
      walk_at "e"
      refine ⟨k, rfl, hk, fun l2 H2 n2 => ?_⟩
      have h12 : H2 F = some (.lst ([(0 : Int)].map V.int)) := n2.1 _ _ (fun z => z) h1
      have h2f := (f1.trans n2.1)
      have hf2 := h2f _ _ nf hf
      refine ov_cat h12 n2.2 (sl (by rw [List.length_map, List.length_map]; show 1 + _ ≤ _; omega)) fun l3 hl3 => ?_
      have f3 : Fr NoB H (upd H2 l3 (.lst ([(0 : Int)].map V.int ++ (grp k).map V.int))) := h2f.trans (Fr.new hl3)
      have hf3 := f3 _ _ nf hf
      walk_at "e"
      walk_at "e0"
      walk_at "sq"
      walk_at "e"
      refine tail l3 _ (h2f.free hl3) f3 ?_
      rw [upd_same]
      rfl
    | page i hT hn =>
      obtain ⟨pf, u1, u2, u3, rfl, nf, hf, hu1, hu2, hu3⟩ := dt_three hu
      obtain rfl := dt_str_inv hu1
      obtain rfl := dt_int_inv hu2
      have g1 := encT_bd hT
      refine ap 1 "page" pf _ hf rfl rfl (by decide +kernel) fun F H1 hF f1 h1 => ?_
      have hf1 := f1 _ _ nf hf
      walk_at "e0"
      walk_at "sq"
      walk_at "e"
      walk_at "e0"
      walk_at "sq"
      walk_at "e0"
      refine ⟨by show 1 ≤ sizeLine; decide, fun G hG => ?_⟩
      have f2 : Fr NoB H1 (upd H1 G (.lst [.int i])) := Fr.new hG
      refine ov_cat (f2 _ _ (fun z => z) h1) upd_same (by show 1 + 1 ≤ sizeLine; decide) fun l3 hl3 => ?_
      have f3 : Fr NoB H (upd (upd H1 G (.lst [.int i])) l3 (.lst ([.int ((1 : Nat) : Int)] ++ [.int i]))) := (f1.trans f2).trans (Fr.new hl3)
      have h3 : upd (upd H1 G (.lst [.int i])) l3 (.lst ([.int ((1 : Nat) : Int)] ++ [.int i])) l3 = some (.lst ([.int ((1 : Nat) : Int)] ++ [.int i])) := upd_same
      generalize upd (upd H1 G (.lst [.int i])) l3 (.lst ([.int ((1 : Nat) : Int)] ++ [.int i])) = H3 at f3 h3 ⊢
      have hf3 := f3 _ _ nf hf
      walk_at "e"
      refine ⟨by show 0 ≤ sizeLine; decide, fun r hr => ?_⟩
      have f4 : Fr NoB H3 (upd H3 r (.tup [])) := Fr.new hr
      have h4 := f4 _ _ (fun z => z) h3
      cases hT with
      | non => exact absurd rfl hn
      | emp =>
        obtain ⟨t, us2, rfl, nt, ht, g⟩ := dt_tup_inv hu3
        obtain rfl := dts_nil_inv g
        refine cv_eqEmp c (a := 0) (b := 0) (d := 0) true ((f3.trans f4) _ _ (fun z => z) ht) upd_same ?_
        walk_at "e"
        refine ⟨by show 1 ≤ sizeLine; decide, fun s hs => ?_⟩
        have f5 : Fr NoB (upd H3 r (.tup [])) (upd (upd H3 r (.tup [])) s (.lst [.int 0])) := Fr.new hs
        refine ov_cat (f5 _ _ (fun z => z) h4) upd_same (by show 2 + 1 ≤ sizeLine; decide) fun l6 hl6 => ?_
        have f6 : Fr NoB H (upd (upd H3 r (.tup [])) s (.lst [.int 0])) := f3.trans (f4.trans f5)
        walk_at "e"
        refine tail l6 _ (f6.free hl6) (f6.trans (Fr.new hl6)) ?_
        rw [upd_same]
        rfl
      | id hI =>
        cases hI with
        | mk a b e hb he =>
          obtain ⟨t, rfl, nt, ht⟩ := dt_ids hu3
          refine cv_eqEmp c (a := a) (b := b) (d := e) false ((f3.trans f4) _ _ (fun z => z) ht) upd_same ?_
          have hf4 := f4 _ _ (fun z => z) hf3
          have hu4 := hu3.fr (f3.trans f4)
          have f34 := f3.trans f4
          generalize upd H3 r (.tup []) = H4 at f4 h4 hf4 hu4 f34 ⊢
          walk_at "e"
          refine re_call c dI (by decide) (by walk_at "gm") ?_
          walk_at "e"
          refine ⟨.ref t, 1, _, _, rfl, hu4, .mk a b e hb he, fun l5 H5 n5 => ?_⟩
          have gl : ((a + 1) :: (grp b ++ grp e)).length ≤ 43 := g1
          refine ov_cat (n5.1 _ _ (fun z => z) h4) n5.2 (sl (by rw [List.length_map]; show 2 + _ ≤ _; omega)) fun l6 hl6 => ?_
          have f6 : Fr NoB H H5 := f34.trans n5.1
          walk_at "e"
          refine tail l6 _ (f6.free hl6) (f6.trans (Fr.new hl6)) ?_
          rw [upd_same]
          rfl
    | nothing =>
      obtain ⟨pf, u1, rfl, nf, hf, hu1⟩ := dt_one hu
      obtain rfl := dt_str_inv hu1
      refine ap 2 "nothing" pf _ hf rfl rfl (by decide +kernel) fun F H1 hF f1 h1 => ?_
      have hf1 := f1 _ _ nf hf
      walk_at "e0"
      walk_at "sq"
      walk_at "e"
      walk_at "e0"
      walk_at "sq"
      walk_at "e"
      exact tail F H1 hF f1 h1
    | long =>
      obtain ⟨pf, u1, rfl, nf, hf, hu1⟩ := dt_one hu
      obtain rfl := dt_str_inv hu1
      refine ap 3 "long" pf _ hf rfl rfl (by decide +kernel) fun F H1 hF f1 h1 => ?_
      have hf1 := f1 _ _ nf hf
      walk_at "e0"
      walk_at "sq"
      walk_at "e"
      walk_at "e0"
      walk_at "sq"
      walk_at "e"
      exact tail F H1 hF f1 h1
    | far =>
      obtain ⟨pf, u1, rfl, nf, hf, hu1⟩ := dt_one hu
      obtain rfl := dt_str_inv hu1
      refine ap 4 "far" pf _ hf rfl rfl (by decide +kernel) fun F H1 hF f1 h1 => ?_
      have hf1 := f1 _ _ nf hf
      walk_at "e0"
      walk_at "sq"
      walk_at "e"
      walk_at "e0"
      walk_at "sq"
      walk_at "e"
      exact tail F H1 hF f1 h1
theorem body_form_part (c : Ctx X nq_form_part lq_form_part 4) (dI : DT X "_law_form_id" ["one", "more"] 2 (spFI X.K)) (dL : DT X "_law_form_label" ["label"] 1 (spFm EncB X.K)) (dF : DT X "_law_form_fraction" ["one"] 2 (spFm EncF X.K)) (dN : DT X "_law_form_name" ["name"] 2 (spFm EncN X.K)) (dE : DT X "_law_form_entry" ["entry"] 4 (spFm EncE X.K)) (dA : DT X "_law_form_answer" ["answer"] 4 (spFm EncA X.K))
    (h : spFP X.K vs H Q E) : RB X (defBody sq_form_part) { nx := fun _ H' => Q .non H', rt := Q } (start nq_form_part vs) H := by
  obtain ⟨w, v, d, bs, rfl, hv, hP, q⟩ := h
  have term : EncT d bs → (w = "kept" ∨ w = "term") → RB X (defBody sq_form_part) { nx := fun _ H' => Q .non H', rt := Q } [some (.str w), some v] H := by
    intro hT hw
    refine rb_cons (rs_if (rt_mono (Q := fun cc H1 => cc = true ∧ H1 = H) ?_ ?_))
    · rcases hw with rfl | rfl
      · walk_at "gg"
        exact ⟨rfl, rfl⟩
      · walk_at "gg"
        exact ⟨rfl, rfl⟩
    rintro cc H1 ⟨rfl, e1⟩
    rw [e1]
    walk_at "e"
    walk_at "e0"
    cases hT with
    | non =>
      cases hv
      walk_at "e"
      exact ⟨by show 1 ≤ sizeLine; decide, fun F hF => q F _ ⟨Fr.new hF, upd_same⟩⟩
    | emp =>
      obtain ⟨t, us2, rfl, nt, ht, g⟩ := dt_tup_inv hv
      obtain rfl := dts_nil_inv g
      walk_at "e"
      refine ⟨by show 0 ≤ sizeLine; decide, fun r hr => ?_⟩
      have f4 : Fr NoB H (upd H r (.tup [])) := Fr.new hr
      refine cv_eqEmp c (a := 0) (b := 0) (d := 0) true (f4 _ _ (fun z => z) ht) upd_same ?_
      walk_at "e"
      exact ⟨by show 1 ≤ sizeLine; decide, fun F hF => q F _ ⟨f4.trans (Fr.new hF), upd_same⟩⟩
    | id hI =>
      cases hI with
      | mk a b e hb he =>
        obtain ⟨t, rfl, nt, ht⟩ := dt_ids hv
        walk_at "e"
        refine ⟨by show 0 ≤ sizeLine; decide, fun r hr => ?_⟩
        have f4 : Fr NoB H (upd H r (.tup [])) := Fr.new hr
        refine cv_eqEmp c (a := a) (b := b) (d := e) false (f4 _ _ (fun z => z) ht) upd_same ?_
        walk_at "e"
        refine re_call c dI (by decide) (by walk_at "gm") ?_
        walk_at "e"
        exact ⟨.ref t, 1, _, _, rfl, hv.fr f4, .mk a b e hb he, fun l5 H5 n5 => q l5 H5 (n5.trans f4)⟩
  cases hP with
  | kept h => exact term h (.inl rfl)
  | term h => exact term h (.inr rfl)
  | node h =>
    obtain ⟨i, rfl, rfl⟩ := h
    obtain rfl := dt_int_inv hv
    show RB X (defBody sq_form_part) _ [some (.str "node"), some (.int i)] H
    walk_at "e0"
    walk_at "gg"
    exact ⟨by show 1 ≤ sizeLine; decide, fun F hF => q F _ ⟨Fr.new hF, upd_same⟩⟩
  | most h =>
    obtain ⟨i, rfl, rfl⟩ := h
    obtain rfl := dt_int_inv hv
    show RB X (defBody sq_form_part) _ [some (.str "most"), some (.int i)] H
    walk_at "e0"
    walk_at "gg"
    exact ⟨by show 1 ≤ sizeLine; decide, fun F hF => q F _ ⟨Fr.new hF, upd_same⟩⟩
  | id h =>
    show RB X (defBody sq_form_part) _ [some (.str "id"), some v] H
    walk_at "e0"
    walk_at "gg"
    refine re_call c dI (by decide) (by walk_at "gm") ?_
    walk_at "e"
    exact ⟨v, 0, d, bs, rfl, hv, h, q⟩
  | label h =>
    show RB X (defBody sq_form_part) _ [some (.str "label"), some v] H
    walk_at "e0"
    walk_at "gg"
    refine re_call c dL (by decide) (by walk_at "gm") ?_
    walk_at "e"
    exact ⟨v, d, bs, rfl, hv, h, q⟩
  | fraction h =>
    show RB X (defBody sq_form_part) _ [some (.str "fraction"), some v] H
    walk_at "e0"
    walk_at "gg"
    refine re_call c dF (by decide) (by walk_at "gm") ?_
    walk_at "e"
    exact ⟨v, d, bs, rfl, hv, h, q⟩
  | name h =>
    show RB X (defBody sq_form_part) _ [some (.str "name"), some v] H
    walk_at "e0"
    walk_at "gg"
    refine re_call c dN (by decide) (by walk_at "gm") ?_
    walk_at "e"
    exact ⟨v, d, bs, rfl, hv, h, q⟩
  | entry h =>
    show RB X (defBody sq_form_part) _ [some (.str "entry"), some v] H
    walk_at "e0"
    walk_at "gg"
    refine re_call c dE (by decide) (by walk_at "gm") ?_
    walk_at "e"
    exact ⟨v, d, bs, rfl, hv, h, q⟩
  | answer h =>
    show RB X (defBody sq_form_part) _ [some (.str "answer"), some v] H
    walk_at "e0"
    walk_at "gg"
    refine re_call c dA (by decide) (by walk_at "gm") ?_
    walk_at "e"
    exact ⟨v, d, bs, rfl, hv, h, q⟩
end
/-! ### the program's reader -/
abbrev sR_init : Stmt := inCls (top 27) 0
abbrev sR_done : Stmt := inCls (top 27) 1
abbrev sR_take : Stmt := inCls (top 27) 2
abbrev sR_refuse : Stmt := inCls (top 27) 3
abbrev nR_init : List Str := ["self", "octets"]
abbrev lR_init : List (Str × KN) := [("self", .loc), ("octets", .loc), ("isinstance", .glob), ("list", .glob), ("tuple", .glob), ("BadOctets", .glob)]
theorem mR_init : Nms sR_init nR_init ["self", "octets"] lR_init := ⟨⟨rfl, rfl, rfl, by decide +kernel, rfl, by decide +kernel, by decide +kernel⟩, by decide +kernel, by decide +kernel, by decide +kernel⟩
abbrev nR_done : List Str := ["self"]
abbrev lR_done : List (Str × KN) := [("self", .loc), ("len", .glob)]
theorem mR_done : Nms sR_done nR_done ["self"] lR_done := ⟨⟨rfl, rfl, rfl, by decide +kernel, rfl, by decide +kernel, by decide +kernel⟩, by decide +kernel, by decide +kernel, by decide +kernel⟩
abbrev nR_take : List Str := ["self", "low", "high", "octet"]
abbrev lR_take : List (Str × KN) := [("self", .loc), ("low", .loc), ("high", .loc), ("octet", .loc), ("is_whole", .glob), ("CutShort", .glob), ("BadOctets", .glob)]
theorem mR_take : Nms sR_take nR_take ["self", "low", "high"] lR_take := ⟨⟨rfl, rfl, rfl, by decide +kernel, rfl, by decide +kernel, by decide +kernel⟩, by decide +kernel, by decide +kernel, by decide +kernel⟩
abbrev nR_refuse : List Str := ["self"]
abbrev lR_refuse : List (Str × KN) := [("self", .loc), ("BadOctets", .glob)]
theorem mR_refuse : Nms sR_refuse nR_refuse ["self"] lR_refuse := ⟨⟨rfl, rfl, rfl, by decide +kernel, rfl, by decide +kernel, by decide +kernel⟩, by decide +kernel, by decide +kernel, by decide +kernel⟩
/-- what is known of the class Reader -/
structure RdC (K : PySem.W.Frag) (CL : Addr) : Prop where
  cl : Cls K CL
  nA : NoAttr K CL "at"
  nO : NoAttr K CL "octets"
section
variable {X : Cx} {CC CB CL oc : Addr} {os : ORow} {vs : List V} {H : Hp} {Q : VK} {E : XK}
def spWh : Sp := fun vs H Q _ => ∃ (v : V) (o : Option Int), vs = [v] ∧ ItemR H v o ∧ Q (.bl o.isSome) H
theorem body_is_whole (c : Ctx X nq_is_whole lq_is_whole 0) (zi : X.mg "isinstance" = none) (zI : X.mg "int" = none) (zb : X.mg "bool" = none) (h : spWh vs H Q E) : RB X (defBody sq_is_whole) { nx := fun _ H' => Q .non H', rt := Q } (start nq_is_whole vs) H := by
  obtain ⟨v, o, rfl, r, q⟩ := h
  show RB X (defBody sq_is_whole) _ [some v] H
  cases r with
  | int => walk_at "g0"; exact q
  | non => walk_at "g0"; exact q
  | bl => walk_at "g0"; exact q
  | str => walk_at "g0"; exact q
  | tup t => walk_at "g0"; exact q
  | lst t => walk_at "g0"; exact q
def spDone (CL oc : Addr) (os : ORow) : Sp := fun vs H Q _ => ∃ (a : Addr) (p : Nat), vs = [.ref a] ∧ RdAt CL oc os p H a ∧ Q (.bl (decide (p = os.length))) H
theorem body_done (c : Ctx X nR_done lR_done 0) (RC : RdC X.K CL) (zl : X.mg "len" = none) (h : spDone CL oc os vs H Q E) : RB X (defBody sR_done) { nx := fun _ H' => Q .non H', rt := Q } (start nR_done vs) H := by
  obtain ⟨a, p, rfl, ⟨dx, us, h1, h2, h3, h4⟩, q⟩ := h
  show RB X (defBody sR_done) _ [some (.ref a)] H
  walk_at "g0"
  refine re_fld ?_
  walk_at "e"
  refine ⟨a, CL, dx, _, _, rfl, h1, RC.cl, RC.nA, rfl, ?_⟩
  walk_at "e"
  refine re_fld ?_
  walk_at "e"
  refine ⟨a, CL, dx, _, _, rfl, h1, RC.cl, RC.nO, rfl, ?_⟩
  walk_at "e"
  have fin : Q (.bl (decide ((p : Int) = us.length))) H := by
    have e : decide ((p : Int) = us.length) = decide (p = os.length) := by
      rw [h3.1]
      exact decide_eq_decide.mpr Int.ofNat_inj
    rw [e]
    exact q
  rcases h2 with h2 | h2
  · refine lv_lenL (SqL.of h2) ?_
    walk_at "e"
    exact fin
  · refine lv_lenT (SqT.of h2) ?_
    walk_at "e"
    exact fin
abbrev rI : Hp → V → Int → Prop := fun _ v x => v = .int x
abbrev rD : Hp → V → D → Prop := fun H v d => Dz H v d
abbrev rS : Hp → V → List Nat → Prop := fun _ v l => v = .str ⟨l.toArray⟩
theorem putAt {v w : V} {o : V} : putF "at" w [(("octets" : Str), o), (("at" : Str), v)] = [(("octets" : Str), o), (("at" : Str), w)] := by with_unfolding_all rfl
theorem _root_.GT.RdAt.step {p : Nat} {a dx : Addr} {i : Int} (h : RdAt CL oc os p H a) (h1 : H a = some (.ins CL dx [("octets", .ref oc), ("at", .int i)])) (hp : p < os.length) : RdAt CL oc os (p + 1) (upd H a (.ins CL dx (putF "at" (.int ((p : Int) + 1)) [("octets", .ref oc), ("at", .int i)]))) a := by
  obtain ⟨dx', us, h2, h3, h4, h5⟩ := h
  rw [putAt]
  have na : ∀ xs, H oc = some (.lst xs) ∨ H oc = some (.tup xs) → oc ≠ a := fun xs z e => by
    rw [e, h1] at z
    rcases z with z | z <;> cases z
  refine ⟨dx, us, by rw [upd_same]; rfl, ?_, h4.kf (KF.putI h1), hp⟩
  rw [upd_ne (na us h3)]
  exact h3
def spTk (CC CB CL oc : Addr) (os : ORow) : Sp := fun vs H Q E => ∃ (a : Addr) (p : Nat) (lo hi : Int), vs = [.ref a, .int lo, .int hi] ∧ RdAt CL oc os p H a ∧ PPost CC CB CL oc os (rTake os lo hi p) rI a H Q E
theorem body_Rtake (c : Ctx X nR_take lR_take 2) (RC : RdC X.K CL) (EN : ErrN X.K X.mg "CutShort" CC) (EC : ErrC X.prog X.w X.K X.mg X.base "BadOctets" "at" CB) (dD : MethP X.prog X.w X.K X.mg X.base CX0 CL "is_done" ["self"] 1 (spDone CL oc os))
    (dW : DefP X.prog X.w X.K X.mg X.base CX0 "is_whole" ["value"] 1 spWh) (tk : L2N.Takes X (fun cls d _ H' => E cls d H')) (h : spTk CC CB CL oc os vs H Q E) : RB X (defBody sR_take) { nx := fun _ H' => Q .non H', rt := Q } (start nR_take vs) H := by
  obtain ⟨a, p, lo, hi, rfl, hR, q⟩ := h
  obtain ⟨dx, us, h1, h2, h3, h4⟩ := id hR
  show RB X (defBody sR_take) _ [some (.ref a), some (.int lo), some (.int hi), none] H
  walk_at "g0"
  refine re_meth0 c RC.cl dD (by decide) pass0 ?_
  walk_at "e"
  refine ⟨a, dx, _, rfl, h1, rfl, a, p, rfl, hR, ?_⟩
  walk_at "e"
  refine ite2 (fun e => ?_) (fun e => ?_)
  · have e1 : p = os.length := of_decide_eq_true e
    refine rb_cons (rs_raiseN0 c EN (by walk_at "gm") tk (q.cut p H ?_ Fk.refl hR))
    unfold rTake
    rw [List.getElem?_eq_none (by omega), e1]
  · have e1 : p ≠ os.length := of_decide_eq_false (by simpa using e)
    have hp : p < us.length := by have := h3.1; omega
    have hv : us[p]? = some us[p] := List.getElem?_eq_getElem hp
    have ho : os[p]? = some (os[p]'(by omega)) := List.getElem?_eq_getElem (by omega)
    have at_ : atI us (p : Int) = some us[p] := by
      unfold atI ixN
      rw [if_pos (Int.natCast_nonneg p), if_pos (by omega)]
      exact hv
    walk_at "g"
    refine re_fld ?_
    walk_at "e"
    refine ⟨a, CL, dx, _, _, rfl, h1, RC.cl, RC.nO, rfl, ?_⟩
    refine re_fld ?_
    walk_at "e"
    refine ⟨a, CL, dx, _, _, rfl, h1, RC.cl, RC.nA, rfl, ?_⟩
    have fault : rTake os lo hi p = .bad p → ∀ d, H d = none → E (.ref CB) (some d) (upd H d (.xd [("at", .int (p : Int))])) := fun e2 d hd => q.bad p d _ e2 (by omega) (Fk.new hd) hd upd_same
    have rest : ∀ v o, os[p]? = some o → ItemR H v o → RB X (List.drop 2 (defBody sR_take)) { nx := fun _ H' => Q .non H', rt := Q } [some (.ref a), some (.int lo), some (.int hi), some v] H := by
      intro v o ho ir
      walk_at "g0"
      refine re_callN c (E := E0) dW (by decide) (by walk_at "gm") pass0 ?_
      walk_at "g"
      refine ⟨_, _, rfl, ir, ?_⟩
      cases o with
      | none =>
        walk_at "e"
        refine iteT ?_
        refine iteT ?_
        refine rb_cons (rs_raiseN c EC (by decide) (by walk_at "gm") tk (re_fld ?_))
        walk_at "e"
        refine ⟨a, CL, dx, _, _, rfl, h1, RC.cl, RC.nA, rfl, fault ?_⟩
        unfold rTake
        rw [ho]
      | some i =>
        cases ir
        have rais : rTake os lo hi p = .bad p → ∀ D : Ends, RB X (match List.getD (defBody sR_take) 2 (.Pass ⟨0, 0, 0, 0⟩) with | .If _ b _ _ => b | _ => []) D [some (.ref a), some (.int lo), some (.int hi), some (.int i)] H := fun e2 D => by
          refine rb_cons (rs_raiseN c EC (by decide) (by walk_at "gm") tk (re_fld ?_))
          walk_at "e"
          exact ⟨a, CL, dx, _, _, rfl, h1, RC.cl, RC.nA, rfl, fault e2⟩
        have e4 : rTake os lo hi p = if lo ≤ i ∧ i ≤ hi then .ok i (p + 1) else .bad p := by
          unfold rTake
          rw [ho]
        walk_at "e"
        refine iteF ?_
        walk_at "e"
        refine ite2 (fun e => ?_) (fun e => ?_)
        · refine iteT ?_
          refine rais ?_ _
          rw [e4, if_neg (fun z => by have := of_decide_eq_true e; omega)]
        walk_at "e"
        refine ite2 (fun e' => ?_) (fun e' => ?_)
        · refine rais ?_ _
          rw [e4, if_neg (fun z => by have := of_decide_eq_true e'; omega)]
        · have w1 : lo ≤ i ∧ i ≤ hi := ⟨by simpa using e, by simpa using e'⟩
          rw [if_pos w1] at e4
          walk_at "g"
          refine rs_fldadd ?_
          walk_at "e"
          refine ⟨a, CL, dx, _, _, rfl, h1, RC.cl, RC.nA, rfl, ?_⟩
          walk_at "e"
          refine ⟨(p : Int), 1, rfl, rfl, dx, _, h1, by show 2 < 1000; decide, ?_⟩
          walk_at "g"
          exact q.ok i (p + 1) _ _ e4 (Fk.putI h1 rfl) (hR.step h1 (by have := h3.1; omega)) rfl
    rcases h2 with h2 | h2
    · refine iv_list (SqL.of h2) at_ ?_
      walk_at "e"
      exact rest _ _ ho (h3.2 p _ _ hv ho)
    · refine iv_tup (SqT.of h2) at_ ?_
      walk_at "e"
      exact rest _ _ ho (h3.2 p _ _ hv ho)
/-- tells that the last octet doesn't go on -/
def spRef (CB CL oc : Addr) (os : ORow) : Sp := fun vs H Q E => ∃ (a : Addr) (p : Nat), vs = [.ref a] ∧ RdAt CL oc os p H a ∧ 0 < p ∧ ∀ d, H d = none → E (.ref CB) (some d) (upd H d (.xd [("at", .int ((p - 1 : Nat) : Int))]))
theorem body_refuse (c : Ctx X nR_refuse lR_refuse 2) (RC : RdC X.K CL) (EC : ErrC X.prog X.w X.K X.mg X.base "BadOctets" "at" CB) (tk : L2N.Takes X (fun cls d _ H' => E cls d H')) (h : spRef CB CL oc os vs H Q E) : RB X (defBody sR_refuse) { nx := fun _ H' => Q .non H', rt := Q } (start nR_refuse vs) H := by
  obtain ⟨a, p, rfl, ⟨dx, us, h1, h2, h3, h4⟩, h0, q⟩ := h
  show RB X (defBody sR_refuse) _ [some (.ref a)] H
  refine rb_cons (rs_raiseN c EC (by decide) (by walk_at "gm") tk ?_)
  walk_at "e"
  refine re_fld ?_
  walk_at "e"
  refine ⟨a, CL, dx, _, _, rfl, h1, RC.cl, RC.nA, rfl, ?_⟩
  walk_at "e"
  rw [show (p : Int) - 1 = ((p - 1 : Nat) : Int) by omega]
  exact q
/-- a new reader -/
def spRI (CB CL : Addr) : Sp := fun vs H Q E => ∃ (a dx : Addr) (v : V), vs = [.ref a, v] ∧ H a = some (.ins CL dx []) ∧
  ((∃ (oc : Addr) (xs : List V), v = .ref oc ∧ (H oc = some (.lst xs) ∨ H oc = some (.tup xs)) ∧ ∀ H' dx', Fk (· = a) H H' → H' a = some (.ins CL dx' [("octets", .ref oc), ("at", .int 0)]) → Q .non H') ∨
   ((v = .non ∨ (∃ i, v = .int i) ∨ (∃ s, v = .str s) ∨ ∃ b, v = .bl b) ∧ ∀ H' d, Fk (· = a) H H' → H d = none → H' d = some (.xd [("at", .int (-1))]) → E (.ref CB) (some d) H'))
end
section
variable {X : Cx} {CC CB CL oc : Addr} {os : ORow} {vs : List V} {H : Hp} {Q : VK} {E : XK}
/-- a reading's promise -/
def spRd {α : Type} (CC CB CL oc : Addr) (os : ORow) (rd : Nat → Rdg α) (rel : Hp → V → α → Prop) : Sp := fun vs H Q E => ∃ (a : Addr) (p : Nat), vs = [.ref a] ∧ RdAt CL oc os p H a ∧ PPost CC CB CL oc os (rd p) rel a H Q E
/-- behind an octet -/
def spGB (CC CB CL oc : Addr) (os : ORow) : Sp := fun vs H Q E => ∃ (a : Addr) (p : Nat) (x : Int), vs = [.ref a, .int x] ∧ 0 ≤ x ∧ RdAt CL oc os p H a ∧ PPost CC CB CL oc os ((rBehind os x p).map worth) rI a H Q E
abbrev DN (X : Cx) (x : Str) (ps : List Str) (k : Nat) (sp : Sp) : Prop := DefP X.prog X.w X.K X.mg X.base (L2N.CX X.prog X.w) x ps k sp
abbrev MN (X : Cx) (CL : Addr) (x : Str) (ps : List Str) (k : Nat) (sp : Sp) : Prop := MethP X.prog X.w X.K X.mg X.base (L2N.CX X.prog X.w) CL x ps k sp
theorem pN (tk : L2N.Takes X (fun cls d _ H' => E cls d H')) : Passes (L2N.CX X.prog X.w) X E := L2N.passes_call tk fun _ _ _ _ h => h
theorem rDigs_eq {lo : Int} {n p : Nat} (h : os.length ≤ n + p) (hp : p ≤ os.length) : rDigs os lo n p = (rTake os lo 255 p).bind fun a p1 => if a < 128 then .ok [a] p1 else (rDigs os 1 (n - 1) p1).map (a :: ·) := by
  cases n with
  | zero =>
    unfold rTake
    rw [List.getElem?_eq_none (by omega)]
    rfl
  | succ n => rfl
/-- how far the reader at a is -/
def posOf (H : Hp) (a : Addr) : Nat := match H a with
  | some (.ins _ _ [_, (_, .int i)]) => i.toNat
  | _ => 0
theorem posOf_eq {p : Nat} {a : Addr} (h : RdAt CL oc os p H a) : posOf H a = p := by
  obtain ⟨dx, us, h1, _⟩ := h
  unfold posOf
  rw [h1]
  rfl
theorem body_groups_behind (c : Ctx X nq_groups_behind lq_groups_behind 3) (RC : RdC X.K CL) (dT : MN X CL "take" ["self", "low", "high"] 3 (spTk CC CB CL oc os)) (tk : L2N.Takes X (fun cls d _ H' => E cls d H')) (h : spGB CC CB CL oc os vs H Q E) :
    RB X (defBody sq_groups_behind) { nx := fun _ H' => Q .non H', rt := Q } (start nq_groups_behind vs) H := by
  obtain ⟨a, p, x, rfl, x0, hR, q⟩ := h
  show RB X (defBody sq_groups_behind) _ [some (.ref a), some (.int x), none, none, none] H
  refine rb_cons (rs_par3 c (by walk_at "gm") (by walk_at "gm") (by walk_at "gm") (by walk_at "gm") (by walk_at "gm") (by walk_at "gm") (by decide) (by decide) (by decide) ?_)
  walk_at "e"
  refine ov_and (k := 7) (by decide) ?_
  walk_at "e"
  refine ⟨_, _, _, _, _, _, rfl, by walk_at "gs", by walk_at "gs", by walk_at "gs", ?_⟩
  refine rb_cons (rs_while c (fun σ' H' => ∃ (p1 n : Nat) (num unit o : Int), σ' = [some (.ref a), some (.int x), some (.int num), some (.int unit), some (.int o)] ∧ RdAt CL oc os p1 H' a ∧ Fk (· = a) H H' ∧ os.length ≤ n + p1 ∧
    (rBehind os x p).map worth = (if o < 128 then Rdg.ok [] p1 else rDigs os 1 n p1).map fun l => num + unit * worth l) (fun _ H' => os.length - posOf H' a) ?_ ?_)
  · refine ⟨p, os.length, x % 2 ^ 7, 128, x, rfl, hR, Fk.refl, by omega, ?_⟩
    unfold rBehind
    split
    · show Rdg.ok _ _ = Rdg.ok _ _
      simp [worth]
    · rw [Rdg.map_map]
      rfl
  · rintro σ' H1 ⟨p1, n, num, unit, o, rfl, hR1, f1, hn, e1⟩
    walk_at "e"
    refine ite2 (fun e => ?_) (fun e => ?_)
    · have ho : ¬ o < 128 := by have := of_decide_eq_true e; omega
      rw [if_neg ho, rDigs_eq hn hR1.le] at e1
      obtain ⟨dx, us, h1, _⟩ := id hR1
      walk_at "g0"
      refine re_meth c RC.cl dT (by decide) (pN tk) ?_
      walk_at "e"
      refine ⟨a, dx, _, rfl, h1, rfl, ?_⟩
      walk_at "e"
      have q1 := q
      rw [e1, Rdg.bind_map] at q1
      refine ⟨a, p1, 1, 255, rfl, hR1, (q1.move hR1 f1).bind fun y p2 v H2 e2 f2 hR2 r2 _ => ?_⟩
      obtain rfl : v = .int y := r2
      rw [e2] at e1
      obtain ⟨hp2, hp1, y1, y2, _⟩ := take_ok e2
      walk_at "g"
      refine ov_and (k := 7) (by decide) ?_
      walk_at "e"
      refine ov_mulL ⟨by omega, by omega⟩ ?_
      walk_at "g"
      refine ⟨⟨p2, n - 1, _, _, y, rfl, hR2, f1.trans f2, by omega, ?_⟩, ?_⟩
      · rw [e1]
        show (if y < 128 then Rdg.ok [y] p2 else (rDigs os 1 (n - 1) p2).map (y :: ·)).map _ = _
        have arith : ∀ w : Int, num + unit * (y % 128 + 128 * w) = num + y % 2 ^ 7 * unit + unit * 128 * w := fun w => by
          rw [show (2 : Int) ^ 7 = 128 by decide, Int.mul_add, ← Int.mul_assoc, Int.mul_comm unit (y % 128), Int.add_assoc]
        split
        · show Rdg.ok _ _ = Rdg.ok _ _
          have := arith 0
          simp only [worth]
          rw [this]
        · rw [Rdg.map_map]
          congr 1
          funext l
          exact arith (worth l)
      · rw [posOf_eq hR1, posOf_eq hR2]
        omega
    · have ho : o < 128 := by
        have z : o ≤ 127 := by simpa using e
        omega
      rw [if_pos ho] at e1
      walk_at "g"
      refine q.ok num p1 _ _ ?_ f1 hR1 rfl
      rw [e1]
      show Rdg.ok _ _ = Rdg.ok _ _
      simp [worth]
theorem body_read_groups (c : Ctx X nq_read_groups lq_read_groups 4) (RC : RdC X.K CL) (dT : MN X CL "take" ["self", "low", "high"] 3 (spTk CC CB CL oc os)) (dG : DN X "groups_behind" ["reader", "first"] 4 (spGB CC CB CL oc os)) (tk : L2N.Takes X (fun cls d _ H' => E cls d H')) (h : spRd CC CB CL oc os (rNum os) rI vs H Q E) :
    RB X (defBody sq_read_groups) { nx := fun _ H' => Q .non H', rt := Q } (start nq_read_groups vs) H := by
  obtain ⟨a, p, rfl, hR, q⟩ := h
  obtain ⟨dx, us, h1, _⟩ := id hR
  show RB X (defBody sq_read_groups) _ [some (.ref a)] H
  walk_at "g0"
  refine re_callN c dG (by decide) (by walk_at "gm") (pN tk) ?_
  walk_at "e"
  refine re_meth c RC.cl dT (by decide) (pN tk) ?_
  walk_at "e"
  refine ⟨a, dx, _, rfl, h1, rfl, ?_⟩
  walk_at "e"
  have e0 : rNum os p = (rTake os 0 255 p).bind fun x p1 => (rBehind os x p1).map worth := by
    show ((rTake os 0 255 p).bind fun a p1 => if a < 128 then Rdg.ok [a] p1 else (rDigs os 1 os.length p1).map (a :: ·)).map worth = _
    rw [Rdg.bind_map]
    rfl
  rw [e0] at q
  refine ⟨a, p, 0, 255, rfl, hR, q.bind fun y p2 v H2 e2 f2 hR2 r2 q2 => ?_⟩
  obtain rfl : v = .int y := r2
  obtain ⟨_, _, y1, _⟩ := take_ok e2
  walk_at "e"
  exact ⟨a, p2, y, rfl, y1, hR2, q2⟩
theorem body_read_node (c : Ctx X nq_read_node lq_read_node 3) (RC : RdC X.K CL) (gN : ∃ t, X.mg "LAST_NODE" = some (.int 31 t)) (dT : MN X CL "take" ["self", "low", "high"] 3 (spTk CC CB CL oc os)) (tk : L2N.Takes X (fun cls d _ H' => E cls d H')) (h : spRd CC CB CL oc os (rTake os 0 31) rI vs H Q E) :
    RB X (defBody sq_read_node) { nx := fun _ H' => Q .non H', rt := Q } (start nq_read_node vs) H := by
  obtain ⟨a, p, rfl, hR, q⟩ := h
  obtain ⟨dx, us, h1, _⟩ := id hR
  obtain ⟨t, gN⟩ := gN
  show RB X (defBody sq_read_node) _ [some (.ref a)] H
  walk_at "g0"
  refine re_meth c RC.cl dT (by decide) (pN tk) ?_
  walk_at "e"
  refine ⟨a, dx, _, rfl, h1, rfl, ?_⟩
  walk_at "e"
  refine re_glob (v := .int 31) c (by walk_at "gm") gN ⟨t, rfl⟩ ?_
  walk_at "e"
  exact ⟨a, p, 0, 31, rfl, hR, q⟩
theorem body_read_most (c : Ctx X nq_read_most lq_read_most 3) (RC : RdC X.K CL) (gN : ∃ t, X.mg "MOST_NAMES" = some (.int 8 t)) (dT : MN X CL "take" ["self", "low", "high"] 3 (spTk CC CB CL oc os)) (tk : L2N.Takes X (fun cls d _ H' => E cls d H')) (h : spRd CC CB CL oc os (rTake os 0 8) rI vs H Q E) :
    RB X (defBody sq_read_most) { nx := fun _ H' => Q .non H', rt := Q } (start nq_read_most vs) H := by
  obtain ⟨a, p, rfl, hR, q⟩ := h
  obtain ⟨dx, us, h1, _⟩ := id hR
  obtain ⟨t, gN⟩ := gN
  show RB X (defBody sq_read_most) _ [some (.ref a)] H
  walk_at "g0"
  refine re_meth c RC.cl dT (by decide) (pN tk) ?_
  walk_at "e"
  refine ⟨a, dx, _, rfl, h1, rfl, ?_⟩
  walk_at "e"
  refine re_glob (v := .int 8) c (by walk_at "gm") gN ⟨t, rfl⟩ ?_
  walk_at "e"
  exact ⟨a, p, 0, 8, rfl, hR, q⟩
/-- a new tuple of three numbers -/
theorem three {H : Hp} {p : Addr} {i j k : Int} (hp : H p = none) : Dz (upd H p (.tup [.int i, .int j, .int k])) (.ref p) (.tup [.int i, .int j, .int k]) := Dz.newT hp (.cons .int (.cons .int (.cons .int .nil)))
theorem body_read_id (c : Ctx X nq_read_id lq_read_id 5) (dM : DN X "read_node" ["reader"] 4 (spRd CC CB CL oc os (rTake os 0 31) rI)) (dG : DN X "read_groups" ["reader"] 5 (spRd CC CB CL oc os (rNum os) rI)) (tk : L2N.Takes X (fun cls d _ H' => E cls d H')) (h : spRd CC CB CL oc os (rId os) rD vs H Q E) :
    RB X (defBody sq_read_id) { nx := fun _ H' => Q .non H', rt := Q } (start nq_read_id vs) H := by
  obtain ⟨a, p, rfl, hR, q⟩ := h
  show RB X (defBody sq_read_id) _ [some (.ref a), none, none] H
  walk_at "g0"
  refine re_callN c dM (by decide) (by walk_at "gm") (pN tk) ?_
  walk_at "e"
  refine ⟨a, p, rfl, hR, q.bind fun n p1 v H1 _ f1 hR1 r1 q1 => ?_⟩
  obtain rfl : v = .int n := r1
  walk_at "g"
  refine re_callN c dG (by decide) (by walk_at "gm") (pN tk) ?_
  walk_at "e"
  refine ⟨a, p1, rfl, hR1, q1.bind fun l p2 v H2 _ f2 hR2 r2 q2 => ?_⟩
  obtain rfl : v = .int l := r2
  walk_at "g"
  refine re_callN c dG (by decide) (by walk_at "gm") (pN tk) ?_
  walk_at "e"
  refine ⟨a, p2, rfl, hR2, q2.bind fun m p3 v H3 _ f3 hR3 r3 q3 => ?_⟩
  obtain rfl : v = .int m := r3
  walk_at "e"
  refine ⟨by show 3 ≤ sizeLine; decide, fun t ht => ?_⟩
  walk_at "e"
  exact q3.ok _ p3 _ _ rfl (Fk.new ht) (hR3.new ht) (three ht)
theorem body_read_term (c : Ctx X nq_read_term lq_read_term 5) (RC : RdC X.K CL) (gN : ∃ t, X.mg "LAST_NODE" = some (.int 31 t)) (dT : MN X CL "take" ["self", "low", "high"] 3 (spTk CC CB CL oc os)) (dG : DN X "read_groups" ["reader"] 5 (spRd CC CB CL oc os (rNum os) rI)) (tk : L2N.Takes X (fun cls d _ H' => E cls d H')) (h : spRd CC CB CL oc os (rTerm os (.tup [])) rD vs H Q E) :
    RB X (defBody sq_read_term) { nx := fun _ H' => Q .non H', rt := Q } (start nq_read_term vs) H := by
  obtain ⟨a, p, rfl, hR, q⟩ := h
  obtain ⟨dx, us, h1, _⟩ := id hR
  obtain ⟨t, gN⟩ := gN
  show RB X (defBody sq_read_term) _ [some (.ref a), none, none] H
  walk_at "g0"
  refine re_meth c RC.cl dT (by decide) (pN tk) ?_
  walk_at "e"
  refine ⟨a, dx, _, rfl, h1, rfl, ?_⟩
  walk_at "e"
  refine re_glob (v := .int 31) c (by walk_at "gm") gN ⟨t, rfl⟩ ?_
  walk_at "e"
  refine ⟨a, p, 0, 32, rfl, hR, q.bind fun n p1 v H1 _ f1 hR1 r1 q1 => ?_⟩
  obtain rfl : v = .int n := r1
  walk_at "g"
  refine ite2 (fun e => ?_) (fun e => ?_)
  · rw [if_pos (of_decide_eq_true e)] at q1
    walk_at "g"
    refine ⟨Nat.zero_le _, fun t ht => ?_⟩
    walk_at "g"
    exact q1.ok _ p1 _ _ rfl (Fk.new ht) (hR1.new ht) (Dz.newT ht .nil)
  · rw [if_neg (fun z => by simp [z] at e)] at q1
    walk_at "g"
    refine re_callN c dG (by decide) (by walk_at "gm") (pN tk) ?_
    walk_at "e"
    refine ⟨a, p1, rfl, hR1, q1.bind fun l p2 v H2 _ f2 hR2 r2 q2 => ?_⟩
    obtain rfl : v = .int l := r2
    walk_at "g"
    refine re_callN c dG (by decide) (by walk_at "gm") (pN tk) ?_
    walk_at "e"
    refine ⟨a, p2, rfl, hR2, q2.bind fun m p3 v H3 _ f3 hR3 r3 q3 => ?_⟩
    obtain rfl : v = .int m := r3
    walk_at "e"
    refine ⟨by show 3 ≤ sizeLine; decide, fun t ht => ?_⟩
    walk_at "e"
    exact q3.ok _ p3 _ _ rfl (Fk.new ht) (hR3.new ht) (three ht)
theorem rId2_three {a x : Int} {p p1 : Nat} {d : D} (h : rId2 os a p = .ok d p1) : ∃ l n : Int, d = .tup [.int a, .int l, .int n] := by
  unfold rId2 at h
  cases e1 : rNum os p with
  | bad j => rw [e1] at h; cases h
  | ok l p2 =>
    rw [e1] at h
    change ((rNum os p2).bind fun n p2 => Rdg.ok (D.tup [.int a, .int l, .int n]) p2) = _ at h
    cases e2 : rNum os p2 with
    | bad j => rw [e2] at h; cases h
    | ok n p3 =>
      rw [e2] at h
      cases h
      exact ⟨l, n, rfl⟩
theorem body_read_kept (c : Ctx X nq_read_kept lq_read_kept 6) (dT : DN X "read_term" ["reader"] 6 (spRd CC CB CL oc os (rTerm os (.tup [])) rD)) (tk : L2N.Takes X (fun cls d _ H' => E cls d H')) (h : spRd CC CB CL oc os (rTerm os .non) rD vs H Q E) :
    RB X (defBody sq_read_kept) { nx := fun _ H' => Q .non H', rt := Q } (start nq_read_kept vs) H := by
  obtain ⟨a, p, rfl, hR, q⟩ := h
  show RB X (defBody sq_read_kept) _ [some (.ref a), none] H
  walk_at "g0"
  refine re_callN c dT (by decide) (by walk_at "gm") (pN tk) ?_
  walk_at "e"
  have e0 : rTerm os .non p = (rTerm os (.tup []) p).bind fun d p1 => .ok (match d with | .tup [] => .non | d => d) p1 := by
    unfold rTerm
    rw [Rdg.bind_bind]
    congr 1
    funext n p1
    by_cases hn : n = 0
    · rw [if_pos hn, if_pos hn]
      rfl
    · rw [if_neg hn, if_neg hn]
      cases e1 : rId2 os (n - 1) p1 with
      | bad j => rfl
      | ok d p2 =>
        obtain ⟨l, m, rfl⟩ := rId2_three (x := 0) e1
        rfl
  rw [e0] at q
  refine ⟨a, p, rfl, hR, q.bind fun d p1 v H1 e1 f1 hR1 r1 q1 => ?_⟩
  have cs : d = .tup [] ∨ ∃ i l n : Int, d = .tup [.int i, .int l, .int n] := by
    unfold rTerm at e1
    cases e2 : rTake os 0 32 p with
    | bad j => rw [e2] at e1; cases e1
    | ok n p2 =>
      rw [e2] at e1
      change (if n = 0 then Rdg.ok (D.tup []) p2 else rId2 os (n - 1) p2) = _ at e1
      by_cases hn : n = 0
      · rw [if_pos hn] at e1
        cases e1
        exact .inl rfl
      · rw [if_neg hn] at e1
        obtain ⟨l, m, rfl⟩ := rId2_three (x := 0) e1
        exact .inr ⟨_, l, m, rfl⟩
  rcases cs with rfl | ⟨i, l, n, rfl⟩
  · obtain ⟨t, us, rfl, ht, hu⟩ := dz_tup r1
    obtain rfl : us = [] := List.eq_nil_of_length_eq_zero hu.1
    walk_at "g"
    refine ⟨Nat.zero_le _, fun t2 ht2 => ?_⟩
    refine cv_eqEmp c (a := 0) (b := 0) (d := 0) true (by rw [upd_ne (ne_of_none ht ht2)]; exact ht) upd_same ?_
    walk_at "e"
    exact q1.ok _ p1 _ _ rfl (Fk.new ht2) (hR1.new ht2) .non
  · obtain ⟨t, us, rfl, ht, hu⟩ := dz_tup r1
    obtain ⟨u1, us, rfl, h1, hu⟩ := dzs_cons hu
    obtain ⟨u2, us, rfl, h2, hu⟩ := dzs_cons hu
    obtain ⟨u3, us, rfl, h3, hu⟩ := dzs_cons hu
    obtain rfl : us = [] := List.eq_nil_of_length_eq_zero hu.1
    cases h1
    cases h2
    cases h3
    walk_at "g"
    refine ⟨Nat.zero_le _, fun t2 ht2 => ?_⟩
    refine cv_eqEmp c (a := i) (b := l) (d := n) false (by rw [upd_ne (ne_of_none ht ht2)]; exact ht) upd_same ?_
    walk_at "e"
    exact q1.ok _ p1 _ _ rfl (Fk.new ht2) (hR1.new ht2) (r1.kf (KF.new ht2))
end
section
variable {X : Cx} {CC CB CL oc : Addr} {os : ORow} {vs : List V} {H : Hp} {Q : VK} {E : XK}
theorem ppost_refuse {α : Type} {r : Rdg α} {rel : Hp → V → α → Prop} {a : Addr} {p : Nat} (q : PPost CC CB CL oc os r rel a H Q E) (hR : RdAt CL oc os p H a) (h0 : 0 < p) (e : r = .bad (p - 1)) : ∃ (a' : Addr) (p' : Nat), [V.ref a] = [V.ref a'] ∧ RdAt CL oc os p' H a' ∧ 0 < p' ∧ ∀ d, H d = none → E (.ref CB) (some d) (upd H d (.xd [("at", .int ((p' - 1 : Nat) : Int))])) :=
  ⟨a, p, rfl, hR, h0, fun d hd => q.bad (p - 1) d _ e (by have := hR.le; omega) (Fk.new hd) hd upd_same⟩
theorem rt_truI {e : Expr} {σ : L2.St} {Q : Bool → Hp → Prop} (q : RE X e σ H fun x H1 => ∃ i : Int, x = .int i ∧ Q (i != 0) H1) (he : ∀ whole, isTrue e X.env whole = (do let v ← whole; standAt e.pos; holding [v] (truthy v)) := by intro _; with_unfolding_all rfl) : RT X e σ H Q :=
  rt_of (pt_truth PE.self he) (pe_mono q fun x H1 ⟨i, e1, q1⟩ => ⟨i != 0, by rw [e1]; rfl, q1⟩)
theorem ov_fdiv2 {i j : Int} (h : 0 < j ∧ j < 1073741824) (q : Q (.int (i / j)) H) : OpV X .FloorDiv (.int i) (.int j) H Q := ⟨⟨_, op_fdiv, i, j, rfl, rfl, h, q⟩⟩
theorem digs_le {lo : Int} {n p p2 : Nat} {l : List Int} (h : rDigs os lo n p = .ok l p2) : p ≤ p2 := by
  induction n generalizing lo p l with
  | zero => cases h
  | succ n ih =>
    unfold rDigs at h
    cases e : rTake os lo 255 p with
    | bad j => rw [e] at h; cases h
    | ok a p1 =>
      obtain ⟨rfl, _⟩ := take_ok e
      rw [e] at h
      change (if a < 128 then Rdg.ok [a] (p + 1) else (rDigs os 1 n (p + 1)).map (a :: ·)) = _ at h
      split at h
      · cases h
        omega
      · cases e2 : rDigs os 1 n (p + 1) with
        | bad j => rw [e2] at h; cases h
        | ok l2 p3 =>
          rw [e2] at h
          cases h
          have := ih e2
          omega
theorem top_prog (s : Int) : (if s % 2 ^ 1 = 0 then s / 2 else -(s + 1) / 2) = topOf s := by
  unfold topOf
  rw [show (2 : Int) ^ 1 = 2 by decide]
  split
  · rfl
  · omega
theorem ok_pos {x w : Int} {p p3 : Nat} (h : (rBehind os x p).map worth = .ok w p3) (h0 : 0 < p) : 0 < p3 := by
  cases e : rBehind os x p with
  | bad j => rw [e] at h; cases h
  | ok l p2 =>
    rw [e] at h
    cases h
    unfold rBehind at e
    split at e
    · cases e
      exact h0
    · cases e2 : rDigs os 1 os.length p with
      | bad j => rw [e2] at e; cases e
      | ok l2 p2 =>
        rw [e2] at e
        cases e
        exact Nat.lt_of_lt_of_le h0 (digs_le e2)
theorem body_read_fraction (c : Ctx X nq_read_fraction_octets lq_read_fraction_octets 5) (RC : RdC X.K CL) (zg : X.mg "gcd" = some (.builtin "math.gcd")) (dT : MN X CL "take" ["self", "low", "high"] 3 (spTk CC CB CL oc os)) (dR : MN X CL "refuse" ["self"] 3 (spRef CB CL oc os)) (dG : DN X "read_groups" ["reader"] 5 (spRd CC CB CL oc os (rNum os) rI))
    (dB : DN X "groups_behind" ["reader", "first"] 4 (spGB CC CB CL oc os)) (tk : L2N.Takes X (fun cls d _ H' => E cls d H')) (h : spRd CC CB CL oc os (rFrac os) rD vs H Q E) :
    RB X (defBody sq_read_fraction_octets) { nx := fun _ H' => Q .non H', rt := Q } (start nq_read_fraction_octets vs) H := by
  obtain ⟨a, p, rfl, hR, q⟩ := h
  show RB X (defBody sq_read_fraction_octets) _ [some (.ref a), none, none, none, none] H
  walk_at "g0"
  refine re_callN c dG (by decide) (by walk_at "gm") (pN tk) ?_
  walk_at "e"
  refine ⟨a, p, rfl, hR, q.bind fun s p1 v H1 _ f1 hR1 r1 q1 => ?_⟩
  obtain rfl : v = .int s := r1
  walk_at "g"
  have step : ∀ n : Int, n = topOf s → RB X (List.drop 2 (defBody sq_read_fraction_octets)) { nx := fun _ H' => Q .non H', rt := Q } [some (.ref a), some (.int s), some (.int n), none, none] H1 := by
    rintro n rfl
    obtain ⟨dx, us, h1, _⟩ := id hR1
    walk_at "g0"
    refine re_meth c RC.cl dT (by decide) (pN tk) ?_
    walk_at "e"
    refine ⟨a, dx, _, rfl, h1, rfl, ?_⟩
    walk_at "e"
    refine ⟨a, p1, 1, 255, rfl, hR1, q1.bind fun y p2 v H2 e2 f2 hR2 r2 q2 => ?_⟩
    obtain rfl : v = .int y := r2
    obtain ⟨hp2, hp1, y1, y2, _⟩ := take_ok e2
    obtain ⟨dx2, us2, h2, _⟩ := id hR2
    have refu : ∀ D : Ends, (topOf s = 0 ∧ y ≠ 1 ∨ topOf s % 2 = 0 ∧ 127 < y ∧ y % 2 = 0) → RB X (match List.getD (defBody sq_read_fraction_octets) 3 (.Pass ⟨0, 0, 0, 0⟩) with | .If _ b _ _ => b | _ => []) D [some (.ref a), some (.int s), some (.int (topOf s)), some (.int y), none] H2 := fun D hb => by
      refine rb_cons (rs_expr (re_meth0 c RC.cl dR (by decide) (pN tk) ?_))
      walk_at "e"
      refine ⟨a, dx2, _, rfl, h2, rfl, ppost_refuse q2 hR2 (by omega) ?_⟩
      rw [show p2 - 1 = p1 by omega]
      by_cases g1 : 128 ≤ y
      · rw [if_pos ⟨g1, by rcases hb with hb | hb; exact .inl hb.1; exact .inr ⟨hb.1, hb.2.2⟩⟩]
      · rw [if_neg (fun z => g1 z.1)]
        have hn : topOf s = 0 ∧ y ≠ 1 := by
          rcases hb with hb | hb
          · exact hb
          · omega
        unfold rBehind
        rw [if_pos (by omega)]
        show (if Nat.gcd (topOf s).natAbs (y % 128 + 128 * 0).natAbs = 1 then _ else Rdg.bad (p2 - 1)) = _
        rw [hn.1, if_neg (by show ¬ Nat.gcd 0 _ = 1; rw [Nat.gcd_zero_left]; omega), show p2 - 1 = p1 by omega]
    have go : ¬ (topOf s = 0 ∧ y ≠ 1 ∨ topOf s % 2 = 0 ∧ 127 < y ∧ y % 2 = 0) → RB X (List.drop 4 (defBody sq_read_fraction_octets)) { nx := fun _ H' => Q .non H', rt := Q } [some (.ref a), some (.int s), some (.int (topOf s)), some (.int y), none] H2 := fun hb => by
      rw [if_neg (fun z => hb (by rcases z.2 with w | w; exact .inl ⟨w, by omega⟩; exact .inr ⟨w.1, by omega, w.2⟩))] at q2
      walk_at "g0"
      refine re_callN c dB (by decide) (by walk_at "gm") (pN tk) ?_
      walk_at "e"
      have e5 : ((rBehind os y p2).bind fun l p3 => if Nat.gcd (topOf s).natAbs (worth l).natAbs = 1 then Rdg.ok (D.tup [.int (topOf s), .int (worth l)]) p3 else .bad (p3 - 1)) =
          ((rBehind os y p2).map worth).bind fun w p3 => if Nat.gcd (topOf s).natAbs w.natAbs = 1 then Rdg.ok (D.tup [.int (topOf s), .int w]) p3 else .bad (p3 - 1) := by rw [Rdg.map_bind]
      rw [e5] at q2
      refine ⟨a, p2, y, rfl, by omega, hR2, q2.bind fun w p3 v H3 e3 f3 hR3 r3 q3 => ?_⟩
      obtain rfl : v = .int w := r3
      obtain ⟨dx3, us3, h3, _⟩ := id hR3
      walk_at "g"
      refine re_gcd c (by walk_at "gm") zg ?_
      walk_at "e"
      refine ⟨_, _, rfl, ?_⟩
      walk_at "e"
      refine ite2 (fun e => ?_) (fun e => ?_)
      · have hg : ¬ Nat.gcd (topOf s).natAbs w.natAbs = 1 := fun z => by rw [z] at e; simp at e
        rw [if_neg hg] at q3
        refine rb_cons (rs_expr (re_meth0 c RC.cl dR (by decide) (pN tk) ?_))
        walk_at "e"
        exact ⟨a, dx3, _, rfl, h3, rfl, ppost_refuse q3 hR3 (ok_pos e3 (by omega)) rfl⟩
      · have hg : Nat.gcd (topOf s).natAbs w.natAbs = 1 := by
          have z : ((Nat.gcd (topOf s).natAbs w.natAbs : Nat) : Int) = 1 := by simpa using e
          omega
        rw [if_pos hg] at q3
        walk_at "g"
        refine ⟨by show 2 ≤ sizeLine; decide, fun t ht => ?_⟩
        walk_at "e"
        exact q3.ok _ p3 _ _ rfl (Fk.new ht) (hR3.new ht) (Dz.newT ht (.cons .int (.cons .int .nil)))
    walk_at "g"
    refine ite2 (fun e => ?_) (fun e => ?_)
    · walk_at "e"
      refine ite2 (fun e' => ?_) (fun e' => ?_)
      · exact refu _ (.inl ⟨by simpa using e, by simpa using e'⟩)
      · have hA : ¬ (topOf s = 0 ∧ y ≠ 1) := fun z => z.2 (by simpa using e')
        walk_at "e"
        refine ov_and (k := 1) (by decide) ?_
        walk_at "e"
        refine ite2 (fun e2 => ?_) (fun e2 => ?_)
        · walk_at "e"
          refine ite2 (fun e3 => ?_) (fun e3 => ?_)
          · walk_at "e"
            refine ov_and (k := 1) (by decide) ?_
            walk_at "e"
            refine ite2 (fun e4 => ?_) (fun e4 => ?_)
            · exact refu _ (.inr ⟨by simpa using e2, by simpa using e3, by simpa using e4⟩)
            · walk_at "e"
              exact go (fun z => z.elim hA fun z => by have := of_decide_eq_false (by simpa using e4 : decide (y % 2 ^ 1 = 0) = false); omega)
          · walk_at "e"
            exact go (fun z => z.elim hA fun z => by have : y ≤ 127 := by simpa using e3
                                                     omega)
        · walk_at "e"
          exact go (fun z => z.elim hA fun z => by have := of_decide_eq_false (by simpa using e2 : decide (topOf s % 2 ^ 1 = 0) = false); omega)
    · have hA : ¬ (topOf s = 0 ∧ y ≠ 1) := fun z => by
        have := of_decide_eq_false (by simpa using e : decide (topOf s = 0) = false)
        exact this z.1
      walk_at "e"
      refine ov_and (k := 1) (by decide) ?_
      walk_at "e"
      refine ite2 (fun e2 => ?_) (fun e2 => ?_)
      · walk_at "e"
        refine ite2 (fun e3 => ?_) (fun e3 => ?_)
        · walk_at "e"
          refine ov_and (k := 1) (by decide) ?_
          walk_at "e"
          refine ite2 (fun e4 => ?_) (fun e4 => ?_)
          · exact refu _ (.inr ⟨by simpa using e2, by simpa using e3, by simpa using e4⟩)
          · walk_at "e"
            exact go (fun z => z.elim hA fun z => by have := of_decide_eq_false (by simpa using e4 : decide (y % 2 ^ 1 = 0) = false); omega)
        · walk_at "e"
          exact go (fun z => z.elim hA fun z => by have : y ≤ 127 := by simpa using e3
                                                   omega)
      · walk_at "e"
        exact go (fun z => z.elim hA fun z => by have := of_decide_eq_false (by simpa using e2 : decide (topOf s % 2 ^ 1 = 0) = false); omega)
  refine rt_truI ?_
  walk_at "e"
  refine ov_and (k := 1) (by decide) ?_
  refine ⟨_, rfl, ?_⟩
  have tp := top_prog s
  refine ite2 (fun e => ?_) (fun e => ?_)
  · rw [if_neg (fun z => by rw [z] at e; simp at e)] at tp
    walk_at "e"
    refine ov_fdiv2 ⟨by decide, by decide⟩ ?_
    walk_at "e"
    exact step _ tp
  · rw [if_pos (by simpa using e)] at tp
    walk_at "e"
    refine ov_fdiv2 ⟨by decide, by decide⟩ ?_
    walk_at "e"
    exact step _ tp
end
theorem s_list (l : List Nat) : ((⟨l.toArray⟩ : Str).cps.toList) = l := by simp
theorem s_len (l : List Nat) : (⟨l.toArray⟩ : Str).length = l.length := by
  show l.toArray.size = _
  simp
theorem s_app (l m : List Nat) : ((⟨l.toArray⟩ : Str) ++ (⟨m.toArray⟩ : Str)) = ⟨(l ++ m).toArray⟩ := by
  show (⟨l.toArray ++ m.toArray⟩ : Str) = _
  simp
theorem rep_z (n : Nat) : repS ("z" : Str) n = ⟨(List.replicate n 122).toArray⟩ := by
  have e : ("z" : Str).cps.toList = [122] := by decide +kernel
  unfold repS
  rw [e]
  congr 2
  induction n with
  | zero => rfl
  | succ n ih => rw [List.replicate_succ, List.flatten_cons, ih]; rfl
theorem letter_at {i : Int} (h0 : 0 ≤ i) (h1 : i ≤ 25) : atI ("abcdefghijklmnopqrstuvwxyz" : Str).cps.toList i = some (97 + i.toNat) := by
  obtain ⟨n, rfl⟩ : ∃ n : Nat, i = n := ⟨i.toNat, by omega⟩
  have key : ∀ j : _root_.Fin 26, atI ("abcdefghijklmnopqrstuvwxyz" : Str).cps.toList (j.val : Int) = some (97 + j.val) := by decide +kernel
  exact key ⟨n, by omega⟩
section
variable {X : Cx} {CC CB CL oc : Addr} {os : ORow} {vs : List V} {H : Hp} {Q : VK} {E : XK}
/-- a label above a floor -/
def spLA (CC CB CL oc : Addr) (os : ORow) : Sp := fun vs H Q E => ∃ (a : Addr) (p : Nat) (fl : List Nat), vs = [.ref a, .str ⟨fl.toArray⟩] ∧ RdAt CL oc os p H a ∧ PPost CC CB CL oc os (rLabel os fl p) rS a H Q E
theorem body_read_label_above (c : Ctx X nq_read_label_above lq_read_label_above 3) (RC : RdC X.K CL) (zl : X.mg "len" = none) (gN : ∃ t, X.mg "LABEL_LETTERS" = some (.int 8 t)) (gL : ∃ t, X.mg "LETTERS" = some (.str "abcdefghijklmnopqrstuvwxyz" t))
    (dT : MN X CL "take" ["self", "low", "high"] 3 (spTk CC CB CL oc os)) (dR : MN X CL "refuse" ["self"] 3 (spRef CB CL oc os)) (tk : L2N.Takes X (fun cls d _ H' => E cls d H')) (h : spLA CC CB CL oc os vs H Q E) :
    RB X (defBody sq_read_label_above) { nx := fun _ H' => Q .non H', rt := Q } (start nq_read_label_above vs) H := by
  obtain ⟨a, p, fl, rfl, hR, q⟩ := h
  obtain ⟨dx, us, h1, _⟩ := id hR
  obtain ⟨tN, gN⟩ := gN
  obtain ⟨tL, gL⟩ := gL
  show RB X (defBody sq_read_label_above) _ [some (.ref a), some (.str ⟨fl.toArray⟩), none, none] H
  walk_at "g0"
  refine re_meth c RC.cl dT (by decide) (pN tk) ?_
  walk_at "e"
  refine ⟨a, dx, _, rfl, h1, rfl, ?_⟩
  walk_at "e"
  refine re_glob (v := .int 8) c (by walk_at "gm") gN ⟨tN, rfl⟩ ?_
  walk_at "e"
  refine ⟨a, p, 1, 8, rfl, hR, q.bind fun y p1 v H1 e1 f1 hR1 r1 q1 => ?_⟩
  obtain rfl : v = .int y := r1
  obtain ⟨hp1, hp, y1, y8, _⟩ := take_ok e1
  obtain ⟨m, rfl⟩ : ∃ m : Nat, y = m := ⟨y.toNat, by omega⟩
  rw [Int.toNat_natCast] at q1
  walk_at "g"
  refine ov_repS (by omega) (by omega) (by decide) ?_
  rw [rep_z, Int.toNat_natCast]
  walk_at "e"
  rw [s_list, s_list]
  have z0 : zTo m [] = List.replicate m 122 := rfl
  rw [z0] at q1
  refine ite2 (fun e => ?_) (fun e => ?_)
  · have hn : ¬ fl < List.replicate m 122 := by simpa using e
    rw [if_neg hn] at q1
    obtain ⟨dx2, us2, h2, _⟩ := id hR1
    refine rb_cons (rs_expr (re_meth0 c RC.cl dR (by decide) (pN tk) ?_))
    walk_at "e"
    exact ⟨a, dx2, _, rfl, h2, rfl, ppost_refuse q1 hR1 (by omega) (by rw [hp1]; rfl)⟩
  · have hn : fl < List.replicate m 122 := by simpa using e
    rw [if_pos hn] at q1
    walk_at "e"
    refine rb_cons (rs_while c (fun σ' H' => ∃ (p2 k : Nat) (f : List Nat), σ' = [some (.ref a), some (.str ⟨fl.toArray⟩), some (.int (m : Int)), some (.str ⟨f.toArray⟩)] ∧ RdAt CL oc os p2 H' a ∧ Fk (· = a) H1 H' ∧ f.length + k = m ∧
      rLets os fl m m [] p1 = rLets os fl m k f p2) (fun _ H' => os.length - posOf H' a) ?_ ?_)
    · exact ⟨p1, m, [], rfl, hR1, Fk.refl, by simp, rfl⟩
    · rintro σ' H2 ⟨p2, k, f, rfl, hR2, f2, hk, e2⟩
      walk_at "e"
      refine lv_lenS (by rw [s_len]; show _ ≤ 16777216; omega) ?_
      rw [s_len]
      walk_at "e"
      refine ite2 (fun e => ?_) (fun e => ?_)
      · have hlt : f.length < m := by simpa using e
        obtain ⟨k', rfl⟩ : ∃ k', k = k' + 1 := ⟨k - 1, by omega⟩
        obtain ⟨dx2, us2, h2, _⟩ := id hR2
        walk_at "g0"
        refine re_glob (v := .str "abcdefghijklmnopqrstuvwxyz") c (by walk_at "gm") gL ⟨tL, rfl⟩ ?_
        walk_at "e"
        refine re_meth c RC.cl dT (by decide) (pN tk) ?_
        walk_at "e"
        refine ⟨a, dx2, _, rfl, h2, rfl, ?_⟩
        walk_at "e"
        have q2 := q1
        rw [e2] at q2
        refine ⟨a, p2, 0, 25, rfl, hR2, (q2.move hR2 f2).bind fun i p3 v H3 e3 f3 hR3 r3 q3 => ?_⟩
        obtain rfl : v = .int i := r3
        obtain ⟨hp3, hp2, i0, i1, _⟩ := take_ok e3
        refine iv_str (by decide) (letter_at i0 i1) ?_
        refine ov_adds (by rw [s_len]; show _ + 1 ≤ 16777216; omega) ?_
        rw [show (⟨#[97 + i.toNat]⟩ : Str) = ⟨[97 + i.toNat].toArray⟩ from rfl, s_app]
        walk_at "g"
        refine lv_lenS (by rw [s_len]; show _ ≤ 16777216; simp; omega) ?_
        rw [s_len]
        walk_at "e"
        have l1 : (f ++ [97 + i.toNat]).length = f.length + 1 := by simp
        rw [l1]
        refine ov_repS (by omega) (by omega) (by decide) ?_
        refine ov_adds (by rw [s_len, rep_z, s_len]; show _ ≤ 16777216; simp; omega) ?_
        rw [rep_z, s_app]
        walk_at "e"
        rw [s_list, s_list]
        have zz : f ++ [97 + i.toNat] ++ List.replicate ((m : Int) - ((f.length + 1 : Nat) : Int)).toNat 122 = zTo m (f ++ [97 + i.toNat]) := by
          unfold zTo
          rw [l1]
          congr 2
          omega
        rw [zz]
        refine ite2 (fun e => ?_) (fun e => ?_)
        · have hn : ¬ fl < zTo m (f ++ [97 + i.toNat]) := by simpa using e
          rw [if_neg hn] at q3
          obtain ⟨dx3, us3, h3, _⟩ := id hR3
          refine rb_cons (rs_expr (re_meth0 c RC.cl dR (by decide) (pN tk) ?_))
          walk_at "e"
          exact ⟨a, dx3, _, rfl, h3, rfl, ppost_refuse q3 hR3 (by omega) (by rw [hp3]; rfl)⟩
        · have hn : fl < zTo m (f ++ [97 + i.toNat]) := by simpa using e
          walk_at "g"
          refine ⟨⟨p3, k', _, rfl, hR3, f2.trans f3, by rw [l1]; omega, ?_⟩, ?_⟩
          · rw [e2]
            show (rTake os 0 25 p2).bind _ = _
            rw [e3]
            exact if_pos hn
          · rw [posOf_eq hR2, posOf_eq hR3]
            omega
      · have hge : m ≤ f.length := by simpa using e
        obtain rfl : k = 0 := by omega
        walk_at "g"
        exact q1.ok f p2 _ _ e2 f2 hR2 rfl
end
section
variable {X : Cx} {CC CB CL oc : Addr} {os : ORow} {vs : List V} {H : Hp} {Q : VK} {E : XK}
theorem body_read_label (c : Ctx X nq_read_label lq_read_label 4) (dA : DN X "read_label_above" ["reader", "ahead"] 4 (spLA CC CB CL oc os)) (tk : L2N.Takes X (fun cls d _ H' => E cls d H')) (h : spRd CC CB CL oc os (rLabel os []) rS vs H Q E) :
    RB X (defBody sq_read_label) { nx := fun _ H' => Q .non H', rt := Q } (start nq_read_label vs) H := by
  obtain ⟨a, p, rfl, hR, q⟩ := h
  show RB X (defBody sq_read_label) _ [some (.ref a)] H
  walk_at "g0"
  refine re_callN c dA (by decide) (by walk_at "gm") (pN tk) ?_
  walk_at "e"
  exact ⟨a, p, [], rfl, hR, q⟩
theorem lets_le {fl f l : List Nat} {m k p p2 : Nat} (h : rLets os fl m k f p = .ok l p2) : p ≤ p2 := by
  induction k generalizing f p with
  | zero => cases h; omega
  | succ k ih =>
    unfold rLets at h
    cases e : rTake os 0 25 p with
    | bad j => rw [e] at h; cases h
    | ok a p1 =>
      obtain ⟨rfl, _⟩ := take_ok e
      rw [e] at h
      change (if fl < zTo m (f ++ [97 + a.toNat]) then rLets os fl m k (f ++ [97 + a.toNat]) (p + 1) else Rdg.bad p) = _ at h
      split at h
      · have := ih h
        omega
      · cases h
theorem lab_lt {fl l : List Nat} {p p2 : Nat} (h : rLabel os fl p = .ok l p2) : p < p2 ∧ p < os.length := by
  unfold rLabel at h
  cases e : rTake os 1 8 p with
  | bad j => rw [e] at h; cases h
  | ok a p1 =>
    obtain ⟨rfl, z, _⟩ := take_ok e
    rw [e] at h
    change (if fl < zTo a.toNat [] then rLets os fl a.toNat a.toNat [] (p + 1) else Rdg.bad p) = _ at h
    split at h
    · have := lets_le h
      exact ⟨by omega, z⟩
    · cases h
abbrev sV (l : List Nat) : V := .str ⟨l.toArray⟩
theorem dzs_strs {H : Hp} : ∀ ls : List (List Nat), Dzs H (ls.map sV) (ls.map sD)
  | [] => .nil
  | l :: r => .cons .str (dzs_strs r)
theorem body_read_name (c : Ctx X nq_read_name lq_read_name 5) (RC : RdC X.K CL) (zl : X.mg "len" = none) (zt : X.mg "tuple" = none) (gN : ∃ t, X.mg "NAME_LABELS" = some (.int 6 t)) (dT : MN X CL "take" ["self", "low", "high"] 3 (spTk CC CB CL oc os))
    (dL : DN X "read_label" ["reader"] 5 (spRd CC CB CL oc os (rLabel os []) rS)) (tk : L2N.Takes X (fun cls d _ H' => E cls d H')) (h : spRd CC CB CL oc os (rName os) rD vs H Q E) :
    RB X (defBody sq_read_name) { nx := fun _ H' => Q .non H', rt := Q } (start nq_read_name vs) H := by
  obtain ⟨a, p, rfl, hR, q⟩ := h
  obtain ⟨dx, us, h1, _⟩ := id hR
  obtain ⟨tN, gN⟩ := gN
  show RB X (defBody sq_read_name) _ [some (.ref a), none, none] H
  walk_at "g0"
  refine re_meth c RC.cl dT (by decide) (pN tk) ?_
  walk_at "e"
  refine ⟨a, dx, _, rfl, h1, rfl, ?_⟩
  walk_at "e"
  refine re_glob (v := .int 6) c (by walk_at "gm") gN ⟨tN, rfl⟩ ?_
  walk_at "e"
  refine ⟨a, p, 1, 6, rfl, hR, q.bind fun y p1 v H1 e1 f1 hR1 r1 q1 => ?_⟩
  obtain rfl : v = .int y := r1
  obtain ⟨hp1, hp, y1, y6, _⟩ := take_ok e1
  obtain ⟨m, rfl⟩ : ∃ m : Nat, y = m := ⟨y.toNat, by omega⟩
  rw [Int.toNat_natCast] at q1
  have q1 := q1.map
  walk_at "g"
  refine ⟨Nat.zero_le _, fun l hl => ?_⟩
  walk_at "e"
  have nl := hR1.ne hl
  refine rb_cons (rs_while c (fun σ' H' => ∃ (p2 k : Nat) (fs : List (List Nat)), σ' = [some (.ref a), some (.int (m : Int)), some (.ref l)] ∧ RdAt CL oc os p2 H' a ∧ Fk (· = a) H1 H' ∧ H' l = some (.lst (fs.map sV)) ∧ fs.length + k = m ∧
      rMany (rLabel os []) m p1 = (rMany (rLabel os []) k p2).map (fs ++ ·)) (fun _ H' => os.length - posOf H' a) ?_ ?_)
  · exact ⟨p1, m, [], rfl, hR1.new hl, Fk.new hl, upd_same, by simp, by simp [Rdg.map_id]⟩
  · rintro σ' H2 ⟨p2, k, fs, rfl, hR2, f2, h2, hk, e2⟩
    walk_at "e"
    refine lv_lenL (SqL.of h2) ?_
    rw [List.length_map]
    walk_at "e"
    refine ite2 (fun e => ?_) (fun e => ?_)
    · have hlt : fs.length < m := by simpa using e
      obtain ⟨k', rfl⟩ : ∃ k', k = k' + 1 := ⟨k - 1, by omega⟩
      have e3 := rMany_snoc e2 rfl
      refine rb_cons (rs_app c (by walk_at "gm") (by constructor) (by walk_at "gs") h2 ?_)
      refine re_callN c dL (by decide) (by walk_at "gm") (pN tk) ?_
      walk_at "e"
      have q2 := q1
      rw [e3] at q2
      refine ⟨a, p2, rfl, hR2, (q2.move hR2 f2).bind fun f p3 v H3 e4 f3 hR3 r3 q3 => ?_⟩
      obtain rfl : v = sV f := r3
      have h3 : H3 l = some (.lst (fs.map sV)) := f3.f _ _ nl.1 h2
      refine ⟨_, h3, by rw [List.length_map]; show _ < 16777216; omega, ?_⟩
      have f4 : Fk (· = l) H3 (upd H3 l (.lst (fs.map sV ++ [sV f]))) := Fk.putL h3 rfl
      walk_at "g"
      have hR4 : RdAt CL oc os p3 (upd H3 l (.lst (fs.map sV ++ [sV f]))) a := hR3.fk f4 (fun x z => by rw [z]; exact nl)
      refine ⟨⟨p3, k', fs ++ [f], rfl, hR4, (f2.trans f3).loc f4 (fun x z => .inr (by rw [z]; exact hl)), by rw [upd_same, List.map_append]; rfl, by rw [List.length_append]; show _ + 1 + _ = _; omega, ?_⟩, ?_⟩
      · rw [e3, e4]
        rfl
      · rw [posOf_eq hR2, posOf_eq hR4]
        have := lab_lt e4
        have := hR3.le
        omega
    · have hge : m ≤ fs.length := by simpa using e
      obtain rfl : k = 0 := by omega
      have e3 : rMany (rLabel os []) m p1 = .ok fs p2 := by
        rw [e2]
        show Rdg.ok (fs ++ []) p2 = _
        rw [List.append_nil]
      walk_at "g"
      refine lv_tupL (SqL.of h2) fun t ht => ?_
      walk_at "e"
      exact q1.ok fs p2 _ _ e3 (f2.trans (Fk.new ht)) (hR2.new ht) (Dz.newT ht (dzs_strs fs))
theorem num_le {p p2 : Nat} {n : Int} (h : rNum os p = .ok n p2) : p ≤ p2 := by
  unfold rNum at h
  cases e : rDigs os 0 (os.length + 1) p with
  | bad j => rw [e] at h; cases h
  | ok l p3 =>
    rw [e] at h
    cases h
    exact digs_le e
theorem many_le {α : Type} {rd : Nat → Rdg α} (hrd : ∀ p a p2, rd p = .ok a p2 → p ≤ p2) {n p p2 : Nat} {l : List α} (h : rMany rd n p = .ok l p2) : p ≤ p2 := by
  induction n generalizing p l with
  | zero => cases h; omega
  | succ n ih =>
    unfold rMany at h
    cases e : rd p with
    | bad j => rw [e] at h; cases h
    | ok a p1 =>
      have := hrd _ _ _ e
      rw [e] at h
      change (rMany rd n p1).map (a :: ·) = _ at h
      cases e2 : rMany rd n p1 with
      | bad j => rw [e2] at h; cases h
      | ok l2 p3 =>
        rw [e2] at h
        cases h
        have := ih e2
        omega
theorem name_le {p p2 : Nat} {d : D} (h : rName os p = .ok d p2) : p ≤ p2 := by
  unfold rName at h
  cases e : rTake os 1 6 p with
  | bad j => rw [e] at h; cases h
  | ok a p1 =>
    have := (take_ok e).1
    rw [e] at h
    change (rMany (rLabel os []) a.toNat p1).map _ = _ at h
    cases e2 : rMany (rLabel os []) a.toNat p1 with
    | bad j => rw [e2] at h; cases h
    | ok l2 p3 =>
      rw [e2] at h
      cases h
      have := many_le (fun p a p2 z => Nat.le_of_lt (lab_lt z).1) e2
      omega
theorem plain_le {k : Int} {p p2 : Nat} {d : D} (h : rPlain os k p = .ok d p2) : p ≤ p2 := by
  unfold rPlain at h
  split at h
  · cases e : rNum os p with
    | bad j => rw [e] at h; cases h
    | ok n p3 => rw [e] at h; cases h; exact num_le e
  · cases e : rName os p with
    | bad j => rw [e] at h; cases h
    | ok n p3 => rw [e] at h; cases h; exact name_le e
/-- a value or a name, its kind read -/
def spPl (CC CB CL oc : Addr) (os : ORow) : Sp := fun vs H Q E => ∃ (a : Addr) (p : Nat) (k : Int), vs = [.ref a, .int k] ∧ RdAt CL oc os p H a ∧ PPost CC CB CL oc os (rPlain os k p) rD a H Q E
theorem body_plain_entry (c : Ctx X nq_plain_entry lq_plain_entry 6) (dG : DN X "read_groups" ["reader"] 5 (spRd CC CB CL oc os (rNum os) rI)) (dM : DN X "read_name" ["reader"] 6 (spRd CC CB CL oc os (rName os) rD)) (tk : L2N.Takes X (fun cls d _ H' => E cls d H')) (h : spPl CC CB CL oc os vs H Q E) :
    RB X (defBody sq_plain_entry) { nx := fun _ H' => Q .non H', rt := Q } (start nq_plain_entry vs) H := by
  obtain ⟨a, p, k, rfl, hR, q⟩ := h
  unfold rPlain at q
  show RB X (defBody sq_plain_entry) _ [some (.ref a), some (.int k)] H
  walk_at "g0"
  refine ite2 (fun e => ?_) (fun e => ?_)
  · rw [if_pos (of_decide_eq_true e)] at q
    walk_at "g"
    refine re_callN c dG (by decide) (by walk_at "gm") (pN tk) ?_
    walk_at "e"
    refine ⟨a, p, rfl, hR, q.bind fun n p1 v H1 _ f1 hR1 r1 q1 => ?_⟩
    obtain rfl : v = .int n := r1
    walk_at "e"
    refine ⟨by show 2 ≤ sizeLine; decide, fun t ht => ?_⟩
    walk_at "e"
    exact q1.ok _ p1 _ _ rfl (Fk.new ht) (hR1.new ht) (Dz.newT ht (.cons .str (.cons .int .nil)))
  · rw [if_neg (of_decide_eq_false (by simpa using e))] at q
    walk_at "g"
    refine re_callN c dM (by decide) (by walk_at "gm") (pN tk) ?_
    walk_at "e"
    refine ⟨a, p, rfl, hR, q.bind fun n p1 v H1 _ f1 hR1 r1 q1 => ?_⟩
    walk_at "e"
    refine ⟨by show 2 ≤ sizeLine; decide, fun t ht => ?_⟩
    walk_at "e"
    exact q1.ok _ p1 _ _ rfl (Fk.new ht) (hR1.new ht) (Dz.newT ht (.cons .str (.cons r1 .nil)))
theorem rRows_prog {k p : Nat} {fl : List Nat} : rRows os k fl p = (rTake os 0 1 p).bind fun a p1 => if a = 0 then .ok [] p1 else if k = 0 ∨ fl = z8 then .bad p else
    (rLabel os fl p1).bind fun l p2 => (rTake os 1 2 p2).bind fun kd p3 => (rPlain os kd p3).bind fun e p4 => (rRows os (k - 1) l p4).map (.tup [sD l, e] :: ·) := by
  have t0 : ∀ f g : Int → Nat → Rdg (List D), (∀ p1, f 0 p1 = g 0 p1) → (∀ p1, g 1 p1 = .bad p) → (rTake os 0 0 p).bind f = (rTake os 0 1 p).bind g := fun f g h0 h1 => by
    unfold rTake
    split
    · rename_i i e
      by_cases z0 : i = 0
      · subst z0
        rw [if_pos (by decide), if_pos (by decide)]
        exact h0 _
      · by_cases z1 : i = 1
        · subst z1
          rw [if_neg (by decide), if_pos (by decide)]
          exact (h1 _).symm
        · rw [if_neg (by omega), if_neg (by omega)]
          rfl
    · rfl
  cases k with
  | zero => exact t0 _ _ (fun p1 => by rw [if_pos rfl]) (fun p1 => by rw [if_neg (by decide), if_pos (.inl rfl)])
  | succ k =>
    show (rTake os 0 (if fl = z8 then 0 else 1) p).bind _ = _
    by_cases hz : fl = z8
    · rw [if_pos hz]
      exact t0 _ _ (fun p1 => by rw [if_pos rfl, if_pos rfl]) (fun p1 => by rw [if_neg (by decide), if_pos (.inr hz)])
    · rw [if_neg hz]
      congr 1
      funext a p1
      by_cases h0 : a = 0
      · rw [if_pos h0, if_pos h0]
      · rw [if_neg h0, if_neg h0, if_neg (fun z => z.elim (by omega) hz)]
        rfl
theorem z8_eq {fl : List Nat} : decide ((⟨fl.toArray⟩ : Str) = ("zzzzzzzz" : Str)) = decide (fl = z8) := by
  have e : ("zzzzzzzz" : Str) = ⟨z8.toArray⟩ := by decide +kernel
  rw [e]
  refine decide_eq_decide.mpr ⟨fun z => ?_, fun z => by rw [z]⟩
  have := congrArg (fun s : Str => s.cps.toList) z
  simpa using this
theorem body_read_first_entries (c : Ctx X nq_read_first_entries lq_read_first_entries 7) (RC : RdC X.K CL) (zl : X.mg "len" = none) (zt : X.mg "tuple" = none) (gF : ∃ t, X.mg "FIRST_ENTRIES" = some (.int 6 t)) (gZ : ∃ t, X.mg "LAST_LABEL" = some (.str "zzzzzzzz" t))
    (dT : MN X CL "take" ["self", "low", "high"] 3 (spTk CC CB CL oc os)) (dR : MN X CL "refuse" ["self"] 3 (spRef CB CL oc os)) (dA : DN X "read_label_above" ["reader", "ahead"] 4 (spLA CC CB CL oc os)) (dP : DN X "plain_entry" ["reader", "kind"] 7 (spPl CC CB CL oc os))
    (tk : L2N.Takes X (fun cls d _ H' => E cls d H')) (h : spRd CC CB CL oc os (rRows os 6 []) (fun H v ds => Dz H v (.tup ds)) vs H Q E) :
    RB X (defBody sq_read_first_entries) { nx := fun _ H' => Q .non H', rt := Q } (start nq_read_first_entries vs) H := by
  obtain ⟨a, p, rfl, hR, q⟩ := h
  obtain ⟨tF, gF⟩ := gF
  obtain ⟨tZ, gZ⟩ := gZ
  show RB X (defBody sq_read_first_entries) _ [some (.ref a), none, none] H
  refine rb_cons (rs_par2 c (by walk_at "gm") (by walk_at "gm") (by walk_at "gm") (by walk_at "gm") (by decide) ?_)
  walk_at "e"
  refine ⟨Nat.zero_le _, fun l hl => ?_⟩
  walk_at "e"
  refine ⟨_, _, _, _, rfl, by walk_at "gs", by walk_at "gs", ?_⟩
  have nl := hR.ne hl
  refine rb_cons (rs_while c (fun σ' H' => ∃ (p2 k : Nat) (fl : List Nat) (us : List V) (ds : List D), σ' = [some (.ref a), some (.ref l), some (.str ⟨fl.toArray⟩)] ∧ RdAt CL oc os p2 H' a ∧ Fk (· = a) H H' ∧ H' l = some (.lst us) ∧ Dzs H' us ds ∧ us.length + k = 6 ∧
      rRows os 6 [] p = (rRows os k fl p2).map (ds ++ ·)) (fun _ H' => os.length - posOf H' a) ?_ ?_)
  · exact ⟨p, 6, [], [], [], rfl, hR.new hl, Fk.new hl, upd_same, .nil, rfl, by simp [Rdg.map_id]⟩
  · rintro σ' H2 ⟨p2, k, fl, us, ds, rfl, hR2, f2, h2, hd2, hk, e2⟩
    rw [rRows_prog (k := k) (fl := fl) (p := p2), Rdg.bind_map] at e2
    have q2 := q
    rw [e2] at q2
    obtain ⟨dx2, ws2, ha2, _⟩ := id hR2
    walk_at "e"
    refine re_meth c RC.cl dT (by decide) (pN tk) ?_
    walk_at "e"
    refine ⟨a, dx2, _, rfl, ha2, rfl, ?_⟩
    walk_at "e"
    refine ⟨a, p2, 0, 1, rfl, hR2, (q2.move hR2 f2).bind fun y p3 v H3 e3 f3 hR3 r3 q3 => ?_⟩
    obtain rfl : v = .int y := r3
    obtain ⟨hp3, hp2, y0, y1, _⟩ := take_ok e3
    have h3 : H3 l = some (.lst us) := f3.f _ _ nl.1 h2
    have hd3 := hd2.kf f3.k
    rw [e3] at e2
    walk_at "e"
    refine ite2 (fun e => ?_) (fun e => ?_)
    · obtain rfl : y = 1 := by simpa using e
      rw [if_neg (by decide)] at q3
      obtain ⟨dx3, ws3, ha3, _⟩ := id hR3
      have refu : ∀ D : Ends, (k = 0 ∨ fl = z8) → ∀ s : L2.St, s = [some (.ref a), some (.ref l), some (.str ⟨fl.toArray⟩)] → RB X (match (match List.getD (defBody sq_read_first_entries) 1 (.Pass ⟨0, 0, 0, 0⟩) with | .While _ b _ _ => List.getD b 0 (.Pass ⟨0, 0, 0, 0⟩) | _ => (.Pass ⟨0, 0, 0, 0⟩)) with | .If _ b _ _ => b | _ => []) D s H3 := fun D hb s hs => by
        subst hs
        rw [if_pos hb] at q3
        refine rb_cons (rs_expr (re_meth0 c RC.cl dR (by decide) (pN tk) ?_))
        walk_at "e"
        exact ⟨a, dx3, _, rfl, ha3, rfl, ppost_refuse q3 hR3 (by omega) (by rw [hp3]; rfl)⟩
      walk_at "g0"
      refine lv_lenL (SqL.of h3) ?_
      walk_at "e"
      refine re_glob (v := .int 6) c (by walk_at "gm") gF ⟨tF, rfl⟩ ?_
      walk_at "e"
      refine ite2 (fun e4 => ?_) (fun e4 => ?_)
      · exact refu _ (.inl (by have : (us.length : Int) = 6 := by simpa using e4
                               omega)) _ rfl
      · have hu6 : us.length ≠ 6 := fun z => by simp [z] at e4
        walk_at "e"
        refine re_glob (v := .str "zzzzzzzz") c (by walk_at "gm") gZ ⟨tZ, rfl⟩ ?_
        walk_at "e"
        rw [z8_eq]
        refine ite2 (fun e5 => ?_) (fun e5 => ?_)
        · exact refu _ (.inr (by simpa using e5)) _ rfl
        · have hz : fl ≠ z8 := by simpa using e5
          obtain ⟨k', rfl⟩ : ∃ k', k = k' + 1 := ⟨k - 1, by omega⟩
          rw [if_neg (fun z => z.elim (by omega) hz)] at q3
          walk_at "g"
          refine re_callN c dA (by decide) (by walk_at "gm") (pN tk) ?_
          walk_at "e"
          have e6 : (if (1 : Int) = 0 then Rdg.ok [] p3 else if k' + 1 = 0 ∨ fl = z8 then Rdg.bad p2 else (rLabel os fl p3).bind fun l p2 => (rTake os 1 2 p2).bind fun kd p3 => (rPlain os kd p3).bind fun e p4 => (rRows os (k' + 1 - 1) l p4).map (.tup [sD l, e] :: ·)).map (ds ++ ·) =
            (rLabel os fl p3).bind fun l p2 => (rTake os 1 2 p2).bind fun kd p3 => (rPlain os kd p3).bind fun e p4 => (rRows os k' l p4).map ((ds ++ [.tup [sD l, e]]) ++ ·) := by
            rw [if_neg (by decide), if_neg (fun z => z.elim (by omega) hz), Rdg.bind_map]
            congr 1
            funext l p2
            rw [Rdg.bind_map]
            congr 1
            funext kd p3
            rw [Rdg.bind_map]
            congr 1
            funext e p4
            rw [Rdg.map_map]
            simp only [List.append_assoc, List.singleton_append]
            rfl
          have q4 := q
          rw [e2] at q4
          change PPost CC CB CL oc os ((if (1 : Int) = 0 then Rdg.ok [] p3 else if k' + 1 = 0 ∨ fl = z8 then Rdg.bad p2 else (rLabel os fl p3).bind fun l p2 => (rTake os 1 2 p2).bind fun kd p3 => (rPlain os kd p3).bind fun e p4 => (rRows os (k' + 1 - 1) l p4).map (.tup [sD l, e] :: ·)).map (ds ++ ·)) _ a H Q E at q4
          change rRows os 6 [] p = (if (1 : Int) = 0 then Rdg.ok [] p3 else if k' + 1 = 0 ∨ fl = z8 then Rdg.bad p2 else (rLabel os fl p3).bind fun l p2 => (rTake os 1 2 p2).bind fun kd p3 => (rPlain os kd p3).bind fun e p4 => (rRows os (k' + 1 - 1) l p4).map (.tup [sD l, e] :: ·)).map (ds ++ ·) at e2
          rw [e6] at q4 e2
          refine ⟨a, p3, fl, rfl, hR3, (q4.move hR3 (f2.trans f3)).bind fun lb p4 v H4 e7 f4 hR4 r4 q5 => ?_⟩
          obtain rfl : v = sV lb := r4
          obtain ⟨dx4, ws4, ha4, _⟩ := id hR4
          have h4 : H4 l = some (.lst us) := f4.f _ _ nl.1 h3
          walk_at "e"
          refine rb_cons (rs_app c (by walk_at "gm") (by constructor) (by walk_at "gs") h4 ?_)
          walk_at "e"
          refine re_callN c dP (by decide) (by walk_at "gm") (pN tk) ?_
          walk_at "e"
          refine re_meth c RC.cl dT (by decide) (pN tk) ?_
          walk_at "e"
          refine ⟨a, dx4, _, rfl, ha4, rfl, ?_⟩
          walk_at "e"
          refine ⟨a, p4, 1, 2, rfl, hR4, q5.bind fun kd p5 v H5 e8 f5 hR5 r5 q6 => ?_⟩
          obtain rfl : v = .int kd := r5
          walk_at "e"
          refine ⟨a, p5, kd, rfl, hR5, q6.bind fun en p6 v H6 e9 f6 hR6 r6 q7 => ?_⟩
          walk_at "e"
          refine ⟨by show 2 ≤ sizeLine; decide, fun t ht => ?_⟩
          have h6 : H6 l = some (.lst us) := f6.f _ _ nl.1 (f5.f _ _ nl.1 h4)
          have h7 : (upd H6 t (.tup [sV lb, v])) l = some (.lst us) := by rw [upd_ne (ne_of_none h6 ht)]; exact h6
          walk_at "e"
          refine ⟨us, h7, by show _ < 16777216; omega, ?_⟩
          have f7 : Fk (· = a) H6 (upd H6 t (.tup [sV lb, v])) := Fk.new ht
          have f8 : Fk (· = l) (upd H6 t (.tup [sV lb, v])) (upd (upd H6 t (.tup [sV lb, v])) l (.lst (us ++ [.ref t]))) := Fk.putL h7 rfl
          have hR8 : RdAt CL oc os p6 (upd (upd H6 t (.tup [sV lb, v])) l (.lst (us ++ [.ref t]))) a := (hR6.new ht).fk f8 (fun x z => by rw [z]; exact nl)
          walk_at "e"
          refine ⟨⟨p6, k', lb, us ++ [.ref t], ds ++ [.tup [sD lb, en]], rfl, hR8, (((((f2.trans f3).trans f4).trans f5).trans f6).trans f7).loc f8 (fun x z => .inr (by rw [z]; exact hl)), upd_same, ?_, by rw [List.length_append]; show _ + 1 + _ = _; omega, ?_⟩, ?_⟩
          · refine Dzs.snoc (hd3.kf ((((f4.k.trans f5.k).trans f6.k).trans f7.k).trans f8.k)) ?_
            exact (Dz.newT ht (.cons .str (.cons r6 .nil))).kf f8.k
          · rw [e2, e7]
            show (rTake os 1 2 p4).bind _ = _
            rw [e8]
            show (rPlain os kd p5).bind _ = _
            rw [e9]
            rfl
          · rw [posOf_eq hR2, posOf_eq hR8]
            have := (lab_lt e7).1
            have := (take_ok e8).1
            have := plain_le e9
            have := hR8.le
            omega
    · obtain rfl : y = 0 := by have : y ≠ 1 := by simpa using e
                               omega
      rw [if_pos rfl] at q3
      walk_at "g"
      refine lv_tupL (SqL.of h3) fun t ht => ?_
      walk_at "e"
      exact q.ok _ p3 _ _ (by rw [e2]; rfl) ((f2.trans f3).trans (Fk.new ht)) (hR3.new ht) (by show Dz _ _ (.tup (ds ++ [])); rw [List.append_nil]; exact Dz.newT ht hd3)
end
section
variable {X : Cx} {CC CB CL oc : Addr} {os : ORow} {vs : List V} {H : Hp} {Q : VK} {E : XK}
theorem name_lt {p p2 : Nat} {d : D} (h : rName os p = .ok d p2) : p < p2 := by
  unfold rName at h
  cases e : rTake os 1 6 p with
  | bad j => rw [e] at h; cases h
  | ok a p1 =>
    have := (take_ok e).1
    rw [e] at h
    change (rMany (rLabel os []) a.toNat p1).map _ = _ at h
    cases e2 : rMany (rLabel os []) a.toNat p1 with
    | bad j => rw [e2] at h; cases h
    | ok l2 p3 =>
      rw [e2] at h
      cases h
      have := many_le (fun p a p2 z => Nat.le_of_lt (lab_lt z).1) e2
      omega
theorem body_read_entry (c : Ctx X nq_read_entry lq_read_entry 8) (RC : RdC X.K CL) (dT : MN X CL "take" ["self", "low", "high"] 3 (spTk CC CB CL oc os)) (dM : DN X "read_node" ["reader"] 4 (spRd CC CB CL oc os (rTake os 0 31) rI)) (dF : DN X "read_first_entries" ["reader"] 8 (spRd CC CB CL oc os (rRows os 6 []) (fun H v ds => Dz H v (.tup ds))))
    (dP : DN X "plain_entry" ["reader", "kind"] 7 (spPl CC CB CL oc os)) (tk : L2N.Takes X (fun cls d _ H' => E cls d H')) (h : spRd CC CB CL oc os (rEntry os 0 3) rD vs H Q E) :
    RB X (defBody sq_read_entry) { nx := fun _ H' => Q .non H', rt := Q } (start nq_read_entry vs) H := by
  obtain ⟨a, p, rfl, hR, q⟩ := h
  obtain ⟨dx, us, h1, _⟩ := id hR
  show RB X (defBody sq_read_entry) _ [some (.ref a), none, none] H
  walk_at "g0"
  refine re_meth c RC.cl dT (by decide) (pN tk) ?_
  walk_at "e"
  refine ⟨a, dx, _, rfl, h1, rfl, ?_⟩
  walk_at "e"
  refine ⟨a, p, 0, 3, rfl, hR, q.bind fun k p1 v H1 e1 f1 hR1 r1 q1 => ?_⟩
  obtain rfl : v = .int k := r1
  walk_at "g"
  refine ite2 (fun e => ?_) (fun e => ?_)
  · rw [if_pos (of_decide_eq_true e)] at q1
    walk_at "g"
    exact q1.ok _ p1 _ _ rfl Fk.refl hR1 .non
  · rw [if_neg (of_decide_eq_false (by simpa using e))] at q1
    walk_at "g"
    refine ite2 (fun e => ?_) (fun e => ?_)
    · rw [if_pos (of_decide_eq_true e)] at q1
      walk_at "g"
      refine re_callN c dM (by decide) (by walk_at "gm") (pN tk) ?_
      walk_at "e"
      refine ⟨a, p1, rfl, hR1, q1.bind fun hh p2 v H2 _ f2 hR2 r2 q2 => ?_⟩
      obtain rfl : v = .int hh := r2
      walk_at "g"
      refine re_callN c dF (by decide) (by walk_at "gm") (pN tk) ?_
      walk_at "e"
      refine ⟨a, p2, rfl, hR2, q2.bind fun rs p3 v H3 _ f3 hR3 r3 q3 => ?_⟩
      walk_at "e"
      refine ⟨by show 3 ≤ sizeLine; decide, fun t ht => ?_⟩
      walk_at "e"
      exact q3.ok _ p3 _ _ rfl (Fk.new ht) (hR3.new ht) (Dz.newT ht (.cons .str (.cons .int (.cons r3 .nil))))
    · rw [if_neg (of_decide_eq_false (by simpa using e))] at q1
      walk_at "g"
      refine re_callN c dP (by decide) (by walk_at "gm") (pN tk) ?_
      walk_at "e"
      exact ⟨a, p1, k, rfl, hR1, q1⟩
theorem body_read_found (c : Ctx X nq_read_found lq_read_found 6) (RC : RdC X.K CL) (dT : MN X CL "take" ["self", "low", "high"] 3 (spTk CC CB CL oc os)) (dM : DN X "read_node" ["reader"] 4 (spRd CC CB CL oc os (rTake os 0 31) rI)) (dG : DN X "read_groups" ["reader"] 5 (spRd CC CB CL oc os (rNum os) rI))
    (dE : DN X "read_term" ["reader"] 6 (spRd CC CB CL oc os (rTerm os (.tup [])) rD)) (tk : L2N.Takes X (fun cls d _ H' => E cls d H')) (h : spRd CC CB CL oc os (rFound os) rD vs H Q E) :
    RB X (defBody sq_read_found) { nx := fun _ H' => Q .non H', rt := Q } (start nq_read_found vs) H := by
  obtain ⟨a, p, rfl, hR, q⟩ := h
  obtain ⟨dx, us, h1, _⟩ := id hR
  show RB X (defBody sq_read_found) _ [some (.ref a), none, none] H
  walk_at "g0"
  refine re_meth c RC.cl dT (by decide) (pN tk) ?_
  walk_at "e"
  refine ⟨a, dx, _, rfl, h1, rfl, ?_⟩
  walk_at "e"
  refine ⟨a, p, 0, 4, rfl, hR, q.bind fun k p1 v H1 e1 f1 hR1 r1 q1 => ?_⟩
  obtain rfl : v = .int k := r1
  obtain ⟨_, _, k0, k4, _⟩ := take_ok e1
  walk_at "g"
  refine ite2 (fun e => ?_) (fun e => ?_)
  · rw [if_pos (of_decide_eq_true e)] at q1
    walk_at "g"
    refine re_callN c dG (by decide) (by walk_at "gm") (pN tk) ?_
    walk_at "e"
    refine ⟨a, p1, rfl, hR1, q1.bind fun n p2 v H2 _ f2 hR2 r2 q2 => ?_⟩
    obtain rfl : v = .int n := r2
    walk_at "e"
    refine ⟨by show 2 ≤ sizeLine; decide, fun t ht => ?_⟩
    walk_at "e"
    exact q2.ok _ p2 _ _ rfl (Fk.new ht) (hR2.new ht) (Dz.newT ht (.cons .str (.cons .int .nil)))
  · have n0 : k ≠ 0 := of_decide_eq_false (by simpa using e)
    rw [if_neg n0] at q1
    walk_at "g"
    refine ite2 (fun e => ?_) (fun e => ?_)
    · rw [if_pos (of_decide_eq_true e)] at q1
      walk_at "g"
      refine re_callN c dM (by decide) (by walk_at "gm") (pN tk) ?_
      walk_at "e"
      refine ⟨a, p1, rfl, hR1, q1.bind fun hh p2 v H2 _ f2 hR2 r2 q2 => ?_⟩
      obtain rfl : v = .int hh := r2
      walk_at "g"
      refine re_callN c dE (by decide) (by walk_at "gm") (pN tk) ?_
      walk_at "e"
      refine ⟨a, p2, rfl, hR2, q2.bind fun t p3 v H3 _ f3 hR3 r3 q3 => ?_⟩
      walk_at "e"
      refine ⟨by show 3 ≤ sizeLine; decide, fun t ht => ?_⟩
      walk_at "e"
      exact q3.ok _ p3 _ _ rfl (Fk.new ht) (hR3.new ht) (Dz.newT ht (.cons .str (.cons .int (.cons r3 .nil))))
    · have n1 : k ≠ 1 := of_decide_eq_false (by simpa using e)
      rw [if_neg n1] at q1
      walk_at "g"
      refine ⟨by show 1 ≤ sizeLine; decide, fun t1 ht1 => ?_⟩
      walk_at "e"
      refine ⟨by show 1 ≤ sizeLine; decide, fun t2 ht2 => ?_⟩
      walk_at "e"
      refine ⟨by show 1 ≤ sizeLine; decide, fun t3 ht3 => ?_⟩
      walk_at "e"
      refine ⟨by show 3 ≤ sizeLine; decide, fun t ht => ?_⟩
      walk_at "e"
      have k1 := KF.new (o := .tup [.str "nothing"]) ht1
      have k2 := KF.new (o := .tup [.str "long"]) ht2
      have k3 := KF.new (o := .tup [.str "far"]) ht3
      have k5 := KF.new (o := .tup [.ref t1, .ref t2, .ref t3]) ht
      have ff : Fk (· = a) H1 (upd (upd (upd (upd H1 t1 (.tup [.str "nothing"])) t2 (.tup [.str "long"])) t3 (.tup [.str "far"])) t (.tup [.ref t1, .ref t2, .ref t3])) := (((Fk.new ht1).trans (Fk.new ht2)).trans (Fk.new ht3)).trans (Fk.new ht)
      have hR5 := (((hR1.new (o := .tup [.str "nothing"]) ht1).new (o := .tup [.str "long"]) ht2).new (o := .tup [.str "far"]) ht3).new (o := .tup [.ref t1, .ref t2, .ref t3]) ht
      rcases (by omega : k = 2 ∨ k = 3 ∨ k = 4) with rfl | rfl | rfl
      · refine iv_tup (SqT.of upd_same) (by exact rfl) ?_
        exact q1.ok _ p1 _ _ rfl ff hR5 ((Dz.newT ht1 (.cons .str .nil)).kf ((k2.trans k3).trans k5))
      · refine iv_tup (SqT.of upd_same) (by exact rfl) ?_
        exact q1.ok _ p1 _ _ rfl ff hR5 ((Dz.newT ht2 (.cons .str .nil)).kf (k3.trans k5))
      · refine iv_tup (SqT.of upd_same) (by exact rfl) ?_
        exact q1.ok _ p1 _ _ rfl ff hR5 ((Dz.newT ht3 (.cons .str .nil)).kf k5)
theorem body_read_answer (c : Ctx X nq_read_answer lq_read_answer 7) (RC : RdC X.K CL) (zl : X.mg "len" = none) (zt : X.mg "tuple" = none) (gN : ∃ t, X.mg "MOST_NAMES" = some (.int 8 t)) (dT : MN X CL "take" ["self", "low", "high"] 3 (spTk CC CB CL oc os))
    (dF : DN X "read_found" ["reader"] 7 (spRd CC CB CL oc os (rFound os) rD)) (dL : DN X "read_name" ["reader"] 6 (spRd CC CB CL oc os (rName os) rD)) (tk : L2N.Takes X (fun cls d _ H' => E cls d H')) (h : spRd CC CB CL oc os (rAnswer os) rD vs H Q E) :
    RB X (defBody sq_read_answer) { nx := fun _ H' => Q .non H', rt := Q } (start nq_read_answer vs) H := by
  obtain ⟨a, p, rfl, hR, q⟩ := h
  obtain ⟨tN, gN⟩ := gN
  show RB X (defBody sq_read_answer) _ [some (.ref a), none, none, none] H
  walk_at "g0"
  refine re_callN c dF (by decide) (by walk_at "gm") (pN tk) ?_
  walk_at "e"
  refine ⟨a, p, rfl, hR, q.bind fun w p0 vw H0 _ f0 hR0 r0 q0 => ?_⟩
  obtain ⟨dx, us, h1, _⟩ := id hR0
  walk_at "g"
  refine re_meth c RC.cl dT (by decide) (pN tk) ?_
  walk_at "e"
  refine ⟨a, dx, _, rfl, h1, rfl, ?_⟩
  walk_at "e"
  refine re_glob (v := .int 8) c (by walk_at "gm") gN ⟨tN, rfl⟩ ?_
  walk_at "e"
  refine ⟨a, p0, 0, 9, rfl, hR0, q0.bind fun y p1 v H1 e1 f1 hR1 r1 q1 => ?_⟩
  obtain rfl : v = .int y := r1
  obtain ⟨hp1, hp, y1, y6, _⟩ := take_ok e1
  obtain ⟨m, rfl⟩ : ∃ m : Nat, y = m := ⟨y.toNat, by omega⟩
  rw [Int.toNat_natCast] at q1
  walk_at "g"
  refine ⟨Nat.zero_le _, fun l hl => ?_⟩
  walk_at "e"
  have nl := hR1.ne hl
  refine rb_cons (rs_while c (fun σ' H' => ∃ (p2 k : Nat) (us : List V) (ds : List D), σ' = [some (.ref a), some vw, some (.int (m : Int)), some (.ref l)] ∧ RdAt CL oc os p2 H' a ∧ Fk (· = a) H1 H' ∧ H' l = some (.lst us) ∧ Dzs H' us ds ∧ us.length + k = m ∧
      rMany (rName os) m p1 = (rMany (rName os) k p2).map (ds ++ ·)) (fun _ H' => os.length - posOf H' a) ?_ ?_)
  · exact ⟨p1, m, [], [], rfl, hR1.new hl, Fk.new hl, upd_same, .nil, by simp, by simp [Rdg.map_id]⟩
  · rintro σ' H2 ⟨p2, k, us, ds, rfl, hR2, f2, h2, hd2, hk, e2⟩
    walk_at "e"
    refine lv_lenL (SqL.of h2) ?_
    walk_at "e"
    refine ite2 (fun e => ?_) (fun e => ?_)
    · have hlt : us.length < m := by simpa using e
      obtain ⟨k', rfl⟩ : ∃ k', k = k' + 1 := ⟨k - 1, by omega⟩
      have e3 := rMany_snoc e2 rfl
      refine rb_cons (rs_app c (by walk_at "gm") (by constructor) (by walk_at "gs") h2 ?_)
      refine re_callN c dL (by decide) (by walk_at "gm") (pN tk) ?_
      walk_at "e"
      have q2 := q1
      rw [e3, Rdg.bind_bind] at q2
      refine ⟨a, p2, rfl, hR2, (q2.move hR2 f2).bind fun f p3 v H3 e4 f3 hR3 r3 q3 => ?_⟩
      have h3 : H3 l = some (.lst us) := f3.f _ _ nl.1 h2
      refine ⟨_, h3, by show _ < 16777216; omega, ?_⟩
      have f4 : Fk (· = l) H3 (upd H3 l (.lst (us ++ [v]))) := Fk.putL h3 rfl
      walk_at "g"
      have hR4 : RdAt CL oc os p3 (upd H3 l (.lst (us ++ [v]))) a := hR3.fk f4 (fun x z => by rw [z]; exact nl)
      refine ⟨⟨p3, k', us ++ [v], ds ++ [f], rfl, hR4, (f2.trans f3).loc f4 (fun x z => .inr (by rw [z]; exact hl)), upd_same, ((hd2.kf f3.k).snoc r3).kf f4.k, by rw [List.length_append]; show _ + 1 + _ = _; omega, ?_⟩, ?_⟩
      · rw [e3, e4]
        rfl
      · rw [posOf_eq hR2, posOf_eq hR4]
        have := name_lt e4
        have := hR3.le
        omega
    · have hge : m ≤ us.length := by simpa using e
      obtain rfl : k = 0 := by omega
      have e3 : rMany (rName os) m p1 = .ok ds p2 := by
        rw [e2]
        show Rdg.ok (ds ++ []) p2 = _
        rw [List.append_nil]
      rw [e3] at q1
      walk_at "g"
      refine lv_tupL (SqL.of h2) fun t ht => ?_
      walk_at "e"
      refine ⟨by show 2 ≤ sizeLine; decide, fun t2 ht2 => ?_⟩
      walk_at "e"
      have w2 := (r0.kf (f1.k.trans f2.k)).kf (KF.new (o := .tup us) ht)
      exact q1.ok _ p2 _ _ rfl ((f2.trans (Fk.new ht)).trans (Fk.new ht2)) ((hR2.new ht).new ht2) (Dz.newT ht2 (.cons w2 (.cons (Dz.newT ht hd2) .nil)))
end
theorem kind_tab : kindTab = deeds.map fun x => (x.1, x.2.map wdS) := by decide +kernel
section
variable {X : Cx} {CC CB CL oc : Addr} {os : ORow} {vs : List V} {H : Hp} {Q : VK} {E : XK}
theorem PPost.imp {α : Type} {r : Rdg α} {rel rel2 : Hp → V → α → Prop} {a : Addr} (q : PPost CC CB CL oc os r rel a H Q E) (h : ∀ H v x, rel2 H v x → rel H v x) : PPost CC CB CL oc os r rel2 a H Q E :=
  ⟨fun x p v H' e f1 h1 hr => q.ok x p v H' e f1 h1 (h _ _ _ hr), q.bad, q.cut⟩
/-- the readers by the words of a deed's parts -/
def RdT (X : Cx) (CC CB CL oc : Addr) (os : ORow) : Prop := ∃ a, X.mg "READERS" = some (.ref a) ∧ ∀ w : Wd, ∃ (f : Addr) (fd : FuncData) (ps : List Str) (n : Nat), n ≤ 9 ∧ KDct X.K X.w a (wdS w) (.ref f) ∧ FnOk X.prog X.w X.K X.mg X.base (L2N.CX X.prog X.w) n f fd ps (spRd CC CB CL oc os (rPart os w) rD) ∧ PySem.W.keepIn X.K (.ref f) = true ∧ Binds X.K fd ps []
theorem rParts_snoc {ws : List Wd} {i p : Nat} {w : Wd} {r : Rdg (List D)} {ds : List D} (h : r = (rParts os (ws.drop i) p).map (ds ++ ·)) (hw : ws[i]? = some w) : r = (rPart os w p).bind fun d p1 => (rParts os (ws.drop (i + 1)) p1).map ((ds ++ [d]) ++ ·) := by
  have hi : i < ws.length := (List.getElem?_eq_some_iff.mp hw).1
  have e : ws.drop i = w :: ws.drop (i + 1) := by
    rw [List.drop_eq_getElem_cons hi]
    rw [List.getElem?_eq_getElem hi] at hw
    rw [Option.some.inj hw]
  rw [h, e]
  show ((rPart os w p).bind fun a p1 => (rParts os (ws.drop (i + 1)) p1).map (a :: ·)).map (ds ++ ·) = _
  rw [Rdg.bind_map]
  congr 1
  funext a p1
  rw [Rdg.map_map]
  simp only [List.append_assoc, List.singleton_append]
theorem body_read_event (c : Ctx X nq_read_event lq_read_event 9) (RC : RdC X.K CL) (zl : X.mg "len" = none) (zt : X.mg "tuple" = none) (dT : MN X CL "take" ["self", "low", "high"] 3 (spTk CC CB CL oc os)) (dI : DN X "read_id" ["reader"] 6 (spRd CC CB CL oc os (rId os) rD)) (dF : DN X "read_fraction_octets" ["reader"] 6 (spRd CC CB CL oc os (rFrac os) rD))
    (T : TabT X "KINDS" KINDSL) (TP : PaT X) (TR : RdT X CC CB CL oc os) (tk : L2N.Takes X (fun cls d _ H' => E cls d H')) (h : spRd CC CB CL oc os (rEvent os) rD vs H Q E) :
    RB X (defBody sq_read_event) { nx := fun _ H' => Q .non H', rt := Q } (start nq_read_event vs) H := by
  obtain ⟨a, p, rfl, hR, q⟩ := h
  obtain ⟨aK, gK, sK, oK⟩ := T
  obtain ⟨aP, gP, kP⟩ := TP
  obtain ⟨aR, gR, kR⟩ := TR
  show RB X (defBody sq_read_event) _ [some (.ref a), none, none, none, none, none, none] H
  walk_at "g0"
  refine re_callN c dI (by decide) (by walk_at "gm") (pN tk) ?_
  walk_at "e"
  refine ⟨a, p, rfl, hR, q.bind fun i p1 vi H1 _ f1 hR1 r1 q1 => ?_⟩
  walk_at "g"
  refine re_callN c dF (by decide) (by walk_at "gm") (pN tk) ?_
  walk_at "e"
  refine ⟨a, p1, rfl, hR1, q1.bind fun f p2 vf H2 _ f2 hR2 r2 q2 => ?_⟩
  obtain ⟨dx, us, h1, _⟩ := id hR2
  walk_at "g"
  refine re_glob (v := .ref aK) c (by walk_at "gm") gK rfl ?_
  walk_at "e"
  refine re_meth c RC.cl dT (by decide) (pN tk) ?_
  walk_at "e"
  refine ⟨a, dx, _, rfl, h1, rfl, ?_⟩
  walk_at "e"
  refine re_glob (v := .ref aK) c (by walk_at "gm") gK rfl ?_
  walk_at "e"
  refine lv_lenT (sK _) ?_
  walk_at "e"
  refine ⟨a, p2, 0, 10, rfl, hR2, q2.bind fun y p3 v H3 e3 f3 hR3 r3 q3 => ?_⟩
  obtain rfl : v = .int y := r3
  obtain ⟨_, _, y0, y1, _⟩ := take_ok e3
  obtain ⟨j, rfl⟩ : ∃ j : Nat, y = j := ⟨y.toNat, by omega⟩
  rw [Int.toNat_natCast] at q3
  obtain ⟨k, ws, hd⟩ : ∃ k ws, deeds[j]? = some (k, ws) := ⟨_, _, List.getElem?_eq_getElem (show j < deeds.length by show j < 11; omega)⟩
  have e4 : deeds.getD j ("", []) = (k, ws) := by
    rw [List.getD_eq_getElem?_getD, hd]
    rfl
  rw [e4] at q3
  have hkt : kindTab[j]? = some (k, ws.map wdS) := by
    rw [kind_tab, List.getElem?_map, hd]
    rfl
  have hkk : KINDSL[j]? = some k := (kind_bd hkt).2.1
  obtain ⟨t, kt, st⟩ := kP j k _ hkt
  refine iv_tup (sK _) (at_nat (by rw [List.getElem?_map, hkk]; rfl)) ?_
  walk_at "g"
  refine ⟨by show 1 ≤ sizeLine; decide, fun l hl => ?_⟩
  walk_at "e"
  have nl := hR3.ne hl
  refine rb_cons (rs_for_tup c (by walk_at "gm") .loc (by walk_at "gm") ?_)
  refine re_ix (re_glob (v := .ref aP) c (by walk_at "gm") gP rfl ?_)
  walk_at "e"
  refine iv_kd kt ?_
  refine ⟨t, (ws.map wdS).map V.str, rfl, st _, fun m σ' H' => ∃ (p4 : Nat) (ws4 : List V) (ds : List D) (s5 s6 : Option V), σ' = [some (.ref a), some vi, some vf, some (.str k), some (.ref l), s5, s6] ∧ RdAt CL oc os p4 H' a ∧ Fk (· = a) H3 H' ∧ H' l = some (.lst (.str k :: ws4)) ∧ Dzs H' ws4 ds ∧ ws4.length = m ∧
    rParts os ws p3 = (rParts os (ws.drop m) p4).map (ds ++ ·), ?_, fun i σ' H' _ _ => st _, ?_, ?_⟩
  · exact ⟨p3, [], [], none, none, rfl, hR3.new hl, Fk.new hl, upd_same, .nil, rfl, by simp [Rdg.map_id]⟩
  · rintro m y σ' H4 hm hy ⟨p4, us4, ds, s5, s6, rfl, hR4, f4, h4, hd4, lm, e5⟩
    rw [List.getElem?_map, List.getElem?_map] at hy
    obtain ⟨w, hw⟩ : ∃ w, ws[m]? = some w := ⟨_, List.getElem?_eq_getElem (by simpa using hm)⟩
    rw [hw] at hy
    obtain rfl : y = .str (wdS w) := (Option.some.inj hy).symm
    obtain ⟨g, fd, pms, n, hn, hk, hF, kp, hb⟩ := kR w
    have e6 := rParts_snoc e5 hw
    refine ⟨_, by walk_at "gs", ?_⟩
    walk_at "g0"
    refine re_glob (v := .ref aR) c (by walk_at "gm") gR rfl ?_
    walk_at "e"
    refine iv_kd hk ?_
    walk_at "e"
    refine rb_cons (rs_app c (by walk_at "gm") (by constructor) (by walk_at "gs") h4 ?_)
    refine re_callLN c hF hn kp hb (by walk_at "gm") .loc (by walk_at "gs") (pN tk) ?_
    walk_at "e"
    have q4 := q3
    rw [e6, Rdg.bind_bind] at q4
    refine ⟨a, p4, rfl, hR4, (q4.move hR4 f4).bind fun d p5 v H5 e7 f5 hR5 r5 q5 => ?_⟩
    have h5 : H5 l = some (.lst (.str k :: us4)) := f5.f _ _ nl.1 h4
    refine ⟨_, h5, by have := (kind_bd hkt).1; rw [List.length_map] at this; rw [List.length_map, List.length_map] at hm; rw [List.length_cons]; show _ < 16777216; omega, ?_⟩
    have f6 : Fk (· = l) H5 (upd H5 l (.lst (.str k :: us4 ++ [v]))) := Fk.putL h5 rfl
    walk_at "e"
    refine ⟨p5, us4 ++ [v], ds ++ [d], _, _, rfl, hR5.fk f6 (fun x z => by rw [z]; exact nl), (f4.trans f5).loc f6 (fun x z => .inr (by rw [z]; exact hl)), upd_same, ((hd4.kf f5.k).snoc r5).kf f6.k, by rw [List.length_append, lm]; rfl, ?_⟩
    rw [e6, e7]
    rfl
  · rintro σ' H4 ⟨p4, us4, ds, s5, s6, rfl, hR4, f4, h4, hd4, lm, e5⟩
    have e6 : rParts os ws p3 = .ok ds p4 := by
      rw [e5, List.drop_of_length_le (by simp)]
      show Rdg.ok (ds ++ []) p4 = _
      rw [List.append_nil]
    rw [e6] at q3
    walk_at "g"
    refine lv_tupL (SqL.of h4) fun t1 ht1 => ?_
    walk_at "e"
    refine ⟨by show 3 ≤ sizeLine; decide, fun t2 ht2 => ?_⟩
    walk_at "e"
    have w1 := (r1.kf (((f2.k.trans f3.k).trans f4.k))).kf (KF.new (o := .tup (.str k :: us4)) ht1)
    have w2 := (r2.kf ((f3.k.trans f4.k))).kf (KF.new (o := .tup (.str k :: us4)) ht1)
    exact q3.ok _ p4 _ _ rfl ((f4.trans (Fk.new ht1)).trans (Fk.new ht2)) ((hR4.new ht1).new ht2) (Dz.newT ht2 (.cons w1 (.cons w2 (.cons (Dz.newT ht1 (.cons .str hd4)) .nil))))
end
section
variable {X : Cx} {CC CB CL oc : Addr} {os : ORow} {vs : List V} {H : Hp} {Q : VK} {E : XK}
theorem body_RinitL (c : Ctx X nR_init lR_init 2) (RC : RdC X.K CL) (zi : X.mg "isinstance" = none) (zl : X.mg "list" = none) (zt : X.mg "tuple" = none) (EC : ErrC X.prog X.w X.K X.mg X.base "BadOctets" "at" CB) (tk : Takes X (fun cls d _ H' => E cls d H')) (h : spRI CB CL vs H Q E) : RB X (defBody sR_init) { nx := fun _ H' => Q .non H', rt := Q } (start nR_init vs) H := by
  obtain ⟨a, dx, v, rfl, h1, q⟩ := h
  show RB X (defBody sR_init) _ [some (.ref a), some v] H
  walk_at "g0"
  refine ⟨by show 2 ≤ sizeLine; decide, fun t ht => ?_⟩
  walk_at "e"
  have f1 : Fk (· = a) H (upd H t (.tup [.ty "list", .ty "tuple"])) := Fk.new ht
  have a1 := f1.k
  have na : a ≠ t := fun z => by rw [← z, h1] at ht; cases ht
  rcases q with ⟨oc, xs, rfl, hs, q⟩ | ⟨hv, q⟩
  · have no : oc ≠ t := fun z => by
      rw [← z] at ht
      rcases hs with hs | hs <;> rw [hs] at ht <;> cases ht
    have nao : oc ≠ a := fun z => by
      rw [z, h1] at hs
      rcases hs with hs | hs <;> cases hs
    have rest : ∀ Q' : VK, Q' (.bl true) (upd H t (.tup [.ty "list", .ty "tuple"])) → ClV X (.builtin "isinstance") [.ref oc, .ref t] (upd H t (.tup [.ty "list", .ty "tuple"])) Q' := fun Q' w => by
      rcases hs with hs | hs
      · exact lv_isiT (t := .type "list") upd_same (.cons (.ty "list") (.cons (.ty "tuple") .nil)) (.base (.lst (xs := xs) (by rw [upd_ne no]; exact hs))) (kit_LT (b1 := true) (b2 := false) (by decide +kernel) (by decide +kernel)) w
      · exact lv_isiT (t := .type "tuple") upd_same (.cons (.ty "list") (.cons (.ty "tuple") .nil)) (.base (.tup (xs := xs) (by rw [upd_ne no]; exact hs))) (kit_LT (b1 := false) (b2 := true) (by decide +kernel) (by decide +kernel)) w
    refine rest _ ?_
    walk_at "g"
    have h2 : (upd H t (.tup [.ty "list", .ty "tuple"])) a = some (.ins CL dx []) := by rw [upd_ne na]; exact h1
    refine rs_fld ?_
    walk_at "e"
    refine ⟨a, CL, dx, _, rfl, h2, RC.cl, RC.nO, by show 0 < 1000; decide, ?_⟩
    walk_at "g"
    refine rs_fld ?_
    walk_at "e"
    refine ⟨a, CL, dx, _, rfl, upd_same, RC.cl, RC.nA, by show 1 < 1000; decide, ?_⟩
    walk_at "g"
    refine q _ dx ((f1.trans (Fk.putI h2 rfl)).trans (Fk.putI upd_same rfl)) ?_
    rw [upd_same]
    rfl
  · have rest : ∀ Q' : VK, Q' (.bl false) (upd H t (.tup [.ty "list", .ty "tuple"])) → ClV X (.builtin "isinstance") [v, .ref t] (upd H t (.tup [.ty "list", .ty "tuple"])) Q' := fun Q' w => by
      rcases hv with rfl | ⟨i, rfl⟩ | ⟨z, rfl⟩ | ⟨b, rfl⟩
      · exact lv_isiT (t := .type "NoneType") upd_same (.cons (.ty "list") (.cons (.ty "tuple") .nil)) (.base .non) (kit_LT (b1 := false) (b2 := false) (by decide +kernel) (by decide +kernel)) w
      · exact lv_isiT (t := .type "int") upd_same (.cons (.ty "list") (.cons (.ty "tuple") .nil)) (.base (.int i)) (kit_LT (b1 := false) (b2 := false) (by decide +kernel) (by decide +kernel)) w
      · exact lv_isiT (t := .type "str") upd_same (.cons (.ty "list") (.cons (.ty "tuple") .nil)) (.base (.str z)) (kit_LT (b1 := false) (b2 := false) (by decide +kernel) (by decide +kernel)) w
      · exact lv_isiT (t := .type "bool") upd_same (.cons (.ty "list") (.cons (.ty "tuple") .nil)) (.base (.bl b)) (kit_LT (b1 := false) (b2 := false) (by decide +kernel) (by decide +kernel)) w
    refine rest _ ?_
    walk_at "e"
    refine rb_cons (rs_raise c EC (by decide) (by walk_at "gm") tk ?_)
    walk_at "e"
    intro d hd
    exact q _ d (f1.trans (Fk.new hd)) (f1.gone (p := d) (fun z => by subst z; rw [upd_ne na, h1] at hd; cases hd) hd) upd_same
/-- the whole row is one event -/
def rWhole (os : ORow) : Rdg D := (rEvent os 0).bind fun d p => if p = os.length then .ok d p else .bad p
/-- what reading a row promises -/
def spDec (CB : Addr) : Sp := fun vs H Q E => ∃ v : V, vs = [v] ∧
  ((∃ (oc : Addr) (us : List V) (os : ORow), v = .ref oc ∧ (H oc = some (.lst us) ∨ H oc = some (.tup us)) ∧ Items H us os ∧
    (∀ d p r H', rWhole os = .ok d p → Fk (fun _ => False) H H' → Dz H' r d → Q r H') ∧
    (∀ j d H', rWhole os = .bad j → Fk (fun _ => False) H H' → H d = none → H' d = some (.xd [("at", .int (j : Nat))]) → E (.ref CB) (some d) H')) ∨
   ((v = .non ∨ (∃ i, v = .int i) ∨ (∃ s, v = .str s) ∨ ∃ b, v = .bl b) ∧ ∀ H' d, Fk (fun _ => False) H H' → H d = none → H' d = some (.xd [("at", .int (-1))]) → E (.ref CB) (some d) H'))
theorem body_decode_event (c : Ctx X nq_decode_event lq_decode_event 10) (hs : X.stack = X.env :: X.outer) (hf : X.env.frame = some X.env.locals) (hpa : ∀ hd : Option Value, PassesOwnAt (model X.prog X.w) (X.A.mark hd) X.A X.env X.xe) (RC : RdC X.K CL) (zl : X.mg "len" = none)
    (EN : ErrN X.K X.mg "CutShort" CC) (EH : ErrH X.prog X.w X.K X.mg X.base "BadOctets" "at" CB) (gR : X.mg "Reader" = some (.ref CL)) (hx1 : PySem.W.exmOne X.K (.ref CC) (.ref CC) = some true) (hx2 : PySem.W.exmOne X.K (.ref CB) (.ref CC) = some false)
    {fI : Addr} {fd : FuncData} {ps : List Str} (M : Mk X.K CL fI) (FI : FnOk X.prog X.w X.K X.mg X.base (L2.CX X.prog X.w) 3 fI fd ps (spRI CB CL)) (bI : Binds X.K fd ps [])
    (dD : ∀ oc os, MethP X.prog X.w X.K X.mg X.base CX0 CL "is_done" ["self"] 1 (spDone CL oc os)) (dE : ∀ oc os, DN X "read_event" ["reader"] 10 (spRd CC CB CL oc os (rEvent os) rD)) (tk : Takes X (fun cls d _ H' => E cls d H')) (h : spDec CB vs H Q E) :
    RB X (defBody sq_decode_event) { nx := fun _ H' => Q .non H', rt := Q } (start nq_decode_event vs) H := by
  obtain ⟨v, rfl, h⟩ := h
  show RB X (defBody sq_decode_event) _ [some v, none, none] H
  walk_at "g0"
  refine re_make c M FI bI (by decide) (by walk_at "gm") gR (passes_call tk fun _ _ _ _ h => h) ?_
  walk_at "e"
  intro a dx ha hdx hne
  have na : ∀ {b : Addr} {o : HO}, H b = some o → b ≠ a := fun {b o} e z => by rw [z, ha] at e; cases e
  have f0 : Fk (fun _ => False) H (upd (upd H dx (.own a)) a (.ins CL dx [])) := (Fk.new hdx).trans (Fk.new (by rw [upd_ne (fun z => hne z.symm)]; exact ha))
  have keep : ∀ {H'}, Fk (· = a) (upd (upd H dx (.own a)) a (.ins CL dx [])) H' → Fk (fun _ => False) H H' := fun f => f0.loc f fun x z => .inr (by rw [z]; exact ha)
  rcases h with ⟨oc, us, os, rfl, ho, hI, q1, q2⟩ | ⟨hv, q⟩
  · have ho1 : (upd (upd H dx (.own a)) a (.ins CL dx [])) oc = some (.lst us) ∨ (upd (upd H dx (.own a)) a (.ins CL dx [])) oc = some (.tup us) := by
      rcases ho with ho | ho
      · exact .inl (f0.f _ _ (fun z => z) ho)
      · exact .inr (f0.f _ _ (fun z => z) ho)
    have nao : oc ≠ a := by
      rcases ho with ho | ho
      · exact na ho
      · exact na ho
    refine ⟨a, dx, .ref oc, rfl, upd_same, .inl ⟨oc, us, rfl, ho1, fun H1 dx1 f1 h1 => ?_⟩⟩
    refine ⟨rfl, ?_⟩
    have g1 := keep f1
    have hR1 : RdAt CL oc os 0 H1 a := ⟨dx1, us, h1, by
      rcases ho1 with ho1 | ho1
      · exact .inl (f1.f _ _ nao ho1)
      · exact .inr (f1.f _ _ nao ho1), hI.kf g1.k, Nat.zero_le _⟩
    walk_at "g"
    refine rs_try_only c hs hf hpa ⟨c.gl (by walk_at "gm"), by decide, .inl EN.gC⟩ tk (fun pn xe W tkN tkL c2 yes no => ?_)
    have total : ∀ {H2}, Fk (· = a) H1 H2 → Fk (fun _ => False) H H2 := fun f => keep (f1.trans f)
    have free : ∀ {d}, H1 d = none → H d = none := fun hd => g1.gone (fun z => z) hd
    refine rb_cons (rs_set c2 (by walk_at "gm") .loc (by walk_at "gm") ?_)
    refine re_callSN (E := fun σ cls d H' => W cls d σ H') c2 (dE oc os) (by decide) (by walk_at "gm") (fun σ => L2N.passAt tkN σ) ?_
    refine ra_cons (re_name c2 (by walk_at "gs") (by walk_at "gm") .loc (ra_nil ?_))
    refine ⟨a, 0, rfl, hR1, ⟨fun d p v H2 e2 f2 hR2 r2 => ?_, fun j d H2 e2 hj f2 hd h2 => no _ _ _ _ hx2 (q2 j d H2 (by unfold rWhole; rw [e2]; rfl) (total f2) (free hd) h2), fun p2 H2 e2 f2 hR2 => yes _ _ _ _ hx1 fun b oe pn2 hb tkS hot hr cS => ?_⟩⟩
    · have ew : rWhole os = if p = os.length then .ok d p else .bad p := by
        unfold rWhole
        rw [e2]
        rfl
      refine ⟨_, by walk_at "gs", ?_⟩
      refine rb_nil ?_
      obtain ⟨dx2, us2, h2, _⟩ := id hR2
      walk_at "g0"
      refine re_meth0 c RC.cl (dD oc os) (by decide) pass0 ?_
      walk_at "e"
      refine ⟨a, dx2, _, rfl, h2, rfl, a, p, rfl, hR2, ?_⟩
      walk_at "e"
      refine ite2 (fun e => ?_) (fun e => ?_)
      · have hp : p ≠ os.length := by simpa using e
        rw [if_neg hp] at ew
        refine rb_cons (rs_raise c EH.ec (by decide) (by walk_at "gm") tk (re_fld ?_))
        walk_at "e"
        refine ⟨a, CL, dx2, _, _, rfl, h2, RC.cl, RC.nA, rfl, fun d hd => ?_⟩
        exact q2 p d _ ew ((total f2).trans (Fk.new hd)) (free (hR2.free f2 hd)) upd_same
      · have hp : p = os.length := by simpa using e
        rw [if_pos hp] at ew
        walk_at "g"
        exact q1 d p v H2 ew (total f2) r2
    · refine rb_cons (rs_raiseFN cS hot tkS EH (hr.mono (by decide)) (by walk_at "gm") ?_)
      refine re_lenS cS (by walk_at "gm") zl ?_
      refine ra_cons (re_nameS cS (by walk_at "gs") (by walk_at "gm") .loc (ra_nil ?_))
      have fin : ∀ d, H2 d = none → E (.ref CB) (some d) (upd H2 d (.xd [("at", .int (us.length : Nat))])) := fun d hd => by
        rw [hI.1]
        exact q2 os.length d _ (by unfold rWhole; rw [e2]; rfl) ((total f2).trans (Fk.new hd)) (free (hR2.free f2 hd)) upd_same
      have ho2 : H2 oc = some (.lst us) ∨ H2 oc = some (.tup us) := by
        rcases ho with ho | ho
        · exact .inl ((total f2).f _ _ (fun z => z) ho)
        · exact .inr ((total f2).f _ _ (fun z => z) ho)
      rcases ho2 with ho2 | ho2
      · exact lv_lenL (SqL.of ho2) fin
      · exact lv_lenT (SqT.of ho2) fin
  · refine ⟨a, dx, v, rfl, upd_same, .inr ⟨hv, fun H1 d f1 hd h1 => ?_⟩⟩
    refine q H1 d (keep f1) ?_ h1
    rw [upd_ne (fun z => by rw [z, upd_same] at hd; cases hd)] at hd
    rw [upd_ne (fun z => by rw [z, upd_same] at hd; cases hd)] at hd
    exact hd
end
section
variable {X : Cx} {os : ORow} {vs : List V} {H H0 H1 : Hp} {Q : VK} {E : XK} {li cu ou fo : Addr} {p p1 : Nat} {ys zs : List V}
theorem _root_.GT.LAt.loc (h : LAt os li cu ou p ys H0) (f : Fk (Two cu ou) H0 H1) (hn : H0 fo = none) (hc : H1 cu = some (.lst [.int (p1 : Nat)])) (hf : H1 fo = some (.lst zs)) (le : p1 ≤ os.length) : LAt os li cu fo p1 zs H1 := by
  obtain ⟨us, h1, h2⟩ := h.row
  refine ⟨⟨us, f.f _ _ (fun z => z.elim h.n1 h.n2) h1, h2.kf f.k⟩, hc, hf, h.n1, fun z => ?_, fun z => ?_, le⟩
  · rw [← z, h1] at hn
    cases hn
  · rw [← z, h.cur] at hn
    cases hn
theorem _root_.GT.LAt.neo (h : LAt os li cu ou p ys H0) (hn : H0 fo = none) : ou ≠ fo := fun z => by
  rw [← z, h.out] at hn
  cases hn
/-- rows of which no number is too long for the law's own common part -/
structure OsOk (os : ORow) : Prop where
  len : os.length ≤ 70000
  sh : ∀ (n p : Nat) (l : List Int) (p2 : Nat), rDigs os 1 n p = .ok l p2 → l.length ≤ 140
/-- a reading of the law's own: the list, the cursor, where it goes -/
def spLG {α : Type} (rd : ORow → Nat → Rdg α) (rel : Hp → V → α → Prop) : Sp := fun vs H Q _ => ∃ (os : ORow) (li cu ou : Addr) (p : Nat) (ys : List V), vs = [.ref li, .ref cu, .ref ou] ∧ OsOk os ∧ ys.length ≤ 100000 ∧ LAt os li cu ou p ys H ∧ LPost (rd os p) rel cu ou ys H Q
def spGet : Sp := fun vs H Q _ => ∃ (os : ORow) (li cu ou : Addr) (p : Nat) (ys : List V) (lo hi : Int), vs = [.ref li, .ref cu, .int lo, .int hi, .ref ou] ∧ OsOk os ∧ ys.length ≤ 100000 ∧ LAt os li cu ou p ys H ∧ LPost (rTake os lo hi p) rI cu ou ys H Q
theorem body_get (c : Ctx X nq_get lq_get 0) (zl : X.mg "len" = none) (zi : X.mg "isinstance" = none) (zI : X.mg "int" = none) (zb : X.mg "bool" = none) (h : spGet vs H Q E) : RB X (defBody sq_get) { nx := fun _ H' => Q .non H', rt := Q } (start nq_get vs) H := by
  obtain ⟨os, li, cu, ou, p, ys, lo, hi, rfl, ok5, ly, A, q⟩ := h
  have l5 := ok5.len
  obtain ⟨us, h1, h2⟩ := A.row
  show RB X (defBody sq_get) _ [some (.ref li), some (.ref cu), some (.int lo), some (.int hi), some (.ref ou), none, none] H
  have hc := A.cur
  have ho := A.out
  have bad : rTake os lo hi p = .bad p → Q (.bl false) H := fun e => q.bad p H e Fk.refl hc ⟨ys, ho⟩
  walk_at "g0"
  refine lv_lenL (SqL.of h1) ?_
  walk_at "e"
  refine ite2 (fun e => ?_) (fun e => ?_)
  · have hp : us.length ≤ p := by
      have : (us.length : Int) ≤ p := by simpa using e
      omega
    walk_at "g"
    refine bad ?_
    unfold rTake
    rw [List.getElem?_eq_none (by have := h2.1; omega)]
  · have hp : p < us.length := by
      have : (p : Int) < us.length := by simpa using e
      omega
    have ho2 : os[p]? = some (os[p]'(by have := h2.1; omega)) := List.getElem?_eq_getElem (by have := h2.1; omega)
    have ir := h2.2 p _ _ (List.getElem?_eq_getElem hp) ho2
    walk_at "g"
    refine iv_list (SqL.of h1) (at_nat (List.getElem?_eq_getElem hp)) ?_
    have rest : ∀ v o, os[p]? = some o → ItemR H v o → RB X (List.drop 3 (defBody sq_get)) { nx := fun _ H' => Q .non H', rt := Q } [some (.ref li), some (.ref cu), some (.int lo), some (.int hi), some (.ref ou), some (.int (p : Int)), some v] H := by
      intro v o ho3 ir
      cases o with
      | none =>
        have bd : Q (.bl false) H := bad (by unfold rTake; rw [ho3])
        cases ir with
        | non => walk_at "g0"; exact bd
        | bl => walk_at "g0"; exact bd
        | str => walk_at "g0"; exact bd
        | tup t => walk_at "g0"; exact bd
        | lst t => walk_at "g0"; exact bd
      | some i =>
        cases ir
        have e4 : rTake os lo hi p = if lo ≤ i ∧ i ≤ hi then .ok i (p + 1) else .bad p := by
          unfold rTake
          rw [ho3]
        walk_at "g0"
        refine ite2 (fun e => ?_) (fun e => ?_)
        · walk_at "g"
          refine bad ?_
          rw [e4, if_neg (fun z => by have := of_decide_eq_true e; omega)]
        · walk_at "g"
          refine ite2 (fun e' => ?_) (fun e' => ?_)
          · walk_at "g"
            refine bad ?_
            rw [e4, if_neg (fun z => by have := of_decide_eq_true e'; omega)]
          · rw [if_pos ⟨by simpa using e, by simpa using e'⟩] at e4
            walk_at "g"
            refine ⟨cu, [.int (p : Int)], 0, 0, rfl, rfl, hc, rfl, ?_⟩
            have f1 : Fk (Two cu ou) H (upd H cu (.lst [.int ((p : Int) + 1)])) := Fk.putL hc (.inl rfl)
            have ho1 : (upd H cu (.lst [.int ((p : Int) + 1)])) ou = some (.lst ys) := by rw [upd_ne (Ne.symm A.n3)]; exact ho
            walk_at "e"
            refine rb_cons (rs_app c (by walk_at "gm") (by constructor) (by walk_at "gs") ho1 ?_)
            walk_at "e"
            refine ⟨ys, ho1, by show _ < 16777216; omega, ?_⟩
            walk_at "g"
            refine q.ok i (p + 1) (.int i) _ e4 (f1.trans (Fk.putL ho1 (.inr rfl))) ?_ upd_same rfl
            rw [upd_ne A.n3, upd_same]
            rfl
    walk_at "e"
    exact rest _ _ ho2 ir
def spBack : Sp := fun vs H Q _ => ∃ (cu : Addr) (j : Nat), vs = [.ref cu] ∧ H cu = some (.lst [.int (j : Nat)]) ∧ 0 < j ∧ Q (.bl false) (upd H cu (.lst [.int ((j - 1 : Nat) : Int)]))
theorem body_back (c : Ctx X nq_back lq_back 0) (h : spBack vs H Q E) : RB X (defBody sq_back) { nx := fun _ H' => Q .non H', rt := Q } (start nq_back vs) H := by
  obtain ⟨cu, j, rfl, hc, h0, q⟩ := h
  show RB X (defBody sq_back) _ [some (.ref cu)] H
  walk_at "g0"
  refine ⟨cu, [.int (j : Int)], 0, 0, rfl, rfl, hc, rfl, ?_⟩
  walk_at "g"
  have e : (j : Int) - 1 = ((j - 1 : Nat) : Int) := by omega
  show Q (.bl false) (upd H cu (.lst [.int ((j : Int) - 1)]))
  rw [e]
  exact q
def spWorth (K : PySem.W.Frag) : Sp := fun vs H Q _ => ∃ (l : Addr) (ds : List Int), vs = [.ref l] ∧ H l = some (.lst (ds.map V.int)) ∧ ∀ H', Fk (fun _ => False) H H' → Q (.int (worth ds)) H'
theorem body_worth (c : Ctx X nq_worth lq_worth 0) (zI : X.mg "int" = none) (h : spWorth X.K vs H Q E) : RB X (defBody sq_worth) { nx := fun _ H' => Q .non H', rt := Q } (start nq_worth vs) H := by
  obtain ⟨l, ds, rfl, hl, q⟩ := h
  show RB X (defBody sq_worth) _ [some (.ref l), none, none] H
  walk_at "g0"
  refine rs_for_list c (by walk_at "gm") .loc (by walk_at "gm") ?_
  refine re_revL ?_
  walk_at "e"
  refine ⟨l, _, rfl, SqL.of hl, fun r hr => ?_⟩
  rw [← List.map_reverse]
  refine ⟨r, _, rfl, SqL.of upd_same, fun i σ' H' => H' = upd H r (.lst (ds.reverse.map V.int)) ∧ ∃ s : Option V, σ' = [some (.ref l), some (.int (worth (ds.drop (ds.length - i)))), s], ⟨rfl, none, by rw [Nat.sub_zero, List.drop_length]; rfl⟩, ?_, ?_, ?_⟩
  · rintro i σ' H' _ ⟨rfl, _⟩
    exact SqL.of upd_same
  · rintro i y σ' H' hi hy ⟨rfl, s, rfl⟩
    rw [List.length_map, List.length_reverse] at hi
    rw [List.getElem?_map, List.getElem?_reverse hi] at hy
    have hj : ds.length - 1 - i < ds.length := by omega
    rw [List.getElem?_eq_getElem hj] at hy
    obtain rfl : y = .int ds[ds.length - 1 - i] := (Option.some.inj hy).symm
    refine ⟨_, by walk_at "gs", ?_⟩
    walk_at "g0"
    refine ⟨rfl, some (.int ds[ds.length - 1 - i]), ?_⟩
    have e1 : ds.drop (ds.length - (i + 1)) = ds[ds.length - 1 - i] :: ds.drop (ds.length - i) := by
      have e2 : ds.length - (i + 1) = ds.length - 1 - i := by omega
      rw [e2, List.drop_eq_getElem_cons hj]
      congr 2
      omega
    rw [e1]
    show _ = [some (V.ref l), some (.int (ds[ds.length - 1 - i] % 128 + 128 * worth (ds.drop (ds.length - i)))), some (.int ds[ds.length - 1 - i])]
    rw [Int.add_comm, Int.mul_comm 128]
  · rintro σ' H' ⟨rfl, s, rfl⟩
    walk_at "g"
    rw [List.length_map, List.length_reverse, Nat.sub_self, List.drop_zero]
    exact q _ (Fk.new hr)
abbrev DG (X : Cx) (x : Str) (ps : List Str) (k : Nat) (sp : Sp) : Prop := DefP X.prog X.w X.K X.mg X.base CX0 x ps k sp
theorem body_get_number (c : Ctx X nq_get_number lq_get_number 1) (zl : X.mg "len" = none) (zr : X.mg "range" = none) (dG : DG X "_law_get" ["items", "cursor", "low", "high", "out"] 1 spGet) (dW : DG X "_law_worth" ["digits"] 1 (spWorth X.K)) (h : spLG rNum rI vs H Q E) :
    RB X (defBody sq_get_number) { nx := fun _ H' => Q .non H', rt := Q } (start nq_get_number vs) H := by
  obtain ⟨os, li, cu, ou, p, ys, rfl, ok5, ly, A, q⟩ := h
  have l5 := ok5.len
  obtain ⟨us, h1, h2⟩ := A.row
  show RB X (defBody sq_get_number) _ [some (.ref li), some (.ref cu), some (.ref ou), none, none] H
  walk_at "g0"
  refine ⟨Nat.zero_le _, fun l hl => ?_⟩
  walk_at "e"
  refine rb_cons (rs_for_range c (by walk_at "gm") .loc (by walk_at "gm") (by walk_at "gm") zr ?_)
  walk_at "e"
  have f0 : Fk (Two cu ou) H (upd H l (.lst [])) := Fk.new hl
  refine lv_lenL (SqL.of (f0.f _ _ (fun z => z.elim A.n1 A.n2) h1)) ?_
  walk_at "e"
  have f00 : Fk (fun _ => False) H (upd H l (.lst [])) := Fk.new hl
  have rest : ∀ (ds : List Int) (s : Option V) (H' : Hp) (p' : Nat), rDigs os 0 (os.length + 1) p = .ok ds p' → Fk (Two cu ou) H H' → H' cu = some (.lst [.int (p' : Nat)]) → H' ou = some (.lst ys) → H' l = some (.lst (ds.map V.int)) →
      RB X (List.drop 2 (defBody sq_get_number)) { nx := fun _ H' => Q .non H', rt := Q } [some (.ref li), some (.ref cu), some (.ref ou), some (.ref l), s] H' := fun ds s H' p' e f hc ho hd => by
    refine rb_cons (rs_app c (by walk_at "gm") (by constructor) (by walk_at "gs") ho ?_)
    refine re_call c dW (by decide) (by walk_at "gm") ?_
    walk_at "e"
    refine ⟨l, ds, rfl, hd, fun H2 f2 => ?_⟩
    have ho2 := f2.f _ _ (fun z => z) ho
    refine ⟨ys, ho2, by show _ < 16777216; omega, ?_⟩
    walk_at "g"
    refine q.ok (worth ds) p' (.int (worth ds)) _ (by unfold rNum; rw [e]; rfl) ((f.trans (f2.mono fun _ z => z.elim)).trans (Fk.putL ho2 (.inr rfl))) ?_ upd_same rfl
    rw [upd_ne A.n3]
    exact f2.f _ _ (fun z => z) hc
  refine ⟨by have := h2.1; omega, by have := h2.1; omega, fun i σ' H' => ∃ (ds : List Int) (s : Option V), σ' = [some (.ref li), some (.ref cu), some (.ref ou), some (.ref l), s] ∧ Fk (Two cu ou) H H' ∧ H' cu = some (.lst [.int (p + i : Nat)]) ∧ H' ou = some (.lst ys) ∧ H' l = some (.lst (ds.map V.int)) ∧ ds.length = i ∧ p + i ≤ os.length ∧
    rDigs os 0 (os.length + 1) p = (rDigs os (if i = 0 then 0 else 1) (os.length + 1 - i) (p + i)).map (ds ++ ·), ?_, fun _ _ _ _ _ => trivial, ?_, ?_⟩
  · exact ⟨[], none, rfl, f0, f00.f _ _ (fun z => z) A.cur, f00.f _ _ (fun z => z) A.out, upd_same, rfl, A.le, by simp [Rdg.map_id]⟩
  · rintro i y σ' H' hi rfl ⟨ds, s, rfl, f, hc, ho, hd, ln, le, eT⟩
    have hi2 : i ≤ os.length := by omega
    rw [rDigs_eq (by omega) le, Rdg.bind_map] at eT
    have q1 := q
    unfold rNum at q1
    rw [eT, Rdg.bind_map] at q1
    refine ⟨_, by walk_at "gs", ?_⟩
    rcases Nat.eq_zero_or_pos i with hz | hz
    all_goals
      walk_at "g0"
      refine re_call c dG (by decide) (by walk_at "gm") ?_
      walk_at "e"
      first | refine iteD (by omega) ?_ | refine iteDN (by omega) ?_
      walk_at "e"
      refine ⟨os, li, cu, l, p + i, ds.map V.int, _, 255, rfl, ok5, by rw [List.length_map]; omega, A.loc f hl hc hd le, LPost.eq (q1.bind f hl ⟨ys, ho⟩ A.n3 (A.neo hl) (fun a p1 v H1 e3 f1 f2 c1 o1 r1 _ => ?_) (fun H1 hq => ?_)) (by first | rw [if_pos hz] | rw [if_neg (by omega)])⟩
      · obtain rfl : v = .int a := r1
        rw [e3] at eT
        obtain ⟨hp1, hp0, _⟩ := take_ok e3
        have o2 : H1 l = some (.lst ((ds ++ [a]).map V.int)) := by rw [List.map_append]; exact o1
        have ho1 : H1 ou = some (.lst ys) := f2.f _ _ (fun z => z.elim (Ne.symm A.n3) (A.neo hl)) ho
        walk_at "g"
        refine iv_list (SqL.of o2) (at_nat (i := i) (v := .int a) (by rw [List.getElem?_map, List.getElem?_append_right (by omega), ln, Nat.sub_self]; rfl)) ?_
        walk_at "e"
        refine ite2 (fun e => ?_) (fun e => ?_)
        · have ha : a < 128 := by simpa using e
          walk_at "e"
          refine rb_cons (rs_break ?_)
          refine rest (ds ++ [a]) _ H1 p1 ?_ f1 c1 ho1 o2
          rw [eT]
          show (if a < 128 then Rdg.ok [a] p1 else _).map _ = _
          rw [if_pos ha]
          rfl
        · have ha : ¬ a < 128 := by simpa using e
          walk_at "g"
          refine ⟨ds ++ [a], _, rfl, f1, by rw [c1, hp1]; rfl, ho1, o2, by rw [List.length_append, ln]; rfl, by omega, ?_⟩
          rw [eT]
          show (if a < 128 then Rdg.ok [a] p1 else (rDigs os 1 (os.length + 1 - i - 1) p1).map (a :: ·)).map (ds ++ ·) = _
          rw [if_neg ha, Rdg.map_map, if_neg (by omega : ¬ i + 1 = 0), hp1]
          simp only [List.append_assoc, List.singleton_append]
          rfl
      · walk_at "g"
        exact hq
  · rintro σ' H' ⟨ds, s, rfl, f, hc, ho, hd, ln, le, eT⟩
    have := h2.1
    omega
end
def spPart2 : Sp := fun vs H Q _ => ∃ a b : Int, vs = [.int a, .int b] ∧ b.natAbs < 2 ^ 1000 ∧ Q (.int (gi a b)) H
theorem body_part2 {X : Cx} (c : Ctx X nq_part lq_part 0) (za : X.mg "abs" = none) (zr : X.mg "range" = none) (zi : X.mg "int" = none) {vs : List V} {H : Hp} {Q : VK} {E : XK} (h : spPart2 vs H Q E) :
    RB X (defBody sq_part) { nx := fun _ H' => Q .non H', rt := Q } (start nq_part vs) H := by
  obtain ⟨a, b, rfl, wb, q⟩ := h
  show RB X (defBody sq_part) _ [some (.int a), some (.int b), none] H
  refine rb_cons ?_
  refine rs_par2 c (by walk_at "gm") (by walk_at "gm") (by walk_at "gm") (by walk_at "gm") (by decide) ?_
  walk_at "e"
  rw [abs_nat, abs_nat]
  refine ⟨.int ((a.natAbs : Nat) : Int), .int ((b.natAbs : Nat) : Int), _, _, rfl, by walk_at "gs", by walk_at "gs", ?_⟩
  have q1 : Q (.int ((Nat.gcd a.natAbs b.natAbs : Nat) : Int)) H := q
  generalize a.natAbs = m at *
  have wb' : b.natAbs < 2 ^ 1000 := wb
  generalize b.natAbs = n at *
  have done : ∀ (x : Nat) (s y : Option V), x = Nat.gcd m n → RB X (List.drop 2 (defBody sq_part)) { nx := fun _ H' => Q .non H', rt := Q } [some (.int (x : Int)), y, s] H := by
    rintro x s y rfl
    walk_at "g0"
    exact q1
  refine rb_cons ?_
  refine rs_for_range c (by walk_at "gm") .loc (by walk_at "gm") (by walk_at "gm") zr ?_
  walk_at "e"
  refine ⟨by decide, by decide, ?_⟩
  refine ⟨fun i σ H' => H' = H ∧ ∃ (x y : Nat) (s : Option V), Nat.gcd x y = Nat.gcd m n ∧ eB i x y ∧ σ = [some (.int (x : Int)), some (.int (y : Int)), s], ⟨rfl, m, n, none, rfl, .inl ⟨rfl, wb'⟩, rfl⟩, fun _ _ _ _ _ => trivial, ?_, ?_⟩
  · rintro i u σ H' hi rfl ⟨rfl, x, y, s, hg, hb, rfl⟩
    have hi : i < 2000 := hi
    refine ⟨_, by walk_at "gs", ?_⟩
    walk_at "e0"
    refine ite2 (fun e => ?_) (fun e => ?_)
    · have y0 : y = 0 := by have := of_decide_eq_true e; omega
      subst y0
      walk_at "e0"
      exact done x _ _ (by rw [← hg, Nat.gcd_zero_right])
    · walk_at "e"
      have y0 : 0 < y := by
        rcases Nat.eq_zero_or_pos y with z | z
        · exact absurd (decide_eq_true (by omega)) e
        · exact z
      refine rb_cons ?_
      refine rs_par2 c (by walk_at "gm") (by walk_at "gm") (by walk_at "gm") (by walk_at "gm") (by decide) ?_
      walk_at "e"
      refine ov_mod (by omega) ?_
      walk_at "e"
      refine ⟨_, _, _, _, rfl, by walk_at "gs", by walk_at "gs", ?_⟩
      walk_at "g"
      rw [← Int.natCast_emod]
      exact ⟨rfl, y, x % y, _, by rw [← hg, Nat.gcd_comm y (x % y), ← Nat.gcd_rec, Nat.gcd_comm], eB_step hi hb y0, rfl⟩
  · rintro σ H' ⟨rfl, x, y, s, hg, hb, rfl⟩
    have y0 : y = 0 := by
      rcases hb with ⟨_, h⟩ | ⟨h, _⟩
      · have h2 : y < 2 ^ 0 := h
        omega
      · exact absurd (show (2000 : Nat) % 2 = 1 from h) (by decide)
    subst y0
    exact done x _ _ (by rw [← hg, Nat.gcd_zero_right])
theorem worth_lt : ∀ l : List Int, 0 ≤ worth l ∧ worth l < 128 ^ l.length
  | [] => by decide
  | a :: r => by
    obtain ⟨h1, h2⟩ := worth_lt r
    have h3 := Int.emod_nonneg a (show (128 : Int) ≠ 0 by decide)
    have h4 := Int.emod_lt_of_pos a (show (0 : Int) < 128 by decide)
    rw [List.length_cons, Int.pow_succ]
    show 0 ≤ a % 128 + 128 * worth r ∧ a % 128 + 128 * worth r < 128 ^ r.length * 128
    constructor
    · omega
    · generalize (128 : Int) ^ r.length = k at *
      omega
theorem worth_ok {l : List Int} (h : l.length ≤ 140) : (worth l).natAbs < 2 ^ 1000 := by
  obtain ⟨h1, h2⟩ := worth_lt l
  have h3 : ((worth l).natAbs : Int) < ((2 ^ 1000 : Nat) : Int) := by
    rw [Int.natAbs_of_nonneg h1]
    refine Int.lt_of_lt_of_le h2 ?_
    have h4 : (128 : Nat) ^ l.length ≤ 128 ^ 140 := Nat.pow_le_pow_right (by decide) h
    have h5 : (128 : Nat) ^ 140 ≤ 2 ^ 1000 := by decide +kernel
    have h6 : (128 : Int) ^ l.length = ((128 ^ l.length : Nat) : Int) := by rw [Int.natCast_pow]; rfl
    rw [h6]
    exact Int.ofNat_le.mpr (Nat.le_trans h4 h5)
  exact Int.ofNat_lt.mp h3
def fFin (top : Int) (l : List Int) (p : Nat) : Rdg D := if Nat.gcd top.natAbs (worth l).natAbs = 1 then .ok (.tup [.int top, .int (worth l)]) p else .bad (p - 1)
abbrev fCut (top a : Int) : Prop := top = 0 ∨ (top % 2 = 0 ∧ a % 2 = 0)
section
variable {X : Cx} {os : ORow} {vs : List V} {H H0 H1 : Hp} {Q : VK} {E : XK} {li cu ou fo : Addr} {p p1 : Nat} {ys zs : List V}
theorem digs_le2 {lo : Int} {n p p2 : Nat} {l : List Int} (h : rDigs os lo n p = .ok l p2) : p < p2 ∧ p2 ≤ os.length := by
  induction n generalizing lo p l with
  | zero => cases h
  | succ n ih =>
    unfold rDigs at h
    cases e : rTake os lo 255 p with
    | bad j => rw [e] at h; cases h
    | ok a p1 =>
      obtain ⟨rfl, z, _⟩ := take_ok e
      rw [e] at h
      change (if a < 128 then Rdg.ok [a] (p + 1) else (rDigs os 1 n (p + 1)).map (a :: ·)) = _ at h
      split at h
      · cases h
        omega
      · cases e2 : rDigs os 1 n (p + 1) with
        | bad j => rw [e2] at h; cases h
        | ok l2 p3 =>
          rw [e2] at h
          cases h
          have := ih e2
          omega
theorem num_le2 {p p2 : Nat} {n : Int} (h : rNum os p = .ok n p2) : p < p2 ∧ p2 ≤ os.length := by
  unfold rNum at h
  cases e : rDigs os 0 (os.length + 1) p with
  | bad j => rw [e] at h; cases h
  | ok l p3 =>
    rw [e] at h
    cases h
    exact digs_le2 e
theorem rFrac_eq : rFrac os p = (rNum os p).bind fun s p1 => (rTake os 1 255 p1).bind fun a p2 => if 128 ≤ a ∧ fCut (topOf s) a then .bad p1 else (rBehind os a p2).bind fun l p3 => fFin (topOf s) l p3 := rfl
theorem top_law (s : Int) : (if s % 2 = 0 then s / 2 else 0 - s / 2 - 1) = topOf s := by
  unfold topOf
  split <;> omega
theorem body_get_fraction (c : Ctx X nq_get_fraction lq_get_fraction 2) (zl : X.mg "len" = none) (zr : X.mg "range" = none) (zI : X.mg "int" = none) (dG : DG X "_law_get" ["items", "cursor", "low", "high", "out"] 1 spGet) (dW : DG X "_law_worth" ["digits"] 1 (spWorth X.K)) (dB : DG X "_law_back" ["cursor"] 1 spBack)
    (dN : DG X "_law_get_number" ["items", "cursor", "out"] 2 (spLG rNum rI)) (dP : DG X "_law_part" ["one", "two"] 1 spPart2) (h : spLG rFrac rD vs H Q E) :
    RB X (defBody sq_get_fraction) { nx := fun _ H' => Q .non H', rt := Q } (start nq_get_fraction vs) H := by
  obtain ⟨os, li, cu, ou, p, ys, rfl, ok5, ly, A, q⟩ := h
  have l5 := ok5.len
  obtain ⟨us, h1, h2⟩ := A.row
  show RB X (defBody sq_get_fraction) _ [some (.ref li), some (.ref cu), some (.ref ou), none, none, none, none] H
  refine rb_cons (rs_par2 c (by walk_at "gm") (by walk_at "gm") (by walk_at "gm") (by walk_at "gm") (by decide) ?_)
  walk_at "e"
  refine ⟨Nat.zero_le _, fun tl htl => ?_⟩
  walk_at "e"
  refine ⟨Nat.zero_le _, fun l hl0 => ?_⟩
  walk_at "e"
  refine ⟨_, _, _, _, rfl, by walk_at "gs", by walk_at "gs", ?_⟩
  have ntl : l ≠ tl := fun z => by rw [z, upd_same] at hl0; cases hl0
  have hl : H l = none := by rwa [upd_ne ntl] at hl0
  have f00 : Fk (fun _ => False) H (upd (upd H tl (.lst [])) l (.lst [])) := (Fk.new htl).trans (Fk.new hl0)
  have f0 : Fk (Two cu ou) H (upd (upd H tl (.lst [])) l (.lst [])) := f00.mono fun _ z => z.elim
  have t0 : (upd (upd H tl (.lst [])) l (.lst [])) tl = some (.lst []) := by rw [upd_ne (Ne.symm ntl), upd_same]
  rw [rFrac_eq] at q
  walk_at "g"
  refine re_call c dN (by decide) (by walk_at "gm") ?_
  walk_at "e"
  refine ⟨os, li, cu, tl, p, [], rfl, ok5, Nat.zero_le _, A.loc f0 htl (f00.f _ _ (fun z => z) A.cur) t0 A.le, q.bind f0 htl ⟨ys, f00.f _ _ (fun z => z) A.out⟩ A.n3 (A.neo htl) (fun s p1 v H1 e1 f1 g1 c1 o1 r1 q1 => ?_) (fun H1 hq => ?_)⟩
  · obtain rfl : v = .int s := r1
    have d1 : H1 l = some (.lst []) := g1.f _ _ (fun z => z.elim (fun z => by rw [z, A.cur] at hl; cases hl) ntl) upd_same
    have u1 : H1 ou = some (.lst ys) := g1.f _ _ (fun z => z.elim (Ne.symm A.n3) (A.neo htl)) (f00.f _ _ (fun z => z) A.out)
    have le1 : p1 ≤ os.length := (num_le2 e1).2
    have t1 : H1 tl = some (.lst [.int s]) := o1
    have step : RB X (List.drop 3 (defBody sq_get_fraction)) { nx := fun _ H' => Q .non H', rt := Q } [some (.ref li), some (.ref cu), some (.ref ou), some (.ref tl), some (.ref l), some (.int (topOf s)), none] H1 := by
      generalize topOf s = top at q1
      have rest : ∀ (ds : List Int) (sl : Option V) (H' : Hp) (p' n0 : Nat), rDigs os 1 n0 p1 = .ok ds p' → LPost (fFin top ds p') rD cu ou ys H Q → Fk (Two cu ou) H H' → H' cu = some (.lst [.int (p' : Nat)]) → H' ou = some (.lst ys) → H' l = some (.lst (ds.map V.int)) →
          RB X (List.drop 4 (defBody sq_get_fraction)) { nx := fun _ H' => Q .non H', rt := Q } [some (.ref li), some (.ref cu), some (.ref ou), some (.ref tl), some (.ref l), some (.int top), sl] H' := fun ds sl H' p' n0 ed qq f hc ho hd => by
        have wk := worth_ok (ok5.sh _ _ _ _ ed)
        have p0 := (digs_le2 ed).1
        walk_at "g0"
        refine re_call c dP (by decide) (by walk_at "gm") ?_
        walk_at "e"
        refine re_call c dW (by decide) (by walk_at "gm") ?_
        walk_at "e"
        refine ⟨l, ds, rfl, hd, fun H2 f2 => ?_⟩
        have fF : Fk (Two cu ou) H H2 := f.trans (f2.mono fun _ z => z.elim)
        have hc2 := f2.f _ _ (fun z => z) hc
        have ho2 := f2.f _ _ (fun z => z) ho
        have hd2 := f2.f _ _ (fun z => z) hd
        walk_at "e"
        refine ⟨top, worth ds, rfl, wk, ?_⟩
        walk_at "e"
        refine ite2 (fun e => ?_) (fun e => ?_)
        · have hg : ¬ Nat.gcd top.natAbs (worth ds).natAbs = 1 := fun z => by unfold gi at e; rw [z] at e; simp at e
          unfold fFin at qq
          rw [if_neg hg] at qq
          walk_at "g"
          refine re_call c dB (by decide) (by walk_at "gm") ?_
          walk_at "e"
          exact ⟨cu, p', rfl, hc2, by omega, qq.bad _ _ rfl (fF.trans (Fk.putL hc2 (.inl rfl))) upd_same ⟨ys, by rw [upd_ne (Ne.symm A.n3)]; exact ho2⟩⟩
        · have hg : Nat.gcd top.natAbs (worth ds).natAbs = 1 := by
            have z : gi top (worth ds) = 1 := by
              rcases Int.decEq (gi top (worth ds)) 1 with h | h
              · exfalso
                apply e
                rw [decide_eq_false h]
                rfl
              · exact h
            unfold gi at z
            omega
          unfold fFin at qq
          rw [if_pos hg] at qq
          walk_at "e"
          refine rb_cons (rs_app c (by walk_at "gm") (by constructor) (by walk_at "gs") ho2 ?_)
          walk_at "e"
          refine re_call c dW (by decide) (by walk_at "gm") ?_
          walk_at "e"
          refine ⟨l, ds, rfl, hd2, fun H3 f3 => ?_⟩
          walk_at "e"
          refine ⟨by show 2 ≤ sizeLine; decide, fun t ht => ?_⟩
          have ho3 := f3.f _ _ (fun z => z) ho2
          have ho4 : (upd H3 t (.tup [.int top, .int (worth ds)])) ou = some (.lst ys) := by rw [upd_ne (ne_of_none ho3 ht)]; exact ho3
          have hc3 := f3.f _ _ (fun z => z) hc2
          walk_at "e"
          refine ⟨ys, ho4, by show _ < 16777216; omega, ?_⟩
          walk_at "g"
          refine qq.ok _ p' (.ref t) _ rfl (((fF.trans (f3.mono fun _ z => z.elim)).trans (Fk.new ht)).trans (Fk.putL ho4 (.inr rfl))) ?_ upd_same ((Dz.newT ht (.cons .int (.cons .int .nil))).kf (KF.putL ho4))
          rw [upd_ne A.n3, upd_ne (ne_of_none hc3 ht)]
          exact hc3
      refine rb_cons (rs_for_range c (by walk_at "gm") .loc (by walk_at "gm") (by walk_at "gm") zr ?_)
      walk_at "e"
      refine lv_lenL (SqL.of (f1.f _ _ (fun z => z.elim A.n1 A.n2) h1)) ?_
      walk_at "e"
      refine ⟨by have := h2.1; omega, by have := h2.1; omega, fun i σ' H' => ∃ (ds : List Int) (sl : Option V), σ' = [some (.ref li), some (.ref cu), some (.ref ou), some (.ref tl), some (.ref l), some (.int top), sl] ∧ Fk (Two cu ou) H H' ∧ H' cu = some (.lst [.int (p1 + i : Nat)]) ∧ H' ou = some (.lst ys) ∧ H' l = some (.lst (ds.map V.int)) ∧ ds.length = i ∧ p1 + i ≤ os.length ∧
        rDigs os 1 (os.length + 1) p1 = (rDigs os 1 (os.length + 1 - i) (p1 + i)).map (ds ++ ·) ∧ (i = 0 → LPost ((rTake os 1 255 p1).bind fun a p2 => if 128 ≤ a ∧ fCut top a then .bad p1 else (rBehind os a p2).bind fun l p3 => fFin top l p3) rD cu ou ys H Q) ∧
        (0 < i → ¬ fCut top (ds.getD 0 0) ∧ LPost (((rDigs os 1 (os.length + 1 - i) (p1 + i)).map (ds ++ ·)).bind fun l p3 => fFin top l p3) rD cu ou ys H Q), ?_, fun _ _ _ _ _ => trivial, ?_, ?_⟩
      · exact ⟨[], none, rfl, f1, c1, u1, d1, rfl, le1, by simp [Rdg.map_id], fun _ => q1, fun z => absurd z (by decide)⟩
      · rintro i y σ' H' hi rfl ⟨ds, sl, rfl, f, hc, ho, hd, ln, le, eT, qa, qb⟩
        refine ⟨_, by walk_at "gs", ?_⟩
        have hi2 : i ≤ os.length := by omega
        -- what the next octet says
        have next : ∃ f : Int → Nat → Rdg D, LPost ((rTake os 1 255 (p1 + i)).bind f) rD cu ou ys H Q ∧ ∀ a p2, rTake os 1 255 (p1 + i) = .ok a p2 →
            (a < 128 → rDigs os 1 (os.length + 1) p1 = .ok (ds ++ [a]) p2 ∧ f a p2 = fFin top (ds ++ [a]) p2) ∧
            (¬ a < 128 → fCut top ((ds ++ [a]).getD 0 0) → f a p2 = .bad (p1 + i)) ∧
            (¬ a < 128 → rDigs os 1 (os.length + 1) p1 = (rDigs os 1 (os.length + 1 - (i + 1)) (p1 + (i + 1))).map ((ds ++ [a]) ++ ·)) ∧
            (¬ a < 128 → ¬ fCut top ((ds ++ [a]).getD 0 0) → f a p2 = ((rDigs os 1 (os.length + 1 - (i + 1)) (p1 + (i + 1))).map ((ds ++ [a]) ++ ·)).bind fun l p3 => fFin top l p3) := by
          rcases Nat.eq_zero_or_pos i with hz | hz
          · subst hz
            obtain rfl : ds = [] := List.eq_nil_of_length_eq_zero ln
            refine ⟨_, qa rfl, fun a p2 e3 => ?_⟩
            obtain ⟨hp1, hp0, _⟩ := take_ok e3
            have eR : rDigs os 1 (os.length + 1) p1 = if a < 128 then .ok [a] p2 else (rDigs os 1 os.length p2).map (a :: ·) := by
              show (rTake os 1 255 p1).bind _ = _
              have e3' : rTake os 1 255 p1 = .ok a p2 := e3
              rw [e3']
              rfl
            refine ⟨fun ha => ⟨by rw [eR, if_pos ha]; rfl, ?_⟩, fun ha cc => if_pos ⟨by omega, cc⟩, fun ha => ?_, fun ha nc => ?_⟩
            · show (if 128 ≤ a ∧ fCut top a then Rdg.bad p1 else (rBehind os a p2).bind fun l p3 => fFin top l p3) = _
              rw [if_neg (fun z => by omega)]
              unfold rBehind
              rw [if_pos ha]
              rfl
            · rw [eR, if_neg ha, hp1]
              rfl
            · show (if 128 ≤ a ∧ fCut top a then Rdg.bad p1 else (rBehind os a p2).bind fun l p3 => fFin top l p3) = _
              rw [if_neg (fun z => nc z.2)]
              unfold rBehind
              rw [if_neg ha, hp1]
              rfl
          · have qq := (qb hz).2
            rw [rDigs_eq (by omega) le, Rdg.bind_map] at eT
            rw [rDigs_eq (by omega) le, Rdg.bind_map, Rdg.bind_bind] at qq
            refine ⟨_, qq, fun a p2 e3 => ?_⟩
            obtain ⟨hp1, hp0, _⟩ := take_ok e3
            rw [e3] at eT
            have hd : (ds ++ [a]).getD 0 0 = ds.getD 0 0 := by
              cases ds with
              | nil => exact absurd ln (by show ¬ 0 = i; omega)
              | cons x r => rfl
            have e5 : os.length + 1 - i - 1 = os.length + 1 - (i + 1) := by omega
            have e6 : p2 = p1 + (i + 1) := by omega
            refine ⟨fun ha => ⟨?_, ?_⟩, fun ha cc => absurd (by rw [hd] at cc; exact cc) (qb hz).1, fun ha => ?_, fun ha nc => ?_⟩
            · rw [eT]
              show (if a < 128 then Rdg.ok [a] p2 else _).map _ = _
              rw [if_pos ha]
              rfl
            · show ((if a < 128 then Rdg.ok [a] p2 else _).map (ds ++ ·)).bind _ = _
              rw [if_pos ha]
              rfl
            · rw [eT]
              show (if a < 128 then Rdg.ok [a] p2 else (rDigs os 1 (os.length + 1 - i - 1) p2).map (a :: ·)).map (ds ++ ·) = _
              rw [if_neg ha, Rdg.map_map, e5, e6]
              simp only [List.append_assoc, List.singleton_append]
            · show ((if a < 128 then Rdg.ok [a] p2 else (rDigs os 1 (os.length + 1 - i - 1) p2).map (a :: ·)).map (ds ++ ·)).bind _ = _
              rw [if_neg ha, Rdg.map_map, e5, e6]
              simp only [List.append_assoc, List.singleton_append]
        obtain ⟨fn, qq, hfn⟩ := next
        walk_at "g0"
        refine re_call c dG (by decide) (by walk_at "gm") ?_
        walk_at "e"
        refine ⟨os, li, cu, l, p1 + i, ds.map V.int, 1, 255, rfl, ok5, by rw [List.length_map]; omega, A.loc f hl hc hd le, qq.bind f hl ⟨ys, ho⟩ A.n3 (A.neo hl) (fun a p2 v H1 e3 f1b f2 c1 o1 r1 q2 => ?_) (fun H1 hq => ?_)⟩
        · obtain rfl : v = .int a := r1
          obtain ⟨hp1, hp0, _⟩ := take_ok e3
          obtain ⟨g1, g2, g3, g4⟩ := hfn a p2 e3
          have o2 : H1 l = some (.lst ((ds ++ [a]).map V.int)) := by rw [List.map_append]; exact o1
          obtain ⟨d0, hd0⟩ : ∃ d0, d0 = (ds ++ [a]).getD 0 0 := ⟨_, rfl⟩
          have h0 : ((ds ++ [a]).map V.int)[0]? = some (.int d0) := by
            rw [hd0]
            cases ds <;> rfl
          rw [← hd0] at g2 g4
          have ho1x : H1 ou = some (.lst ys) := f2.f _ _ (fun z => z.elim (Ne.symm A.n3) (A.neo hl)) ho
          have refu : ¬ a < 128 → fCut top d0 → spBack [.ref cu] H1 Q E0 := fun ha cc => ⟨cu, p2, rfl, c1, by omega, by
            rw [g2 ha cc] at q2
            have := q2.bad _ (upd H1 cu (.lst [.int ((p2 - 1 : Nat) : Int)])) rfl (f1b.trans (Fk.putL c1 (.inl rfl))) (by rw [upd_same, hp1]; rfl) ⟨ys, by rw [upd_ne (Ne.symm A.n3)]; exact ho1x⟩
            exact this⟩
          have lo : a < 128 → RB X (List.drop 4 (defBody sq_get_fraction)) { nx := fun _ H' => Q .non H', rt := Q } [some (.ref li), some (.ref cu), some (.ref ou), some (.ref tl), some (.ref l), some (.int top), some (.int (i : Int))] H1 := fun ha => by
            obtain ⟨x1, x2⟩ := g1 ha
            rw [x2] at q2
            exact rest (ds ++ [a]) _ H1 p2 _ x1 q2 f1b c1 ho1x o2
          have eN := g3
          have qN : ¬ a < 128 → ¬ fCut top d0 → ¬ fCut top ((ds ++ [a]).getD 0 0) ∧ LPost (((rDigs os 1 (os.length + 1 - (i + 1)) (p1 + (i + 1))).map ((ds ++ [a]) ++ ·)).bind fun l p3 => fFin top l p3) rD cu ou ys H Q := fun ha nc => ⟨by rw [← hd0]; exact nc, by rw [g4 ha nc] at q2; exact q2⟩
          have ho1 : H1 ou = some (.lst ys) := f2.f _ _ (fun z => z.elim (Ne.symm A.n3) (A.neo hl)) ho
          walk_at "g"
          refine iv_list (SqL.of o2) (at_nat (i := i) (v := .int a) (by rw [List.getElem?_map, List.getElem?_append_right (by omega), ln, Nat.sub_self]; rfl)) ?_
          walk_at "e"
          refine ite2 (fun e => ?_) (fun e => ?_)
          · have ha : a < 128 := by simpa using e
            walk_at "e"
            refine rb_cons (rs_break ?_)
            exact lo ha
          · have ha : ¬ a < 128 := by simpa using e
            walk_at "g"
            refine ite2 (fun e4 => ?_) (fun e4 => ?_)
            · have cc : fCut top d0 := .inl (by simpa using e4)
              walk_at "g"
              refine re_call c dB (by decide) (by walk_at "gm") ?_
              walk_at "e"
              exact refu ha cc
            · have t0 : top ≠ 0 := by simpa using e4
              walk_at "g"
              refine ite2 (fun e5 => ?_) (fun e5 => ?_)
              · walk_at "g"
                refine iv_list (SqL.of o2) (at_nat (i := 0) (v := .int d0) h0) ?_
                walk_at "g"
                refine ite2 (fun e6 => ?_) (fun e6 => ?_)
                · walk_at "g"
                  refine re_call c dB (by decide) (by walk_at "gm") ?_
                  walk_at "e"
                  exact refu ha (.inr ⟨by simpa using e5, by simpa using e6⟩)
                · walk_at "g"
                  have nc : ¬ fCut top d0 := fun z => z.elim t0 fun z => by have : ¬ d0 % 2 = 0 := by simpa using e6
                                                                            exact this z.2
                  exact ⟨ds ++ [a], _, rfl, f1b, by rw [c1, hp1]; rfl, ho1, o2, by rw [List.length_append, ln]; rfl, by omega, eN ha, fun z => absurd z (Nat.succ_ne_zero _), fun _ => qN ha nc⟩
              · walk_at "g"
                have nc : ¬ fCut top d0 := fun z => z.elim t0 fun z => by have : ¬ top % 2 = 0 := by simpa using e5
                                                                          exact this z.1
                exact ⟨ds ++ [a], _, rfl, f1b, by rw [c1, hp1]; rfl, ho1, o2, by rw [List.length_append, ln]; rfl, by omega, eN ha, fun z => absurd z (Nat.succ_ne_zero _), fun _ => qN ha nc⟩
        · walk_at "g"
          exact hq
      · rintro σ' H' ⟨ds, sl, rfl, f, hc, ho, hd, ln, le, eT, qa, qb⟩
        have := h2.1
        omega
    walk_at "g"
    have tp := top_law s
    refine ite2 (fun e => ?_) (fun e => ?_)
    · rw [if_pos (by simpa using e)] at tp
      walk_at "e"
      refine ov_fdiv2 ⟨by decide, by decide⟩ ?_
      rw [tp]
      walk_at "e"
      exact step
    · rw [if_neg (by simpa using e)] at tp
      walk_at "e"
      refine ov_fdiv2 ⟨by decide, by decide⟩ ?_
      walk_at "e"
      rw [tp]
      exact step
  · walk_at "g"
    exact hq
end
section
variable {α β : Type} {X : Cx} {os : ORow} {vs : List V} {H H0 H1 : Hp} {Q Q1 : VK} {E : XK} {li cu ou fo : Addr} {p p1 : Nat} {ys zs ys' : List V}
theorem _root_.GT.LAt.fresh (A : LAt os li cu ou p ys H) (f : Fk (Two cu ou) H H1) (hc : H1 cu = some (.lst [.int (p1 : Nat)])) (hu : H1 ou = some (.lst ys')) (hn : H1 fo = none) : H fo = none :=
  f.gone (fun z => by rcases z with z | z <;> subst z; rw [hc] at hn; cases hn; rw [hu] at hn; cases hn) hn
theorem _root_.GT.LAt.go {r : Rdg α} {g : α → Nat → Rdg β} {rel : Hp → V → α → Prop} {rel2 : Hp → V → β → Prop} (A : LAt os li cu ou p ys H) (f : Fk (Two cu ou) H H1) (hn : H fo = none) (hc : H1 cu = some (.lst [.int (p1 : Nat)])) (hf : H1 fo = some (.lst zs)) (hu : H1 ou = some (.lst ys')) (le : p1 ≤ os.length) (q : LPost (r.bind g) rel2 cu ou ys H Q)
    (k : ∀ x p2 v H', r = .ok x p2 → Fk (Two cu ou) H H' → Fk (Two cu fo) H1 H' → H' cu = some (.lst [.int (p2 : Nat)]) → H' fo = some (.lst (zs ++ [v])) → H' ou = some (.lst ys') → rel H' v x → LPost (g x p2) rel2 cu ou ys H Q → Q1 (.bl true) H') (kb : ∀ H', Q (.bl false) H' → Q1 (.bl false) H') :
    LAt os li cu fo p1 zs H1 ∧ LPost r rel cu fo zs H1 Q1 :=
  ⟨A.loc f hn hc hf le, q.bind f hn ⟨ys', hu⟩ A.n3 (A.neo hn) (fun x p2 v H' e f1 f2 c1 o1 r1 q1 => k x p2 v H' e f1 f2 c1 o1 (f2.f _ _ (fun z => z.elim (Ne.symm A.n3) (A.neo hn)) hu) r1 q1) kb⟩
/-- one more object of one's own, that isn't there -/
theorem _root_.GT.LAt.new {o : HO} (A : LAt os li cu ou p ys H) (f : Fk (Two cu ou) H H1) (hc : H1 cu = some (.lst [.int (p1 : Nat)])) (hu : H1 ou = some (.lst ys')) (hn : H1 fo = none) : H fo = none ∧ Fk (Two cu ou) H (upd H1 fo o) ∧ (upd H1 fo o) cu = some (.lst [.int (p1 : Nat)]) ∧ (upd H1 fo o) ou = some (.lst ys') :=
  ⟨A.fresh f hc hu hn, f.trans (Fk.new hn), by rw [upd_ne (ne_of_none hc hn)]; exact hc, by rw [upd_ne (ne_of_none hu hn)]; exact hu⟩
def spGL : Sp := fun vs H Q _ => ∃ (os : ORow) (li cu ou : Addr) (p : Nat) (ys : List V) (fl : List Nat), vs = [.ref li, .ref cu, .str ⟨fl.toArray⟩, .ref ou] ∧ OsOk os ∧ ys.length ≤ 100000 ∧ LAt os li cu ou p ys H ∧ LPost (rLabel os fl p) rS cu ou ys H Q
theorem z8_take {m : Nat} (h : m ≤ 8) : (cutS ("zzzzzzzz" : Str) none (some (m : Int))).cps.toList = List.replicate m 122 := by
  rw [cut_to]
  have e : ("zzzzzzzz" : Str).cps.toList = List.replicate 8 122 := by decide +kernel
  rw [e, List.take_replicate, Nat.min_eq_left h]
theorem z8_app {m : Nat} {f : List Nat} (h : m ≤ 8) (hf : f.length ≤ m) : (cutS ((⟨f.toArray⟩ : Str) ++ ("zzzzzzzz" : Str)) none (some (m : Int))).cps.toList = zTo m f := by
  have e : ("zzzzzzzz" : Str) = ⟨(List.replicate 8 122).toArray⟩ := by decide +kernel
  rw [cut_to, e, s_app, s_list, List.take_append, List.take_of_length_le hf, List.take_replicate, Nat.min_eq_left (by omega)]
  rfl
theorem body_get_label (c : Ctx X nq_get_label lq_get_label 1) (zr : X.mg "range" = none) (dG : DG X "_law_get" ["items", "cursor", "low", "high", "out"] 1 spGet) (dB : DG X "_law_back" ["cursor"] 1 spBack) (h : spGL vs H Q E) :
    RB X (defBody sq_get_label) { nx := fun _ H' => Q .non H', rt := Q } (start nq_get_label vs) H := by
  obtain ⟨os, li, cu, ou, p, ys, fl, rfl, ok5, ly, A, q⟩ := h
  have l5 := ok5.len
  show RB X (defBody sq_get_label) _ [some (.ref li), some (.ref cu), some (.str ⟨fl.toArray⟩), some (.ref ou), none, none, none, none] H
  refine rb_cons (rs_par2 c (by walk_at "gm") (by walk_at "gm") (by walk_at "gm") (by walk_at "gm") (by decide) ?_)
  walk_at "e"
  refine ⟨Nat.zero_le _, fun l hl => ?_⟩
  walk_at "e"
  refine ⟨_, _, _, _, rfl, by walk_at "gs", by walk_at "gs", ?_⟩
  obtain ⟨hl0, f0, c0, u0⟩ := A.new (o := .lst []) Fk.refl A.cur A.out hl
  walk_at "g"
  refine re_call c dG (by decide) (by walk_at "gm") ?_
  walk_at "e"
  refine ⟨os, li, cu, l, p, [], 1, 8, rfl, ok5, Nat.zero_le _, A.go f0 hl c0 upd_same u0 A.le q (fun y p1 v H1 e1 f1 g1 c1 o1 u1 r1 q1 => ?_) (fun H1 hq => ?_)⟩
  · obtain rfl : v = .int y := r1
    obtain ⟨hp1, hp, y1, y8, _⟩ := take_ok e1
    obtain ⟨m, rfl⟩ : ∃ m : Nat, y = m := ⟨y.toNat, by omega⟩
    rw [Int.toNat_natCast] at q1
    change LPost (if fl < List.replicate m 122 then rLets os fl m m [] p1 else Rdg.bad p) _ cu ou ys H Q at q1
    have o1' : H1 l = some (.lst [.int (m : Int)]) := o1
    walk_at "g"
    refine sv_str (by decide) ?_
    walk_at "e"
    rw [z8_take (by omega), s_list]
    refine ite2 (fun e => ?_) (fun e => ?_)
    · have hn : ¬ fl < List.replicate m 122 := by simpa using e
      rw [if_neg hn] at q1
      walk_at "g"
      refine re_call c dB (by decide) (by walk_at "gm") ?_
      walk_at "e"
      exact ⟨cu, p1, rfl, c1, by omega, q1.bad p _ rfl (f1.trans (Fk.putL c1 (.inl rfl))) (by rw [upd_same, hp1]; rfl) ⟨ys, by rw [upd_ne (Ne.symm A.n3)]; exact u1⟩⟩
    · have hn : fl < List.replicate m 122 := by simpa using e
      rw [if_pos hn] at q1
      walk_at "e"
      refine rb_cons (rs_for_range c (by walk_at "gm") .loc (by walk_at "gm") (by walk_at "gm") zr ?_)
      walk_at "e"
      refine ⟨by omega, by omega, fun i σ' H' => ∃ (f : List Nat) (p2 : Nat) (s5 s6 : Option V), σ' = [some (.ref li), some (.ref cu), some (.str ⟨fl.toArray⟩), some (.ref ou), some (.ref l), some (.str ⟨f.toArray⟩), s5, s6] ∧ Fk (Two cu ou) H H' ∧ H' cu = some (.lst [.int (p2 : Nat)]) ∧ H' ou = some (.lst ys) ∧ H' l = some (.lst [.int (m : Int)]) ∧ f.length = i ∧ p2 ≤ os.length ∧
        rLets os fl m m [] p1 = rLets os fl m (m - i) f p2, ?_, fun _ _ _ _ _ => trivial, ?_, ?_⟩
      · exact ⟨[], p1, none, none, rfl, f1, c1, u1, o1', rfl, by omega, rfl⟩
      · rintro i y σ' H2 hi rfl ⟨f, p2, s5, s6, rfl, f2, c2, u2, o2, lf, le2, eT⟩
        have hi2 : i < m := by omega
        obtain ⟨k, hk⟩ : ∃ k, m - i = k + 1 := ⟨m - i - 1, by omega⟩
        rw [hk] at eT
        change _ = (rTake os 0 25 p2).bind fun a p3 => if fl < zTo m (f ++ [97 + a.toNat]) then rLets os fl m k (f ++ [97 + a.toNat]) p3 else Rdg.bad p2 at eT
        have q2 := q1
        rw [eT] at q2
        refine ⟨_, by walk_at "gs", ?_⟩
        walk_at "g0"
        refine ⟨Nat.zero_le _, fun sg hsg => ?_⟩
        obtain ⟨hs0, f3, c3, u3⟩ := A.new (o := .lst []) f2 c2 u2 hsg
        have nls : l ≠ sg := ne_of_none o2 hsg
        have o3 : (upd H2 sg (.lst [])) l = some (.lst [.int (m : Int)]) := by rw [upd_ne nls]; exact o2
        walk_at "g"
        refine re_call c dG (by decide) (by walk_at "gm") ?_
        walk_at "e"
        refine ⟨os, li, cu, sg, p2, [], 0, 25, rfl, ok5, Nat.zero_le _, A.go f3 hs0 c3 upd_same u3 le2 q2 (fun a p3 v H3 e3 f4 g4 c4 o4 u4 r4 q4 => ?_) (fun H1 hq => ?_)⟩
        · obtain rfl : v = .int a := r4
          obtain ⟨hp3, hp2, i0, i1, _⟩ := take_ok e3
          have o5 : H3 l = some (.lst [.int (m : Int)]) := g4.f _ _ (fun z => z.elim (fun z => by rw [z, A.cur] at hl; cases hl) nls) o3
          have o4' : H3 sg = some (.lst [.int a]) := o4
          have lf1 : (f ++ [97 + a.toNat]).length = i + 1 := by rw [List.length_append, lf]; rfl
          walk_at "g"
          refine iv_str (by decide) (letter_at i0 i1) ?_
          refine ov_adds (by rw [s_len]; show _ + 1 ≤ 16777216; omega) ?_
          rw [show (⟨#[97 + a.toNat]⟩ : Str) = ⟨[97 + a.toNat].toArray⟩ from rfl, s_app]
          walk_at "g"
          refine ov_adds (by rw [s_len, lf1]; show _ + 8 ≤ 16777216; omega) ?_
          walk_at "e"
          refine sv_str (by show ((⟨(f ++ [97 + a.toNat]).toArray⟩ : Str) ++ ("zzzzzzzz" : Str)).length ≤ 16777216; rw [show ("zzzzzzzz" : Str) = ⟨(List.replicate 8 122).toArray⟩ by decide +kernel, s_app, s_len, List.length_append, lf1, List.length_replicate]; omega) ?_
          walk_at "e"
          rw [z8_app (by omega) (by rw [lf1]; omega), s_list]
          refine ite2 (fun e => ?_) (fun e => ?_)
          · have hn : ¬ fl < zTo m (f ++ [97 + a.toNat]) := by simpa using e
            rw [if_neg hn] at q4
            walk_at "g"
            refine re_call c dB (by decide) (by walk_at "gm") ?_
            walk_at "e"
            exact ⟨cu, p3, rfl, c4, by omega, q4.bad p2 _ rfl (f4.trans (Fk.putL c4 (.inl rfl))) (by rw [upd_same, hp3]; rfl) ⟨ys, by rw [upd_ne (Ne.symm A.n3)]; exact u4⟩⟩
          · have hn : fl < zTo m (f ++ [97 + a.toNat]) := by simpa using e
            walk_at "g"
            refine ⟨f ++ [97 + a.toNat], p3, _, _, rfl, f4, c4, u4, o5, lf1, by omega, ?_⟩
            rw [eT, e3]
            show (if fl < zTo m (f ++ [97 + a.toNat]) then _ else _) = _
            rw [if_pos hn, show m - (i + 1) = k by omega]
        · walk_at "g"
          exact hq
      · rintro σ' H2 ⟨f, p2, s5, s6, rfl, f2, c2, u2, o2, lf, le2, eT⟩
        have hm : m - ((m : Int)).toNat = 0 := by omega
        rw [hm] at eT
        walk_at "e"
        refine rb_cons (rs_app c (by walk_at "gm") (by constructor) (by walk_at "gs") u2 ?_)
        walk_at "e"
        refine ⟨ys, u2, by show _ < 16777216; omega, ?_⟩
        walk_at "g"
        exact q1.ok f p2 _ _ eT (f2.trans (Fk.putL u2 (.inr rfl))) (by rw [upd_ne A.n3]; exact c2) upd_same rfl
  · walk_at "g"
    exact hq
end
section
variable {X : Cx} {os : ORow} {vs : List V} {H H0 H1 : Hp} {Q Q1 : VK} {E : XK} {li cu ou fo : Addr} {p p1 : Nat} {ys zs ys' : List V} {k : Nat}
theorem nlc {l : Addr} (A : LAt os li cu ou p ys H) (hl : H l = none) : l ≠ cu := fun z => by rw [z, A.cur] at hl; cases hl
theorem lets_le2 {fl f l : List Nat} {m k p p2 : Nat} (h : rLets os fl m k f p = .ok l p2) (hp : p ≤ os.length) : p2 ≤ os.length := by
  induction k generalizing f p with
  | zero => cases h; exact hp
  | succ k ih =>
    unfold rLets at h
    cases e : rTake os 0 25 p with
    | bad j => rw [e] at h; cases h
    | ok a p1 =>
      obtain ⟨rfl, z, _⟩ := take_ok e
      rw [e] at h
      change (if fl < zTo m (f ++ [97 + a.toNat]) then rLets os fl m k (f ++ [97 + a.toNat]) (p + 1) else Rdg.bad p) = _ at h
      split at h
      · exact ih h (by omega)
      · cases h
theorem lab_le2 {fl l : List Nat} {p p2 : Nat} (h : rLabel os fl p = .ok l p2) : p2 ≤ os.length := by
  unfold rLabel at h
  cases e : rTake os 1 8 p with
  | bad j => rw [e] at h; cases h
  | ok a p1 =>
    obtain ⟨rfl, z, _⟩ := take_ok e
    rw [e] at h
    change (if fl < zTo a.toNat [] then rLets os fl a.toNat a.toNat [] (p + 1) else Rdg.bad p) = _ at h
    split at h
    · exact lets_le2 h (by omega)
    · cases h
theorem body_get_name (c : Ctx X nq_get_name lq_get_name 2) (zr : X.mg "range" = none) (zt : X.mg "tuple" = none) (dG : DG X "_law_get" ["items", "cursor", "low", "high", "out"] 1 spGet) (dL : DG X "_law_get_label" ["items", "cursor", "floor", "out"] 2 spGL) (h : spLG rName rD vs H Q E) :
    RB X (defBody sq_get_name) { nx := fun _ H' => Q .non H', rt := Q } (start nq_get_name vs) H := by
  obtain ⟨os, li, cu, ou, p, ys, rfl, ok5, ly, A, q⟩ := h
  show RB X (defBody sq_get_name) _ [some (.ref li), some (.ref cu), some (.ref ou), none, none, none] H
  refine rb_cons (rs_par2 c (by walk_at "gm") (by walk_at "gm") (by walk_at "gm") (by walk_at "gm") (by decide) ?_)
  walk_at "e"
  refine ⟨Nat.zero_le _, fun l hl => ?_⟩
  walk_at "e"
  obtain ⟨hl0, f0, c0, u0⟩ := A.new (o := .lst []) Fk.refl A.cur A.out hl
  refine ⟨Nat.zero_le _, fun fo hfo => ?_⟩
  obtain ⟨hfo0, f00, c00, u00⟩ := A.new (o := .lst []) f0 c0 u0 hfo
  have nlf : l ≠ fo := fun z => by rw [← z, upd_same] at hfo; cases hfo
  have o00 : (upd (upd H l (.lst [])) fo (.lst [])) l = some (.lst []) := by rw [upd_ne nlf, upd_same]
  walk_at "e"
  refine ⟨_, _, _, _, rfl, by walk_at "gs", by walk_at "gs", ?_⟩
  walk_at "g"
  refine re_call c dG (by decide) (by walk_at "gm") ?_
  walk_at "e"
  refine ⟨os, li, cu, l, p, [], 1, 6, rfl, ok5, Nat.zero_le _, A.go f00 hl0 c00 o00 u00 A.le q (fun y p1 v H1 e1 f1 g1 c1 o1 u1 r1 q1 => ?_) (fun H1 hq => ?_)⟩
  · obtain rfl : v = .int y := r1
    obtain ⟨hp1, hp, y1, y8, _⟩ := take_ok e1
    obtain ⟨m, rfl⟩ : ∃ m : Nat, y = m := ⟨y.toNat, by omega⟩
    rw [Int.toNat_natCast] at q1
    have q1 := q1.map
    have o1' : H1 l = some (.lst [.int (m : Int)]) := o1
    have d1 : H1 fo = some (.lst []) := g1.f _ _ (fun z => z.elim (nlc A hfo0) (Ne.symm nlf)) upd_same
    walk_at "e"
    refine rb_cons (rs_for_range c (by walk_at "gm") .loc (by walk_at "gm") (by walk_at "gm") zr ?_)
    walk_at "e"
    refine ⟨by omega, by omega, fun i σ' H' => ∃ (fs : List (List Nat)) (p2 : Nat) (s5 : Option V), σ' = [some (.ref li), some (.ref cu), some (.ref ou), some (.ref l), some (.ref fo), s5] ∧ Fk (Two cu ou) H H' ∧ H' cu = some (.lst [.int (p2 : Nat)]) ∧ H' ou = some (.lst ys) ∧ H' fo = some (.lst (fs.map sV)) ∧ fs.length = i ∧ p2 ≤ os.length ∧
      rMany (rLabel os []) m p1 = (rMany (rLabel os []) (m - i) p2).map (fs ++ ·), ?_, fun _ _ _ _ _ => trivial, ?_, ?_⟩
    · exact ⟨[], p1, none, rfl, f1, c1, u1, d1, rfl, by omega, by simp [Rdg.map_id]⟩
    · rintro i y σ' H2 hi rfl ⟨fs, p2, s5, rfl, f2, c2, u2, d2, lf, le2, eT⟩
      have hi2 : i < m := by omega
      obtain ⟨k, hk⟩ : ∃ k, m - i = k + 1 := ⟨m - i - 1, by omega⟩
      rw [hk] at eT
      have e3 := rMany_snoc eT rfl
      have q2 := q1
      rw [e3] at q2
      refine ⟨_, by walk_at "gs", ?_⟩
      walk_at "g0"
      refine re_call c dL (by decide) (by walk_at "gm") ?_
      walk_at "e"
      refine ⟨os, li, cu, fo, p2, fs.map sV, [], rfl, ok5, by rw [List.length_map]; omega, A.go f2 hfo0 c2 d2 u2 le2 q2 (fun f p3 v H3 e4 f4 g4 c4 o4 u4 r4 q4 => ?_) (fun H1 hq => ?_)⟩
      · obtain rfl : v = sV f := r4
        walk_at "g"
        refine ⟨fs ++ [f], p3, _, rfl, f4, c4, u4, by rw [List.map_append]; exact o4, by rw [List.length_append, lf]; rfl, lab_le2 e4, ?_⟩
        rw [e3, e4, show m - (i + 1) = k by omega]
        rfl
      · walk_at "g"
        exact hq
    · rintro σ' H2 ⟨fs, p2, s5, rfl, f2, c2, u2, d2, lf, le2, eT⟩
      have hm : m - ((m : Int)).toNat = 0 := by omega
      rw [hm] at eT
      have e3 : rMany (rLabel os []) m p1 = .ok fs p2 := by
        rw [eT]
        show Rdg.ok (fs ++ []) p2 = _
        rw [List.append_nil]
      walk_at "e"
      refine rb_cons (rs_app c (by walk_at "gm") (by constructor) (by walk_at "gs") u2 ?_)
      walk_at "e"
      refine lv_tupL (SqL.of d2) fun t ht => ?_
      obtain ⟨ht0, f3, c3, u3⟩ := A.new (o := .tup (fs.map sV)) f2 c2 u2 ht
      walk_at "e"
      refine ⟨ys, u3, by show _ < 16777216; omega, ?_⟩
      walk_at "g"
      exact q1.ok fs p2 (.ref t) _ e3 (f3.trans (Fk.putL u3 (.inr rfl))) (by rw [upd_ne A.n3]; exact c3) upd_same ((Dz.newT ht (dzs_strs fs)).kf (KF.putL u3))
  · walk_at "g"
    exact hq
/-- an id, or none -/
def spGI : Sp := fun vs H Q _ => ∃ (os : ORow) (li cu nn ou : Addr) (p : Nat) (ys nv : List V) (rd : Nat → Rdg D), vs = [.ref li, .ref cu, .ref nn, .ref ou] ∧ OsOk os ∧ ys.length ≤ 100000 ∧ LAt os li cu ou p ys H ∧ H nn = some (.lst nv) ∧ nn ≠ cu ∧ nn ≠ ou ∧
  ((nv = [] ∧ rd = rId os) ∨ ∃ v0 d0, nv = [v0] ∧ Dz H v0 d0 ∧ rd = rTerm os d0) ∧ LPost (rd p) rD cu ou ys H Q
theorem body_get_id (c : Ctx X nq_get_id lq_get_id 2) (zl : X.mg "len" = none) (zt : X.mg "tuple" = none) (dG : DG X "_law_get" ["items", "cursor", "low", "high", "out"] 1 spGet) (dN : DG X "_law_get_number" ["items", "cursor", "out"] 2 (spLG rNum rI)) (h : spGI vs H Q E) :
    RB X (defBody sq_get_id) { nx := fun _ H' => Q .non H', rt := Q } (start nq_get_id vs) H := by
  obtain ⟨os, li, cu, nn, ou, p, ys, nv, rd, rfl, ok5, ly, A, hnn, n1, n2, hrd, q⟩ := h
  show RB X (defBody sq_get_id) _ [some (.ref li), some (.ref cu), some (.ref nn), some (.ref ou), none] H
  walk_at "g0"
  refine ⟨Nat.zero_le _, fun l hl => ?_⟩
  obtain ⟨hl0, f0, c0, u0⟩ := A.new (o := .lst []) Fk.refl A.cur A.out hl
  have nnl : nn ≠ l := ne_of_none hnn hl
  have nn0 : (upd H l (.lst [])) nn = some (.lst nv) := by rw [upd_ne nnl]; exact hnn
  -- the two numbers behind
  have two : ∀ (a : Int) (p1 : Nat) (H1 : Hp), p1 ≤ os.length → LPost (rId2 os a p1) rD cu ou ys H Q → Fk (Two cu ou) H H1 → H1 cu = some (.lst [.int (p1 : Nat)]) → H1 ou = some (.lst ys) → H1 l = some (.lst [.int a]) →
      RB X (List.drop 3 (defBody sq_get_id)) { nx := fun _ H' => Q .non H', rt := Q } [some (.ref li), some (.ref cu), some (.ref nn), some (.ref ou), some (.ref l)] H1 := fun a p1 H1 le1 qq f1 c1 u1 d1 => by
    walk_at "g0"
    refine re_call c dN (by decide) (by walk_at "gm") ?_
    walk_at "e"
    refine ⟨os, li, cu, l, p1, [.int a], rfl, ok5, by show 1 ≤ 100000; decide, A.go f1 hl0 c1 d1 u1 le1 qq (fun x p2 v H2 e2 f2 g2 c2 o2 u2 r2 q2 => ?_) (fun H1 hq => ?_)⟩
    · obtain rfl : v = .int x := r2
      have o2' : H2 l = some (.lst [.int a, .int x]) := o2
      walk_at "g"
      refine re_call c dN (by decide) (by walk_at "gm") ?_
      walk_at "e"
      refine ⟨os, li, cu, l, p2, [.int a, .int x], rfl, ok5, by show 2 ≤ 100000; decide, A.go f2 hl0 c2 o2' u2 (num_le2 e2).2 q2 (fun x2 p3 v H3 e3 f3 g3 c3 o3 u3 r3 q3 => ?_) (fun H1 hq => ?_)⟩
      · obtain rfl : v = .int x2 := r3
        have o3' : H3 l = some (.lst [.int a, .int x, .int x2]) := o3
        walk_at "e"
        refine rb_cons (rs_app c (by walk_at "gm") (by constructor) (by walk_at "gs") u3 ?_)
        walk_at "e"
        refine lv_tupL (SqL.of o3') fun t ht => ?_
        obtain ⟨ht0, f4, c4, u4⟩ := A.new (o := .tup [.int a, .int x, .int x2]) f3 c3 u3 ht
        walk_at "e"
        refine ⟨ys, u4, by show _ < 16777216; omega, ?_⟩
        walk_at "g"
        exact q3.ok _ p3 (.ref t) _ rfl (f4.trans (Fk.putL u4 (.inr rfl))) (by rw [upd_ne A.n3]; exact c4) upd_same ((three ht).kf (KF.putL u4))
      · walk_at "g"
        exact hq
    · walk_at "g"
      exact hq
  walk_at "g"
  refine re_call c dG (by decide) (by walk_at "gm") ?_
  walk_at "e"
  refine lv_lenL (SqL.of nn0) ?_
  rcases hrd with ⟨rfl, rfl⟩ | ⟨v0, d0, rfl, hd0, rfl⟩
  · walk_at "e"
    refine iteD (by decide) ?_
    walk_at "e"
    refine ⟨os, li, cu, l, p, [], 0, 31, rfl, ok5, Nat.zero_le _, A.go f0 hl0 c0 upd_same u0 A.le q (fun a p1 v H1 e1 f1 g1 c1 o1 u1 r1 q1 => ?_) (fun H1 hq => ?_)⟩
    · obtain rfl : v = .int a := r1
      have nn1 : H1 nn = some (.lst []) := g1.f _ _ (fun z => z.elim n1 nnl) nn0
      walk_at "g"
      refine lv_lenL (SqL.of nn1) ?_
      walk_at "e"
      refine iteDN (by decide) ?_
      walk_at "e"
      exact two a p1 H1 (by have := take_ok e1; omega) q1 f1 c1 u1 o1
    · walk_at "g"
      exact hq
  · walk_at "e"
    refine iteDN (by show ¬ ((1 : Nat) : Int) = 0; decide) ?_
    walk_at "e"
    refine ⟨os, li, cu, l, p, [], 0, 32, rfl, ok5, Nat.zero_le _, A.go f0 hl0 c0 upd_same u0 A.le q (fun a p1 v H1 e1 f1 g1 c1 o1 u1 r1 q1 => ?_) (fun H1 hq => ?_)⟩
    · obtain rfl : v = .int a := r1
      have nn1 : H1 nn = some (.lst [v0]) := g1.f _ _ (fun z => z.elim n1 nnl) nn0
      have o1' : H1 l = some (.lst [.int a]) := o1
      walk_at "g"
      refine lv_lenL (SqL.of nn1) ?_
      walk_at "e"
      refine iteD (by show ((1 : Nat) : Int) = 1; decide) ?_
      walk_at "g"
      refine ite2 (fun e => ?_) (fun e => ?_)
      · rw [if_pos (by simpa using e)] at q1
        refine rb_cons (rs_app c (by walk_at "gm") (by constructor) (by walk_at "gs") u1 ?_)
        walk_at "e"
        refine ⟨ys, u1, by show _ < 16777216; omega, ?_⟩
        walk_at "g"
        exact q1.ok _ p1 v0 _ rfl (f1.trans (Fk.putL u1 (.inr rfl))) (by rw [upd_ne A.n3]; exact c1) upd_same ((hd0.kf f1.k).kf (KF.putL u1))
      · rw [if_neg (by simpa using e)] at q1
        walk_at "g"
        refine ⟨l, [.int a], 0, 0, rfl, rfl, o1', rfl, ?_⟩
        have nlc' := nlc A hl0
        walk_at "e"
        exact two (a - 1) p1 _ (by have := take_ok e1; omega) q1 (f1.loc (B' := (· = l)) (Fk.putL o1' rfl) (fun x z => .inr (by rw [z]; exact hl0))) (by rw [upd_ne (Ne.symm nlc')]; exact c1) (by rw [upd_ne (A.neo hl0)]; exact u1) upd_same
    · walk_at "g"
      exact hq
end
section
variable {X : Cx} {os : ORow} {vs : List V} {H H0 H1 : Hp} {Q Q1 : VK} {E : XK} {li cu ou fo : Addr} {p p1 : Nat} {ys zs ys' : List V} {k : Nat}
theorem many_le2 {α : Type} {rd : Nat → Rdg α} (hrd : ∀ p a p2, rd p = .ok a p2 → p2 ≤ os.length) {n p p2 : Nat} {l : List α} (h : rMany rd n p = .ok l p2) (hp : p ≤ os.length) : p2 ≤ os.length := by
  induction n generalizing p l with
  | zero => cases h; exact hp
  | succ n ih =>
    unfold rMany at h
    cases e : rd p with
    | bad j => rw [e] at h; cases h
    | ok a p1 =>
      have := hrd _ _ _ e
      rw [e] at h
      change (rMany rd n p1).map (a :: ·) = _ at h
      cases e2 : rMany rd n p1 with
      | bad j => rw [e2] at h; cases h
      | ok l2 p3 =>
        rw [e2] at h
        cases h
        exact ih e2 this
theorem name_le2 {p p2 : Nat} {d : D} (h : rName os p = .ok d p2) : p2 ≤ os.length := by
  unfold rName at h
  cases e : rTake os 1 6 p with
  | bad j => rw [e] at h; cases h
  | ok a p1 =>
    obtain ⟨hp, z, _⟩ := take_ok e
    rw [e] at h
    change (rMany (rLabel os []) a.toNat p1).map _ = _ at h
    cases e2 : rMany (rLabel os []) a.toNat p1 with
    | bad j => rw [e2] at h; cases h
    | ok l2 p3 =>
      rw [e2] at h
      cases h
      exact many_le2 (fun p a p2 z => lab_le2 z) e2 (by omega)
theorem plain_le2 {k : Int} {p p2 : Nat} {d : D} (h : rPlain os k p = .ok d p2) : p2 ≤ os.length := by
  unfold rPlain at h
  split at h
  · cases e : rNum os p with
    | bad j => rw [e] at h; cases h
    | ok n p3 => rw [e] at h; cases h; exact (num_le2 e).2
  · cases e : rName os p with
    | bad j => rw [e] at h; cases h
    | ok n p3 => rw [e] at h; cases h; exact name_le2 e
theorem rows_le2 {k : Nat} {fl : List Nat} {p p2 : Nat} {ds : List D} (h : rRows os k fl p = .ok ds p2) : p2 ≤ os.length := by
  induction k generalizing fl p ds with
  | zero =>
    unfold rRows at h
    cases e : rTake os 0 0 p with
    | bad j => rw [e] at h; cases h
    | ok a p1 => rw [e] at h; cases h; have := take_ok e; omega
  | succ k ih =>
    unfold rRows at h
    cases e : rTake os 0 (if fl = z8 then 0 else 1) p with
    | bad j => rw [e] at h; cases h
    | ok a p1 =>
      rw [e] at h
      have t1 := take_ok e
      change (if a = 0 then Rdg.ok [] p1 else (rLabel os fl p1).bind fun l p2 => (rTake os 1 2 p2).bind fun kd p3 => (rPlain os kd p3).bind fun e p4 => (rRows os k l p4).map (.tup [sD l, e] :: ·)) = _ at h
      split at h
      · cases h
        omega
      · cases e2 : rLabel os fl p1 with
        | bad j => rw [e2] at h; cases h
        | ok l p2 =>
          rw [e2] at h
          change ((rTake os 1 2 p2).bind fun kd p3 => (rPlain os kd p3).bind fun e p4 => (rRows os k l p4).map (.tup [sD l, e] :: ·)) = _ at h
          cases e3 : rTake os 1 2 p2 with
          | bad j => rw [e3] at h; cases h
          | ok kd p3 =>
            rw [e3] at h
            change ((rPlain os kd p3).bind fun e p4 => (rRows os k l p4).map (.tup [sD l, e] :: ·)) = _ at h
            cases e4 : rPlain os kd p3 with
            | bad j => rw [e4] at h; cases h
            | ok en p4 =>
              rw [e4] at h
              change (rRows os k l p4).map (.tup [sD l, en] :: ·) = _ at h
              cases e5 : rRows os k l p4 with
              | bad j => rw [e5] at h; cases h
              | ok ds2 p5 => rw [e5] at h; cases h; exact ih e5
abbrev rT : Hp → V → List D → Prop := fun H v ds => Dz H v (.tup ds)
def spGE : Sp := fun vs H Q _ => ∃ (os : ORow) (li cu ou : Addr) (p : Nat) (ys : List V) (lo hi : Int), vs = [.ref li, .ref cu, .int lo, .int hi, .ref ou] ∧ 0 ≤ lo ∧ hi ≤ 3 ∧ OsOk os ∧ ys.length ≤ 100000 ∧ LAt os li cu ou p ys H ∧ LPost (rEntry os lo hi p) rD cu ou ys H Q
/-- the same, where no page may stand -/
def spGE1 : Sp := fun vs H Q E => spGE vs H Q E ∧ ∃ (a b c : V) (hi : Int) (d : V), vs = [a, b, c, .int hi, d] ∧ hi ≤ 2
theorem body_get_entry (hk : 3 ≤ k) (c : Ctx X nq_get_entry lq_get_entry k) (zt : X.mg "tuple" = none) (dG : DG X "_law_get" ["items", "cursor", "low", "high", "out"] 1 spGet) (dN : DG X "_law_get_number" ["items", "cursor", "out"] 2 (spLG rNum rI)) (dM : DG X "_law_get_name" ["items", "cursor", "out"] 3 (spLG rName rD))
    (h : spGE vs H Q E) (hR : (5 ≤ k ∧ DG X "_law_get_rows" ["items", "cursor", "out"] 5 (spLG (fun os => rRows os 6 []) rT)) ∨ ∃ (a b c : V) (hi : Int) (d : V), vs = [a, b, c, .int hi, d] ∧ hi ≤ 2) :
    RB X (defBody sq_get_entry) { nx := fun _ H' => Q .non H', rt := Q } (start nq_get_entry vs) H := by
  obtain ⟨os, li, cu, ou, p, ys, lo, hi, rfl, lo0, hi3, ok5, ly, A, q⟩ := h
  show RB X (defBody sq_get_entry) _ [some (.ref li), some (.ref cu), some (.int lo), some (.int hi), some (.ref ou), none, none] H
  refine rb_cons (rs_par2 c (by walk_at "gm") (by walk_at "gm") (by walk_at "gm") (by walk_at "gm") (by decide) ?_)
  walk_at "e"
  refine ⟨Nat.zero_le _, fun l hl => ?_⟩
  walk_at "e"
  obtain ⟨hl0, f0, c0, u0⟩ := A.new (o := .lst []) Fk.refl A.cur A.out hl
  refine ⟨Nat.zero_le _, fun fo hfo => ?_⟩
  obtain ⟨hfo0, f00, c00, u00⟩ := A.new (o := .lst []) f0 c0 u0 hfo
  have nlf : l ≠ fo := fun z => by rw [← z, upd_same] at hfo; cases hfo
  have o00 : (upd (upd H l (.lst [])) fo (.lst [])) l = some (.lst []) := by rw [upd_ne nlf, upd_same]
  have nfc := nlc A hfo0
  walk_at "e"
  refine ⟨_, _, _, _, rfl, by walk_at "gs", by walk_at "gs", ?_⟩
  walk_at "g"
  refine re_call c dG (by omega) (by walk_at "gm") ?_
  walk_at "e"
  refine ⟨os, li, cu, l, p, [], lo, hi, rfl, ok5, Nat.zero_le _, A.go f00 hl0 c00 o00 u00 A.le q (fun y p1 v H1 e1 f1 g1 c1 o1 u1 r1 q1 => ?_) (fun H1 hq => ?_)⟩
  · obtain rfl : v = .int y := r1
    obtain ⟨hp1, hp, y1, y8, _⟩ := take_ok e1
    have o1' : H1 l = some (.lst [.int y]) := o1
    have d1 : H1 fo = some (.lst []) := g1.f _ _ (fun z => z.elim nfc (Ne.symm nlf)) upd_same
    have fin : ∀ (us : List V) (ds : List D) (p' : Nat) (H' : Hp), us.length ≤ 100000 → H' fo = some (.lst us) → Dzs H' us ds → LPost (.ok (.tup ds) p') rD cu ou ys H Q → Fk (Two cu ou) H H' → H' cu = some (.lst [.int (p' : Nat)]) → H' ou = some (.lst ys) →
        RB X (List.drop 7 (defBody sq_get_entry)) { nx := fun _ H' => Q .non H', rt := Q } [some (.ref li), some (.ref cu), some (.int lo), some (.int hi), some (.ref ou), some (.ref l), some (.ref fo)] H' := fun us ds p' H' lu d' hd qq f' c' u' => by
      refine rb_cons (rs_app c (by walk_at "gm") (by constructor) (by walk_at "gs") u' ?_)
      walk_at "e"
      refine lv_tupL (SqL.of d') fun t ht => ?_
      obtain ⟨ht0, f4, c4, u4⟩ := A.new (o := .tup us) f' c' u' ht
      walk_at "e"
      refine ⟨ys, u4, by show _ < 16777216; omega, ?_⟩
      walk_at "g"
      exact qq.ok _ p' (.ref t) _ rfl (f4.trans (Fk.putL u4 (.inr rfl))) (by rw [upd_ne A.n3]; exact c4) upd_same ((Dz.newT ht hd).kf (KF.putL u4))
    walk_at "g"
    refine ite2 (fun e => ?_) (fun e => ?_)
    · rw [if_pos (by simpa using e)] at q1
      refine rb_cons (rs_app c (by walk_at "gm") (by constructor) (by walk_at "gs") u1 ?_)
      walk_at "e"
      refine ⟨ys, u1, by show _ < 16777216; omega, ?_⟩
      walk_at "g"
      exact q1.ok _ p1 .non _ rfl (f1.trans (Fk.putL u1 (.inr rfl))) (by rw [upd_ne A.n3]; exact c1) upd_same .non
    · have y0 : y ≠ 0 := by simpa using e
      rw [if_neg y0] at q1
      walk_at "e"
      refine rb_cons (rs_app c (by walk_at "gm") (by constructor) (by walk_at "gs") d1 ?_)
      walk_at "e"
      refine ⟨by show 4 ≤ sizeLine; decide, fun t ht => ?_⟩
      obtain ⟨ht0, f2, c2, u2⟩ := A.new (o := .lst [.non, .str "value", .str "name", .str "page"]) f1 c1 u1 ht
      have o2 : (upd H1 t (.lst [.non, .str "value", .str "name", .str "page"])) l = some (.lst [.int y]) := by rw [upd_ne (ne_of_none o1' ht)]; exact o1'
      have d2 : (upd H1 t (.lst [.non, .str "value", .str "name", .str "page"])) fo = some (.lst []) := by rw [upd_ne (ne_of_none d1 ht)]; exact d1
      walk_at "e"
      -- behind the kind's name
      have put : ∀ nm : Str, Fk (Two cu ou) H (upd (upd H1 t (.lst [.non, .str "value", .str "name", .str "page"])) fo (.lst [.str nm])) ∧ (upd (upd H1 t (.lst [.non, .str "value", .str "name", .str "page"])) fo (.lst [.str nm])) cu = some (.lst [.int (p1 : Nat)]) ∧
          (upd (upd H1 t (.lst [.non, .str "value", .str "name", .str "page"])) fo (.lst [.str nm])) ou = some (.lst ys) ∧ (upd (upd H1 t (.lst [.non, .str "value", .str "name", .str "page"])) fo (.lst [.str nm])) l = some (.lst [.int y]) := fun nm =>
        ⟨f2.loc (B' := (· = fo)) (Fk.putL d2 rfl) (fun x z => .inr (by rw [z]; exact hfo0)), by rw [upd_ne (Ne.symm nfc)]; exact c2, by rw [upd_ne (A.neo hfo0)]; exact u2, by rw [upd_ne nlf]; exact o2⟩
      have app : ∀ nm : Str, (∃ xs', (upd H1 t (.lst [.non, .str "value", .str "name", .str "page"])) fo = some (.lst xs') ∧ xs'.length < sizeLine ∧ xs' = []) := fun _ => ⟨[], d2, by show 0 < 16777216; decide, rfl⟩
      rcases (by omega : y = 1 ∨ y = 2 ∨ y = 3) with rfl | rfl | rfl
      · refine iv_list (SqL.of upd_same) (at_nat (i := 1) rfl) ?_
        refine ⟨[], d2, by show 0 < 16777216; decide, ?_⟩
        obtain ⟨f3, c3, u3, o3⟩ := put "value"
        rw [if_neg (by decide)] at q1
        unfold rPlain at q1
        rw [if_pos rfl] at q1
        walk_at "g"
        refine iv_list (SqL.of o3) (at_nat (i := 0) rfl) ?_
        walk_at "e"
        refine iteD (by decide) ?_
        walk_at "e"
        refine re_call c dN (by omega) (by walk_at "gm") ?_
        walk_at "e"
        refine ⟨os, li, cu, fo, p1, [.str "value"], rfl, ok5, by show 1 ≤ 100000; decide, A.go f3 hfo0 c3 upd_same u3 (by omega) q1 (fun n p2 v H3 e4 f4 g4 c4 o4 u4 r4 q4 => ?_) (fun H1 hq => ?_)⟩
        · obtain rfl : v = .int n := r4
          have o5 : H3 l = some (.lst [.int 1]) := g4.f _ _ (fun z => z.elim (nlc A hl0) nlf) o3
          walk_at "g"
          refine iteDN (by decide) ?_
          walk_at "g"
          refine iteDN (by decide) ?_
          walk_at "e"
          exact fin [.str "value", .int n] _ p2 H3 (by show 2 ≤ 100000; decide) o4 (.cons .str (.cons .int .nil)) q4 f4 c4 u4
        · walk_at "g"
          exact hq
      · refine iv_list (SqL.of upd_same) (at_nat (i := 2) rfl) ?_
        refine ⟨[], d2, by show 0 < 16777216; decide, ?_⟩
        obtain ⟨f3, c3, u3, o3⟩ := put "name"
        rw [if_neg (by decide)] at q1
        unfold rPlain at q1
        rw [if_neg (by decide)] at q1
        walk_at "g"
        refine iv_list (SqL.of o3) (at_nat (i := 0) rfl) ?_
        walk_at "e"
        refine iteDN (by decide) ?_
        walk_at "g"
        refine iv_list (SqL.of o3) (at_nat (i := 0) rfl) ?_
        walk_at "e"
        refine iteD (by decide) ?_
        walk_at "e"
        refine re_call c dM (by omega) (by walk_at "gm") ?_
        walk_at "e"
        refine ⟨os, li, cu, fo, p1, [.str "name"], rfl, ok5, by show 1 ≤ 100000; decide, A.go f3 hfo0 c3 upd_same u3 (by omega) q1 (fun n p2 v H3 e4 f4 g4 c4 o4 u4 r4 q4 => ?_) (fun H1 hq => ?_)⟩
        · have o5 : H3 l = some (.lst [.int 2]) := g4.f _ _ (fun z => z.elim (nlc A hl0) nlf) o3
          walk_at "g"
          refine iteDN (by decide) ?_
          walk_at "e"
          exact fin [.str "name", v] _ p2 H3 (by show 2 ≤ 100000; decide) o4 (.cons .str (.cons r4 .nil)) q4 f4 c4 u4
        · walk_at "g"
          exact hq
      · have hr : 5 ≤ k ∧ DG X "_law_get_rows" ["items", "cursor", "out"] 5 (spLG (fun os => rRows os 6 []) rT) := by
          rcases hR with hR | ⟨_, _, _, hi', _, e9, h9⟩
          · exact hR
          · simp at e9
            omega
        obtain ⟨k5, dR⟩ := hr
        refine iv_list (SqL.of upd_same) (at_nat (i := 3) rfl) ?_
        refine ⟨[], d2, by show 0 < 16777216; decide, ?_⟩
        obtain ⟨f3, c3, u3, o3⟩ := put "page"
        rw [if_pos rfl] at q1
        walk_at "g"
        refine iv_list (SqL.of o3) (at_nat (i := 0) rfl) ?_
        walk_at "e"
        refine iteDN (by decide) ?_
        walk_at "g"
        refine iv_list (SqL.of o3) (at_nat (i := 0) rfl) ?_
        walk_at "e"
        refine iteDN (by decide) ?_
        walk_at "g"
        refine iv_list (SqL.of o3) (at_nat (i := 0) rfl) ?_
        walk_at "e"
        refine iteD (by decide) ?_
        walk_at "g"
        refine re_call c dG (by omega) (by walk_at "gm") ?_
        walk_at "e"
        refine ⟨os, li, cu, fo, p1, [.str "page"], 0, 31, rfl, ok5, by show 1 ≤ 100000; decide, A.go f3 hfo0 c3 upd_same u3 (by omega) q1 (fun n p2 v H3 e4 f4 g4 c4 o4 u4 r4 q4 => ?_) (fun H1 hq => ?_)⟩
        · obtain rfl : v = .int n := r4
          walk_at "g"
          refine re_call c dR (by omega) (by walk_at "gm") ?_
          walk_at "e"
          refine ⟨os, li, cu, fo, p2, [.str "page", .int n], rfl, ok5, by show 2 ≤ 100000; decide, A.go f4 hfo0 c4 o4 u4 (by have := take_ok e4; omega) q4 (fun rs p3 v H4 e5 f5 g5 c5 o5 u5 r5 q5 => ?_) (fun H1 hq => ?_)⟩
          · walk_at "e"
            exact fin [.str "page", .int n, v] _ p3 H4 (by show 3 ≤ 100000; decide) o5 (.cons .str (.cons .int (.cons r5 .nil))) q5 f5 c5 u5
          · walk_at "g"
            exact hq
        · walk_at "g"
          exact hq
  · walk_at "g"
    exact hq
end
section
variable {X : Cx} {os : ORow} {vs : List V} {H H0 H1 : Hp} {Q Q1 : VK} {E : XK} {li cu ou fo : Addr} {p p1 : Nat} {ys zs ys' : List V} {k : Nat}
theorem rRows_law {k p : Nat} {fl : List Nat} : rRows os k fl p = (rTake os 0 (if k = 0 ∨ fl = z8 then 0 else 1) p).bind fun a p1 => if a = 0 then .ok [] p1 else
    (rLabel os fl p1).bind fun l p2 => (rTake os 1 2 p2).bind fun kd p3 => (rPlain os kd p3).bind fun e p4 => (rRows os (k - 1) l p4).map (.tup [sD l, e] :: ·) := by
  cases k with
  | zero =>
    rw [if_pos (.inl rfl)]
    show (rTake os 0 0 p).bind _ = _
    unfold rTake
    split
    · split
      · rename_i i _ hi
        have : i = 0 := by omega
        show _ = if i = 0 then _ else _
        rw [if_pos this]
        rfl
      · rfl
    · rfl
  | succ k =>
    show (rTake os 0 (if fl = z8 then 0 else 1) p).bind _ = _
    by_cases hz : fl = z8
    · rw [if_pos hz, if_pos (.inr hz)]
      rfl
    · rw [if_neg hz, if_neg (fun z => z.elim (by omega) hz)]
      rfl
theorem rEntry12 {p : Nat} : rEntry os 1 2 p = (rTake os 1 2 p).bind fun kd p3 => rPlain os kd p3 := by
  unfold rEntry
  cases e : rTake os 1 2 p with
  | bad j => rfl
  | ok a p1 =>
    obtain ⟨_, _, h1, h2, _⟩ := take_ok e
    show (if a = 0 then _ else if a = 3 then _ else rPlain os a p1) = rPlain os a p1
    rw [if_neg (by omega), if_neg (by omega)]
theorem re_two {t1 t2 : Expr} {b1 b2 : Bool} {i1 i2 : Int} {j1 j2 : Nat} {σ : L2.St} {q1 q2 q3 q4 : Pos} (h1 : ∀ Q' : Bool → Hp → Prop, Q' b1 H → RT X t1 σ H Q') (h2 : ∀ Q' : Bool → Hp → Prop, Q' b2 H → RT X t2 σ H Q') (q : ∀ hi : Int, hi = (if b1 = true ∨ b2 = true then i1 else i2) → Q (.int hi) H) :
    RE X (.IfExp (.BoolOp .Or [t1, t2] q1) (.Constant (.int i1) j1 q2) (.Constant (.int i2) j2 q3) q4) σ H Q := by
  refine re_if (rt_bool (rw_or (h1 _ ?_)))
  cases b1 with
  | true => exact re_int (q _ rfl)
  | false =>
    refine rw_or1 (h2 _ ?_)
    cases b2 with
    | true => exact re_int (q _ rfl)
    | false => exact re_int (q _ rfl)
theorem body_get_rows (c : Ctx X nq_get_rows lq_get_rows 4) (zr : X.mg "range" = none) (zt : X.mg "tuple" = none) (dG : DG X "_law_get" ["items", "cursor", "low", "high", "out"] 1 spGet) (dL : DG X "_law_get_label" ["items", "cursor", "floor", "out"] 2 spGL) (dE : DG X "_law_get_entry" ["items", "cursor", "low", "high", "out"] 4 spGE1) (h : spLG (fun os => rRows os 6 []) rT vs H Q E) :
    RB X (defBody sq_get_rows) { nx := fun _ H' => Q .non H', rt := Q } (start nq_get_rows vs) H := by
  obtain ⟨os, li, cu, ou, p, ys, rfl, ok5, ly, A, q⟩ := h
  change LPost (rRows os 6 [] p) rT cu ou ys H Q at q
  show RB X (defBody sq_get_rows) _ [some (.ref li), some (.ref cu), some (.ref ou), none, none, none, none, none] H
  refine rb_cons (rs_par2 c (by walk_at "gm") (by walk_at "gm") (by walk_at "gm") (by walk_at "gm") (by decide) ?_)
  walk_at "e"
  refine ⟨Nat.zero_le _, fun fo hfo => ?_⟩
  obtain ⟨hfo0, f0, c0, u0⟩ := A.new (o := .lst []) Fk.refl A.cur A.out hfo
  walk_at "e"
  refine ⟨_, _, _, _, rfl, by walk_at "gs", by walk_at "gs", ?_⟩
  have nfc := nlc A hfo0
  have rest : ∀ (us : List V) (ds : List D) (p' : Nat) (H' : Hp) (s4 s5 s6 s7 : Option V), us.length ≤ 100000 → H' fo = some (.lst us) → Dzs H' us ds → rRows os 6 [] p = .ok ds p' → Fk (Two cu ou) H H' → H' cu = some (.lst [.int (p' : Nat)]) → H' ou = some (.lst ys) →
      RB X (List.drop 2 (defBody sq_get_rows)) { nx := fun _ H' => Q .non H', rt := Q } [some (.ref li), some (.ref cu), some (.ref ou), some (.ref fo), s4, s5, s6, s7] H' := fun us ds p' H' s4 s5 s6 s7 lu d' hd eq f' c' u' => by
    refine rb_cons (rs_app c (by walk_at "gm") (by constructor) (by walk_at "gs") u' ?_)
    walk_at "e"
    refine lv_tupL (SqL.of d') fun t ht => ?_
    obtain ⟨ht0, f4, c4, u4⟩ := A.new (o := .tup us) f' c' u' ht
    walk_at "e"
    refine ⟨ys, u4, by show _ < 16777216; omega, ?_⟩
    walk_at "g"
    exact q.ok _ p' (.ref t) _ eq (f4.trans (Fk.putL u4 (.inr rfl))) (by rw [upd_ne A.n3]; exact c4) upd_same ((Dz.newT ht hd).kf (KF.putL u4))
  refine rb_cons (rs_for_range c (by walk_at "gm") .loc (by walk_at "gm") (by walk_at "gm") zr ?_)
  walk_at "e"
  refine ⟨by decide, by decide, fun i σ' H' => ∃ (fl : List Nat) (us : List V) (ds : List D) (p2 : Nat) (s5 s6 s7 : Option V), σ' = [some (.ref li), some (.ref cu), some (.ref ou), some (.ref fo), some (.str ⟨fl.toArray⟩), s5, s6, s7] ∧ Fk (Two cu ou) H H' ∧ H' cu = some (.lst [.int (p2 : Nat)]) ∧ H' ou = some (.lst ys) ∧ H' fo = some (.lst us) ∧ Dzs H' us ds ∧ us.length = i ∧ i ≤ 6 ∧ p2 ≤ os.length ∧
    rRows os 6 [] p = (rRows os (6 - i) fl p2).map (ds ++ ·), ?_, fun _ _ _ _ _ => trivial, ?_, ?_⟩
  · exact ⟨[], [], [], p, none, none, none, rfl, f0, c0, u0, upd_same, .nil, rfl, by decide, A.le, by simp [Rdg.map_id]⟩
  · rintro i y σ' H2 hi rfl ⟨fl, us, ds, p2, s5, s6, s7, rfl, f2, c2, u2, d2, hd2, lu, hi6, le2, eT⟩
    rw [rRows_law (k := 6 - i) (fl := fl) (p := p2), Rdg.bind_map] at eT
    have q2 := q
    rw [eT] at q2
    refine ⟨_, by walk_at "gs", ?_⟩
    refine rb_cons (rs_par2 c (by walk_at "gm") (by walk_at "gm") (by walk_at "gm") (by walk_at "gm") (by decide) ?_)
    walk_at "e"
    refine ⟨Nat.zero_le _, fun mo hmo => ?_⟩
    obtain ⟨hmo0, f3, c3, u3⟩ := A.new (o := .lst []) f2 c2 u2 hmo
    have d3 : (upd H2 mo (.lst [])) fo = some (.lst us) := by rw [upd_ne (ne_of_none d2 hmo)]; exact d2
    walk_at "e"
    refine ⟨Nat.zero_le _, fun pr hpr => ?_⟩
    obtain ⟨hpr0, f4, c4, u4⟩ := A.new (o := .lst []) f3 c3 u3 hpr
    have d4 : (upd (upd H2 mo (.lst [])) pr (.lst [])) fo = some (.lst us) := by rw [upd_ne (ne_of_none d3 hpr)]; exact d3
    have nmp : mo ≠ pr := ne_of_none upd_same hpr
    have m4 : (upd (upd H2 mo (.lst [])) pr (.lst [])) mo = some (.lst []) := by rw [upd_ne nmp]; exact upd_same
    have hd4 := (hd2.kf (KF.new (o := .lst []) hmo)).kf (KF.new (o := .lst []) hpr)
    have nfm : fo ≠ mo := ne_of_none d2 hmo
    have nfp : fo ≠ pr := ne_of_none d3 hpr
    walk_at "e"
    refine ⟨_, _, _, _, rfl, by walk_at "gs", by walk_at "gs", ?_⟩
    walk_at "g"
    refine re_call c dG (by decide) (by walk_at "gm") ?_
    refine ra_cons (re_name c (by walk_at "gs") (by walk_at "gm") .loc ?_)
    refine ra_cons (re_name c (by walk_at "gs") (by walk_at "gm") .loc ?_)
    refine ra_cons (re_int ?_)
    refine ra_cons (re_two (b1 := decide (i = 6)) (b2 := decide (fl = z8)) (fun Q' w => ?_) (fun Q' w => ?_) fun hi hh => ?_)
    · walk_at "e"
      rw [show decide ((i : Int) = 6) = decide (i = 6) from decide_eq_decide.mpr (by omega)]
      exact w
    · walk_at "e"
      rw [z8_eq]
      exact w
    refine ra_cons (re_name c (by walk_at "gs") (by walk_at "gm") .loc (ra_nil ?_))
    have hh2 : hi = if 6 - i = 0 ∨ fl = z8 then 0 else 1 := by
      rw [hh]
      have : (decide (i = 6) = true ∨ decide (fl = z8) = true) = (6 - i = 0 ∨ fl = z8) := by
        rw [decide_eq_true_eq, decide_eq_true_eq]
        apply propext
        constructor
        · rintro (z | z)
          · exact .inl (by omega)
          · exact .inr z
        · rintro (z | z)
          · exact .inl (by omega)
          · exact .inr z
      simp only [this]
    subst hh2
    refine ⟨os, li, cu, mo, p2, [], 0, _, rfl, ok5, Nat.zero_le _, A.go f4 hmo0 c4 m4 u4 le2 q2 (fun a p3 v H3 e3 f5 g5 c5 o5 u5 r5 q5 => ?_) (fun H1 hq => ?_)⟩
    · obtain rfl : v = .int a := r5
      rw [e3] at eT
      have t3 := take_ok e3
      have o5' : H3 mo = some (.lst [.int a]) := o5
      have d5 : H3 fo = some (.lst us) := g5.f _ _ (fun z => z.elim nfc nfm) d4
      have pr5 : H3 pr = some (.lst []) := g5.f _ _ (fun z => z.elim (nlc A hpr0) (Ne.symm nmp)) upd_same
      have hd5 := hd4.kf g5.k
      walk_at "g"
      refine ite2 (fun e => ?_) (fun e => ?_)
      · obtain rfl : a = 0 := by simpa using e
        walk_at "e"
        refine rb_cons (rs_break ?_)
        refine rest us ds p3 H3 _ _ _ _ (by omega) d5 hd5 ?_ f5 c5 u5
        rw [eT]
        show Rdg.ok (ds ++ []) p3 = _
        rw [List.append_nil]
      · have a0 : a ≠ 0 := by simpa using e
        have hlt : i < 6 := by
          rcases Nat.lt_or_ge i 6 with z | z
          · exact z
          · rw [if_pos (.inl (by omega))] at t3
            omega
        rw [if_neg a0] at q5
        have e6 : (if a = 0 then Rdg.ok [] p3 else (rLabel os fl p3).bind fun l p2 => (rTake os 1 2 p2).bind fun kd p3 => (rPlain os kd p3).bind fun e p4 => (rRows os (6 - i - 1) l p4).map (.tup [sD l, e] :: ·)).map (ds ++ ·) =
            (rLabel os fl p3).bind fun l p2 => (rEntry os 1 2 p2).bind fun e p4 => (rRows os (6 - (i + 1)) l p4).map ((ds ++ [.tup [sD l, e]]) ++ ·) := by
          rw [if_neg a0, Rdg.bind_map]
          congr 1
          funext l p2
          rw [Rdg.bind_map, rEntry12, Rdg.bind_bind]
          congr 1
          funext kd p3
          rw [Rdg.bind_map]
          congr 1
          funext e p4
          rw [Rdg.map_map, show 6 - i - 1 = 6 - (i + 1) by omega]
          simp only [List.append_assoc, List.singleton_append]
        change rRows os 6 [] p = (if a = 0 then Rdg.ok [] p3 else (rLabel os fl p3).bind fun l p2 => (rTake os 1 2 p2).bind fun kd p3 => (rPlain os kd p3).bind fun e p4 => (rRows os (6 - i - 1) l p4).map (.tup [sD l, e] :: ·)).map (ds ++ ·) at eT
        rw [e6] at eT
        have q6 := q
        rw [eT] at q6
        walk_at "g"
        refine re_call c dL (by decide) (by walk_at "gm") ?_
        walk_at "e"
        refine ⟨os, li, cu, pr, p3, [], fl, rfl, ok5, Nat.zero_le _, A.go f5 hpr0 c5 pr5 u5 (by omega) q6 (fun lb p4 v H4 e4 f6 g6 c6 o6 u6 r6 q7 => ?_) (fun H1 hq => ?_)⟩
        · obtain rfl : v = sV lb := r6
          have o6' : H4 pr = some (.lst [sV lb]) := o6
          walk_at "g"
          refine re_call c dE (by decide) (by walk_at "gm") ?_
          walk_at "e"
          refine ⟨⟨os, li, cu, pr, p4, [sV lb], 1, 2, rfl, by decide, by decide, ok5, by show 1 ≤ 100000; decide, A.go f6 hpr0 c6 o6' u6 (lab_le2 e4) q7 (fun en p5 v H5 e5 f7 g7 c7 o7 u7 r7 q8 => ?_) (fun H1 hq => ?_)⟩, _, _, _, 2, _, rfl, by decide⟩
          · have o7' : H5 pr = some (.lst [sV lb, v]) := o7
            have d7 : H5 fo = some (.lst us) := g7.f _ _ (fun z => z.elim nfc nfp) (g6.f _ _ (fun z => z.elim nfc nfp) d5)
            have hd7 := (hd5.kf g6.k).kf g7.k
            walk_at "e"
            walk_at "e0"
            refine rb_cons (rs_app c (by walk_at "gm") (by constructor) (by walk_at "gs") d7 ?_)
            walk_at "e"
            refine lv_tupL (SqL.of o7') fun t ht => ?_
            obtain ⟨ht0, f8, c8, u8⟩ := A.new (o := .tup [sV lb, v]) f7 c7 u7 ht
            have d8 : (upd H5 t (.tup [sV lb, v])) fo = some (.lst us) := by rw [upd_ne (ne_of_none d7 ht)]; exact d7
            walk_at "e"
            refine ⟨us, d8, by show _ < 16777216; omega, ?_⟩
            have f9 : Fk (· = fo) (upd H5 t (.tup [sV lb, v])) (upd (upd H5 t (.tup [sV lb, v])) fo (.lst (us ++ [.ref t]))) := Fk.putL d8 rfl
            walk_at "e"
            refine ⟨lb, us ++ [.ref t], ds ++ [.tup [sD lb, en]], p5, _, _, _, rfl, f8.loc f9 (fun x z => .inr (by rw [z]; exact hfo0)), by rw [upd_ne (Ne.symm nfc)]; exact c8, by rw [upd_ne (A.neo hfo0)]; exact u8, upd_same, ?_, by rw [List.length_append, lu]; rfl, by omega, ?_, ?_⟩
            · exact Dzs.snoc (hd7.kf ((KF.new ht).trans f9.k)) ((Dz.newT ht (.cons .str (.cons r7 .nil))).kf f9.k)
            · rw [rEntry12] at e5
              cases e9 : rTake os 1 2 p4 with
              | bad j => rw [e9] at e5; cases e5
              | ok kd p9 =>
                rw [e9] at e5
                exact plain_le2 e5
            · rw [eT, e4]
              show (rEntry os 1 2 p4).bind _ = _
              rw [e5]
              rfl
          · walk_at "g"
            exact hq
        · walk_at "g"
          exact hq
    · walk_at "g"
      exact hq
  · rintro σ' H2 ⟨fl, us, ds, p2, s5, s6, s7, rfl, f2, c2, u2, d2, hd2, lu, hi6, le2, eT⟩
    exact absurd hi6 (by decide)
end
section
variable {X : Cx} {os : ORow} {vs : List V} {H H0 H1 : Hp} {Q Q1 : VK} {E : XK} {li cu ou fo : Addr} {p p1 : Nat} {ys zs ys' : List V} {k : Nat}
theorem and_mid4 {a b1 b2 b3 b4 c : Prop} (m1 : b1) (m2 : b2) (m3 : b3) (m4 : b4) (h : a ∧ c) : a ∧ b1 ∧ b2 ∧ b3 ∧ b4 ∧ c := ⟨h.1, m1, m2, m3, m4, h.2⟩
theorem id2_le2 {a : Int} {p p2 : Nat} {d : D} (h : rId2 os a p = .ok d p2) : p2 ≤ os.length := by
  unfold rId2 at h
  cases e1 : rNum os p with
  | bad j => rw [e1] at h; cases h
  | ok l p3 =>
    rw [e1] at h
    change ((rNum os p3).bind fun n p2 => Rdg.ok (D.tup [.int a, .int l, .int n]) p2) = _ at h
    cases e2 : rNum os p3 with
    | bad j => rw [e2] at h; cases h
    | ok n p4 => rw [e2] at h; cases h; exact (num_le2 e2).2
theorem term_le2 {d0 : D} {p p2 : Nat} {d : D} (h : rTerm os d0 p = .ok d p2) : p2 ≤ os.length := by
  unfold rTerm at h
  cases e1 : rTake os 0 32 p with
  | bad j => rw [e1] at h; cases h
  | ok a p3 =>
    rw [e1] at h
    have := take_ok e1
    change (if a = 0 then Rdg.ok d0 p3 else rId2 os (a - 1) p3) = _ at h
    split at h
    · cases h; omega
    · exact id2_le2 h
theorem body_get_answer (c : Ctx X nq_get_answer lq_get_answer 3) (zr : X.mg "range" = none) (zt : X.mg "tuple" = none) (dG : DG X "_law_get" ["items", "cursor", "low", "high", "out"] 1 spGet) (dN : DG X "_law_get_number" ["items", "cursor", "out"] 2 (spLG rNum rI)) (dM : DG X "_law_get_name" ["items", "cursor", "out"] 3 (spLG rName rD)) (dI : DG X "_law_get_id" ["items", "cursor", "none", "out"] 3 spGI) (h : spLG rAnswer rD vs H Q E) :
    RB X (defBody sq_get_answer) { nx := fun _ H' => Q .non H', rt := Q } (start nq_get_answer vs) H := by
  obtain ⟨os, li, cu, ou, p, ys, rfl, ok5, ly, A, q⟩ := h
  show RB X (defBody sq_get_answer) _ [some (.ref li), some (.ref cu), some (.ref ou), none, none, none, none, none] H
  refine rb_cons (rs_par3 c (by walk_at "gm") (by walk_at "gm") (by walk_at "gm") (by walk_at "gm") (by walk_at "gm") (by walk_at "gm") (by decide) (by decide) (by decide) ?_)
  walk_at "e"
  refine ⟨Nat.zero_le _, fun l hl => ?_⟩
  obtain ⟨hl0, f0, c0, u0⟩ := A.new (o := .lst []) Fk.refl A.cur A.out hl
  walk_at "e"
  refine ⟨Nat.zero_le _, fun mo hmo => ?_⟩
  obtain ⟨hmo0, f00, c00, u00⟩ := A.new (o := .lst []) f0 c0 u0 hmo
  have nlm : l ≠ mo := ne_of_none upd_same hmo
  walk_at "e"
  refine ⟨Nat.zero_le _, fun no hno => ?_⟩
  obtain ⟨hno0, f01, c01, u01⟩ := A.new (o := .lst []) f00 c00 u00 hno
  have nmn : mo ≠ no := ne_of_none upd_same hno
  have l00 : (upd (upd H l (.lst [])) mo (.lst [])) l = some (.lst []) := by rw [upd_ne nlm]; exact upd_same
  have nln : l ≠ no := ne_of_none l00 hno
  have l01 : (upd (upd (upd H l (.lst [])) mo (.lst [])) no (.lst [])) l = some (.lst []) := by rw [upd_ne nln]; exact l00
  have m01 : (upd (upd (upd H l (.lst [])) mo (.lst [])) no (.lst [])) mo = some (.lst []) := by rw [upd_ne nmn]; exact upd_same
  have mc := nlc A hmo0
  have nc := nlc A hno0
  have lc := nlc A hl0
  walk_at "e"
  refine ⟨_, _, _, _, _, _, rfl, by walk_at "gs", by walk_at "gs", by walk_at "gs", ?_⟩
  have eA : rAnswer os p = (rTake os 0 4 p).bind fun k p1 => (if k = 0 then (rNum os p1).bind fun n p2 => .ok (.tup [.str "value", .int n]) p2 else if k = 1 then (rTake os 0 31 p1).bind fun h p2 => (rTerm os (.tup []) p2).bind fun t p3 => .ok (.tup [.str "page", .int h, t]) p3 else
      .ok (.tup [.str (if k = 2 then "nothing" else if k = 3 then "long" else "far")]) p1).bind fun w p1 => (rTake os 0 9 p1).bind fun m p2 => (rMany (rName os) m.toNat p2).bind fun l p3 => .ok (.tup [w, .tup l]) p3 := by
    unfold rAnswer rFound
    rw [Rdg.bind_bind]
  rw [eA] at q
  walk_at "g"
  refine re_call c dG (by decide) (by walk_at "gm") ?_
  walk_at "e"
  refine ⟨os, li, cu, l, p, [], 0, 4, rfl, ok5, Nat.zero_le _, A.go f01 hl0 c01 l01 u01 A.le q (fun y p1 v H1 e1 f1 g1 c1 o1 u1 r1 q1 => ?_) (fun H1 hq => ?_)⟩
  · obtain rfl : v = .int y := r1
    obtain ⟨hp1, hp, y0, y4, _⟩ := take_ok e1
    have o1' : H1 l = some (.lst [.int y]) := o1
    have m1 : H1 mo = some (.lst []) := g1.f _ _ (fun z => z.elim mc (Ne.symm nlm)) m01
    have n1 : H1 no = some (.lst []) := g1.f _ _ (fun z => z.elim nc (Ne.symm nln)) upd_same
    -- behind what was found
    have tail : ∀ (wo : Addr) (us : List V) (w : List D) (p2 : Nat) (H2 : Hp), us.length ≤ 100000 → p2 ≤ os.length → H wo = none → wo ≠ mo → wo ≠ no → H2 wo = some (.lst us) → Dzs H2 us w → H2 mo = some (.lst []) → H2 no = some (.lst []) → Fk (Two cu ou) H H2 → H2 cu = some (.lst [.int (p2 : Nat)]) → H2 ou = some (.lst ys) →
        LPost ((rTake os 0 9 p2).bind fun m p2 => (rMany (rName os) m.toNat p2).bind fun l p3 => .ok (.tup [.tup w, .tup l]) p3) rD cu ou ys H Q →
        RB X (List.drop 5 (defBody sq_get_answer)) { nx := fun _ H' => Q .non H', rt := Q } [some (.ref li), some (.ref cu), some (.ref ou), some (.ref l), some (.ref mo), some (.ref no), some (.ref wo), none] H2 := by
      intro wo us w p2 H2 lu le2 hwo nwm nwn d2 hd2 m2 n2 f2 c2 u2 q2
      have wc := nlc A hwo
      walk_at "g0"
      refine re_call c dG (by decide) (by walk_at "gm") ?_
      walk_at "e"
      refine ⟨os, li, cu, mo, p2, [], 0, 9, rfl, ok5, Nat.zero_le _, A.go f2 hmo0 c2 m2 u2 le2 q2 (fun z p3 v H3 e3 f3 g3 c3 o3 u3 r3 q3 => ?_) (fun H1 hq => ?_)⟩
      · obtain rfl : v = .int z := r3
        obtain ⟨hp3, hp2, z0, z9, _⟩ := take_ok e3
        obtain ⟨m, rfl⟩ : ∃ m : Nat, z = m := ⟨z.toNat, by omega⟩
        rw [Int.toNat_natCast] at q3
        have o3' : H3 mo = some (.lst [.int (m : Int)]) := o3
        have d3 : H3 wo = some (.lst us) := g3.f _ _ (fun z => z.elim wc nwm) d2
        have n3 : H3 no = some (.lst []) := g3.f _ _ (fun z => z.elim nc (Ne.symm nmn)) n2
        have hd3 := hd2.kf g3.k
        walk_at "e"
        refine rb_cons (rs_for_range c (by walk_at "gm") .loc (by walk_at "gm") (by walk_at "gm") zr ?_)
        walk_at "e"
        refine ⟨by omega, by omega, fun i σ' H' => ∃ (vs4 : List V) (ds : List D) (p4 : Nat) (s7 : Option V), σ' = [some (.ref li), some (.ref cu), some (.ref ou), some (.ref l), some (.ref mo), some (.ref no), some (.ref wo), s7] ∧ Fk (Two cu ou) H H' ∧ H' cu = some (.lst [.int (p4 : Nat)]) ∧ H' ou = some (.lst ys) ∧ H' no = some (.lst vs4) ∧ Dzs H' vs4 ds ∧ H' wo = some (.lst us) ∧ Dzs H' us w ∧ vs4.length = i ∧ p4 ≤ os.length ∧
          rMany (rName os) m p3 = (rMany (rName os) (m - i) p4).map (ds ++ ·), ?_, fun _ _ _ _ _ => trivial, ?_, ?_⟩
        · exact ⟨[], [], p3, none, rfl, f3, c3, u3, n3, .nil, d3, hd3, rfl, by omega, by simp [Rdg.map_id]⟩
        · rintro i y σ' H4 hi rfl ⟨vs4, ds, p4, s7, rfl, f4, c4, u4, n4, hd4, d4, hw4, lv, le4, eT⟩
          have hi2 : i < m := by omega
          obtain ⟨k, hk⟩ : ∃ k, m - i = k + 1 := ⟨m - i - 1, by omega⟩
          rw [hk] at eT
          have e5 := rMany_snoc eT rfl
          have q4 := q3
          rw [e5, Rdg.bind_bind] at q4
          refine ⟨_, by walk_at "gs", ?_⟩
          walk_at "g0"
          refine re_call c dM (by decide) (by walk_at "gm") ?_
          walk_at "e"
          refine ⟨os, li, cu, no, p4, vs4, rfl, ok5, by omega, A.go f4 hno0 c4 n4 u4 le4 q4 (fun nm p5 v H5 e6 f5 g5 c5 o5 u5 r5 q5 => ?_) (fun H1 hq => ?_)⟩
          · walk_at "g"
            refine ⟨vs4 ++ [v], ds ++ [nm], p5, _, rfl, f5, c5, u5, o5, (hd4.kf g5.k).snoc r5, g5.f _ _ (fun z => z.elim wc nwn) d4, hw4.kf g5.k, by rw [List.length_append, lv]; rfl, name_le2 e6, ?_⟩
            rw [e5, e6, show m - (i + 1) = k by omega]
            rfl
          · walk_at "g"
            exact hq
        · rintro σ' H4 ⟨vs4, ds, p4, s7, rfl, f4, c4, u4, n4, hd4, d4, hw4, lv, le4, eT⟩
          have hm : m - ((m : Int)).toNat = 0 := by omega
          rw [hm] at eT
          have e5 : rMany (rName os) m p3 = .ok ds p4 := by
            rw [eT]
            show Rdg.ok (ds ++ []) p4 = _
            rw [List.append_nil]
          rw [e5] at q3
          walk_at "e"
          refine rb_cons (rs_app c (by walk_at "gm") (by constructor) (by walk_at "gs") u4 ?_)
          walk_at "e"
          refine lv_tupL (SqL.of d4) fun t1 ht1 => ?_
          obtain ⟨_, f5, c5, u5⟩ := A.new (o := .tup us) f4 c4 u4 ht1
          have n5 : (upd H4 t1 (.tup us)) no = some (.lst vs4) := by rw [upd_ne (ne_of_none n4 ht1)]; exact n4
          walk_at "e"
          refine lv_tupL (SqL.of n5) fun t2 ht2 => ?_
          obtain ⟨_, f6, c6, u6⟩ := A.new (o := .tup vs4) f5 c5 u5 ht2
          walk_at "e"
          refine ⟨by show 2 ≤ sizeLine; decide, fun t3 ht3 => ?_⟩
          obtain ⟨_, f7, c7, u7⟩ := A.new (o := .tup [.ref t1, .ref t2]) f6 c6 u6 ht3
          walk_at "e"
          refine ⟨ys, u7, by show _ < 16777216; omega, ?_⟩
          walk_at "g"
          have w1 := (Dz.newT ht1 hw4).kf (KF.new (o := .tup vs4) ht2)
          have w2 := Dz.newT ht2 (hd4.kf (KF.new (o := .tup us) ht1))
          exact q3.ok _ p4 (.ref t3) _ rfl (f7.trans (Fk.putL u7 (.inr rfl))) (by rw [upd_ne A.n3]; exact c7) upd_same ((Dz.newT ht3 (.cons w1 (.cons w2 .nil))).kf (KF.putL u7))
      · walk_at "g"
        exact hq
    walk_at "g"
    refine ⟨by show 5 ≤ sizeLine; decide, fun t ht => ?_⟩
    obtain ⟨_, f2, c2, u2⟩ := A.new (o := .lst [.str "value", .str "page", .str "nothing", .str "long", .str "far"]) f1 c1 u1 ht
    have o2 : (upd H1 t (.lst [.str "value", .str "page", .str "nothing", .str "long", .str "far"])) l = some (.lst [.int y]) := by rw [upd_ne (ne_of_none o1' ht)]; exact o1'
    have m2 : (upd H1 t (.lst [.str "value", .str "page", .str "nothing", .str "long", .str "far"])) mo = some (.lst []) := by rw [upd_ne (ne_of_none m1 ht)]; exact m1
    have n2 : (upd H1 t (.lst [.str "value", .str "page", .str "nothing", .str "long", .str "far"])) no = some (.lst []) := by rw [upd_ne (ne_of_none n1 ht)]; exact n1
    walk_at "e"
    have what : ∀ (nm : Str) (wo : Addr), (upd H1 t (.lst [.str "value", .str "page", .str "nothing", .str "long", .str "far"])) wo = none → H wo = none ∧ Fk (Two cu ou) H (upd (upd H1 t (.lst [.str "value", .str "page", .str "nothing", .str "long", .str "far"])) wo (.lst [.str nm])) ∧ (upd (upd H1 t (.lst [.str "value", .str "page", .str "nothing", .str "long", .str "far"])) wo (.lst [.str nm])) cu = some (.lst [.int (p1 : Nat)]) ∧
        (upd (upd H1 t (.lst [.str "value", .str "page", .str "nothing", .str "long", .str "far"])) wo (.lst [.str nm])) ou = some (.lst ys) ∧ wo ≠ l ∧ wo ≠ mo ∧ wo ≠ no ∧ (upd (upd H1 t (.lst [.str "value", .str "page", .str "nothing", .str "long", .str "far"])) wo (.lst [.str nm])) l = some (.lst [.int y]) ∧
        (upd (upd H1 t (.lst [.str "value", .str "page", .str "nothing", .str "long", .str "far"])) wo (.lst [.str nm])) mo = some (.lst []) ∧ (upd (upd H1 t (.lst [.str "value", .str "page", .str "nothing", .str "long", .str "far"])) wo (.lst [.str nm])) no = some (.lst []) := fun nm wo hwo => by
      obtain ⟨w0, f3, c3, u3⟩ := A.new (o := .lst [.str nm]) f2 c2 u2 hwo
      exact ⟨w0, f3, c3, u3, Ne.symm (ne_of_none o2 hwo), Ne.symm (ne_of_none m2 hwo), Ne.symm (ne_of_none n2 hwo), by rw [upd_ne (ne_of_none o2 hwo)]; exact o2, by rw [upd_ne (ne_of_none m2 hwo)]; exact m2, by rw [upd_ne (ne_of_none n2 hwo)]; exact n2⟩
    have other : ∀ (j : Nat) (nm : Str), y = (j : Int) → 2 ≤ j → nm = (if y = 2 then ("nothing" : Str) else if y = 3 then "long" else "far") → ∀ wo, (upd H1 t (.lst [.str "value", .str "page", .str "nothing", .str "long", .str "far"])) wo = none →
        RB X (List.drop 3 (defBody sq_get_answer)) { nx := fun _ H' => Q .non H', rt := Q } [some (.ref li), some (.ref cu), some (.ref ou), some (.ref l), some (.ref mo), some (.ref no), some (.ref wo), none] (upd (upd H1 t (.lst [.str "value", .str "page", .str "nothing", .str "long", .str "far"])) wo (.lst [.str nm])) := fun j nm hy hj hnm wo hwo => by
      obtain ⟨w0, f3, c3, u3, wl, wm, wn, o3, m3, n3⟩ := what nm wo hwo
      rw [if_neg (by omega), if_neg (by omega), ← hnm] at q1
      walk_at "g0"
      refine iteDN (by omega) ?_
      walk_at "g"
      refine iteDN (by omega) ?_
      walk_at "e"
      exact tail wo [.str nm] [.str nm] p1 _ (by show 1 ≤ 100000; decide) (by omega) w0 wm wn upd_same (.cons .str .nil) m3 n3 f3 c3 u3 q1
    rcases (by omega : y = 0 ∨ y = 1 ∨ y = 2 ∨ y = 3 ∨ y = 4) with rfl | rfl | rfl | rfl | rfl
    · refine iv_list (SqL.of upd_same) (at_nat (i := 0) rfl) ?_
      walk_at "e"
      refine ⟨by show 1 ≤ sizeLine; decide, fun wo hwo => ?_⟩
      obtain ⟨w0, f3, c3, u3, wl, wm, wn, o3, m3, n3⟩ := what "value" wo hwo
      rw [if_pos rfl, Rdg.bind_bind] at q1
      walk_at "g"
      refine iteD (by decide) ?_
      walk_at "e"
      refine re_call c dN (by decide) (by walk_at "gm") ?_
      walk_at "e"
      refine ⟨os, li, cu, wo, p1, [.str "value"], rfl, ok5, by show 1 ≤ 100000; decide, A.go f3 w0 c3 upd_same u3 (by omega) q1 (fun n p2 v H3 e4 f4 g4 c4 o4 u4 r4 q4 => ?_) (fun H1 hq => ?_)⟩
      · obtain rfl : v = .int n := r4
        have o5 : H3 l = some (.lst [.int 0]) := g4.f _ _ (fun z => z.elim lc (Ne.symm wl)) o3
        have m5 : H3 mo = some (.lst []) := g4.f _ _ (fun z => z.elim mc (Ne.symm wm)) m3
        have n5 : H3 no = some (.lst []) := g4.f _ _ (fun z => z.elim nc (Ne.symm wn)) n3
        walk_at "g"
        refine iteDN (by decide) ?_
        walk_at "e"
        exact tail wo [.str "value", .int n] [.str "value", .int n] p2 H3 (by show 2 ≤ 100000; decide) (num_le2 e4).2 w0 wm wn o4 (.cons .str (.cons .int .nil)) m5 n5 f4 c4 u4 q4
      · walk_at "g"
        exact hq
    · refine iv_list (SqL.of upd_same) (at_nat (i := 1) rfl) ?_
      walk_at "e"
      refine ⟨by show 1 ≤ sizeLine; decide, fun wo hwo => ?_⟩
      obtain ⟨w0, f3, c3, u3, wl, wm, wn, o3, m3, n3⟩ := what "page" wo hwo
      rw [if_neg (by decide), if_pos rfl, Rdg.bind_bind] at q1
      walk_at "g"
      refine iteDN (by decide) ?_
      walk_at "g"
      refine iteD (by decide) ?_
      walk_at "g"
      refine re_call c dG (by decide) (by walk_at "gm") ?_
      walk_at "e"
      refine ⟨os, li, cu, wo, p1, [.str "page"], 0, 31, rfl, ok5, by show 1 ≤ 100000; decide, A.go f3 w0 c3 upd_same u3 (by omega) q1 (fun n p2 v H3 e4 f4 g4 c4 o4 u4 r4 q4 => ?_) (fun H1 hq => ?_)⟩
      · obtain rfl : v = .int n := r4
        rw [Rdg.bind_bind] at q4
        have o4' : H3 wo = some (.lst [.str "page", .int n]) := o4
        have m5 : H3 mo = some (.lst []) := g4.f _ _ (fun z => z.elim mc (Ne.symm wm)) m3
        have n5 : H3 no = some (.lst []) := g4.f _ _ (fun z => z.elim nc (Ne.symm wn)) n3
        walk_at "g"
        refine re_call c dI (by decide) (by walk_at "gm") ?_
        walk_at "e"
        refine ⟨Nat.zero_le _, fun e0 he0 => ?_⟩
        obtain ⟨_, f5, c5, u5⟩ := A.new (o := .tup []) f4 c4 u4 he0
        walk_at "e"
        refine ⟨by show 1 ≤ sizeLine; decide, fun nn hnn => ?_⟩
        obtain ⟨nn0, f6, c6, u6⟩ := A.new (o := .lst [.ref e0]) f5 c5 u5 hnn
        have o5 : (upd H3 e0 (.tup [])) wo = some (.lst [.str "page", .int n]) := by rw [upd_ne (ne_of_none o4' he0)]; exact o4'
        have m6 : (upd H3 e0 (.tup [])) mo = some (.lst []) := by rw [upd_ne (ne_of_none m5 he0)]; exact m5
        have n6 : (upd H3 e0 (.tup [])) no = some (.lst []) := by rw [upd_ne (ne_of_none n5 he0)]; exact n5
        walk_at "e"
        have e0z : Dz (upd (upd H3 e0 (.tup [])) nn (.lst [.ref e0])) (.ref e0) (.tup []) := (Dz.newT he0 .nil).kf (KF.new hnn)
        refine ⟨os, li, cu, nn, wo, p2, [.str "page", .int n], [.ref e0], rTerm os (.tup []), rfl, ok5, by show 2 ≤ 100000; decide, and_mid4 upd_same (nlc A nn0) (Ne.symm (ne_of_none o5 hnn)) (.inr ⟨.ref e0, .tup [], rfl, e0z, rfl⟩) (A.go (H1 := upd (upd H3 e0 (.tup [])) nn (.lst [.ref e0])) (fo := wo) f6 w0 c6 (by rw [upd_ne (ne_of_none o5 hnn)]; exact o5) u6 (by have := take_ok e4; omega) q4 (fun d p3 v H4 e5 f7 g7 c7 o7 u7 r7 q7 => ?_) (fun H1 hq => ?_))⟩
        · have o8 : H4 wo = some (.lst [.str "page", .int n, v]) := o7
          have m8 : H4 mo = some (.lst []) := g7.f _ _ (fun z => z.elim mc (Ne.symm wm)) (by rw [upd_ne (ne_of_none m6 hnn)]; exact m6)
          have n8 : H4 no = some (.lst []) := g7.f _ _ (fun z => z.elim nc (Ne.symm wn)) (by rw [upd_ne (ne_of_none n6 hnn)]; exact n6)
          walk_at "e"
          exact tail wo _ [.str "page", .int n, d] p3 H4 (by show 3 ≤ 100000; decide) (term_le2 e5) w0 wm wn o8 (.cons .str (.cons .int (.cons r7 .nil))) m8 n8 f7 c7 u7 q7
        · walk_at "g"
          exact hq
      · walk_at "g"
        exact hq
    · refine iv_list (SqL.of upd_same) (at_nat (i := 2) rfl) ?_
      walk_at "e"
      refine ⟨by show 1 ≤ sizeLine; decide, fun wo hwo => ?_⟩
      walk_at "e"
      exact other 2 "nothing" rfl (by decide) (by decide) wo hwo
    · refine iv_list (SqL.of upd_same) (at_nat (i := 3) rfl) ?_
      walk_at "e"
      refine ⟨by show 1 ≤ sizeLine; decide, fun wo hwo => ?_⟩
      walk_at "e"
      exact other 3 "long" rfl (by decide) (by decide) wo hwo
    · refine iv_list (SqL.of upd_same) (at_nat (i := 4) rfl) ?_
      walk_at "e"
      refine ⟨by show 1 ≤ sizeLine; decide, fun wo hwo => ?_⟩
      walk_at "e"
      exact other 4 "far" rfl (by decide) (by decide) wo hwo
  · walk_at "g"
    exact hq
end
local macro_rules | `(tactic| walk_at "sq") => `(tactic| first | refine iteD rfl ?_ | refine iteDN (by decide +kernel) ?_)
section
variable {α β : Type} {X : Cx} {os : ORow} {vs : List V} {H H0 H1 : Hp} {Q Q1 : VK} {E : XK} {li cu ou fo : Addr} {p p1 : Nat} {ys zs ys' : List V} {k : Nat}
theorem _root_.GT.LPost.move {r : Rdg α} {rel : Hp → V → α → Prop} (q : LPost r rel cu ou ys H Q) (f : Fk (Two cu ou) H H1) : LPost r rel cu ou ys H1 Q :=
  ⟨fun x p v H' e f1 => q.ok x p v H' e (f.trans f1), fun j H' e f1 => q.bad j H' e (f.trans f1)⟩
theorem _root_.GT.LPost.imp {r : Rdg α} {rel rel2 : Hp → V → α → Prop} (q : LPost r rel cu ou ys H Q) (h : ∀ H v x, rel2 H v x → rel H v x) : LPost r rel2 cu ou ys H Q :=
  ⟨fun x p v H' e f1 h1 h2 hr => q.ok x p v H' e f1 h1 h2 (h _ _ _ hr), q.bad⟩
theorem _root_.GT.LAt.upd {o : HO} (A : LAt os li cu ou p ys H) (hn : H fo = none) : LAt os li cu ou p ys (upd H fo o) := by
  obtain ⟨us, h1, h2⟩ := A.row
  refine ⟨⟨us, by rw [upd_ne (ne_of_none h1 hn)]; exact h1, h2.kf (KF.new hn)⟩, by rw [upd_ne (ne_of_none A.cur hn)]; exact A.cur, by rw [upd_ne (ne_of_none A.out hn)]; exact A.out, A.n1, A.n2, A.n3, A.le⟩
def spGP : Sp := fun vs H Q _ => ∃ (os : ORow) (li cu ou : Addr) (p : Nat) (ys : List V) (w : Wd), vs = [.ref li, .ref cu, .str (wdS w), .ref ou] ∧ OsOk os ∧ ys.length ≤ 100000 ∧ LAt os li cu ou p ys H ∧ LPost (rPart os w p) rD cu ou ys H Q
theorem body_get_part (c : Ctx X nq_get_part lq_get_part 6) (dG : DG X "_law_get" ["items", "cursor", "low", "high", "out"] 1 spGet) (dI : DG X "_law_get_id" ["items", "cursor", "none", "out"] 3 spGI) (dL : DG X "_law_get_label" ["items", "cursor", "floor", "out"] 2 spGL) (dF : DG X "_law_get_fraction" ["items", "cursor", "out"] 3 (spLG rFrac rD))
    (dM : DG X "_law_get_name" ["items", "cursor", "out"] 3 (spLG rName rD)) (dE : DG X "_law_get_entry" ["items", "cursor", "low", "high", "out"] 6 spGE) (dA : DG X "_law_get_answer" ["items", "cursor", "out"] 4 (spLG rAnswer rD)) (h : spGP vs H Q E) :
    RB X (defBody sq_get_part) { nx := fun _ H' => Q .non H', rt := Q } (start nq_get_part vs) H := by
  obtain ⟨os, li, cu, ou, p, ys, w, rfl, ok5, ly, A, q⟩ := h
  show RB X (defBody sq_get_part) _ [some (.ref li), some (.ref cu), some (.str (wdS w)), some (.ref ou)] H
  walk_at "g0"
  cases w with
  | kept =>
    repeat (first | walk_at "sq" | walk_at "g1")
    refine re_call c dI (by decide) (by walk_at "gm") ?_
    repeat (first | walk_at "sq" | walk_at "g1")
    refine ⟨by show 1 ≤ sizeLine; decide, fun nn hnn => ?_⟩
    walk_at "e"
    exact ⟨os, li, cu, nn, ou, p, ys, [.non], rTerm os .non, rfl, ok5, ly, A.upd hnn, upd_same, nlc A hnn, Ne.symm (A.neo hnn), .inr ⟨.non, .non, rfl, .non, rfl⟩, q.move (Fk.new hnn)⟩
  | term =>
    repeat (first | walk_at "sq" | walk_at "g1")
    refine re_call c dI (by decide) (by walk_at "gm") ?_
    repeat (first | walk_at "sq" | walk_at "g1")
    refine ⟨Nat.zero_le _, fun e0 he0 => ?_⟩
    walk_at "e"
    refine ⟨by show 1 ≤ sizeLine; decide, fun nn hnn => ?_⟩
    walk_at "e"
    have A1 := A.upd (o := .tup []) he0
    exact ⟨os, li, cu, nn, ou, p, ys, [.ref e0], rTerm os (.tup []), rfl, ok5, ly, A1.upd hnn, upd_same, nlc A1 hnn, Ne.symm (A1.neo hnn), .inr ⟨.ref e0, .tup [], rfl, (Dz.newT he0 .nil).kf (KF.new hnn), rfl⟩, q.move ((Fk.new he0).trans (Fk.new hnn))⟩
  | node =>
    repeat (first | walk_at "sq" | walk_at "g1")
    refine re_call c dG (by decide) (by walk_at "gm") ?_
    repeat (first | walk_at "sq" | walk_at "g1")
    exact ⟨os, li, cu, ou, p, ys, 0, 31, rfl, ok5, ly, A, (LPost.map q).imp fun H v x e => by obtain rfl : v = .int x := e; exact .int⟩
  | most =>
    repeat (first | walk_at "sq" | walk_at "g1")
    refine re_call c dG (by decide) (by walk_at "gm") ?_
    repeat (first | walk_at "sq" | walk_at "g1")
    exact ⟨os, li, cu, ou, p, ys, 0, 8, rfl, ok5, ly, A, (LPost.map q).imp fun H v x e => by obtain rfl : v = .int x := e; exact .int⟩
  | id =>
    repeat (first | walk_at "sq" | walk_at "g1")
    refine re_call c dI (by decide) (by walk_at "gm") ?_
    walk_at "e"
    refine ⟨Nat.zero_le _, fun nn hnn => ?_⟩
    walk_at "e"
    exact ⟨os, li, cu, nn, ou, p, ys, [], rId os, rfl, ok5, ly, A.upd hnn, upd_same, nlc A hnn, Ne.symm (A.neo hnn), .inl ⟨rfl, rfl⟩, q.move (Fk.new hnn)⟩
  | label =>
    repeat (first | walk_at "sq" | walk_at "g1")
    refine re_call c dL (by decide) (by walk_at "gm") ?_
    walk_at "e"
    exact ⟨os, li, cu, ou, p, ys, [], rfl, ok5, ly, A, (LPost.map q).imp fun H v x e => by obtain rfl : v = sV x := e; exact .str⟩
  | fraction =>
    repeat (first | walk_at "sq" | walk_at "g1")
    refine re_call c dF (by decide) (by walk_at "gm") ?_
    walk_at "e"
    exact ⟨os, li, cu, ou, p, ys, rfl, ok5, ly, A, q⟩
  | name =>
    repeat (first | walk_at "sq" | walk_at "g1")
    refine re_call c dM (by decide) (by walk_at "gm") ?_
    walk_at "e"
    exact ⟨os, li, cu, ou, p, ys, rfl, ok5, ly, A, q⟩
  | entry =>
    repeat (first | walk_at "sq" | walk_at "g1")
    refine re_call c dE (by decide) (by walk_at "gm") ?_
    walk_at "e"
    exact ⟨os, li, cu, ou, p, ys, 0, 3, rfl, by decide, by decide, ok5, ly, A, q⟩
  | answer =>
    repeat (first | walk_at "sq" | walk_at "g1")
    refine re_call c dA (by decide) (by walk_at "gm") ?_
    walk_at "e"
    exact ⟨os, li, cu, ou, p, ys, rfl, ok5, ly, A, q⟩
end
structure OPost (r : Rdg D) (cu : Addr) (H : Hp) (Q : VK) : Prop where
  ok : ∀ d p v H', r = .ok d p → Fk (· = cu) H H' → H' cu = some (.lst [.int (p : Nat)]) → Dz H' v d → Q v H'
  bad : ∀ j H', r = .bad j → Fk (· = cu) H H' → H' cu = some (.lst [.int (j : Nat)]) → Q .non H'
structure OAt (os : ORow) (li cu : Addr) (p : Nat) (H : Hp) : Prop where
  row : ∃ vs, H li = some (.lst vs) ∧ Items H vs os
  cur : H cu = some (.lst [.int (p : Nat)])
  n1 : li ≠ cu
  le : p ≤ os.length
theorem kf_fr {H H' : Hp} (f : Fr NoB H H') : KF H H' := ⟨fun a xs h => f _ _ (fun z => z) h, fun a xs h => ⟨xs, f _ _ (fun z => z) h⟩⟩
section
variable {α : Type} {X : Cx} {os : ORow} {vs : List V} {H H0 H1 : Hp} {Q Q1 : VK} {E : XK} {li cu ou fo : Addr} {p p1 : Nat} {ys zs ys' : List V} {k : Nat}
theorem OAt.go {r : Rdg α} {g : α → Nat → Rdg D} {rel : Hp → V → α → Prop} (A : OAt os li cu p H) (f : Fk (· = cu) H H1) (hn : H fo = none) (hc : H1 cu = some (.lst [.int (p1 : Nat)])) (hf : H1 fo = some (.lst zs)) (le : p1 ≤ os.length) (q : OPost (r.bind g) cu H Q)
    (k : ∀ x p2 v H', r = .ok x p2 → Fk (· = cu) H H' → Fk (Two cu fo) H1 H' → H' cu = some (.lst [.int (p2 : Nat)]) → H' fo = some (.lst (zs ++ [v])) → rel H' v x → OPost (g x p2) cu H Q → Q1 (.bl true) H') (kb : ∀ H', Q .non H' → Q1 (.bl false) H') :
    LAt os li cu fo p1 zs H1 ∧ LPost r rel cu fo zs H1 Q1 := by
  obtain ⟨us, h1, h2⟩ := A.row
  have ff : ∀ {H'}, Fk (Two cu fo) H1 H' → Fk (· = cu) H H' := fun f1 => f.loc f1 fun x z => z.elim .inl fun z => .inr (by rw [z]; exact hn)
  refine ⟨⟨⟨us, f.f _ _ A.n1 h1, h2.kf f.k⟩, hc, hf, A.n1, ne_of_none h1 hn, ne_of_none A.cur hn, le⟩, fun x p2 v H' e f1 c1 o1 r1 => ?_, fun j H' e f1 c1 _ => ?_⟩
  · subst e
    exact k x p2 v H' rfl (ff f1) f1 c1 o1 r1 q
  · subst e
    exact kb H' (q.bad j H' rfl (ff f1) c1)
theorem OAt.new {o : HO} (A : OAt os li cu p H) (f : Fk (· = cu) H H1) (hc : H1 cu = some (.lst [.int (p1 : Nat)])) (hn : H1 fo = none) : H fo = none ∧ Fk (· = cu) H (upd H1 fo o) ∧ (upd H1 fo o) cu = some (.lst [.int (p1 : Nat)]) :=
  ⟨f.gone (fun z => by subst z; rw [hc] at hn; cases hn) hn, f.trans (Fk.new hn), by rw [upd_ne (ne_of_none hc hn)]; exact hc⟩
theorem id_le2 {p p2 : Nat} {d : D} (h : rId os p = .ok d p2) : p2 ≤ os.length := by
  unfold rId at h
  cases e1 : rTake os 0 31 p with
  | bad j => rw [e1] at h; cases h
  | ok a p3 => rw [e1] at h; exact id2_le2 h
theorem frac_le2 {p p2 : Nat} {d : D} (h : rFrac os p = .ok d p2) : p2 ≤ os.length := by
  rw [rFrac_eq] at h
  cases e1 : rNum os p with
  | bad j => rw [e1] at h; cases h
  | ok s p1 =>
    rw [e1] at h
    change ((rTake os 1 255 p1).bind fun a p2 => if 128 ≤ a ∧ fCut (topOf s) a then .bad p1 else (rBehind os a p2).bind fun l p3 => fFin (topOf s) l p3) = _ at h
    cases e2 : rTake os 1 255 p1 with
    | bad j => rw [e2] at h; cases h
    | ok a p3 =>
      rw [e2] at h
      have := take_ok e2
      change (if 128 ≤ a ∧ fCut (topOf s) a then Rdg.bad p1 else (rBehind os a p3).bind fun l p3 => fFin (topOf s) l p3) = _ at h
      split at h
      · cases h
      · cases e3 : rBehind os a p3 with
        | bad j => rw [e3] at h; cases h
        | ok l p4 =>
          rw [e3] at h
          change fFin (topOf s) l p4 = _ at h
          unfold fFin at h
          split at h
          · cases h
            unfold rBehind at e3
            split at e3
            · cases e3
              omega
            · cases e4 : rDigs os 1 os.length p3 with
              | bad j => rw [e4] at e3; cases e3
              | ok l2 p5 =>
                rw [e4] at e3
                cases e3
                exact (digs_le2 e4).2
          · cases h
theorem rows_ok2 {lo hi : Int} {p p2 : Nat} {d : D} (h : rEntry os lo hi p = .ok d p2) : p2 ≤ os.length := by
  unfold rEntry at h
  cases e1 : rTake os lo hi p with
  | bad j => rw [e1] at h; cases h
  | ok k p3 =>
    rw [e1] at h
    have := take_ok e1
    change (if k = 0 then Rdg.ok .non p3 else if k = 3 then (rTake os 0 31 p3).bind fun h p2 => (rRows os 6 [] p2).bind fun rs p3 => .ok (.tup [.str "page", .int h, .tup rs]) p3 else rPlain os k p3) = _ at h
    split at h
    · cases h; omega
    · split at h
      · cases e2 : rTake os 0 31 p3 with
        | bad j => rw [e2] at h; cases h
        | ok n p4 =>
          rw [e2] at h
          change ((rRows os 6 [] p4).bind fun rs p3 => Rdg.ok (D.tup [.str "page", .int n, .tup rs]) p3) = _ at h
          cases e3 : rRows os 6 [] p4 with
          | bad j => rw [e3] at h; cases h
          | ok rs p5 => rw [e3] at h; cases h; exact rows_le2 e3
      · exact plain_le2 h
theorem answer_le2 {p p2 : Nat} {d : D} (h : rAnswer os p = .ok d p2) : p2 ≤ os.length := by
  unfold rAnswer at h
  cases e1 : rFound os p with
  | bad j => rw [e1] at h; cases h
  | ok w p3 =>
    rw [e1] at h
    change ((rTake os 0 9 p3).bind fun m p2 => (rMany (rName os) m.toNat p2).bind fun l p3 => Rdg.ok (D.tup [w, .tup l]) p3) = _ at h
    cases e2 : rTake os 0 9 p3 with
    | bad j => rw [e2] at h; cases h
    | ok m p4 =>
      rw [e2] at h
      have := take_ok e2
      change ((rMany (rName os) m.toNat p4).bind fun l p3 => Rdg.ok (D.tup [w, .tup l]) p3) = _ at h
      cases e3 : rMany (rName os) m.toNat p4 with
      | bad j => rw [e3] at h; cases h
      | ok l p5 => rw [e3] at h; cases h; exact many_le2 (fun p a p2 z => name_le2 z) e3 (by omega)
theorem part_le2 {w : Wd} {p p2 : Nat} {d : D} (h : rPart os w p = .ok d p2) : p2 ≤ os.length := by
  have one : ∀ {lo hi : Int}, (rTake os lo hi p).map D.int = .ok d p2 → p2 ≤ os.length := fun {lo hi} h => by
    cases e1 : rTake os lo hi p with
    | bad j => rw [e1] at h; cases h
    | ok a p3 => rw [e1] at h; cases h; have := take_ok e1; omega
  cases w with
  | kept => exact term_le2 h
  | term => exact term_le2 h
  | node => exact one h
  | most => exact one h
  | id => exact id_le2 h
  | label =>
    change (rLabel os [] p).map sD = _ at h
    cases e1 : rLabel os [] p with
    | bad j => rw [e1] at h; cases h
    | ok a p3 => rw [e1] at h; cases h; exact lab_le2 e1
  | fraction => exact frac_le2 h
  | name => exact name_le2 h
  | entry => exact rows_ok2 h
  | answer => exact answer_le2 h
def spOne : Sp := fun vs H Q _ => ∃ (os : ORow) (li cu : Addr) (p : Nat), vs = [.ref li, .ref cu] ∧ OsOk os ∧ OAt os li cu p H ∧ OPost (rEvent os p) cu H Q
theorem body_one (c : Ctx X nq_one lq_one 7) (zt : X.mg "tuple" = none) (dG : DG X "_law_get" ["items", "cursor", "low", "high", "out"] 1 spGet) (dI : DG X "_law_get_id" ["items", "cursor", "none", "out"] 3 spGI) (dF : DG X "_law_get_fraction" ["items", "cursor", "out"] 3 (spLG rFrac rD)) (dP : DG X "_law_get_part" ["items", "cursor", "word", "out"] 7 spGP)
    (dK : DG X "_law_kinds" [] 1 spKinds) (dW : DG X "_law_words" ["kind"] 1 spWords) (h : spOne vs H Q E) : RB X (defBody sq_one) { nx := fun _ H' => Q .non H', rt := Q } (start nq_one vs) H := by
  obtain ⟨os, li, cu, p, rfl, ok5, A, q⟩ := h
  show RB X (defBody sq_one) _ [some (.ref li), some (.ref cu), none, none, none, none] H
  refine rb_cons (rs_par2 c (by walk_at "gm") (by walk_at "gm") (by walk_at "gm") (by walk_at "gm") (by decide) ?_)
  walk_at "e"
  refine ⟨Nat.zero_le _, fun fo hfo => ?_⟩
  obtain ⟨hfo0, f0, c0⟩ := A.new (o := .lst []) Fk.refl A.cur hfo
  walk_at "e"
  refine ⟨Nat.zero_le _, fun l hl => ?_⟩
  obtain ⟨hl0, f00, c00⟩ := A.new (o := .lst []) f0 c0 hl
  have nfl : fo ≠ l := ne_of_none upd_same hl
  have nfc : fo ≠ cu := fun z => by rw [z, A.cur] at hfo0; cases hfo0
  have nlc : l ≠ cu := fun z => by rw [z, A.cur] at hl0; cases hl0
  have d00 : (upd (upd H fo (.lst [])) l (.lst [])) fo = some (.lst []) := by rw [upd_ne nfl]; exact upd_same
  walk_at "e"
  refine ⟨_, _, _, _, rfl, by walk_at "gs", by walk_at "gs", ?_⟩
  walk_at "g"
  refine re_call c dI (by decide) (by walk_at "gm") ?_
  walk_at "e"
  refine ⟨Nat.zero_le _, fun nn hnn => ?_⟩
  obtain ⟨hnn0, f1, c1⟩ := A.new (o := .lst []) f00 c00 hnn
  have d1 : (upd (upd (upd H fo (.lst [])) l (.lst [])) nn (.lst [])) fo = some (.lst []) := by rw [upd_ne (ne_of_none d00 hnn)]; exact d00
  have l1 : (upd (upd (upd H fo (.lst [])) l (.lst [])) nn (.lst [])) l = some (.lst []) := by rw [upd_ne (ne_of_none upd_same hnn)]; exact upd_same
  walk_at "e"
  refine ⟨os, li, cu, nn, fo, p, [], [], rId os, rfl, ok5, Nat.zero_le _, and_mid4 upd_same (fun z => by rw [z, A.cur] at hnn0; cases hnn0) (Ne.symm (ne_of_none d00 hnn)) (.inl ⟨rfl, rfl⟩) (A.go f1 hfo0 c1 d1 A.le q (fun i p1 vi H1 e1 f2 g2 c2 o2 r2 q2 => ?_) (fun H1 hq => ?_))⟩
  · have o2' : H1 fo = some (.lst [vi]) := o2
    have l2 : H1 l = some (.lst []) := g2.f _ _ (fun z => z.elim nlc (Ne.symm nfl)) l1
    walk_at "g"
    refine re_call c dF (by decide) (by walk_at "gm") ?_
    walk_at "e"
    refine ⟨os, li, cu, fo, p1, [vi], rfl, ok5, by show 1 ≤ 100000; decide, A.go f2 hfo0 c2 o2' (id_le2 e1) q2 (fun f p2 vf H2 e2 f3 g3 c3 o3 r3 q3 => ?_) (fun H1 hq => ?_)⟩
    · have o3' : H2 fo = some (.lst [vi, vf]) := o3
      have l3 : H2 l = some (.lst []) := g3.f _ _ (fun z => z.elim nlc (Ne.symm nfl)) l2
      walk_at "g"
      refine re_call c dG (by decide) (by walk_at "gm") ?_
      walk_at "e"
      refine ⟨os, li, cu, l, p2, [], 0, 10, rfl, ok5, Nat.zero_le _, A.go f3 hl0 c3 l3 (frac_le2 e2) q3 (fun y p3 v H3 e3 f4 g4 c4 o4 r4 q4 => ?_) (fun H1 hq => ?_)⟩
      · obtain rfl : v = .int y := r4
        obtain ⟨hp3, _, y0, y1, _⟩ := take_ok e3
        obtain ⟨j, rfl⟩ : ∃ j : Nat, y = j := ⟨y.toNat, by omega⟩
        rw [Int.toNat_natCast] at q4
        obtain ⟨k, ws, hd⟩ : ∃ k ws, deeds[j]? = some (k, ws) := ⟨_, _, List.getElem?_eq_getElem (show j < deeds.length by show j < 11; omega)⟩
        have e4 : deeds.getD j ("", []) = (k, ws) := by
          rw [List.getD_eq_getElem?_getD, hd]
          rfl
        rw [e4] at q4
        have hkt : kindTab[j]? = some (k, ws.map wdS) := by
          rw [kind_tab, List.getElem?_map, hd]
          rfl
        have hkk : KINDSL[j]? = some k := (kind_bd hkt).2.1
        have wl : ws.length ≤ 4 := by have := (kind_bd hkt).1; rwa [List.length_map] at this
        have o4' : H3 l = some (.lst [.int (j : Int)]) := o4
        have d4 : H3 fo = some (.lst [vi, vf]) := g4.f _ _ (fun z => z.elim nfc nfl) o3'
        have vi4 := (r2.kf g3.k).kf g4.k
        have vf4 := r3.kf g4.k
        walk_at "g"
        refine re_call0 c dK (by decide) (by walk_at "gm") ⟨rfl, fun lk hlk => ?_⟩
        obtain ⟨_, f5, c5⟩ := A.new (o := .lst (KINDSL.map V.str)) f4 c4 hlk
        have o5 : (upd H3 lk (.lst (KINDSL.map V.str))) l = some (.lst [.int (j : Int)]) := by rw [upd_ne (ne_of_none o4' hlk)]; exact o4'
        have d5 : (upd H3 lk (.lst (KINDSL.map V.str))) fo = some (.lst [vi, vf]) := by rw [upd_ne (ne_of_none d4 hlk)]; exact d4
        walk_at "e"
        refine iv_list (SqL.of upd_same) (at_nat (i := j) (v := .str k) (by rw [List.getElem?_map, hkk]; rfl)) ?_
        walk_at "e"
        refine ⟨by show 1 ≤ sizeLine; decide, fun dl hdl => ?_⟩
        obtain ⟨hdl0, f6, c6⟩ := A.new (o := .lst [.str k]) f5 c5 hdl
        have o6 : (upd (upd H3 lk (.lst (KINDSL.map V.str))) dl (.lst [.str k])) l = some (.lst [.int (j : Int)]) := by rw [upd_ne (ne_of_none o5 hdl)]; exact o5
        have d6 : (upd (upd H3 lk (.lst (KINDSL.map V.str))) dl (.lst [.str k])) fo = some (.lst [vi, vf]) := by rw [upd_ne (ne_of_none d5 hdl)]; exact d5
        have ndf : dl ≠ fo := Ne.symm (ne_of_none d5 hdl)
        have ndc : dl ≠ cu := fun z => by rw [z, A.cur] at hdl0; cases hdl0
        have kf6 := (KF.new (o := .lst (KINDSL.map V.str)) hlk).trans (KF.new (o := .lst [.str k]) hdl)
        walk_at "e"
        refine rb_cons (rs_for_list c (by walk_at "gm") .loc (by walk_at "gm") ?_)
        refine re_call c dW (by decide) (by walk_at "gm") ?_
        walk_at "e"
        refine ⟨j, k, ws.map wdS, rfl, hkt, fun wl2 H7 f7 h7 => ?_⟩
        have k7 := kf_fr f7
        have g7 : Fk (· = cu) H H7 := f6.trans ⟨fun a o n e => f7 a o (fun z => z) e, k7⟩
        have c7 := f7 _ _ (fun z => z) c6
        have d7 := f7 _ _ (fun z => z) d6
        have m7 := f7 _ _ (fun z => z) (show (upd (upd H3 lk (.lst (KINDSL.map V.str))) dl (.lst [.str k])) dl = some (.lst [.str k]) from upd_same)
        have nwc : wl2 ≠ cu := fun z => by
          rw [z, c7] at h7
          have := HO.lst.inj (Option.some.inj h7)
          cases ws with
          | nil => simp at this
          | cons w r => simp at this
        have nwd : wl2 ≠ dl := fun z => by
          rw [z, m7] at h7
          have e9 := HO.lst.inj (Option.some.inj h7)
          have key : ∀ j : _root_.Fin 11, ((deeds[j.val]?).map fun x => decide (x.2.map wdS ≠ [x.1])) = some true := by decide +kernel
          have k9 := key ⟨j, by omega⟩
          rw [show deeds[(⟨j, by omega⟩ : _root_.Fin 11).val]? = some (k, ws) from hd] at k9
          have k10 : ws.map wdS ≠ [k] := of_decide_eq_true (Option.some.inj k9)
          refine k10 ?_
          have e10 : [k].map V.str = (ws.map wdS).map V.str := e9
          exact ((List.map_inj_right (fun a b h => V.str.inj h)).mp e10).symm
        refine ⟨wl2, (ws.map wdS).map V.str, rfl, SqL.of h7, fun m σ' H' => ∃ (us : List V) (ds : List D) (p4 : Nat) (s5 : Option V), σ' = [some (.ref li), some (.ref cu), some (.ref fo), some (.ref l), some (.ref dl), s5] ∧ Fk (· = cu) H H' ∧ H' cu = some (.lst [.int (p4 : Nat)]) ∧ H' fo = some (.lst [vi, vf]) ∧ H' dl = some (.lst (.str k :: us)) ∧ Dzs H' us ds ∧ us.length = m ∧ p4 ≤ os.length ∧
          Dz H' vi i ∧ Dz H' vf f ∧ H' wl2 = some (.lst ((ws.map wdS).map V.str)) ∧ rParts os ws p3 = (rParts os (ws.drop m) p4).map (ds ++ ·), ?_, ?_, ?_, ?_⟩
        · exact ⟨[], [], p3, none, rfl, g7, c7, d7, m7, .nil, rfl, by omega, vi4.kf (kf6.trans k7), vf4.kf (kf6.trans k7), h7, by simp [Rdg.map_id]⟩
        · rintro m σ' H' _ ⟨us, ds, p4, s5, rfl, f8, c8, d8, m8, hd8, lu, le8, hi8, hf8, w8, e8⟩
          exact SqL.of w8
        · rintro m y σ' H' hm hy ⟨us, ds, p4, s5, rfl, f8, c8, d8, m8, hd8, lu, le8, hi8, hf8, w8, e8⟩
          rw [List.getElem?_map, List.getElem?_map] at hy
          rw [List.length_map, List.length_map] at hm
          obtain ⟨w, hw⟩ : ∃ w, ws[m]? = some w := ⟨_, List.getElem?_eq_getElem hm⟩
          rw [hw] at hy
          obtain rfl : y = .str (wdS w) := (Option.some.inj hy).symm
          have e9 := rParts_snoc e8 hw
          have q5 := q4
          rw [e9, Rdg.bind_bind] at q5
          refine ⟨_, by walk_at "gs", ?_⟩
          walk_at "g0"
          refine re_call c dP (by decide) (by walk_at "gm") ?_
          walk_at "e"
          refine ⟨os, li, cu, dl, p4, .str k :: us, w, rfl, ok5, by rw [List.length_cons]; omega, A.go f8 hdl0 c8 m8 le8 q5 (fun d p5 v H9 e10 f9 g9 c9 o9 r9 q6 => ?_) (fun H1 hq => ?_)⟩
          · walk_at "g"
            refine ⟨us ++ [v], ds ++ [d], p5, _, rfl, f9, c9, g9.f _ _ (fun z => z.elim nfc (Ne.symm ndf)) d8, o9, (hd8.kf g9.k).snoc r9, by rw [List.length_append, lu]; rfl, part_le2 e10, hi8.kf g9.k, hf8.kf g9.k, g9.f _ _ (fun z => z.elim nwc nwd) w8, ?_⟩
            rw [e9, e10]
            rfl
          · walk_at "g"
            exact hq
        · rintro σ' H' ⟨us, ds, p4, s5, rfl, f8, c8, d8, m8, hd8, lu, le8, hi8, hf8, w8, e8⟩
          have e9 : rParts os ws p3 = .ok ds p4 := by
            rw [e8, List.drop_of_length_le (by simp)]
            show Rdg.ok (ds ++ []) p4 = _
            rw [List.append_nil]
          rw [e9] at q4
          walk_at "g"
          refine lv_tupL (SqL.of m8) fun t1 ht1 => ?_
          obtain ⟨_, f9, c9⟩ := A.new (o := .tup (.str k :: us)) f8 c8 ht1
          walk_at "e"
          refine ⟨by show 3 ≤ sizeLine; decide, fun t2 ht2 => ?_⟩
          obtain ⟨_, f10, c10⟩ := A.new (o := .tup [vi, vf, .ref t1]) f9 c9 ht2
          walk_at "e"
          have z1 := hi8.kf (KF.new (o := .tup (.str k :: us)) ht1)
          have z2 := hf8.kf (KF.new (o := .tup (.str k :: us)) ht1)
          exact q4.ok _ p4 _ _ rfl f10 c10 (Dz.newT ht2 (.cons z1 (.cons z2 (.cons (Dz.newT ht1 (.cons .str hd8)) .nil))))
      · walk_at "g"
        exact hq
    · walk_at "g"
      exact hq
  · walk_at "g"
    exact hq
end
structure HeardC (K : PySem.W.Frag) (mg : Str → Option Value) (nm fl : Str) (bads : List Str) (CR : Addr) : Prop where
  gR : mg nm = some (.ref CR)
  exm : PySem.W.exmOne K (.ref CR) (.ref CR) = some true
  isi : mg "isinstance" = none
  ve : mg "ValueError" = none
  kv : PySem.W.kitOne K (.ref CR) (.type "ValueError") = some true
  own : ∃ CO : Addr, mg "OwnError" = some (.ref CO) ∧ PySem.W.kitOne K (.ref CR) (.ref CO) = some true
  bad : ∃ Cs : Str → Addr, (∀ n ∈ bads, mg n = some (.ref (Cs n))) ∧ PySem.W.kitAny K (.ref CR) (bads.map fun n => .ref (Cs n)) = some false
  kit : KitC K CR
  xf : XfC K CR
  no : PySem.W.findIn K (.ref CR) fl = some none
def Caught (fl wd : Str) (C : Addr) (Q : VK) (cls : Value) (d : Option Addr) (H1 : Hp) : Prop :=
  cls = .ref C ∧ ∃ (dd : Addr) (v : V), d = some dd ∧ H1 dd = some (.xd [(fl, v)]) ∧ ∀ p H2, H1 p = none → Fr NoB H1 H2 → H2 p = some (.tup [.str wd, v, .bl true, .bl true, .bl false]) → Q (.ref p) H2
abbrev bads_1 : List Str := ["BadDeed", "BadEvent", "BadFraction", "BadLabel", "BadName", "BadRoster", "BadRun", "BadText", "BadView", "Refused"]
def THeard (C : Addr) : (XK → Hp → VK → Prop) → Hp → VK → Prop := fun tl H Q =>
  tl (fun cls d H1 => Caught "at" "none" C Q cls d H1) H (fun v H1 => ∀ p H2, H1 p = none → Fr NoB H1 H2 → H2 p = some (.tup [.str "told", v]) → Q (.ref p) H2)
theorem heard_gives {X : Cx} {CR g : Addr} {cdg : Value} {q : Str} (C : HeardC X.K X.mg "BadOctets" "at" bads_1 CR) : LamX.GivesTo X nq_heard "_law_heard" (defScope sq_heard) g cdg (defBody sq_heard) "ask" q (THeard CR) := by
  intro f c' s H Q tl act hc h
  have cS : CtxS (cxOf C8.CX0 X.prog X.w X.K X.mg X.base nq_heard "_law_heard" (defScope sq_heard) g cdg X.A X.stack s H C8.E0).nox nq_heard lq_heard := ⟨rfl, mq_heard.S.nd, knIs_of mq_heard rfl (fun _ => rfl), mq_heard.db⟩
  have rb : RB (cxOf C8.CX0 X.prog X.w X.K X.mg X.base nq_heard "_law_heard" (defScope sq_heard) g cdg X.A X.stack s H C8.E0).nox (defBody sq_heard) { nx := fun _ H' => Q .non H', rt := Q } (start nq_heard [.ref f]) H := by
    refine rb_cons ?_
    refine rs_try_as cS rfl rfl (by walk_at "gm") (by walk_at "gm") ⟨cS.gl (by walk_at "gm"), by decide +kernel, .inl C.gR⟩ ?_
    intro pn xe W tk po hW
    walk_at "g0"
    refine pe_mono (re_of (act W pn xe _ _ _ tk ?_) ⟨rfl, hc, h⟩) fun v H1 k => ?_
    · rintro cls d σ' H1 ⟨rfl, dd, v, rfl, hd, k⟩
      refine hW _ _ _ _ C.exm fun a oe pn2 nx bk ct σa ha hσ hl hz hf c2 => ?_
      obtain rfl := hσ 1 rfl
      obtain ⟨x, y, z, rfl⟩ : ∃ x y z, σ' = [x, y, z] := by
        match σ', hl with
        | [x, y, z], _ => exact ⟨x, y, z, rfl⟩
      obtain ⟨CO, mO, kO⟩ := C.own
      obtain ⟨Cs, mB, kB⟩ := C.bad
      show RB _ _ _ [x, some (.ref a), z] H1
      refine rb_cons ?_
      refine rs_setS c2 (by walk_at "gm") (by walk_at "gm") ?_
      refine re_isX c2 (by walk_at "gm") C.isi ?_
      refine ra_cons ?_
      refine re_nameS c2 (by walk_at "gs") (by walk_at "gm") .loc ?_
      refine ra_cons ?_
      refine re_tup ?_
      repeat (refine ra_cons ?_; refine re_globS c2 (v := .ref (Cs _)) (by walk_at "gm") (mB _ (by walk_at "gm")) rfl ?_)
      refine ra_nil ?_
      refine ⟨by show 10 ≤ sizeLine; decide, fun tp htp => ?_⟩
      refine ra_nil ?_
      have dt : dd ≠ tp := fun e => by rw [e, htp] at hd; cases hd
      refine lv_isXT C.kit hz hf (fs := [("at", v)]) (by rw [upd_ne dt]; exact hd) upd_same (.cons (.own _) (.cons (.own _) (.cons (.own _) (.cons (.own _) (.cons (.own _) (.cons (.own _) (.cons (.own _) (.cons (.own _) (.cons (.own _) (.cons (.own _) .nil)))))))))) kB ?_
      refine ⟨_, by walk_at "gs", ?_⟩
      refine rb_cons ?_
      refine rs_ret ?_
      refine re_tup ?_
      refine ra_cons (re_str ?_)
      refine ra_cons ?_
      refine re_field (fs := [("at", v)]) (v := v) C.xf C.no hz hf ?_
      refine re_nameS c2 (by walk_at "gs") (by walk_at "gm") .loc ?_
      refine ⟨rfl, by rw [upd_ne dt]; exact hd, rfl, ?_⟩
      refine ra_cons ?_
      refine re_isX c2 (by walk_at "gm") C.isi ?_
      refine ra_cons ?_
      refine re_nameS c2 (by walk_at "gs") (by walk_at "gm") .loc ?_
      refine ra_cons ?_
      refine re_globS c2 (v := .ref CO) (by walk_at "gm") mO rfl ?_
      refine ra_nil ?_
      refine lv_isX C.kit hz hf (fs := [("at", v)]) (by rw [upd_ne dt]; exact hd) (.own _) kO ?_
      refine ra_cons ?_
      refine re_isX c2 (by walk_at "gm") C.isi ?_
      refine ra_cons ?_
      refine re_nameS c2 (by walk_at "gs") (by walk_at "gm") .loc ?_
      refine ra_cons ?_
      refine re_bltnS c2 (v := .ty "ValueError") (by walk_at "gm") C.ve (by decide +kernel) rfl ?_
      refine ra_nil ?_
      refine lv_isX C.kit hz hf (fs := [("at", v)]) (by rw [upd_ne dt]; exact hd) (.ty _) C.kv ?_
      refine ra_cons ?_
      refine re_nameS c2 (by walk_at "gs") (by walk_at "gm") .loc ?_
      refine ra_nil ?_
      refine ⟨by show 5 ≤ sizeLine; decide, fun p hp => ?_⟩
      exact k p _ ((Fr.new (B := NoB) htp).free hp) ((Fr.new htp).trans (Fr.new hp)) upd_same
    · refine ra_nil ⟨by show 2 ≤ sizeLine; decide, fun p hp => ?_⟩
      exact k p _ hp (Fr.new hp) upd_same
  exact rb.ex
theorem at5X {X Xl : Cx} {x : Str} {ps : List Str} {n : Nat} {sp : Sp} (d : DefP X.prog X.w X.K X.mg X.base (L2.CX X.prog X.w) x ps n sp) (a : At5 Xl X.prog X.w X.K X.mg X.base) : DefP Xl.prog Xl.w Xl.K Xl.mg Xl.base (L2.CX Xl.prog Xl.w) x ps n sp := by
  obtain ⟨p1, p2, p3, p4, p5⟩ := a
  rw [p1, p2, p3, p4, p5]
  exact d
theorem tab_box {H H' : Hp} {P b : Addr} {q : Str} {xs : List V} (t : LamX.TabS H P q) (hb : H b = some (.lst xs)) (f : Fr (· = b) H H') : LamX.TabS H' P q := by
  obtain ⟨ps, h1, h2, h3⟩ := t
  have n1 : ¬ P = b := fun e => by rw [e, hb] at h1; cases h1
  refine ⟨ps, f _ _ n1 h1, h2, fun pos cv hc => ?_⟩
  obtain ⟨c, e, hco⟩ := h3 pos cv hc
  exact ⟨c, e, f _ _ (fun e2 => by rw [e2, hb] at hco; cases hco) hco⟩
theorem tabs_box {H H' : Hp} {T : List (Addr × Str)} {b : Addr} (t : LamX.Tabs T H) (hB : BoxAt H b) (f : Fr (· = b) H H') : LamX.Tabs T H' := fun p hp => by
  obtain ⟨g, r, hg, _⟩ := id hB
  exact tab_box (t p hp) hg f
structure KeyC (X : Cx) (CXs : CXT) (x : Str) (ps ks : List Str) (g : List Value → List Value → List Value) (gV : List V → List V → List V) (n : Nat) (sp : Sp) : Prop where
  ex : ∃ (f : Addr) (fd : FuncData), FnOk X.prog X.w X.K X.mg X.base CXs n f fd ps sp ∧ X.mg x = some (.ref f) ∧ PySem.W.keepIn X.K (.ref f) = true ∧ KBinds X.K fd ps ks g gV
theorem key5X {X Xl : Cx} {x : Str} {ps ks : List Str} {g : List Value → List Value → List Value} {gV : List V → List V → List V} {n : Nat} {sp : Sp} (d : KeyC X (L2.CX X.prog X.w) x ps ks g gV n sp) (a : At5 Xl X.prog X.w X.K X.mg X.base) : KeyC Xl (L2.CX Xl.prog Xl.w) x ps ks g gV n sp := by
  obtain ⟨f, fd, h1, h2, h3, h4⟩ := d.ex
  obtain ⟨p1, p2, p3, p4, p5⟩ := a
  exact ⟨f, fd, by rw [p1, p2, p3, p4, p5]; exact h1, by rw [p4]; exact h2, by rw [p3]; exact h3, by rw [p3]; exact h4⟩
def g1 {α : Type} : List α → List α → List α
  | [], [z] => [z]
  | _, _ => []
abbrev qR : Str := "_law_right" ++ ".<locals>." ++ "<lambda>"
abbrev qL : Str := "law" ++ ".<locals>." ++ "<lambda>"
abbrev TT (P1 P2 : Addr) : List (Addr × Str) := [(P1, qR), (P2, qL)]
theorem hu2 {P1 P2 : Addr} (n : P1 ≠ P2) {p r : Addr × Str} (h : p ∈ TT P1 P2) (g : r ∈ TT P1 P2) (e : p.1 = r.1) : p.2 = r.2 := by
  simp only [List.mem_cons, List.not_mem_nil, or_false] at h g
  rcases h with rfl | rfl
  · rcases g with rfl | rfl
    · rfl
    · exact absurd e n
  · rcases g with rfl | rfl
    · exact absurd e.symm n
    · rfl
structure Lam (X : Cx) (cc P C g : Addr) (fdh : FuncData) : Prop where
  code : X.env.code = .ref cc
  TB : LamX.TabB X.base X.mg cc P
  FH : FnP X.K "_law_heard" sq_heard g fdh
  gx : X.mg "_law_heard" = some (.ref g)
  bH : Binds X.K fdh ["ask"] []
  h1 : HeardC X.K X.mg "BadOctets" "at" bads_1 C
theorem kf_fx {H H' : Hp} (f : Fx NoB H H') : KF H H' := ⟨fun a xs h => f.tup (fun z => z) h, fun a xs h => ⟨xs, f.lst (fun z => z) h⟩⟩
theorem fr_fk {H H' : Hp} (f : Fk (fun _ => False) H H') : Fr NoB H H' := fun a o n h => f.f a o (fun z => z) h
def noneD (j : Int) : D := .tup [.str "none", .int j, .bl true, .bl true, .bl false]
def dGot (r : Rdg D) : D := match r with
  | .bad j => noneD (j : Nat)
  | .ok d _ => .tup [.str "told", d]
/-- what is heard of a reading, asked by a lambda -/
theorem heard_ask {X : Cx} {σ : L2.St} {H : Hp} {N : List Str} {L : List (Str × KN)} {k : Nat} {Q : VK} {p0 p1 p2 : Pos} (c : Ctx X N L k) (hk : 13 ≤ k) {T : List (Addr × Str)} {cc P C1 g : Addr} {fdh : FuncData} {params : Arguments} {scope : Scope} {body : Expr} {oc : Addr} {us : List V} {os : ORow} (Ll : List (Str × KN)) (hok : lamOk L scope Ll = true)
    (LA : Lam X cc P C1 g fdh) (hmT : (P, X.env.qual ++ "<lambda>") ∈ T) (hu : ∀ p ∈ T, p.1 = P → p.2 = X.env.qual ++ "<lambda>") (hgl : (("_law_heard" : Str), KN.glob) ∈ L)
    (hbody : ∀ (Xl : Cx), Ctx Xl N Ll 11 → At5 Xl X.prog X.w X.K X.mg X.base → ∀ (E : XK), Takes Xl (fun cls d _ H' => E cls d H') → ∀ (H2 : Hp) (K : VK), spDec C1 [.ref oc] H2 K E → RE Xl body σ H2 K)
    (t : LamX.Tabs T H) (ho : H oc = some (.lst us) ∨ H oc = some (.tup us)) (hI : Items H us os) (q : ∀ pg H', Fx NoB H H' → LamX.Tabs T H' → Dz H' (.ref pg) (dGot (rWhole os)) → Q (.ref pg) H')
    (hdef : defaultsOf params X.env = ([], []) := by with_unfolding_all rfl) (hbind : ∀ (q : Str) (cl : List (Str × Addr)) (pm cv ctv : Value), bindArgs (PySem.W.kla_fn "<lambda>" q params body scope cl pm cv ctv) ⟨[], []⟩ = pure [] := by intros; with_unfolding_all rfl) :
    RE X (.Call (.Name "_law_heard" p0) [.Lambda params body scope p1] [] p2) σ H Q := by
  refine re_lamcall c (T := T) (kl := 11) Ll hok LA.FH LA.gx LA.bH mq_heard.S rfl (Or.inl (by decide +kernel)) (by decide +kernel) (fun cdg => heard_gives LA.h1) LA.TB LA.code hmT hu (by omega) hgl ⟨t, fun H2 e2 t2 => ?_⟩ hdef hbind
  have f2 : Fx NoB H H2 := Fx.ext e2
  have k2 := kf_fx f2
  refine LamR.intro (Ll := Ll) c hok fun Xl cl al tkl => ?_
  refine hbody Xl cl al _ tkl H2 _ ⟨_, rfl, .inl ⟨oc, us, os, rfl, ?_, hI.kf k2, fun d p r H3 e3 f3 hz => ?_, fun j d H3 e3 f3 hd h3 => ?_⟩⟩
  · rcases ho with ho | ho
    · exact .inl (f2.lst (fun z => z) ho)
    · exact .inr (f2.tup (fun z => z) ho)
  · intro pg H4 hpg f4 h4
    have g4 := (fr_fk f3).trans f4
    refine q pg H4 (f2.trans g4.fx) (t2.ext fun b o e => g4 b o (fun z => z) e) ?_
    rw [e3]
    exact Dz.ofT h4 (.cons .str (.cons (hz.kf (kf_fr f4)) .nil))
  · refine ⟨rfl, d, .int (j : Nat), rfl, h3, fun pg H4 hpg f4 h4 => ?_⟩
    have g4 := (fr_fk f3).trans f4
    refine q pg H4 (f2.trans g4.fx) (t2.ext fun b o e => g4 b o (fun z => z) e) ?_
    rw [e3]
    exact Dz.ofT h4 (.cons .str (.cons .int (.cons .bl (.cons .bl (.cons .bl .nil)))))
/-- the same of what is no row -/
theorem heard_odd {X : Cx} {σ : L2.St} {H : Hp} {N : List Str} {L : List (Str × KN)} {k : Nat} {Q : VK} {p0 p1 p2 : Pos} (c : Ctx X N L k) (hk : 13 ≤ k) {T : List (Addr × Str)} {cc P C1 g : Addr} {fdh : FuncData} {params : Arguments} {scope : Scope} {body : Expr} {v : V} (Ll : List (Str × KN)) (hok : lamOk L scope Ll = true)
    (LA : Lam X cc P C1 g fdh) (hmT : (P, X.env.qual ++ "<lambda>") ∈ T) (hu : ∀ p ∈ T, p.1 = P → p.2 = X.env.qual ++ "<lambda>") (hgl : (("_law_heard" : Str), KN.glob) ∈ L)
    (hbody : ∀ (Xl : Cx), Ctx Xl N Ll 11 → At5 Xl X.prog X.w X.K X.mg X.base → ∀ (E : XK), Takes Xl (fun cls d _ H' => E cls d H') → ∀ (H2 : Hp) (K : VK), spDec C1 [v] H2 K E → RE Xl body σ H2 K)
    (t : LamX.Tabs T H) (hv : v = .non ∨ (∃ i, v = .int i) ∨ (∃ s, v = .str s) ∨ ∃ b, v = .bl b) (q : ∀ pg H', Fx NoB H H' → LamX.Tabs T H' → Dz H' (.ref pg) (noneD (-1)) → Q (.ref pg) H')
    (hdef : defaultsOf params X.env = ([], []) := by with_unfolding_all rfl) (hbind : ∀ (q : Str) (cl : List (Str × Addr)) (pm cv ctv : Value), bindArgs (PySem.W.kla_fn "<lambda>" q params body scope cl pm cv ctv) ⟨[], []⟩ = pure [] := by intros; with_unfolding_all rfl) :
    RE X (.Call (.Name "_law_heard" p0) [.Lambda params body scope p1] [] p2) σ H Q := by
  refine re_lamcall c (T := T) (kl := 11) Ll hok LA.FH LA.gx LA.bH mq_heard.S rfl (Or.inl (by decide +kernel)) (by decide +kernel) (fun cdg => heard_gives LA.h1) LA.TB LA.code hmT hu (by omega) hgl ⟨t, fun H2 e2 t2 => ?_⟩ hdef hbind
  have f2 : Fx NoB H H2 := Fx.ext e2
  refine LamR.intro (Ll := Ll) c hok fun Xl cl al tkl => ?_
  refine hbody Xl cl al _ tkl H2 _ ⟨_, rfl, .inr ⟨hv, fun H3 d f3 hd h3 => ⟨rfl, d, .int (-1), rfl, h3, fun pg H4 hpg f4 h4 => ?_⟩⟩⟩
  have g4 := (fr_fk f3).trans f4
  refine q pg H4 (f2.trans g4.fx) (t2.ext fun b o e => g4 b o (fun z => z) e) ?_
  exact Dz.ofT h4 (.cons .str (.cons .int (.cons .bl (.cons .bl (.cons .bl .nil)))))
section
variable {X : Cx} {os : ORow} {vs : List V} {H H0 H1 : Hp} {Q Q1 : VK} {E : XK} {p p2 : Nat} {d : D}
theorem dep_t {n : Nat} {l : List D} (h : ∀ d ∈ l, Dep n d) : Dep (n + 1) (.tup l) := .tup h
theorem dep_nil {n : Nat} : ∀ d ∈ ([] : List D), Dep n d := fun d h => by cases h
theorem dep_cons {n : Nat} {x : D} {l : List D} (h : Dep n x) (t : ∀ d ∈ l, Dep n d) : ∀ d ∈ x :: l, Dep n d := fun d hd => by
  rcases List.mem_cons.mp hd with rfl | hd
  · exact h
  · exact t d hd
theorem dep_id2 {a : Int} (h : rId2 os a p = .ok d p2) : Dep 1 d := by
  obtain ⟨l, n, rfl⟩ := rId2_three (x := 0) h
  exact dep_t (dep_cons .int (dep_cons .int (dep_cons .int dep_nil)))
theorem dep_term {d0 : D} (h0 : Dep 1 d0) (h : rTerm os d0 p = .ok d p2) : Dep 1 d := by
  unfold rTerm at h
  cases e1 : rTake os 0 32 p with
  | bad j => rw [e1] at h; cases h
  | ok a p3 =>
    rw [e1] at h
    change (if a = 0 then Rdg.ok d0 p3 else rId2 os (a - 1) p3) = _ at h
    split at h
    · cases h; exact h0
    · exact dep_id2 h
theorem dep_id (h : rId os p = .ok d p2) : Dep 1 d := by
  unfold rId at h
  cases e1 : rTake os 0 31 p with
  | bad j => rw [e1] at h; cases h
  | ok a p3 => rw [e1] at h; exact dep_id2 h
theorem frac_two (h : rFrac os p = .ok d p2) : ∃ n m : Int, d = .tup [.int n, .int m] := by
  rw [rFrac_eq] at h
  cases e1 : rNum os p with
  | bad j => rw [e1] at h; cases h
  | ok s p1 =>
    rw [e1] at h
    change ((rTake os 1 255 p1).bind fun a p2 => if 128 ≤ a ∧ fCut (topOf s) a then .bad p1 else (rBehind os a p2).bind fun l p3 => fFin (topOf s) l p3) = _ at h
    cases e2 : rTake os 1 255 p1 with
    | bad j => rw [e2] at h; cases h
    | ok a p3 =>
      rw [e2] at h
      change (if 128 ≤ a ∧ fCut (topOf s) a then Rdg.bad p1 else (rBehind os a p3).bind fun l p3 => fFin (topOf s) l p3) = _ at h
      split at h
      · cases h
      · cases e3 : rBehind os a p3 with
        | bad j => rw [e3] at h; cases h
        | ok l p4 =>
          rw [e3] at h
          change fFin (topOf s) l p4 = _ at h
          unfold fFin at h
          split at h
          · cases h
            exact ⟨_, _, rfl⟩
          · cases h
theorem dep_frac (h : rFrac os p = .ok d p2) : Dep 1 d := by
  obtain ⟨n, m, rfl⟩ := frac_two h
  exact dep_t (dep_cons .int (dep_cons .int dep_nil))
theorem dep_name (h : rName os p = .ok d p2) : Dep 1 d := by
  unfold rName at h
  cases e : rTake os 1 6 p with
  | bad j => rw [e] at h; cases h
  | ok a p1 =>
    rw [e] at h
    change (rMany (rLabel os []) a.toNat p1).map _ = _ at h
    cases e2 : rMany (rLabel os []) a.toNat p1 with
    | bad j => rw [e2] at h; cases h
    | ok l2 p3 =>
      rw [e2] at h
      cases h
      refine dep_t fun d hd => ?_
      obtain ⟨z, _, rfl⟩ := List.mem_map.mp hd
      exact .str
theorem dep_plain {k : Int} (h : rPlain os k p = .ok d p2) : Dep 2 d := by
  unfold rPlain at h
  split at h
  · cases e : rNum os p with
    | bad j => rw [e] at h; cases h
    | ok n p3 => rw [e] at h; cases h; exact dep_t (dep_cons .str (dep_cons .int dep_nil))
  · cases e : rName os p with
    | bad j => rw [e] at h; cases h
    | ok n p3 => rw [e] at h; cases h; exact dep_t (dep_cons .str (dep_cons (dep_name e) dep_nil))
theorem dep_rows {k : Nat} {fl : List Nat} {p p2 : Nat} {ds : List D} (h : rRows os k fl p = .ok ds p2) : ∀ d ∈ ds, Dep 3 d := by
  induction k generalizing fl p ds with
  | zero =>
    unfold rRows at h
    cases e : rTake os 0 0 p with
    | bad j => rw [e] at h; cases h
    | ok a p1 => rw [e] at h; cases h; exact dep_nil
  | succ k ih =>
    unfold rRows at h
    cases e : rTake os 0 (if fl = z8 then 0 else 1) p with
    | bad j => rw [e] at h; cases h
    | ok a p1 =>
      rw [e] at h
      change (if a = 0 then Rdg.ok [] p1 else (rLabel os fl p1).bind fun l p2 => (rTake os 1 2 p2).bind fun kd p3 => (rPlain os kd p3).bind fun e p4 => (rRows os k l p4).map (.tup [sD l, e] :: ·)) = _ at h
      split at h
      · cases h
        exact dep_nil
      · cases e2 : rLabel os fl p1 with
        | bad j => rw [e2] at h; cases h
        | ok l p2 =>
          rw [e2] at h
          change ((rTake os 1 2 p2).bind fun kd p3 => (rPlain os kd p3).bind fun e p4 => (rRows os k l p4).map (.tup [sD l, e] :: ·)) = _ at h
          cases e3 : rTake os 1 2 p2 with
          | bad j => rw [e3] at h; cases h
          | ok kd p3 =>
            rw [e3] at h
            change ((rPlain os kd p3).bind fun e p4 => (rRows os k l p4).map (.tup [sD l, e] :: ·)) = _ at h
            cases e4 : rPlain os kd p3 with
            | bad j => rw [e4] at h; cases h
            | ok en p4 =>
              rw [e4] at h
              change (rRows os k l p4).map (.tup [sD l, en] :: ·) = _ at h
              cases e5 : rRows os k l p4 with
              | bad j => rw [e5] at h; cases h
              | ok ds2 p5 =>
                rw [e5] at h
                cases h
                exact dep_cons (dep_t (dep_cons .str (dep_cons (dep_plain e4) dep_nil))) (ih e5)
theorem dep_entry {lo hi : Int} (h : rEntry os lo hi p = .ok d p2) : Dep 5 d := by
  unfold rEntry at h
  cases e1 : rTake os lo hi p with
  | bad j => rw [e1] at h; cases h
  | ok k p3 =>
    rw [e1] at h
    change (if k = 0 then Rdg.ok .non p3 else if k = 3 then (rTake os 0 31 p3).bind fun h p2 => (rRows os 6 [] p2).bind fun rs p3 => .ok (.tup [.str "page", .int h, .tup rs]) p3 else rPlain os k p3) = _ at h
    split at h
    · cases h; exact .non
    · split at h
      · cases e2 : rTake os 0 31 p3 with
        | bad j => rw [e2] at h; cases h
        | ok n p4 =>
          rw [e2] at h
          change ((rRows os 6 [] p4).bind fun rs p3 => Rdg.ok (D.tup [.str "page", .int n, .tup rs]) p3) = _ at h
          cases e3 : rRows os 6 [] p4 with
          | bad j => rw [e3] at h; cases h
          | ok rs p5 => rw [e3] at h; cases h; exact dep_t (dep_cons .str (dep_cons .int (dep_cons (dep_t (dep_rows e3)) dep_nil)))
      · exact dep_up (dep_plain h) 5 (by decide)
theorem dep_found (h : rFound os p = .ok d p2) : Dep 2 d := by
  unfold rFound at h
  cases e1 : rTake os 0 4 p with
  | bad j => rw [e1] at h; cases h
  | ok k p1 =>
    rw [e1] at h
    change (if k = 0 then (rNum os p1).bind fun n p2 => Rdg.ok (D.tup [.str "value", .int n]) p2 else if k = 1 then (rTake os 0 31 p1).bind fun h p2 => (rTerm os (.tup []) p2).bind fun t p3 => Rdg.ok (D.tup [.str "page", .int h, t]) p3 else Rdg.ok (D.tup [.str (if k = 2 then "nothing" else if k = 3 then "long" else "far")]) p1) = _ at h
    split at h
    · cases e2 : rNum os p1 with
      | bad j => rw [e2] at h; cases h
      | ok n p3 => rw [e2] at h; cases h; exact dep_t (dep_cons .str (dep_cons .int dep_nil))
    · split at h
      · cases e2 : rTake os 0 31 p1 with
        | bad j => rw [e2] at h; cases h
        | ok n p3 =>
          rw [e2] at h
          change ((rTerm os (.tup []) p3).bind fun t p3 => Rdg.ok (D.tup [.str "page", .int n, t]) p3) = _ at h
          cases e3 : rTerm os (.tup []) p3 with
          | bad j => rw [e3] at h; cases h
          | ok t p4 => rw [e3] at h; cases h; exact dep_t (dep_cons .str (dep_cons .int (dep_cons (dep_term (dep_t dep_nil) e3) dep_nil)))
      · cases h
        exact dep_t (dep_cons .str dep_nil)
theorem dep_many {rd : Nat → Rdg D} {k : Nat} (hrd : ∀ p a p2, rd p = .ok a p2 → Dep k a) {n p p2 : Nat} {l : List D} (h : rMany rd n p = .ok l p2) : ∀ d ∈ l, Dep k d := by
  induction n generalizing p l with
  | zero => cases h; exact dep_nil
  | succ n ih =>
    unfold rMany at h
    cases e : rd p with
    | bad j => rw [e] at h; cases h
    | ok a p1 =>
      rw [e] at h
      change (rMany rd n p1).map (a :: ·) = _ at h
      cases e2 : rMany rd n p1 with
      | bad j => rw [e2] at h; cases h
      | ok l2 p3 =>
        rw [e2] at h
        cases h
        exact dep_cons (hrd _ _ _ e) (ih e2)
theorem dep_answer (h : rAnswer os p = .ok d p2) : Dep 3 d := by
  unfold rAnswer at h
  cases e1 : rFound os p with
  | bad j => rw [e1] at h; cases h
  | ok w p3 =>
    rw [e1] at h
    change ((rTake os 0 9 p3).bind fun m p2 => (rMany (rName os) m.toNat p2).bind fun l p3 => Rdg.ok (D.tup [w, .tup l]) p3) = _ at h
    cases e2 : rTake os 0 9 p3 with
    | bad j => rw [e2] at h; cases h
    | ok m p4 =>
      rw [e2] at h
      change ((rMany (rName os) m.toNat p4).bind fun l p3 => Rdg.ok (D.tup [w, .tup l]) p3) = _ at h
      cases e3 : rMany (rName os) m.toNat p4 with
      | bad j => rw [e3] at h; cases h
      | ok l p5 => rw [e3] at h; cases h; exact dep_t (dep_cons (dep_found e1) (dep_cons (dep_t (dep_many (fun p a p2 z => dep_name z) e3)) dep_nil))
theorem dep_part {w : Wd} (h : rPart os w p = .ok d p2) : Dep 5 d := by
  have one : ∀ {lo hi : Int}, (rTake os lo hi p).map D.int = .ok d p2 → Dep 5 d := fun {lo hi} h => by
    cases e1 : rTake os lo hi p with
    | bad j => rw [e1] at h; cases h
    | ok a p3 => rw [e1] at h; cases h; exact .int
  cases w with
  | kept => exact dep_up (dep_term .non h) 5 (by decide)
  | term => exact dep_up (dep_term (dep_t dep_nil) h) 5 (by decide)
  | node => exact one h
  | most => exact one h
  | id => exact dep_up (dep_id h) 5 (by decide)
  | label =>
    change (rLabel os [] p).map sD = _ at h
    cases e1 : rLabel os [] p with
    | bad j => rw [e1] at h; cases h
    | ok a p3 => rw [e1] at h; cases h; exact .str
  | fraction => exact dep_up (dep_frac h) 5 (by decide)
  | name => exact dep_up (dep_name h) 5 (by decide)
  | entry => exact dep_entry h
  | answer => exact dep_up (dep_answer h) 5 (by decide)
theorem parts_all {ws : List Wd} {p p2 : Nat} {ds : List D} (h : rParts os ws p = .ok ds p2) : (∀ d ∈ ds, Dep 5 d) ∧ (p ≤ os.length → p2 ≤ os.length) := by
  induction ws generalizing p ds with
  | nil => cases h; exact ⟨dep_nil, fun z => z⟩
  | cons w r ih =>
    unfold rParts at h
    cases e : rPart os w p with
    | bad j => rw [e] at h; cases h
    | ok a p1 =>
      rw [e] at h
      change (rParts os r p1).map (a :: ·) = _ at h
      cases e2 : rParts os r p1 with
      | bad j => rw [e2] at h; cases h
      | ok l2 p3 =>
        rw [e2] at h
        cases h
        exact ⟨dep_cons (dep_part e) (ih e2).1, fun _ => (ih e2).2 (part_le2 e)⟩
theorem event_all (h : rEvent os p = .ok d p2) : Dep 7 d ∧ p2 ≤ os.length ∧ ∃ l, d = .tup l := by
  unfold rEvent at h
  cases e1 : rId os p with
  | bad j => rw [e1] at h; cases h
  | ok i p1 =>
    rw [e1] at h
    change ((rFrac os p1).bind fun f p2 => (rTake os 0 10 p2).bind fun k p3 => (rParts os (deeds.getD k.toNat ("", [])).2 p3).bind fun ds p4 => Rdg.ok (D.tup [i, f, .tup (.str (deeds.getD k.toNat ("", [])).1 :: ds)]) p4) = _ at h
    cases e2 : rFrac os p1 with
    | bad j => rw [e2] at h; cases h
    | ok f p3 =>
      rw [e2] at h
      change ((rTake os 0 10 p3).bind fun k p3 => (rParts os (deeds.getD k.toNat ("", [])).2 p3).bind fun ds p4 => Rdg.ok (D.tup [i, f, .tup (.str (deeds.getD k.toNat ("", [])).1 :: ds)]) p4) = _ at h
      cases e3 : rTake os 0 10 p3 with
      | bad j => rw [e3] at h; cases h
      | ok k p4 =>
        rw [e3] at h
        have := take_ok e3
        change ((rParts os (deeds.getD k.toNat ("", [])).2 p4).bind fun ds p4 => Rdg.ok (D.tup [i, f, .tup (.str (deeds.getD k.toNat ("", [])).1 :: ds)]) p4) = _ at h
        cases e4 : rParts os (deeds.getD k.toNat ("", [])).2 p4 with
        | bad j => rw [e4] at h; cases h
        | ok ds p5 =>
          rw [e4] at h
          cases h
          obtain ⟨g1, g2⟩ := parts_all e4
          exact ⟨dep_t (dep_cons (dep_up (dep_id e1) 6 (by decide)) (dep_cons (dep_up (dep_frac e2) 6 (by decide)) (dep_cons (dep_t (dep_cons .str g1)) dep_nil))), g2 (by omega), _, rfl⟩
theorem dep_none {j : Int} : Dep 8 (noneD j) := dep_t (dep_cons .str (dep_cons .int (dep_cons .bl (dep_cons .bl (dep_cons .bl dep_nil)))))
end
section
variable {X : Cx} {os : ORow} {vs : List V} {H H0 H1 : Hp} {Q Q1 : VK} {E : XK}
def spRt (P1 P2 : Addr) : Sp := fun vs H Q _ => ∃ (os : ORow) (li ha : Addr) (us ws : List V), vs = [.ref li, .ref ha] ∧ OsOk os ∧ H li = some (.lst us) ∧ Items H us os ∧ (H ha = some (.lst ws) ∨ H ha = some (.tup ws)) ∧ Items H ws os ∧ LamX.Tabs (TT P1 P2) H ∧ ∀ H', Fx NoB H H' → LamX.Tabs (TT P1 P2) H' → Q (.bl true) H'
theorem nob {H : Hp} : ∀ b, NoB b → ∀ xs, H b ≠ some (.tup xs) := fun b z => z.elim
theorem body_right (c : Ctx X nq_right lq_right 13) {cc P1 P2 C1 g : Addr} {fdh : FuncData} (n2 : P1 ≠ P2) (hq : X.env.qual = "_law_right" ++ ".<locals>.") (LA : Lam X cc P1 C1 g fdh) (zl : X.mg "len" = none) (dO : DG X "_law_one" ["items", "cursor"] 8 spOne)
    (dD : DefP X.prog X.w X.K X.mg X.base (L2.CX X.prog X.w) "decode_event" ["octets"] 11 (spDec C1)) (dS : DG X "_law_same" ["told", "due"] 9 (spSame X.K 8)) (h : spRt P1 P2 vs H Q E) :
    RB X (defBody sq_right) { nx := fun _ H' => Q .non H', rt := Q } (start nq_right vs) H := by
  obtain ⟨os, li, ha, us, ws, rfl, ok5, hl, hI, ha0, hW, hT, q⟩ := h
  have tb : ∀ {H1 H2 : Hp}, Fr NoB H1 H2 → LamX.Tabs (TT P1 P2) H1 → LamX.Tabs (TT P1 P2) H2 := fun f t => t.ext fun b o e => f b o (fun z => z) e
  show RB X (defBody sq_right) _ [some (.ref li), some (.ref ha), none, none] H
  walk_at "g0"
  refine ⟨by show 1 ≤ sizeLine; decide, fun cu hcu => ?_⟩
  have f0 : Fk (fun _ => False) H (upd H cu (.lst [.int 0])) := Fk.new hcu
  have nlc : li ≠ cu := ne_of_none hl hcu
  have hl0 := f0.f _ _ (fun z => z) hl
  walk_at "g"
  refine re_call c dO (by decide) (by walk_at "gm") ?_
  walk_at "e"
  -- what is heard of it
  have back : ∀ {H2 : Hp}, Fk (· = cu) (upd H cu (.lst [.int 0])) H2 → Fk (fun _ => False) H H2 := fun f => f0.loc f fun x z => .inr (by rw [z]; exact hcu)
  have ans : ∀ (H2 : Hp) (s : Option V) (R : VK) {scope : Scope} {params : Arguments} {body : Expr} {p0 p1 p2 : Pos} (Ll : List (Str × KN)), Fk (fun _ => False) H H2 → lamOk lq_right scope Ll = true →
      (∀ (Xl : Cx), Ctx Xl nq_right Ll 11 → At5 Xl X.prog X.w X.K X.mg X.base → ∀ (E : XK), Takes Xl (fun cls d _ H' => E cls d H') → ∀ (H2 : Hp) (K : VK), spDec C1 [.ref ha] H2 K E → RE Xl body [some (.ref li), some (.ref ha), some (.ref cu), s] H2 K) →
      (∀ pg H', Fx NoB H2 H' → LamX.Tabs (TT P1 P2) H' → Dz H' (.ref pg) (dGot (rWhole os)) → R (.ref pg) H') →
      (hdef : defaultsOf params X.env = ([], [])) → (hbind : ∀ (q : Str) (cl : List (Str × Addr)) (pm cv ctv : Value), bindArgs (PySem.W.kla_fn "<lambda>" q params body scope cl pm cv ctv) ⟨[], []⟩ = pure []) →
      RE X (.Call (.Name "_law_heard" p0) [.Lambda params body scope p1] [] p2) [some (.ref li), some (.ref ha), some (.ref cu), s] H2 R := by
    intro H2 s R scope params body p0 p1 p2 Ll f2 hok hb k hdef hbind
    refine heard_ask c (by decide) (T := TT P1 P2) (oc := ha) (us := ws) (os := os) Ll hok LA (by rw [hq]; walk_at "gm") (fun r hr e => by rw [hq]; exact hu2 n2 hr (r := (P1, qR)) (by walk_at "gm") e) (by walk_at "gm") hb (tb (fr_fk f2) hT) ?_ (hW.kf f2.k) k hdef hbind
    rcases ha0 with e | e
    · exact .inl (f2.f _ _ (fun z => z) e)
    · exact .inr (f2.f _ _ (fun z => z) e)
  have lam : ∀ (s : Option V) {body : Expr} {j : Nat} {p0 p1 p2 : Pos} (hb : body = .Call (.Name "decode_event" p0) [.Name "handed" p1] [] p2), ∀ (Xl : Cx), Ctx Xl nq_right lq_right_l0 11 → At5 Xl X.prog X.w X.K X.mg X.base → ∀ (E : XK), Takes Xl (fun cls d _ H' => E cls d H') → ∀ (H2 : Hp) (K : VK), spDec C1 [.ref ha] H2 K E → RE Xl body [some (.ref li), some (.ref ha), some (.ref cu), s] H2 K := by
    intro s body j p0 p1 p2 hb Xl cl al E tkl H2 K hs
    subst hb
    refine re_callX cl (at5X dD al) (by decide) (by walk_at "gm") (passes_call tkl (fun cls d σ H h => h)) ?_
    walk_at "e"
    exact hs
  -- nothing is told: where it stops
  have none_ : ∀ (j : Nat) (s : V) (H2 : Hp) (D : Ends), D.rt = Q → rWhole os = .bad j → Fk (· = cu) (upd H cu (.lst [.int 0])) H2 → H2 cu = some (.lst [.int (j : Nat)]) →
      RB X (match List.getD (defBody sq_right) 2 (.Pass ⟨0, 0, 0, 0⟩) with | .If _ b _ _ => b | _ => []) D [some (.ref li), some (.ref ha), some (.ref cu), some s] H2 := by
    intro j s H2 D hD ew f2 c2
    have g2 := back f2
    walk_at "g0"
    refine re_call c dS (by decide) (by walk_at "gm") ?_
    refine ra_cons ?_
    refine ans H2 (some s) _ lq_right_l0 g2 (by decide +kernel) (lam (some s) (j := 0) rfl) (fun pg H3 f3 t3 dg => ?_) (by with_unfolding_all rfl) (by intros; with_unfolding_all rfl)
    have c3 : H3 cu = some (.lst [.int (j : Nat)]) := f3.lst (fun z => z) c2
    walk_at "e"
    refine ⟨by show 5 ≤ sizeLine; decide, fun t ht => ?_⟩
    walk_at "e"
    rw [ew] at dg
    refine ⟨noneD (j : Nat), _, _, NoB, NoB, rfl, (dg.kf (KF.new ht)).dt nob, (Dz.newT ht (.cons .str (.cons .int (.cons .bl (.cons .bl (.cons .bl .nil)))))).dt nob, dep_none, fun H4 f4 => ?_⟩
    have g4 := (Fr.new (B := NoB) ht).trans f4
    show D.rt _ _
    rw [hD]
    exact q H4 (((fr_fk g2).fx.trans f3).trans g4.fx) (tb g4 t3)
  refine ⟨os, li, cu, 0, rfl, ok5, ⟨⟨us, hl0, hI.kf f0.k⟩, upd_same, nlc, Nat.zero_le _⟩, ⟨fun d p v H2 e2 f2 c2 r2 => ?_, fun j H2 e2 f2 c2 => ?_⟩⟩
  · obtain ⟨dp, lp, l, rfl⟩ := event_all e2
    obtain ⟨ea, vs2, rfl, hea, hes⟩ := dz_tup r2
    have ew : rWhole os = if p = os.length then .ok (.tup l) p else .bad p := by
      unfold rWhole
      rw [e2]
      rfl
    have hl2 : H2 li = some (.lst us) := f2.f _ _ nlc hl0
    walk_at "g"
    refine lv_lenL (SqL.of hl2) ?_
    walk_at "e"
    refine ite2 (fun e => ?_) (fun e => ?_)
    · have hp : p < us.length := by
        have : (p : Int) < us.length := by simpa using e
        omega
      rw [if_neg (by have := hI.1; omega)] at ew
      exact none_ p _ H2 _ rfl ew f2 c2
    · have hp : us.length ≤ p := by
        have : (us.length : Int) ≤ p := by simpa using e
        omega
      rw [if_pos (by have := hI.1; omega)] at ew
      have g2 := back f2
      walk_at "g"
      refine re_call c dS (by decide) (by walk_at "gm") ?_
      refine ra_cons ?_
      refine ans H2 _ _ lq_right_l0 g2 (by decide +kernel) (lam _ (j := 0) rfl) (fun pg H3 f3 t3 dg => ?_) (by with_unfolding_all rfl) (by intros; with_unfolding_all rfl)
      walk_at "e"
      refine ⟨by show 2 ≤ sizeLine; decide, fun t ht => ?_⟩
      walk_at "e"
      rw [ew] at dg
      have r3 := r2.kf (kf_fx f3)
      refine ⟨.tup [.str "told", .tup l], _, _, NoB, NoB, rfl, (dg.kf (KF.new ht)).dt nob, (Dz.newT ht (.cons .str (.cons r3 .nil))).dt nob, dep_t (dep_cons .str (dep_cons dp dep_nil)), fun H4 f4 => ?_⟩
      have g4 := (Fr.new (B := NoB) ht).trans f4
      exact q H4 (((fr_fk g2).fx.trans f3).trans g4.fx) (tb g4 t3)
  · have ew : rWhole os = .bad j := by
      unfold rWhole
      rw [e2]
      rfl
    walk_at "e"
    walk_at "e0"
    exact none_ j _ H2 _ rfl ew f2 c2
end
/-! ### long numbers don't stand in forms -/
def hiO (o : Option (Option Int)) : Prop := ∃ a : Int, o = some (some a) ∧ 128 ≤ a
/-- among m + 1 items in a row one is no octet of 128 or more -/
def Wn (m : Nat) (os : ORow) : Prop := ∀ i : Nat, ∃ j : Nat, i ≤ j ∧ j ≤ i + m ∧ ¬ hiO os[j]?
theorem digs_hi {os : ORow} {lo : Int} {n p p2 : Nat} {l : List Int} (h : rDigs os lo n p = .ok l p2) : ∀ k, k + 1 < l.length → hiO os[p + k]? := by
  induction n generalizing lo p l with
  | zero => cases h
  | succ n ih =>
    unfold rDigs at h
    cases e : rTake os lo 255 p with
    | bad j => rw [e] at h; cases h
    | ok a p1 =>
      obtain ⟨rfl, _, _, _, ha⟩ := take_ok e
      rw [e] at h
      change (if a < 128 then Rdg.ok [a] (p + 1) else (rDigs os 1 n (p + 1)).map (a :: ·)) = _ at h
      split at h
      · cases h
        intro k hk
        exact absurd hk (by show ¬ k + 1 < 1; omega)
      · rename_i h128
        cases e2 : rDigs os 1 n (p + 1) with
        | bad j => rw [e2] at h; cases h
        | ok l2 p3 =>
          rw [e2] at h
          cases h
          intro k hk
          cases k with
          | zero => exact ⟨a, ha, by omega⟩
          | succ k =>
            have := ih e2 k (by rw [List.length_cons] at hk; omega)
            rw [show p + (k + 1) = p + 1 + k by omega]
            exact this
theorem ok_of_wn {os : ORow} {m : Nat} (h : Wn m os) (hm : m ≤ 139) (hl : os.length ≤ 70000) : OsOk os := ⟨hl, fun n p l p2 e => by
  obtain ⟨j, h1, h2, h3⟩ := h p
  rcases Nat.lt_or_ge (m + 1) l.length with z | z
  · exfalso
    apply h3
    have := digs_hi e (j - p) (by omega)
    rwa [show p + (j - p) = j by omega] at this
  · omega⟩
theorem ok_of_len {os : ORow} (h : os.length ≤ 139) : OsOk os := by
  refine ok_of_wn (m := 139) (fun i => ?_) (Nat.le_refl _) (by omega)
  rcases Nat.lt_or_ge i os.length with z | z
  · refine ⟨os.length, by omega, by omega, ?_⟩
    rintro ⟨a, e, _⟩
    rw [List.getElem?_eq_none (Nat.le_refl _)] at e
    cases e
  · refine ⟨i, Nat.le_refl _, by omega, ?_⟩
    rintro ⟨a, e, _⟩
    rw [List.getElem?_eq_none z] at e
    cases e
theorem wn_take {os : ORow} {m : Nat} (h : Wn m os) (s : Nat) : Wn m (os.take s) := fun i => by
  obtain ⟨j, h1, h2, h3⟩ := h i
  refine ⟨j, h1, h2, ?_⟩
  rintro ⟨a, e, ha⟩
  rw [List.getElem?_take] at e
  split at e
  · exact h3 ⟨a, e, ha⟩
  · cases e
theorem wn_app {os xs : ORow} {m : Nat} (h : Wn m os) (hx : xs.length ≤ 3) : Wn (m + 3) (os ++ xs) := fun i => by
  obtain ⟨j, h1, h2, h3⟩ := h i
  rcases Nat.lt_or_ge j os.length with z | z
  · refine ⟨j, h1, by omega, ?_⟩
    rw [List.getElem?_append_left z]
    exact h3
  · rcases Nat.lt_or_ge i (os.length + 3) with y | y
    · refine ⟨os.length + 3, by omega, by omega, ?_⟩
      rintro ⟨a, e, _⟩
      rw [List.getElem?_eq_none (by rw [List.length_append]; omega)] at e
      cases e
    · refine ⟨i, Nat.le_refl _, by omega, ?_⟩
      rintro ⟨a, e, _⟩
      rw [List.getElem?_eq_none (by rw [List.length_append]; omega)] at e
      cases e
/-- one item is another one -/
theorem wn_but {os os2 : ORow} {m s : Nat} (h : Wn m os) (e : ∀ j, j ≠ s → os2[j]? = os[j]?) : Wn (2 * m + 1) os2 := fun i => by
  obtain ⟨j, h1, h2, h3⟩ := h i
  by_cases z : j = s
  · obtain ⟨j2, g1, g2, g3⟩ := h (j + 1)
    refine ⟨j2, by omega, by omega, ?_⟩
    rw [e j2 (by omega)]
    exact g3
  · refine ⟨j, h1, by omega, ?_⟩
    rw [e j z]
    exact h3
theorem wn_mono {os : ORow} {m k : Nat} (h : Wn m os) (hk : m ≤ k) : Wn k os := fun i => by
  obtain ⟨j, h1, h2, h3⟩ := h i
  exact ⟨j, h1, by omega, h3⟩
/-! ### runs in forms -/
def Ru (m : Nat) : Nat → List Int → Prop
  | _, [] => True
  | c, a :: r => if a < 128 then Ru m 0 r else c + 1 ≤ m ∧ Ru m (c + 1) r
theorem ru_lo {m c : Nat} {a : Int} {r : List Int} (h : a < 128) (t : Ru m 0 r) : Ru m c (a :: r) := by
  show if a < 128 then _ else _
  rw [if_pos h]
  exact t
theorem ru_any {m c : Nat} {a : Int} {r : List Int} (hc : c + 1 ≤ m) (t : Ru m 0 r) (t1 : Ru m (c + 1) r) : Ru m c (a :: r) := by
  show if a < 128 then _ else _
  split
  · exact t
  · exact ⟨hc, t1⟩
theorem ru_down {m : Nat} : ∀ {r : List Int} {c c' : Nat}, Ru m c r → c' ≤ c → Ru m c' r
  | [], _, _, _, _ => trivial
  | a :: r, c, c', h, hc => by
    change if a < 128 then _ else _ at h
    show if a < 128 then _ else _
    split
    · rename_i z
      rwa [if_pos z] at h
    · rename_i z
      rw [if_neg z] at h
      exact ⟨by omega, ru_down h.2 (by omega)⟩
theorem ru_tail {m c : Nat} {a : Int} {r : List Int} (h : Ru m c (a :: r)) : Ru m 0 r := by
  change if a < 128 then _ else _ at h
  split at h
  · exact h
  · exact ru_down h.2 (Nat.zero_le _)
theorem ru_drop {m : Nat} : ∀ {r : List Int} (i : Nat), Ru m 0 r → Ru m 0 (r.drop i)
  | r, 0, h => h
  | [], i + 1, _ => trivial
  | a :: r, i + 1, h => ru_drop i (ru_tail h)
theorem ru_stop {m : Nat} : ∀ {r : List Int} {c : Nat}, c ≤ m → Ru m c r → ∃ j, j + c ≤ m ∧ ∀ a : Int, r[j]? = some a → a < 128
  | [], c, hc, _ => ⟨0, by omega, fun a e => by simp at e⟩
  | a :: r, c, hc, h => by
    change if a < 128 then _ else _ at h
    split at h
    · rename_i z
      exact ⟨0, by omega, fun b e => by
        have : a = b := by simpa using e
        omega⟩
    · obtain ⟨j, h1, h2⟩ := ru_stop h.1 h.2
      exact ⟨j + 1, by omega, fun b e => h2 b (by simpa using e)⟩
theorem wn_of_ru {m : Nat} {bs : List Int} (h : Ru m 0 bs) : Wn m (bs.map some) := fun i => by
  obtain ⟨j, h1, h2⟩ := ru_stop (Nat.zero_le _) (ru_drop i h)
  refine ⟨i + j, by omega, by omega, ?_⟩
  rintro ⟨a, e, ha⟩
  rw [List.getElem?_map] at e
  obtain ⟨b, e1, e2⟩ := Option.map_eq_some_iff.mp e
  have := h2 b (by rw [List.getElem?_drop]; exact e1)
  have := Option.some.inj e2
  omega
/-- a piece whose last octet is below 128, behind at most eight others -/
def Pc (x : List Int) : Prop := ∀ (c : Nat) (y : List Int), c ≤ 8 → Ru 30 0 y → Ru 30 c (x ++ y)
theorem grp_pos (n : Nat) : 0 < (grp n).length := by
  by_cases h : n < 128
  · rw [grp_lt h]
    exact Nat.one_pos
  · rw [grp_ge h, List.length_cons]
    omega
theorem ru_grp {n : Nat} : ∀ {c : Nat} {y : List Int}, c + (grp n).length ≤ 31 → Ru 30 0 y → Ru 30 c (grp n ++ y) := by
  induction n using Nat.strongRecOn with
  | _ n ih =>
    intro c y hc hy
    by_cases h : n < 128
    · rw [grp_lt h]
      exact ru_lo (by omega) hy
    · rw [grp_ge h] at hc ⊢
      rw [List.length_cons] at hc
      have := grp_pos (n / 128)
      refine ru_any (by omega) ?_ ?_
      · exact ih (n / 128) (by omega) (by omega) hy
      · exact ih (n / 128) (by omega) (by omega) hy
theorem ru_low {m : Nat} : ∀ {x : List Int} {c : Nat} {y : List Int}, (∀ a ∈ x, a < 128) → x ≠ [] → Ru m 0 y → Ru m c (x ++ y)
  | [], _, _, _, h, _ => absurd rfl h
  | [a], c, y, h, _, hy => ru_lo (h a List.mem_cons_self) hy
  | a :: b :: r, c, y, h, _, hy => ru_lo (h a List.mem_cons_self) (ru_low (fun x hx => h x (List.mem_cons_of_mem _ hx)) (by simp) hy)
theorem pc_grp {n : Nat} (h : WN n) : Pc (grp n) := fun c y hc hy => ru_grp (by have := grp_21 h; omega) hy
theorem pc_app {x z : List Int} (h : Pc x) (g : Pc z) : Pc (x ++ z) := fun c y hc hy => by
  rw [List.append_assoc]
  exact h c _ hc (g 0 y (by decide) hy)
theorem pc_lo {a : Int} {x : List Int} (ha : a < 128) (h : Pc x) : Pc (a :: x) := fun c y hc hy => ru_lo ha (h 0 y (by decide) hy)
theorem pc_one {a : Int} (ha : a < 128) : Pc [a] := fun c y hc hy => ru_lo ha hy
theorem pc_flat {α : Type} (f : α → List Int) : ∀ {l : List α} {a : Int}, a < 128 → (∀ x ∈ l, Pc (f x)) → Pc (a :: (l.map f).flatten)
  | [], a, ha, _ => pc_one ha
  | x :: r, a, ha, h => fun c y hc hy => by
    refine ru_lo ha ?_
    rw [List.map_cons, List.flatten_cons]
    show Ru 30 0 ((f x ++ (r.map f).flatten) ++ y)
    rw [List.append_assoc]
    refine h x List.mem_cons_self 0 _ (by decide) ?_
    have := pc_flat f (l := r) (a := 0) (by decide) (fun x hx => h x (List.mem_cons_of_mem _ hx)) 0 y (by decide) hy
    exact ru_tail this
theorem pc_I {more : Int} {d : D} {bs : List Int} (h : EncI more d bs) : Pc bs := by
  cases h with
  | mk a b c hb hc =>
      intro k y hk hy
      have g := grp_21 hb
      show Ru 30 k ((a + more) :: ((grp b ++ grp c) ++ y))
      rw [List.append_assoc]
      have t := pc_grp hc 0 y (by decide) hy
      exact ru_any (by omega) (ru_grp (by omega) t) (ru_grp (by omega) t)
theorem pc_T {d : D} {bs : List Int} (h : EncT d bs) : Pc bs := by
  cases h with
  | non => exact pc_one (by decide)
  | emp => exact pc_one (by decide)
  | id h => exact pc_I h
theorem pc_L {z : Str} (h : LowL z) : Pc (encL z) := fun c y hc hy => by
  refine ru_low (fun a ha => ?_) (by simp [encL]) hy
  rcases List.mem_cons.mp ha with rfl | ha
  · have := h.2
    omega
  · obtain ⟨n, hn, rfl⟩ := List.mem_map.mp ha
    have := h.1 n hn
    omega
theorem pc_N {d : D} {bs : List Int} (h : EncN d bs) : Pc bs := by
  cases h with
  | mk zs h l => exact pc_flat encL (by omega) fun z hz => pc_L (h z hz)
theorem pc_1 {d : D} {bs : List Int} (h : Ent1 d bs) : Pc bs := by
  cases h with
  | val k h => exact pc_lo (by decide) (pc_grp h)
  | nm h => exact pc_lo (by decide) (pc_N h)
theorem zig_wn {n : Int} (hn : n.natAbs < 2 ^ 138) : WN (zig n) := by
  unfold WN zig
  have h2 : (2 : Nat) ^ 140 = 4 * 2 ^ 138 := by decide +kernel
  rw [h2]
  generalize (2 : Nat) ^ 138 = t at *
  split <;> omega
theorem pc_F {d : D} {bs : List Int} (h : EncF d bs) : Pc bs := by
  cases h with
  | mk n d hn hd => exact pc_app (pc_grp (zig_wn hn)) (pc_grp hd)
theorem pc_rows (rs : List Row) (h : ∀ r ∈ rs, RowOk r) : ∀ y, Ru 30 0 y → ∀ c, c ≤ 8 → Ru 30 c ((rs.map rowB).flatten ++ 0 :: y) := fun y hy c hc => by
  induction rs generalizing c with
  | nil => exact ru_lo (by decide) hy
  | cons r t ih =>
    rw [List.map_cons, List.flatten_cons, List.append_assoc]
    have hr := h r List.mem_cons_self
    exact (pc_lo (by decide) (pc_app (pc_L hr.1) (pc_1 hr.2)) : Pc (rowB r)) c _ hc (ih (fun x hx => h x (List.mem_cons_of_mem _ hx)) 0 (by decide))
theorem pc_E {d : D} {bs : List Int} (h : EncE d bs) : Pc bs := by
  cases h with
  | non => exact pc_one (by decide)
  | one h => exact pc_1 h
  | page i rs h l =>
      intro c y hc hy
      refine ru_lo (by decide) ?_
      show Ru 30 0 (i :: (((rs.map rowB).flatten ++ [0]) ++ y))
      rw [List.append_assoc]
      have t := pc_rows rs h y hy
      exact ru_any (by decide) (t 0 (by decide)) (t 1 (by decide))
theorem pc_H {d : D} {bs : List Int} (h : EncH d bs) : Pc bs := by
  cases h with
  | value k h => exact pc_lo (by decide) (pc_grp h)
  | page i h n =>
      intro c y hc hy
      refine ru_lo (by decide) ?_
      exact ru_any (by decide) (pc_T h 0 y (by decide) hy) (pc_T h 1 y (by decide) hy)
  | nothing => exact pc_one (by decide)
  | long => exact pc_one (by decide)
  | far => exact pc_one (by decide)
theorem pc_A {d : D} {bs : List Int} (h : EncA d bs) : Pc bs := by
  cases h with
  | mk ns h g l => exact pc_app (pc_H h) (pc_flat (fun x : D × List Int => x.2) (by omega) fun x hx => pc_N (g x hx))
/-- a part: a piece, or one octet -/
theorem pc_P {w : Str} {d : D} {bs : List Int} (h : EncP w d bs) : Pc bs ∨ ∃ i, bs = [i] := by
  cases h with
  | kept h => exact .inl (pc_T h)
  | term h => exact .inl (pc_T h)
  | node h => obtain ⟨i, _, rfl⟩ := h; exact .inr ⟨i, rfl⟩
  | most h => obtain ⟨i, _, rfl⟩ := h; exact .inr ⟨i, rfl⟩
  | id h => exact .inl (pc_I h)
  | label h => obtain ⟨z, _, h, rfl⟩ := h; exact .inl (pc_L h)
  | entry h => exact .inl (pc_E h)
  | fraction h => exact .inl (pc_F h)
  | name h => exact .inl (pc_N h)
  | answer h => exact .inl (pc_A h)
theorem ru_parts : ∀ (ps : List (D × List Int)) (c : Nat), (∀ x ∈ ps, Pc x.2 ∨ ∃ i, x.2 = [i]) → c + ps.length ≤ 8 → Ru 30 c (ps.map (·.2)).flatten
  | [], _, _, _ => trivial
  | x :: r, c, h, hc => by
    rw [List.length_cons] at hc
    rw [List.map_cons, List.flatten_cons]
    rcases h x List.mem_cons_self with z | ⟨i, e⟩
    · exact z c _ (by omega) (ru_parts r 0 (fun y hy => h y (List.mem_cons_of_mem _ hy)) (by omega))
    · rw [e]
      exact ru_any (by omega) (ru_parts r 0 (fun y hy => h y (List.mem_cons_of_mem _ hy)) (by omega)) (ru_parts r (c + 1) (fun y hy => h y (List.mem_cons_of_mem _ hy)) (by omega))
theorem ru_V {d : D} {bs : List Int} (h : EncV d bs) : Ru 30 0 bs := by
  cases h with
  | mk j k ws ps hi hf hj l hp =>
    refine pc_I hi 0 _ (by decide) (pc_F hf 0 _ (by decide) ?_)
    have hj2 : j < 11 := by
      rcases Nat.lt_or_ge j 11 with z | z
      · exact z
      · rw [List.getElem?_eq_none z] at hj; cases hj
    refine ru_lo (by omega) (ru_parts ps 0 (fun x hx => ?_) (by have := (kind_bd hj).1; omega))
    obtain ⟨m, hm⟩ := List.mem_iff_getElem?.mp hx
    have hm2 : m < ws.length := by
      rcases Nat.lt_or_ge m ps.length with z | z
      · omega
      · rw [List.getElem?_eq_none z] at hm; cases hm
    exact pc_P (hp m _ x (List.getElem?_eq_getElem hm2) hm)
/-- a form's row -/
theorem wn_V {d : D} {bs : List Int} (h : EncV d bs) : Wn 30 (bs.map some) := wn_of_ru (ru_V h)
local macro_rules | `(tactic| walk_at "sq") => `(tactic| first | refine iteD rfl ?_ | refine iteDN (by decide +kernel) ?_)
local macro_rules | `(tactic| walk_at "gg") => `(tactic| repeat (first | walk_at "g1" | refine iteD rfl ?_ | refine iteDN (by decide +kernel) ?_))
def spFVn (K : PySem.W.Frag) : Sp := fun vs H Q _ => ∃ (v : V) (d : D) (bs : List Int), vs = [v] ∧ Dt K NoB H v d ∧ EncV d bs ∧ ∀ l H', NL H H' l bs → H l = none → Q (.ref l) H'
section
variable {X : Cx} {vs : List V} {H : Hp} {Q : VK} {E : XK}
theorem body_formN (c : Ctx X nq_form lq_form 5) (zz : X.mg "zip" = none) (dK : DT X "_law_kinds" [] 1 spKinds) (dW : DT X "_law_words" ["kind"] 1 spWords) (dI : DT X "_law_form_id" ["one", "more"] 2 (spFI X.K)) (dF : DT X "_law_form_fraction" ["one"] 2 (spFm EncF X.K)) (dP : DT X "_law_form_part" ["word", "part"] 5 (spFP X.K))
    (h : spFVn X.K vs H Q E) : RB X (defBody sq_form) { nx := fun _ H' => Q .non H', rt := Q } (start nq_form vs) H := by
  obtain ⟨v, d, bs, rfl, hv, hR, q⟩ := h
  have bd := encV_bd hR
  cases hR with
  | @mk di df ib fb j k ws ps hi hf hj lp hpp =>
    obtain ⟨p, ui, uf, ud, rfl, np, hp, hui, huf, hud⟩ := dt_three hv
    obtain ⟨pd, us0, rfl, nd, hpd, hus0⟩ := dt_tup_inv hud
    obtain ⟨uk, us, rfl, huk, hus⟩ := dts_cons_inv hus0
    obtain rfl := dt_str_inv huk
    obtain ⟨wl, ek, ekn⟩ := kind_bd hj
    have lus : us.length = ws.length := by rw [hus.1, List.length_map, lp]
    simp only [List.length_cons, List.length_append] at bd
    show RB X (defBody sq_form) _ [some (.ref p), none, none, none, none] H
    refine rb_cons (rs_set c (by walk_at "gm") .loc (by walk_at "gm") ?_)
    refine re_lindex ?_
    refine re_call0 c dK (by decide) (by walk_at "gm") ⟨rfl, fun lk hlk => ?_⟩
    have f1 : Fr NoB H (upd H lk (.lst (KINDSL.map V.str))) := Fr.new hlk
    refine ⟨lk, KINDSL, rfl, SqL.of upd_same, ?_⟩
    have hp1 := f1 _ _ np hp
    have hpd1 := f1 _ _ nd hpd
    have hk1 : upd H lk (.lst (KINDSL.map V.str)) lk = some (.lst (KINDSL.map V.str)) := upd_same
    generalize upd H lk (.lst (KINDSL.map V.str)) = H1 at f1 hp1 hpd1 hk1 ⊢
    walk_at "e"
    refine iv_tup (SqT.of hpd1) (at_nat (i := 0) rfl) ?_
    refine ⟨k, j, rfl, SqL.of hk1, ek, ekn, ?_⟩
    refine ⟨_, by walk_at "gs", ?_⟩
    walk_at "e0"
    refine re_call c dI (by decide) (by walk_at "gm") ?_
    walk_at "e"
    refine ⟨ui, 0, _, _, rfl, hui.fr f1, hi, fun l2 H2 n2 => ?_⟩
    have hp2 := n2.1 _ _ np hp1
    have f2 := f1.trans n2.1
    refine re_call c dF (by decide) (by walk_at "gm") ?_
    walk_at "e"
    refine ⟨uf, _, _, rfl, huf.fr f2, hf, fun l3 H3 n3 => ?_⟩
    refine ov_catI (f2.trans n3.1) (n3.1 _ _ (fun z => z) n2.2) n3.2 (by omega) fun l4 H4 n4 => ?_
    walk_at "e"
    refine ⟨by show 1 ≤ sizeLine; decide, fun G hG => ?_⟩
    have f5 : Fr NoB H4 (upd H4 G (.lst [.int (j : Int)])) := Fr.new hG
    refine ov_cat (f5 _ _ (fun z => z) n4.2) (upd_same (o := .lst [.int (j : Int)])) (sl (by simp only [List.length_map, List.length_append, List.length_singleton]; omega)) fun l6 hl6 => ?_
    have hf6 : H l6 = none := (n4.1.trans f5).free hl6
    have n6 : NL H (upd (upd H4 G (.lst [.int (j : Int)])) l6 (.lst ((ib ++ fb).map V.int ++ [.int (j : Int)]))) l6 ((ib ++ fb) ++ [(j : Int)]) := ⟨(n4.1.trans f5).trans (Fr.new hl6), by rw [upd_same]; simp⟩
    generalize upd (upd H4 G (.lst [.int (j : Int)])) l6 (.lst ((ib ++ fb).map V.int ++ [.int (j : Int)])) = H6 at n6 ⊢
    have hp6 := n6.1 _ _ np hp
    have hpd6 := n6.1 _ _ nd hpd
    walk_at "e"
    refine rb_cons ?_
    refine rs_for_zipM c (by walk_at "gm") .loc (by walk_at "gm") (by walk_at "gm") .loc (by walk_at "gm") (by walk_at "gm") zz ?_
    refine ra_cons ?_
    refine re_call c dW (by decide) (by walk_at "gm") ?_
    walk_at "e"
    refine ⟨j, k, ws, rfl, hj, fun lw H7 f7 hw7 => ?_⟩
    have hp7 := f7 _ _ np hp6
    have hpd7 := f7 _ _ nd hpd6
    walk_at "e"
    refine sv_tupD (lo := 1) (SqT.of hpd7) (by simp) (fun z => nomatch z) fun _ l hl => ?_
    walk_at "e"
    have f8 : Fr NoB H7 (upd H7 l (.tup us)) := Fr.new hl
    have hl8 : upd H7 l (.tup us) l = some (.tup us) := upd_same
    have hw8 := f8 _ _ (fun z => z) hw7
    have g8 : Fr NoB H (upd H7 l (.tup us)) := n6.1.trans (f7.trans f8)
    have n68 := (f7.trans f8) _ _ (fun z => z) n6.2
    have eus : (V.str k :: us).drop 1 = us := rfl
    rw [eus]
    generalize upd H7 l (.tup us) = H8 at f8 hl8 hw8 g8 n68 ⊢
    refine ⟨lw, l, ws.map V.str, us, rfl, by rw [List.length_map, lus], SqL.of hw8, SqT.of hl8,
      fun i σ H' => ∃ (F : Addr) (s4 s5 : Option V), NL H H' F (ib ++ (fb ++ (j : Int) :: ((ps.take i).map (·.2)).flatten)) ∧ H' lw = some (.lst (ws.map V.str)) ∧ H' l = some (.tup us) ∧ H F = none ∧ σ = [some (.ref p), some (.int (j : Int)), some (.ref F), s4, s5], ⟨l6, none, none, ⟨g8, by rw [n68]; simp⟩, hw8, hl8, hf6, rfl⟩, fun i σ H' _ h => ⟨SqL.of h.choose_spec.choose_spec.choose_spec.2.1, SqT.of h.choose_spec.choose_spec.choose_spec.2.2.1⟩, ?_, ?_⟩
    · rintro i y z σ H9 T hi9 hy hz ⟨F, s4, s5, n9, hw9, hl9, hf9, rfl⟩ hT
      obtain ⟨w, ew, rfl⟩ : ∃ w, ws[i]? = some w ∧ y = .str w := by
        have hy : (ws.map V.str)[i]? = some y := hy
        rw [List.getElem?_map] at hy
        cases e : ws[i]? with
        | none => rw [e] at hy; cases hy
        | some w => rw [e] at hy; exact ⟨w, rfl, (Option.some.inj hy).symm⟩
      rw [List.length_map] at hi9
      obtain ⟨x, ex⟩ : ∃ x, ps[i]? = some x := ⟨_, List.getElem?_eq_getElem (by omega)⟩
      have hx := hpp i w x ew ex
      have hz : us[i]? = some z := hz
      have hz1 := hus.2 i z x.1 hz (by rw [List.getElem?_map, ex]; rfl)
      have l5 := flat_le (fun x : D × List Int => x.2) ex
      have fT : Fr NoB H9 (upd H9 T (.tup [.str w, z])) := Fr.new hT
      refine ⟨_, _, by walk_at "gs", by walk_at "gs", ?_⟩
      have n10 := (NL.trans n9.1 ⟨fT, fT _ _ (fun z => z) n9.2⟩ : NL H _ F _)
      have hw10 := fT _ _ (fun z => z) hw9
      have hl10 := fT _ _ (fun z => z) hl9
      generalize upd H9 T (.tup [.str w, z]) = H10 at n10 hw10 hl10 ⊢
      walk_at "e0"
      refine re_call c dP (by decide) (by walk_at "gm") ?_
      walk_at "e"
      refine ⟨w, z, x.1, x.2, rfl, hz1.fr n10.1, hx, fun l11 H11 n11 => ?_⟩
      refine ov_cat (n11.1 _ _ (fun z => z) n10.2) n11.2 (sl (by simp only [List.length_map, List.length_append, List.length_cons]; omega)) fun l12 hl12 => ?_
      have f12 : Fr NoB H10 (upd H11 l12 (.lst ((ib ++ (fb ++ (j : Int) :: ((ps.take i).map (·.2)).flatten)).map V.int ++ x.2.map V.int))) := n11.1.trans (Fr.new hl12)
      walk_at "e"
      refine ⟨l12, _, _, ⟨n10.1.trans f12, ?_⟩, f12 _ _ (fun z => z) hw10, f12 _ _ (fun z => z) hl10, (n10.1.trans n11.1).free hl12, rfl⟩
      rw [upd_same, flat_succ (fun x : D × List Int => x.2) ex]
      simp
    · rintro σ H9 ⟨F, s4, s5, n9, hw9, hl9, hf9, rfl⟩
      rw [List.length_map, ← lp, List.take_length] at n9
      walk_at "e0"
      exact q F H9 n9 hf9
end
local macro_rules | `(tactic| walk_at "its") => `(tactic| repeat (first | exact ItL.nil | refine ItL.cons (fun _ _ => rfl) (it_de (by walk_at "de") (pz (by decide))) ?_))
abbrev oct : D → Option Int
  | .int i => some i
  | _ => none
/-- a row of items that may be read -/
structure RowD (ds : List D) : Prop where
  ok : OsOk (ds.map oct)
  dp : ∀ d ∈ ds, Dep 1 d
theorem item_of {K : PySem.W.Frag} {B : Addr → Prop} {H : Hp} {v : V} {d : D} (h : Dt K B H v d) : ItemR H v (oct d) := by
  cases h with
  | non => exact .non
  | bl => exact .bl
  | int => exact .int
  | str => exact .str
  | lst n t l h => exact .lst t
  | tup n t l h => exact .tup t
theorem items_of {K : PySem.W.Frag} {B : Addr → Prop} {H : Hp} {vs : List V} {ds : List D} (h : Dts K B H vs ds) : Items H vs (ds.map oct) := ⟨by rw [List.length_map, h.1], fun i v o a b => by
  rw [List.getElem?_map] at b
  obtain ⟨d, e1, rfl⟩ := Option.map_eq_some_iff.mp b
  exact item_of (h.2 i v d a e1)⟩
theorem dts_int2 {K : PySem.W.Frag} {B : Addr → Prop} {H : Hp} : ∀ is : List Int, Dts K B H (is.map V.int) (is.map D.int)
  | [] => .nil
  | i :: r => .cons .int (dts_int2 r)
theorem oct_ints (is : List Int) : (is.map D.int).map oct = is.map some := by
  rw [List.map_map]
  rfl
theorem row_ints {is : List Int} (h : is.length ≤ 139) : RowD (is.map D.int) := ⟨ok_of_len (by rw [List.length_map, List.length_map]; exact h), fun d hd => by
  obtain ⟨i, _, rfl⟩ := List.mem_map.mp hd
  exact .int⟩
theorem row_len {ds : List D} (h : ds.length ≤ 139) (g : ∀ d ∈ ds, Dep 1 d) : RowD ds := ⟨ok_of_len (by rw [List.length_map]; exact h), g⟩
theorem encV_len {d : D} {bs : List Int} (h : EncV d bs) : 3 ≤ bs.length := by
  cases h with
  | mk j k ws ps hi hf hj l hp =>
    cases hi with
    | mk a b c hb hc =>
      have := grp_pos b
      have := grp_pos c
      simp only [List.length_append, List.length_cons]
      omega
theorem row_V {d : D} {bs : List Int} (h : EncV d bs) : RowD (bs.map D.int) := ⟨by
  rw [oct_ints]
  exact ok_of_wn (wn_V h) (by decide) (by rw [List.length_map]; have := encV_bd h; omega), fun d hd => by
  obtain ⟨i, _, rfl⟩ := List.mem_map.mp hd
  exact .int⟩
def Itm (d : D) : Prop := Dep 1 d
/-- a new item, none of whose parts stood there -/
def spItem (K : PySem.W.Frag) : Sp := fun vs H Q _ => ∃ b : Addr, vs = [.ref b] ∧ BoxAt H b ∧ ∀ v d H', Itm d → Dt K (Old H) H' v d → Fr (· = b) H H' → BoxAt H' b → Q v H'
section
variable {X : Cx} {os : ORow} {vs : List V} {H H0 H1 : Hp} {Q Q1 : VK} {E : XK}
theorem old_fr {b : Addr} {v : V} {d : D} (hB : BoxAt H b) (h : Dt X.K (Old H) H0 v d) (f : Fr (· = b) H0 H1) : Dt X.K (Old H) H1 v d := h.fr fun a o n e => f a o (fun z => n (by rw [z]; exact old_box hB)) e
theorem body_item (c : Ctx X nq_item lq_item 2) (dT : DT X "_law_take" ["box", "many"] 1 spTake) (dP : DT X "_law_pick" ["box", "some"] 2 (spPick X.K)) (h : spItem X.K vs H Q E) :
    RB X (defBody sq_item) { nx := fun _ H' => Q .non H', rt := Q } (start nq_item vs) H := by
  obtain ⟨b, rfl, hB, q⟩ := h
  show RB X (defBody sq_item) _ [some (.ref b)] H
  walk_at "g0"
  refine re_call c dT (by decide) (by walk_at "gm") ?_
  walk_at "e"
  refine ⟨b, _, rfl, hB, by decide, by decide, fun x H1 x0 x1 f1 hB1 => ?_⟩
  have up : ∀ {H2 : Hp} {v : V} {d : D}, Dt X.K (Old H1) H2 v d → Dt X.K (Old H) H2 v d := fun h => h.mono fun a na e => by
    by_cases z : a = b
    · subst z
      exact old_box hB1 e
    · exact na (f1.gone z e)
  walk_at "e"
  refine ite2 (fun e => ?_) (fun e => ?_)
  · walk_at "g"
    refine re_call c dP (by decide) (by walk_at "gm") ?_
    refine ra_cons (re_name c (by walk_at "gs") (by walk_at "gm") .loc ?_)
    refine ra_cons (re_dataL (ds := [.int 256, .int (0 - 1), .non, .bl true, .bl false, .str "0", .tup [.int 0], .int ((10 : Int) ^ Int.toNat 9), .lst [.int 1]]) (by walk_at "de") (by decide) fun l us H2 hl f2 h2 hd2 => ra_nil ?_)
    refine ⟨b, hB1.fr f2, l, us, rfl, h2, hB1.ne hl, by rw [hd2.1]; decide, by rw [hd2.1]; decide, fun v H3 hv f3 hB3 => ?_⟩
    obtain ⟨i, hi⟩ := List.mem_iff_getElem?.mp hv
    have hlt : i < us.length := (List.getElem?_eq_some_iff.mp hi).1
    have hdi := hd2.2 i v _ hi (List.getElem?_eq_getElem (by rw [← hd2.1]; exact hlt))
    refine q v _ H3 ?_ (up (old_fr hB1 hdi f3)) (f1.trans (f2.any.trans f3)) hB3
    have key : ∀ d ∈ ([.int 256, .int (0 - 1), .non, .bl true, .bl false, .str "0", .tup [.int 0], .int ((10 : Int) ^ Int.toNat 9), .lst [.int 1]] : List D), Dep 1 d :=
      dep_cons .int (dep_cons .int (dep_cons .non (dep_cons .bl (dep_cons .bl (dep_cons .str (dep_cons (dep_t (dep_cons .int dep_nil)) (dep_cons .int (dep_cons (.lst (dep_cons .int dep_nil)) dep_nil))))))))
    exact key _ (List.getElem_mem _)
  · walk_at "g"
    refine re_pickI (P := PZ 0 255) c (by decide) dP (by walk_at "gm") (by walk_at "gm") .loc (by walk_at "gs") hB1 (by
      walk_at "its"
      refine .cons (fun _ _ => rfl) (it_take (by decide) (by decide) (by decide) (by decide) c (by decide) dT (by walk_at "gm") (by walk_at "gm") .loc (by walk_at "gs")) ?_
      exact .cons (fun _ _ => rfl) (it_take (by decide) (by decide) (by decide) (by decide) c (by decide) dT (by walk_at "gm") (by walk_at "gm") .loc (by walk_at "gs")) .nil) (by decide) (by decide) fun v d H2 hd dv f2 hB2 => ?_
    obtain ⟨a, rfl, a0, a1⟩ := hd
    obtain rfl := dt_int_inv dv
    exact q (.int a) (.int a) H2 .int .int (f1.trans f2) hB2
end
local macro_rules | `(tactic| walk_at "its") => `(tactic| repeat (first | exact ItL.nil | refine ItL.cons (fun _ _ => rfl) (it_de (by walk_at "de") (pz (by decide))) ?_))
theorem cutV_to {α : Type} (us : List V) (k : Nat) : cutV us none (some (k : Int)) = us.take k := by
  show (us.drop (HT.sIx us.length 0 none)).take (HT.sIx us.length us.length (some (k : Int)) - HT.sIx us.length 0 none) = _
  rw [HT.sIx_nat, HT.sIx_none, List.drop_zero, Nat.sub_zero]
  rcases Nat.le_total k us.length with h | h
  · rw [Nat.min_eq_left h]
  · rw [Nat.min_eq_right h, List.take_length, List.take_of_length_le h]
theorem dts_setK {K : PySem.W.Frag} {B : Addr → Prop} {H : Hp} {vs : List V} {ds : List D} {v : V} {d : D} (h : Dts K B H vs ds) (hv : Dt K B H v d) (k : Nat) : Dts K B H (vs.set k v) (ds.set k d) := by
  refine ⟨by rw [List.length_set, List.length_set, h.1], fun i u e a b => ?_⟩
  rw [List.getElem?_set] at a b
  by_cases z : k = i
  · rw [if_pos z] at a b
    split at a
    · rename_i y
      rw [if_pos (by rw [← h.1]; exact y)] at b
      cases a
      cases b
      exact hv
    · cases a
  · rw [if_neg z] at a b
    exact h.2 i u e a b
/-- a row of items in a list of its own -/
def ItemsR (K : PySem.W.Frag) (b : Addr) (H' : Hp) (l : Addr) (ds : List D) : Prop := ∃ us, H' l = some (.lst us) ∧ l ≠ b ∧ Dts K (fun a => a = b ∨ a = l) H' us ds ∧ RowD ds
def spItems (K : PySem.W.Frag) : Sp := fun vs H Q _ => ∃ b : Addr, vs = [.ref b] ∧ BoxAt H b ∧ ∀ l ds H', H l = none → ItemsR K b H' l ds → Fr (· = b) H H' → BoxAt H' b → Q (.ref l) H'
theorem sz {n : Nat} (h : n ≤ 90000) : n ≤ sizeLine := Nat.le_trans h (by decide)
section
variable {X : Cx} {os : ORow} {vs : List V} {H H0 H1 : Hp} {Q Q1 : VK} {E : XK} {σ : L2.St} {N : List Str} {L Lc : List (Str × KN)} {k n : Nat} {scope : Scope} {x : Str} {elt : Expr} {b : Addr} {R : D → Prop}
/-- [e for x in ..], e gives new data -/
theorem cturns_new {stand : Hp → Prop} {it : Nat → V → Prop} {H1 : Hp} {Q : VK} (hl : n ≤ 1000) (hb : BoxAt H1 b) (hs : ∀ H', Fr (· = b) H1 H' → stand H') {σf : V → L2.St} (hp : ∀ y, Put N σ x y (σf y))
    (he : ∀ i y H', i < n → it i y → BoxAt H' b → Fr (· = b) H1 H' → REA X N Lc k scope elt (σf y) H' fun z H'' => ∃ d, R d ∧ Dt X.K (Old H') H'' z d ∧ Fr (· = b) H' H'' ∧ BoxAt H'' b)
    (q : ∀ Dn vs ds H', H1 Dn = none → Fr (· = b) H1 H' → BoxAt H' b → H' Dn = some (.lst vs) → Dts X.K (fun a => a = b ∨ a = Dn) H' vs ds → ds.length = n → (∀ d ∈ ds, R d) → Q (.ref Dn) H') : CTurns X N Lc k scope x elt [] stand n it σ H1 Q := by
  intro Dn hD
  have nb : ¬ Dn = b := hb.ne hD
  refine ⟨fun i H' => ∃ vs ds, H' Dn = some (.lst vs) ∧ Fr (· = b) H1 H' ∧ BoxAt H' b ∧ Dts X.K (fun a => a = b ∨ a = Dn) H' vs ds ∧ ds.length = i ∧ ∀ d ∈ ds, R d, ⟨[], [], upd_same, Fr.new hD, hb.put nb, .nil, rfl, fun d h => by cases h⟩, ?_, ?_, ?_⟩
  · rintro i H' _ ⟨vs, ds, _, f, _⟩
    exact hs H' f
  · rintro i y H' hi hy ⟨vs, ds, h1, f, bx, hd, hn, hr⟩
    refine ⟨σf y, hp y, fun s Hb C cl fp cb => rts_nil (iteT fun s Hb C cl fp cb => pe_mono (he i y H' hi hy bx f s Hb C cl fp cb) ?_)⟩
    rintro z H'' ⟨d, rd, dz, f2, b2⟩
    have h2 := f2 _ _ nb h1
    have dz2 : Dt X.K (fun a => a = b ∨ a = Dn) H'' z d := dz.mono fun a ha => by
      rcases ha with e | e
      · rw [e]; exact old_box bx
      · rw [e]; exact old_at h1
    have hd2 : Dts X.K (fun a => a = b ∨ a = Dn) H'' vs ds := hd.fr (f2.sub fun a e => .inl e)
    have fD : ∀ o, Fr (fun a => a = b ∨ a = Dn) H'' (upd H'' Dn o) := fun o a u na ea => by
      rw [upd_ne (fun e => na (.inr e))]
      exact ea
    refine ⟨vs, h2, by rw [hd2.1, hn]; exact Nat.lt_of_lt_of_le (show i < 1001 by omega) (by decide), vs ++ [z], ds ++ [d], upd_same, ?_, b2.put nb, (dts_app hd2 (.cons dz2 .nil)).fr (fD _), by rw [List.length_append, hn]; rfl, ?_⟩
    · exact (f.trans f2).put hD
    · intro e he
      rcases List.mem_append.mp he with he | he
      · exact hr e he
      · rw [List.mem_singleton.mp he]
        exact rd
  · rintro H' ⟨vs, ds, h1, f, bx, hd, hn, hr⟩
    exact q Dn vs ds H' hD f bx h1 hd hn hr
theorem pz_ints : ∀ {ds : List D} {lo hi : Int}, (∀ d ∈ ds, PZ lo hi d) → ∃ is : List Int, ds = is.map D.int
  | [], _, _, _ => ⟨[], rfl⟩
  | d :: r, lo, hi, h => by
    obtain ⟨is, e⟩ := pz_ints (fun x hx => h x (List.mem_cons_of_mem _ hx))
    obtain ⟨i, e2, _⟩ := h d List.mem_cons_self
    exact ⟨i :: is, by rw [e, e2]; rfl⟩
theorem dts_ints_inv {K : PySem.W.Frag} {B : Addr → Prop} : ∀ {is : List Int} {us : List V}, Dts K B H us (is.map D.int) → us = is.map V.int
  | [], us, h => List.eq_nil_of_length_eq_zero h.1
  | i :: r, us, h => by
    obtain ⟨u, ur, rfl, h1, h2⟩ := dts_cons_inv h
    rw [dt_int_inv h1, dts_ints_inv h2]
    rfl
theorem gone2 {H H' : Hp} {b p : Addr} (f : Fr (· = b) H H') (hB : BoxAt H' b) (hp : H' p = none) : H p = none := f.gone (fun z => by rw [z] at hp; exact old_box hB hp) hp
theorem dt_new {K : PySem.W.Frag} {B : Addr → Prop} {H : Hp} {v : V} {d : D} {p : Addr} (h : Dt K B H v d) (hp : H p = none) : Dt K (fun a => B a ∨ a = p) H v d := by
  induction h with
  | non => exact .non
  | bl => exact .bl
  | int => exact .int
  | str => exact .str
  | lst n t l _ ih => exact .lst (fun z => z.elim n fun z => by rw [z, hp] at t; cases t) t l ih
  | tup n t l _ ih => exact .tup (fun z => z.elim n fun z => by rw [z, hp] at t; cases t) t l ih
def wm : Nat → Nat
  | 0 => 30
  | i + 1 => 2 * wm i + 1
def PLi (d : D) : Prop := ∃ is : List Int, d = .lst (is.map D.int) ∧ is.length ≤ 6
theorem body_items (c : Ctx X nq_items lq_items 8) (zl : X.mg "len" = none) (zr : X.mg "range" = none) (dT : DT X "_law_take" ["box", "many"] 1 spTake) (dP : DT X "_law_pick" ["box", "some"] 2 (spPick X.K)) (dI : DT X "_law_item" ["box"] 3 (spItem X.K))
    (dE : DT X "_law_event" ["box", "kind", "most"] 8 (spEvent X.K)) (dF : DT X "_law_form" ["event"] 6 (spFVn X.K)) (h : spItems X.K vs H Q E) :
    RB X (defBody sq_items) { nx := fun _ H' => Q .non H', rt := Q } (start nq_items vs) H := by
  obtain ⟨b, rfl, hB, q⟩ := h
  show RB X (defBody sq_items) _ [some (.ref b), none, none, none, none, none, none, none] H
  walk_at "g0"
  refine re_call c dF (by decide) (by walk_at "gm") ?_
  refine ra_cons ?_
  refine re_call c dE (by decide) (by walk_at "gm") ?_
  walk_at "e"
  refine re_call c dT (by decide) (by walk_at "gm") ?_
  walk_at "e"
  refine ⟨b, _, rfl, hB, by decide, by decide, fun x1 H1 a1 a2 f1 hB1 => ?_⟩
  walk_at "e"
  refine re_call c dT (by decide) (by walk_at "gm") ?_
  walk_at "e"
  refine ⟨b, _, rfl, hB1, by decide, by decide, fun x2 H2 a3 a4 f2 hB2 => ?_⟩
  walk_at "e"
  obtain ⟨j, rfl⟩ : ∃ j : Nat, x1 = j := ⟨x1.toNat, by omega⟩
  refine ⟨b, j, 1 + x2, rfl, by omega, by omega, by omega, hB2, fun v d H3 hd dv f3 hB3 => ?_⟩
  obtain ⟨bs, hV⟩ := hd
  have bd := encV_bd hV
  have b3 := encV_len hV
  refine ra_nil ⟨v, d, bs, rfl, dv.mono (fun a z => z.elim), hV, fun l H4 n4 hl => ?_⟩
  have f03 := (f1.trans f2).trans f3
  have hB4 := hB3.fr n4.1
  have f04 : Fr (· = b) H H4 := f03.trans n4.1.any
  have hl0 : H l = none := f03.gone (fun z => by rw [z] at hl; obtain ⟨g, r, hg, _⟩ := hB3; rw [hg] at hl; cases hl) hl
  have nlb : ¬ l = b := fun z => by rw [z] at hl; obtain ⟨g, r, hg, _⟩ := hB3; rw [hg] at hl; cases hl
  have h4 : H4 l = some (.lst (bs.map V.int)) := n4.2
  walk_at "e"
  refine rb_cons (rs_par2 c (by walk_at "gm") (by walk_at "gm") (by walk_at "gm") (by walk_at "gm") (by decide) ?_)
  walk_at "e"
  refine re_call c dT (by decide) (by walk_at "gm") ?_
  walk_at "e"
  refine ⟨b, _, rfl, hB4, by decide, by decide, fun way H5 w0 w6 f5 hB5 => ?_⟩
  have h5 := f5 _ _ nlb h4
  walk_at "e"
  refine re_call c dT (by decide) (by walk_at "gm") ?_
  walk_at "e"
  refine lv_lenL (SqL.of h5) ?_
  rw [List.length_map]
  walk_at "e"
  refine ⟨b, _, rfl, hB5, by omega, by omega, fun spot H6 s0 s6 f6 hB6 => ?_⟩
  obtain ⟨sp, rfl⟩ : ∃ sp : Nat, spot = sp := ⟨spot.toNat, by omega⟩
  have h6 := f6 _ _ nlb h5
  have f06 : Fr (· = b) H H6 := (f04.trans f5).trans f6
  walk_at "e"
  refine ⟨_, _, _, _, rfl, by walk_at "gs", by walk_at "gs", ?_⟩
  have newl : ∀ {p : Addr}, H6 p = none → H p = none := fun {p} hp => gone2 f06 hB6 hp
  walk_at "g"
  refine ite2 (fun e => ?_) (fun e => ?_)
  · walk_at "g"
    refine sv_list (SqL.of h6) fun p hp => ?_
    walk_at "e"
    rw [cutV_to (α := Nat), ← List.map_take]
    refine q p ((bs.take sp).map D.int) _ (newl hp) ⟨_, upd_same, hB6.ne hp, dts_int2 _, ?_⟩ (f06.trans (Fr.new hp)) (hB6.fr (Fr.new hp))
    refine ⟨?_, fun d hd => ?_⟩
    · rw [oct_ints, List.map_take]
      exact ok_of_wn (wn_take (wn_V hV) sp) (by decide) (by rw [List.length_take, List.length_map]; omega)
    · obtain ⟨i, _, rfl⟩ := List.mem_map.mp hd
      exact .int
  · walk_at "g"
    refine ite2 (fun e => ?_) (fun e => ?_)
    · walk_at "g"
      refine re_lc_range c lq_items_c0 (by decide +kernel) (by walk_at "gm") zr ?_
      walk_at "e"
      refine re_call c dT (by decide) (by walk_at "gm") ?_
      walk_at "e"
      refine ⟨b, _, rfl, hB6, by decide, by decide, fun x3 H7 g0 g3 f7 hB7 => ?_⟩
      walk_at "e"
      refine ⟨by omega, by omega, ?_⟩
      have h7 := f7 _ _ nlb h6
      refine cturns_new (R := Itm) (b := b) (by omega) hB7 (fun _ _ => trivial) (fun y => by walk_at "gs") ?_ ?_
      · rintro i y H8 hi rfl bx f8 s Hb C cl fp cb
        refine re_call cb dI (by decide) (by walk_at "gm") ?_
        refine ra_cons (re_name cb (by walk_at "gs") (by walk_at "gm") .cap (ra_nil ?_))
        exact ⟨b, rfl, bx, fun v d H9 hd dv f9 b9 => ⟨d, hd, dv, f9, b9⟩⟩
      · intro Dn us ds H8 hD f8 b8 hDn hd hn hr
        have h8 := f8 _ _ nlb h7
        have ln : ds.length ≤ 3 := by omega
        refine ov_cat h8 hDn (by rw [List.length_map, hd.1]; exact sz (by omega)) fun p hp => ?_
        have hd9 : Dts X.K (fun a => a = b ∨ a = p) (upd H8 p (.lst (bs.map V.int ++ us))) (bs.map V.int ++ us) (bs.map D.int ++ ds) :=
          dts_app (dts_int2 _) ⟨hd.1, fun i v d a1 a2 => ((dt_new (hd.2 i v d a1 a2) hp).mono fun a z => z.elim (fun z => .inl (.inl z)) .inr).fr (Fr.new hp)⟩
        refine q p (bs.map D.int ++ ds) _ (newl (gone2 (f7.trans f8) b8 hp)) ⟨_, upd_same, b8.ne hp, hd9, ?_⟩ ((f06.trans (f7.trans f8)).trans (Fr.new hp)) (b8.fr (Fr.new hp))
        refine ⟨?_, fun d hd => ?_⟩
        · rw [List.map_append, oct_ints]
          exact ok_of_wn (wn_app (wn_V hV) (by rw [List.length_map]; exact ln)) (by decide) (by rw [List.length_append, List.length_map, List.length_map]; omega)
        · rcases List.mem_append.mp hd with z | z
          · obtain ⟨i, _, rfl⟩ := List.mem_map.mp z
            exact .int
          · exact hr d z
    · walk_at "g"
      refine ite2 (fun e => ?_) (fun e => ?_)
      · walk_at "g"
        refine re_lc_range c lq_items_c1 (by decide +kernel) (by walk_at "gm") zr ?_
        walk_at "e"
        refine re_call c dT (by decide) (by walk_at "gm") ?_
        walk_at "e"
        refine ⟨b, _, rfl, hB6, by decide, by decide, fun x3 H7 g0 g3 f7 hB7 => ?_⟩
        walk_at "e"
        refine ⟨by omega, by omega, ?_⟩
        refine cturns_new (R := PZ 0 200) (b := b) (by omega) hB7 (fun _ _ => trivial) (fun y => by walk_at "gs") ?_ ?_
        · rintro i y H8 hi rfl bx f8 s Hb C cl fp cb
          refine re_pickI (P := PZ 0 200) cb (by decide) dP (by walk_at "gm") (by walk_at "gm") .cap (by walk_at "gs") bx (by walk_at "its") (by decide) (by decide) fun v d H9 hd dv f9 b9 => ?_
          obtain ⟨a, rfl, a0, a1⟩ := hd
          obtain rfl := dt_int_inv dv
          exact ⟨.int a, ⟨a, rfl, a0, a1⟩, .int, f9, b9⟩
        · intro Dn us ds H8 hD f8 b8 hDn hd hn hr
          obtain ⟨is, rfl⟩ := pz_ints hr
          refine q Dn (is.map D.int) _ (newl (gone2 f7 hB7 hD)) ⟨_, hDn, hB7.ne hD, hd, row_ints (by rw [List.length_map] at hn; omega)⟩ (f06.trans (f7.trans f8)) b8
      · walk_at "g"
        refine ite2 (fun e => ?_) (fun e => ?_)
        · walk_at "g"
          refine re_pickI (P := PZ 1 40) c (by decide) dP (by walk_at "gm") (by walk_at "gm") .cell (by walk_at "gs") hB6 (by walk_at "its") (by decide) (by decide) fun v d H7 hd dv f7 hB7 => ?_
          obtain ⟨m, rfl, m0, m1⟩ := hd
          obtain rfl := dt_int_inv dv
          refine ⟨_, by walk_at "gs", ?_⟩
          refine rb_cons (rs_lc_range c lq_items_c2 (by decide +kernel) (by walk_at "gm") zr (by walk_at "gm") (by walk_at "gm") ?_)
          walk_at "e"
          refine ⟨by omega, by omega, ?_⟩
          refine cturns_new (R := PZ 0 300) (b := b) (by omega) hB7 (fun _ _ => trivial) (fun y => by walk_at "gs") ?_ ?_
          · rintro i y H8 hi rfl bx f8 s Hb C cl fp cb
            refine re_bin (re_int ?_)
            refine re_call cb dT (by decide) (by walk_at "gm") ?_
            refine ra_cons (re_name cb (by walk_at "gs") (by walk_at "gm") .cap (ra_cons (re_int (ra_nil ?_))))
            refine ⟨b, 128, rfl, bx, by decide, by decide, fun x H9 x0 x1 f9 b9 => ?_⟩
            refine ov_add ?_
            exact ⟨.int (128 + x), ⟨_, rfl, by omega, by omega⟩, .int, f9, b9⟩
          · intro Dn us ds H8 hD f8 b8 hDn hd hn hr
            obtain ⟨is, rfl⟩ := pz_ints hr
            obtain rfl := dts_ints_inv hd
            rw [List.length_map] at hn
            have nDb : ¬ Dn = b := hB7.ne hD
            refine ⟨_, by walk_at "gs", ?_⟩
            walk_at "g0"
            refine re_pickI (P := PLi) c (by decide) dP (by walk_at "gm") (by walk_at "gm") .cell (by walk_at "gs") b8 (by
              refine .cons (fun _ _ => rfl) (it_de (d := .lst [.int 5]) (by walk_at "de") ⟨[5], rfl, by decide⟩) ?_
              refine .cons (fun _ _ => rfl) (it_de (d := .lst [.int 5, .int 0]) (by walk_at "de") ⟨[5, 0], rfl, by decide⟩) ?_
              refine .cons (fun _ _ => rfl) (it_de (d := .lst [.int 5, .int 0, .int 0]) (by walk_at "de") ⟨[5, 0, 0], rfl, by decide⟩) ?_
              refine .cons (fun _ _ => rfl) (it_de (d := .lst [.int 5, .int 0, .int 0, .int 1]) (by walk_at "de") ⟨[5, 0, 0, 1], rfl, by decide⟩) ?_
              refine .cons (fun _ _ => rfl) (it_de (d := .lst [.int 5, .int 0, .int 0, .int 4]) (by walk_at "de") ⟨[5, 0, 0, 4], rfl, by decide⟩) ?_
              exact .cons (fun _ _ => rfl) (it_de (d := .lst [.int 5, .int 0, .int 0, .int 60]) (by walk_at "de") ⟨[5, 0, 0, 60], rfl, by decide⟩) .nil) (by decide) (by decide) fun v d H9 hd dv f9 hB9 => ?_
            obtain ⟨js, rfl, lj⟩ := hd
            obtain ⟨p9, ws, rfl, np9, tp9, hp9⟩ := lst_at dv
            obtain rfl := dts_ints_inv hp9
            have hD9 := f9 _ _ nDb hDn
            refine ⟨_, by walk_at "gs", ?_⟩
            walk_at "g0"
            refine ov_cat tp9 hD9 (by rw [List.length_map, List.length_map]; exact sz (by omega)) fun p10 hp10 => ?_
            have B10 := hB9.fr (Fr.new (o := .lst (js.map V.int ++ is.map V.int)) hp10)
            walk_at "e"
            refine re_pickI (P := PZ 0 128) c (by decide) dP (by walk_at "gm") (by walk_at "gm") .cell (by walk_at "gs") B10 (by walk_at "its") (by decide) (by decide) fun v d H11 hd dv f11 hB11 => ?_
            obtain ⟨z, rfl, z0, z1⟩ := hd
            obtain rfl := dt_int_inv dv
            have h11 := f11 _ _ (hB9.ne hp10) upd_same
            walk_at "e"
            refine ⟨by show 3 ≤ sizeLine; decide, fun p12 hp12 => ?_⟩
            have h12 : (upd H11 p12 (.lst [.int z, .int 1, .int 1])) p10 = some (.lst (js.map V.int ++ is.map V.int)) := by rw [upd_ne (ne_of_none h11 hp12)]; exact h11
            refine ov_cat h12 upd_same (by rw [List.length_append, List.length_map, List.length_map]; exact sz (by show _ + 3 ≤ _; omega)) fun p13 hp13 => ?_
            walk_at "e"
            have B12 := hB11.fr (Fr.new (o := .lst [.int z, .int 1, .int 1]) hp12)
            have ff : Fr (· = b) H6 (upd H11 p12 (.lst [.int z, .int 1, .int 1])) := ((((f7.trans f8).trans f9).trans (Fr.new hp10)).trans f11).trans (Fr.new hp12)
            refine q p13 ((js ++ is ++ [z, 1, 1]).map D.int) _ (newl (gone2 ff B12 hp13)) ⟨(js ++ is ++ [z, 1, 1]).map V.int, by rw [upd_same]; simp, B12.ne hp13, dts_int2 _, row_ints (by rw [List.length_append, List.length_append]; show _ + 3 ≤ _; omega)⟩ ((f06.trans ff).trans (Fr.new hp13)) (B12.fr (Fr.new hp13))
        · walk_at "g"
          refine ite2 (fun e => ?_) (fun e => ?_)
          · walk_at "g"
            exact q l (bs.map D.int) H6 hl0 ⟨_, h6, nlb, dts_int2 _, row_V hV⟩ f06 hB6
          · walk_at "e"
            refine rb_cons (rs_for_range c (by walk_at "gm") .loc (by walk_at "gm") (by walk_at "gm") zr ?_)
            walk_at "e"
            refine re_call c dT (by decide) (by walk_at "gm") ?_
            walk_at "e"
            refine ⟨b, _, rfl, hB6, by decide, by decide, fun x3 H7 g0 g3 f7 hB7 => ?_⟩
            walk_at "e"
            have h7 := f7 _ _ nlb h6
            refine ⟨by omega, by omega, fun i σ' H' => ∃ (us : List V) (ds : List D) (s7 : Option V), σ' = [some (.ref b), some (.ref l), some (.int way), some (.int (sp : Int)), none, none, none, s7] ∧ H' l = some (.lst us) ∧ Fr (· = b) H H' ∧ BoxAt H' b ∧ Dts X.K (fun a => a = b ∨ a = l) H' us ds ∧ ds.length = bs.length ∧ Wn (wm i) (ds.map oct) ∧ ∀ d ∈ ds, Dep 1 d, ?_, fun _ _ _ _ _ => trivial, ?_, ?_⟩
            · exact ⟨_, bs.map D.int, _, rfl, h7, f06.trans f7, hB7, dts_int2 _, List.length_map _, by rw [oct_ints]; exact wn_V hV, dep_ints⟩
            · rintro i y σ' H8 hi rfl ⟨us, ds, s7, rfl, h8, f8, b8, hd8, ln, wn, dp⟩
              refine ⟨_, by walk_at "gs", ?_⟩
              walk_at "g0"
              refine re_call c dI (by decide) (by walk_at "gm") ?_
              walk_at "e"
              refine ⟨b, rfl, b8, fun v d H9 hdI dv f9 b9 => ?_⟩
              have h9 := f9 _ _ nlb h8
              walk_at "e"
              refine re_call c dT (by decide) (by walk_at "gm") ?_
              walk_at "e"
              refine lv_lenL (SqL.of h9) ?_
              walk_at "e"
              refine ⟨b, _, rfl, b9, by rw [hd8.1, ln]; omega, by rw [hd8.1, ln]; omega, fun x4 H10 g4 g5 f10 b10 => ?_⟩
              have h10 := f10 _ _ nlb h9
              obtain ⟨m, rfl⟩ : ∃ m : Nat, x4 = m := ⟨x4.toNat, by omega⟩
              refine ⟨l, us, (m : Int), m, rfl, rfl, h10, by unfold ixN; rw [if_pos (Int.natCast_nonneg m), if_pos g5]; rfl, ?_⟩
              walk_at "g"
              have fl : ∀ o, Fr (fun a => a = b ∨ a = l) H10 (upd H10 l o) := fun o a u na ea => by
                rw [upd_ne (fun e => na (.inr e))]
                exact ea
              have sub : ∀ {K1 K2 : Hp}, Fr (· = b) K1 K2 → Fr (fun a => a = b ∨ a = l) K1 K2 := fun f => f.sub fun a e => .inl e
              have dv2 : Dt X.K (fun a => a = b ∨ a = l) H9 v d := dv.mono fun a ha => by
                rcases ha with e | e
                · rw [e]; exact old_box b8
                · rw [e]; exact old_at h8
              refine ⟨us.set m v, ds.set m d, _, rfl, upd_same, ((f8.trans f9).trans f10).put hl0, b10.put nlb, (dts_setK ((hd8.fr (sub f9)).fr (sub f10)) (dv2.fr (sub f10)) m).fr (fl _), by rw [List.length_set]; exact ln, ?_, fun e he => ?_⟩
              · refine wn_but (s := m) wn fun j hj => ?_
                rw [List.getElem?_map, List.getElem?_map, List.getElem?_set_ne (Ne.symm hj)]
              · rcases List.mem_or_eq_of_mem_set he with z | z
                · exact dp e z
                · rw [z]; exact hdI
            · rintro σ' H8 ⟨us, ds, s7, rfl, h8, f8, b8, hd8, ln, wn, dp⟩
              walk_at "g"
              refine q l ds H8 hl0 ⟨us, h8, nlb, hd8, ⟨ok_of_wn (m := 123) (wn_mono wn ?_) (by decide) (by rw [List.length_map, ln]; omega), dp⟩⟩ f8 b8
              have : (1 + x3).toNat ≤ 2 := by omega
              rcases (by omega : (1 + x3).toNat = 0 ∨ (1 + x3).toNat = 1 ∨ (1 + x3).toNat = 2) with z | z | z <;> rw [z] <;> decide
end
structure St (T : List (Addr × Str)) (H0 : Hp) (b : Addr) (H : Hp) : Prop where
  fx : Fx NoB H0 H
  tab : LamX.Tabs T H
  nb : Nt H0 b
  box : BoxAt H b
theorem St.draw (s : St T H0 b H) (f : Fr (· = b) H H') (hb : BoxAt H' b) : St T H0 b H' := ⟨fx_boxX s.fx s.nb f.fx, tabs_box s.tab s.box f, s.nb, hb⟩
theorem St.fr (s : St T H0 b H) (f : Fr NoB H H') : St T H0 b H' := ⟨s.fx.trans f.fx, s.tab.ext fun b o e => f b o (fun z => z) e, s.nb, s.box.fr f⟩
theorem St.go (s : St T H0 b H) (f : Fx NoB H H') (t : LamX.Tabs T H') : St T H0 b H' := ⟨s.fx.trans f, t, s.nb, f.box s.box⟩
theorem cutV_from (us : List V) (k : Nat) (h : k ≤ us.length) : cutV us (some (k : Int)) none = us.drop k := by
  show (us.drop (HT.sIx us.length 0 (some (k : Int)))).take (HT.sIx us.length us.length none - HT.sIx us.length 0 (some (k : Int))) = _
  rw [HT.sIx_nat, HT.sIx_none, Nat.min_eq_left h, List.take_of_length_le (by rw [List.length_drop]; exact Nat.le_refl _)]
theorem cutV_all (us : List V) : cutV us none none = us := by
  show (us.drop (HT.sIx us.length 0 none)).take (HT.sIx us.length us.length none - HT.sIx us.length 0 none) = _
  rw [HT.sIx_none, HT.sIx_none, List.drop_zero, Nat.sub_zero, List.take_length]
def spSp (P1 P2 : Addr) : Sp := fun vs H Q _ => ∃ (b l : Addr) (d : D) (bs : List Int) (H0 : Hp), vs = [.ref b, .ref l] ∧ EncV d bs ∧ H l = some (.lst (bs.map V.int)) ∧ l ≠ b ∧ St (TT P1 P2) H0 b H ∧ ∀ H', St (TT P1 P2) H0 b H' → Q (.bl true) H'
section
variable {X : Cx} {os : ORow} {vs : List V} {H H0 H1 : Hp} {Q Q1 : VK} {E : XK}
theorem body_spoilt (c : Ctx X nq_spoilt_right lq_spoilt_right 14) {P1 P2 : Addr} (zl : X.mg "len" = none) (zr : X.mg "range" = none) (zm : X.mg "min" = none) (dI : DT X "_law_item" ["box"] 3 (spItem X.K)) (dR : DG X "_law_right" ["items", "handed"] 14 (spRt P1 P2)) (h : spSp P1 P2 vs H Q E) :
    RB X (defBody sq_spoilt_right) { nx := fun _ H' => Q .non H', rt := Q } (start nq_spoilt_right vs) H := by
  obtain ⟨b, l, d, bs, H0, rfl, hV, hl, nlb, S, q⟩ := h
  have bd := encV_bd hV
  show RB X (defBody sq_spoilt_right) _ [some (.ref b), some (.ref l), none, none] H
  refine rb_cons (rs_for_range c (by walk_at "gm") .loc (by walk_at "gm") (by walk_at "gm") zr ?_)
  walk_at "e"
  refine lv_lenL (SqL.of hl) ?_
  rw [List.length_map]
  walk_at "e"
  obtain ⟨n, hn, n1⟩ : ∃ n : Nat, (if (40 : Int) < (bs.length : Int) then (40 : Int) else (bs.length : Int)) = (n : Int) ∧ n ≤ bs.length := by
    refine ⟨(if (40 : Int) < (bs.length : Int) then (40 : Int) else (bs.length : Int)).toNat, ?_, ?_⟩
    · split <;> omega
    · split <;> omega
  rw [hn]
  refine ⟨by omega, by omega, ?_⟩
  rw [Int.toNat_natCast]
  refine ⟨fun i σ' H' => ∃ s2 s3 : Option V, σ' = [some (.ref b), some (.ref l), s2, s3] ∧ St (TT P1 P2) H0 b H' ∧ H' l = some (.lst (bs.map V.int)), ⟨_, _, rfl, S, hl⟩, fun _ _ _ _ _ => trivial, ?_, ?_⟩
  · rintro i y σ' H1 hi rfl ⟨s2, s3, rfl, S1, h1⟩
    refine ⟨_, by walk_at "gs", ?_⟩
    walk_at "g0"
    refine sv_list (SqL.of h1) fun p1 hp1 => ?_
    rw [cutV_to (α := Nat), ← List.map_take]
    have S2 := S1.fr (Fr.new (o := .lst ((bs.take i).map V.int)) hp1)
    have h2 := (Fr.new (B := NoB) (o := .lst ((bs.take i).map V.int)) hp1) _ _ (fun z => z) h1
    walk_at "e"
    refine re_call c dI (by decide) (by walk_at "gm") ?_
    walk_at "e"
    refine ⟨b, rfl, S2.box, fun v d2 H3 hd2 dv f3 b3 => ?_⟩
    have S3 := S2.draw f3 b3
    have h3 := f3 _ _ nlb h2
    have t3 : H3 p1 = some (.lst ((bs.take i).map V.int)) := f3 _ _ (S1.box.ne hp1) upd_same
    have dv3 : Dt X.K NoB H3 v d2 := dv.mono fun a z => z.elim
    walk_at "e"
    refine ⟨by show 1 ≤ sizeLine; decide, fun p4 hp4 => ?_⟩
    have f4 : Fr NoB H3 (upd H3 p4 (.lst [v])) := Fr.new hp4
    walk_at "e"
    refine ov_cat (f4 _ _ (fun z => z) t3) (upd_same (o := .lst [v])) (by rw [List.length_map, List.length_take]; exact sz (by show _ + 1 ≤ _; omega)) fun p5 hp5 => ?_
    have f5 : Fr NoB (upd H3 p4 (.lst [v])) (upd (upd H3 p4 (.lst [v])) p5 (.lst ((bs.take i).map V.int ++ [v]))) := Fr.new hp5
    have f35 := f4.trans f5
    have h5 := f35 _ _ (fun z => z) h3
    walk_at "e"
    refine sv_list (SqL.of h5) fun p6 hp6 => ?_
    rw [show ((i : Int) + 1) = ((i + 1 : Nat) : Int) from rfl, cutV_from _ _ (by rw [List.length_map]; omega), ← List.map_drop]
    have f6 : Fr NoB (upd (upd H3 p4 (.lst [v])) p5 (.lst ((bs.take i).map V.int ++ [v]))) (upd (upd (upd H3 p4 (.lst [v])) p5 (.lst ((bs.take i).map V.int ++ [v]))) p6 (.lst ((bs.drop (i + 1)).map V.int))) := Fr.new hp6
    have t6 := f6 _ _ (fun z => z) (upd_same (H := upd H3 p4 (.lst [v])) (a := p5) (o := .lst ((bs.take i).map V.int ++ [v])))
    walk_at "e"
    refine ov_cat t6 upd_same (by rw [List.length_append, List.length_map, List.length_map, List.length_take, List.length_drop]; exact sz (by show _ + 1 + _ ≤ _; omega)) fun p7 hp7 => ?_
    have f7 : Fr NoB (upd (upd (upd H3 p4 (.lst [v])) p5 (.lst ((bs.take i).map V.int ++ [v]))) p6 (.lst ((bs.drop (i + 1)).map V.int))) (upd (upd (upd (upd H3 p4 (.lst [v])) p5 (.lst ((bs.take i).map V.int ++ [v]))) p6 (.lst ((bs.drop (i + 1)).map V.int))) p7 (.lst ((bs.take i).map V.int ++ [v] ++ (bs.drop (i + 1)).map V.int))) := Fr.new hp7
    have f37 := (f35.trans f6).trans f7
    have t7 : (upd (upd (upd (upd H3 p4 (.lst [v])) p5 (.lst ((bs.take i).map V.int ++ [v]))) p6 (.lst ((bs.drop (i + 1)).map V.int))) p7 (.lst ((bs.take i).map V.int ++ [v] ++ (bs.drop (i + 1)).map V.int))) p7 = some (.lst ((bs.take i).map V.int ++ [v] ++ (bs.drop (i + 1)).map V.int)) := upd_same
    generalize upd (upd (upd (upd H3 p4 (.lst [v])) p5 (.lst ((bs.take i).map V.int ++ [v]))) p6 (.lst ((bs.drop (i + 1)).map V.int))) p7 (.lst ((bs.take i).map V.int ++ [v] ++ (bs.drop (i + 1)).map V.int)) = H7 at f37 t7 ⊢
    have hD : Dts X.K NoB H7 ((bs.take i).map V.int ++ [v] ++ (bs.drop (i + 1)).map V.int) ((bs.take i).map D.int ++ [d2] ++ (bs.drop (i + 1)).map D.int) := dts_app (dts_app (dts_int2 _) (.cons (dv3.fr f37) .nil)) (dts_int2 _)
    have hil : i < bs.length := by omega
    have ok : OsOk (((bs.take i).map D.int ++ [d2] ++ (bs.drop (i + 1)).map D.int).map oct) := by
      rw [List.map_append, List.map_append, oct_ints, oct_ints]
      have e1 : (bs.take i).map some ++ [d2].map oct ++ (bs.drop (i + 1)).map some = (bs.map some).set i (oct d2) := by
        rw [List.set_eq_take_append_cons_drop, if_pos (by rw [List.length_map]; exact hil), List.map_take, List.map_drop, List.append_assoc]
        rfl
      rw [e1]
      refine ok_of_wn (wn_but (s := i) (wn_V hV) fun j hj => ?_) (by decide) (by rw [List.length_set, List.length_map]; omega)
      rw [List.getElem?_set_ne (Ne.symm hj)]
    walk_at "e"
    walk_at "e0"
    refine re_call c dR (by decide) (by walk_at "gm") ?_
    walk_at "e"
    refine sv_list (SqL.of t7) fun p8 hp8 => ?_
    rw [cutV_all]
    have f8 : Fr NoB H7 (upd H7 p8 (.lst ((bs.take i).map V.int ++ [v] ++ (bs.drop (i + 1)).map V.int))) := Fr.new hp8
    walk_at "e"
    have S8 := S3.fr (f37.trans f8)
    have I8 := items_of (hD.fr f8)
    refine ⟨_, p7, p8, _, _, rfl, ok, f8 _ _ (fun z => z) t7, I8, .inl upd_same, I8, S8.tab, fun H9 f9 t9 => ?_⟩
    walk_at "g"
    exact ⟨_, _, rfl, S8.go f9 t9, f9.lst (fun z => z) ((f37.trans f8) _ _ (fun z => z) h3)⟩
  · rintro σ' H1 ⟨s2, s3, rfl, S1, h1⟩
    walk_at "g"
    exact q H1 S1
end
/-! ### rows of numbers, made by expressions -/
def Sc (v : V) : Prop := (∃ i, v = .int i) ∨ ∃ b, v = .bl b
def dOf : V → D
  | .int i => .int i
  | .bl b => .bl b
  | _ => .non
theorem dts_sc {K : PySem.W.Frag} {B : Addr → Prop} {H : Hp} : ∀ {vs : List V}, (∀ v ∈ vs, Sc v) → Dts K B H vs (vs.map dOf)
  | [], _ => .nil
  | v :: r, h => .cons (by rcases h v List.mem_cons_self with ⟨i, rfl⟩ | ⟨b, rfl⟩; exact .int; exact .bl) (dts_sc fun x hx => h x (List.mem_cons_of_mem _ hx))
theorem row_sc {vs : List V} (h : vs.length ≤ 139) : RowD (vs.map dOf) := row_len (by rw [List.length_map]; exact h) fun d hd => by
  obtain ⟨v, _, rfl⟩ := List.mem_map.mp hd
  cases v <;> first | exact .int | exact .bl | exact .non
/-- a list of numbers at p, of n at most -/
def LiS (H : Hp) (n : Nat) (p : Addr) : Prop := ∃ vs, H p = some (.lst vs) ∧ (∀ v ∈ vs, Sc v) ∧ vs.length ≤ n
def EL (X : Cx) (σ : L2.St) (P : Hp → Prop) (n : Nat) (e : Expr) : Prop := ∀ (H : Hp) (Q : VK), P H → (∀ p H', Fr NoB H H' → LiS H' n p → (∀ q, (∃ o, H q = some o) → q = p → LiS H n q) → Q (.ref p) H') → RE X e σ H Q
def ES (X : Cx) (σ : L2.St) (e : Expr) : Prop := ∀ (H : Hp) (Q : VK), (∀ v, Sc v → Q v H) → RE X e σ H Q
inductive ESs (X : Cx) (σ : L2.St) : List Expr → Prop
  | nil : ESs X σ []
  | cons {e : Expr} {es : List Expr} (s : NoStar e) (h : ES X σ e) (t : ESs X σ es) : ESs X σ (e :: es)
section
variable {X : Cx} {σ : L2.St} {H : Hp} {N : List Str} {L : List (Str × KN)} {k n m : Nat} {P : Hp → Prop} {e e1 e2 : Expr} {es : List Expr} {pos p0 p1 p2 p3 : Pos}
theorem es_int {i : Int} {j : Nat} : ES X σ (.Constant (.int i) j pos) := fun H Q q => re_int (q _ (.inl ⟨_, rfl⟩))
theorem es_bl {b : Bool} {j : Nat} : ES X σ (.Constant (.bool b) j pos) := fun H Q q => re_bl (q _ (.inr ⟨_, rfl⟩))
theorem es_name (c : Ctx X N L k) {x : Str} {i : Int} {j : KN} (s : Slot N σ x (.int i)) (h : (x, j) ∈ L) (mm : Mine j) : ES X σ (.Name x pos) := fun H Q q => re_name c s h mm (q _ (.inl ⟨_, rfl⟩))
theorem ra_ess (h : ESs X σ es) : ∀ (H : Hp) (Q : List V → Hp → Prop), (∀ vs, vs.length = es.length → (∀ v ∈ vs, Sc v) → Q vs H) → RA X es σ H Q := by
  induction h with
  | nil => exact fun H Q q => ra_nil (q [] rfl (fun v hv => by cases hv))
  | cons s h t ih =>
    intro H Q q
    refine ra_cons (h H _ fun v hv => ih H _ fun vs hl hvs => q _ (by rw [List.length_cons, List.length_cons, hl]) fun u hu => ?_) (s _ _)
    rcases List.mem_cons.mp hu with rfl | hu
    · exact hv
    · exact hvs u hu
theorem el_list (h : ESs X σ es) (hl : es.length ≤ n) (hn : n ≤ 1000) : EL X σ P n (.List es pos) := fun H Q _ q => by
  refine re_lst (ra_ess h H _ fun vs hv hs => ⟨by rw [hv]; exact Nat.le_trans (Nat.le_trans hl hn) (by decide), fun p hp => ?_⟩)
  exact q p _ (Fr.new hp) ⟨vs, upd_same, hs, by omega⟩ (fun r ⟨o, e⟩ z => by rw [z, hp] at e; cases e)
theorem el_cat (st : ∀ H H', P H → Fr NoB H H' → P H') (h1 : EL X σ P n e1) (h2 : EL X σ P m e2) (hl : n + m ≤ 1000) : EL X σ P (n + m) (.BinOp e1 .Add e2 pos) := fun H Q hP q => by
  refine re_bin (h1 H _ hP fun p H1 f1 ⟨vs, a1, a2, a3⟩ _ => h2 H1 _ (st _ _ hP f1) fun r H2 f2 ⟨ws, b1, b2, b3⟩ _ => ?_)
  refine ov_cat (f2 _ _ (fun z => z) a1) b1 (Nat.le_trans (by omega : _ ≤ 1000) (by decide)) fun l hl2 => ?_
  have hn : H l = none := (f1.trans f2).free hl2
  refine q l _ ((f1.trans f2).trans (Fr.new hl2)) ⟨vs ++ ws, upd_same, fun v hv => (List.mem_append.mp hv).elim (a2 v) (b2 v), by rw [List.length_append]; omega⟩ (fun r ⟨o, e⟩ z => by rw [z, hn] at e; cases e)
theorem el_rep {z : Int} {j : Nat} (h1 : EL X σ P n e1) (hl : n * z.toNat ≤ 1000) (hz : 0 ≤ z ∧ z ≤ 100) : EL X σ P (n * z.toNat) (.BinOp e1 .Mult (.Constant (.int z) j p1) pos) := fun H Q hP q => by
  obtain ⟨i, rfl⟩ : ∃ i : Nat, z = i := ⟨z.toNat, by omega⟩
  rw [Int.toNat_natCast] at *
  have hi : i ≤ 100 := by omega
  refine re_bin (h1 H _ hP fun p H1 f1 ⟨vs, a1, a2, a3⟩ _ => re_int ?_)
  have lv : vs.length * i ≤ n * i := Nat.mul_le_mul_right i a3
  refine ov_rep a1 (by omega) (by omega) (by rw [Int.toNat_natCast]; exact Nat.le_trans (by omega : _ ≤ 1000) (by decide)) fun l hl2 => ?_
  have hn : H l = none := f1.free hl2
  rw [Int.toNat_natCast]
  refine q l _ (f1.trans (Fr.new hl2)) ⟨_, upd_same, fun v hv => ?_, ?_⟩ (fun r ⟨o, e⟩ z => by rw [z, hn] at e; cases e)
  · obtain ⟨w, hw, hv⟩ := List.mem_flatten.mp hv
    rw [List.eq_of_mem_replicate hw] at hv
    exact a2 v hv
  · rw [List.length_flatten, List.map_replicate, List.sum_replicate_nat, Nat.mul_comm]
    exact lv
theorem el_name (c : Ctx X N L k) {x : Str} {j : KN} {p : Addr} (s : Slot N σ x (.ref p)) (h : (x, j) ∈ L) (mm : Mine j) (hp : ∀ H, P H → LiS H n p) : EL X σ P n (.Name x pos) := fun H Q hP q => re_name c s h mm (q p H Fr.refl (hp H hP) (fun r _ z => by rw [z]; exact hp H hP))
theorem el_cut {lo hi : Option Expr} {a b : Option Int} (h : EL X σ P n e) (hlo : ∀ (H : Hp) (Q : Option Int → Hp → Prop), Q a H → RO X lo σ H Q) (hhi : ∀ (H : Hp) (Q : Option Int → Hp → Prop), Q b H → RO X hi σ H Q) : EL X σ P n (.Subscript e (.Slice lo hi none p2) pos) := fun H Q hP q => by
  refine re_slice (h H _ hP fun p H1 f1 ⟨vs, a1, a2, a3⟩ _ => hlo H1 _ (hhi H1 _ ?_))
  refine sv_list (SqL.of a1) fun l hl => ?_
  have hn : H l = none := f1.free hl
  have sub : ∀ v ∈ cutV vs a b, v ∈ vs := fun v hv => List.mem_of_mem_drop (List.mem_of_mem_take hv)
  refine q l _ (f1.trans (Fr.new hl)) ⟨_, upd_same, fun v hv => a2 v (sub v hv), ?_⟩ (fun r ⟨o, e⟩ z => by rw [z, hn] at e; cases e)
  refine Nat.le_trans ?_ a3
  show ((vs.drop _).take _).length ≤ _
  rw [List.length_take, List.length_drop]
  omega
theorem el_to {i : Int} {j : Nat} (h : EL X σ P n e) : EL X σ P n (.Subscript e (.Slice none (some (.Constant (.int i) j p1)) none p2) pos) := el_cut (a := none) (b := some i) h (fun _ _ q => ro_none q) (fun _ _ q => ro_some (re_int ⟨i, rfl, q⟩))
theorem el_from {i : Int} {j : Nat} (h : EL X σ P n e) : EL X σ P n (.Subscript e (.Slice (some (.Constant (.int i) j p1)) none none p2) pos) := el_cut (a := some i) (b := none) h (fun _ _ q => ro_some (re_int ⟨i, rfl, q⟩)) (fun _ _ q => ro_none q)
/-- rows of such lists -/
inductive ELs (X : Cx) (σ : L2.St) (P : Hp → Prop) : List Expr → Prop
  | nil : ELs X σ P []
  | cons {e : Expr} {es : List Expr} {n : Nat} (s : NoStar e) (h : EL X σ P n e) (hn : n ≤ 130) (t : ELs X σ P es) : ELs X σ P (e :: es)
theorem LiS.mono {n m : Nat} {p : Addr} (h : LiS H n p) (hm : n ≤ m) : LiS H m p := by
  obtain ⟨vs, a, b, c⟩ := h
  exact ⟨vs, a, b, by omega⟩
theorem LiS.fr {H' : Hp} {n : Nat} {p : Addr} (h : LiS H n p) (f : Fr NoB H H') : LiS H' n p := by
  obtain ⟨vs, a, b, c⟩ := h
  exact ⟨vs, f _ _ (fun z => z) a, b, c⟩
theorem ra_els (st : ∀ H H', P H → Fr NoB H H' → P H') (h : ELs X σ P es) : ∀ (H : Hp) (Q : List V → Hp → Prop), P H → (∀ vs H', vs.length = es.length → (∀ v ∈ vs, ∃ p, v = .ref p ∧ LiS H' 130 p) → Fr NoB H H' → Q vs H') → RA X es σ H Q := by
  induction h with
  | nil => exact fun H Q _ q => ra_nil (q [] H rfl (fun v hv => by cases hv) Fr.refl)
  | cons s h hn t ih =>
    intro H Q hP q
    refine ra_cons (h H _ hP fun p H1 f1 a1 _ => ih H1 _ (st _ _ hP f1) fun vs H2 hl hvs f2 => q _ H2 (by rw [List.length_cons, List.length_cons, hl]) (fun u hu => ?_) (f1.trans f2)) (s _ _)
    rcases List.mem_cons.mp hu with rfl | hu
    · exact ⟨p, rfl, (a1.fr f2).mono hn⟩
    · exact hvs u hu
end
/-- the list found at l, of such lists, none of them l -/
def FdL (H : Hp) (l : Addr) (m : Nat) : Prop := ∃ us, H l = some (.lst us) ∧ us.length ≤ m ∧ us ≠ [] ∧ ∀ u ∈ us, ∃ p, u = .ref p ∧ p ≠ l ∧ LiS H 130 p
theorem FdL.fr {H H' : Hp} {l : Addr} {m : Nat} (h : FdL H l m) (f : Fr NoB H H') : FdL H' l m := by
  obtain ⟨us, a, b, ne, c⟩ := h
  refine ⟨us, f _ _ (fun z => z) a, b, ne, fun u hu => ?_⟩
  obtain ⟨p, e, n, g⟩ := c u hu
  exact ⟨p, e, n, g.fr f⟩
theorem FdL.ne {H : Hp} {l p : Addr} {m n : Nat} (h : FdL H l m) (g : LiS H n p) : p ≠ l := fun z => by
  obtain ⟨us, a, _, ne, c⟩ := h
  obtain ⟨vs, e, s, _⟩ := g
  rw [z, a] at e
  have e2 := HO.lst.inj (Option.some.inj e)
  subst e2
  cases us with
  | nil => exact ne rfl
  | cons u r =>
    obtain ⟨q, rfl, _⟩ := c u List.mem_cons_self
    rcases s _ List.mem_cons_self with ⟨i, e⟩ | ⟨b, e⟩ <;> cases e
def spRowsC : Sp := fun vs H Q _ => vs = [] ∧ ∀ l H', Fr NoB H H' → FdL H' l 1000 → Q (.ref l) H'
section
variable {X : Cx} {vs : List V} {H : Hp} {Q : VK} {E : XK} {σ : L2.St} {N : List Str} {L : List (Str × KN)} {k m : Nat} {P : Hp → Prop} {es : List Expr} {D : Ends} {pos p0 p1 p2 p3 apos : Pos}
/-- found.extend([..]) -/
theorem rs_ext (c : Ctx X N L k) {x : Str} {j : KN} {l : Addr} (H0 : Hp) (hj : (x, j) ∈ L) (mm : Mine j) (s : Slot N σ x (.ref l)) (f0 : Fr NoB H0 H) (hn : H0 l = none) (hF : FdL H l m) (hm : m + es.length ≤ 900)
    (st : ∀ H H', P H → Fr NoB H H' → P H') (hP : P H) (hE : ELs X σ P es) (hx : ∀ (H' : Hp) (us : List V), Fr NoB H H' → P H' → P (upd H' l (.lst us)))
    (q : ∀ H', Fr NoB H0 H' → FdL H' l (m + es.length) → P H' → D.nx σ H')
    (hbase : attributeBase (.Name x p0) "extend" X.env (eval (.Name x p0) X.env) = eval (.Name x p0) X.env := by with_unfolding_all rfl)
    (hfew : ((backTo p1 (starEach [.List es p2] X.env)).all (fun x => !x.1) && (backToKw p1 (keywordEach [] X.env)).all (fun x => x.1.isSome) && decide (([.List es p2] : List Expr).length + ([] : List Keyword).length + (if ([] : List Keyword).isEmpty then 0 else 1) < 30)) = true := by with_unfolding_all rfl)
    (hline : (apos.endLine == p1.line) = true := by with_unfolding_all rfl) (hs : starEach [.List es p2] X.env = (false, eval (.List es p2) X.env) :: starEach [] X.env := by with_unfolding_all rfl) (hplain : (backTo p1 (starEach [] X.env)).any (·.1) = false := by with_unfolding_all rfl)
    (hsw : swapsWith (.Call (.Attribute (.Name x p0) "extend" apos) [.List es p2] [] p1) none pos.line X.env = pure false := by with_unfolding_all rfl) :
    RS X (.Expr (.Call (.Attribute (.Name x p0) "extend" apos) [.List es p2] [] p1) pos) D σ H := by
  have hF2 := hF
  obtain ⟨us, a, b, ne, g⟩ := hF
  refine rs_expr (re_extend (re_name c s hj mm ⟨l, us, rfl, a, ?_⟩) hbase hfew hline hs hplain) hsw
  refine re_lst (ra_els st hE H _ hP fun ws H1 hl hws f1 => ⟨by rw [hl]; exact Nat.le_trans (by omega : _ ≤ 1000) (by decide), fun p hp => ?_⟩)
  have f2 : Fr NoB H1 (upd H1 p (.lst ws)) := Fr.new hp
  have a2 := (f1.trans f2) _ _ (fun z => z) a
  refine ⟨p, us, ws, rfl, a2, upd_same, by rw [hl]; exact Nat.le_trans (by omega : _ ≤ 1000) (by decide), ?_⟩
  have hput : Fr NoB H0 (upd (upd H1 p (.lst ws)) l (.lst (us ++ ws))) := (f0.trans (f1.trans f2)).put hn
  have keep : ∀ {r : Addr}, r ≠ l → LiS (upd H1 p (.lst ws)) 130 r → LiS (upd (upd H1 p (.lst ws)) l (.lst (us ++ ws))) 130 r := fun {r} hr ⟨vs, e1, e2, e3⟩ => ⟨vs, by rw [upd_ne hr]; exact e1, e2, e3⟩
  refine q _ hput ⟨us ++ ws, upd_same, by rw [List.length_append, hl]; omega, fun z => ne (List.append_eq_nil_iff.mp z).1, fun u hu => ?_⟩ (hx _ _ (f1.trans f2) (st _ _ hP (f1.trans f2)))
  rcases List.mem_append.mp hu with hu | hu
  · obtain ⟨r, e, n, z⟩ := g u hu
    exact ⟨r, e, n, keep n (z.fr (f1.trans f2))⟩
  · obtain ⟨r, rfl, z⟩ := hws u hu
    have nr : r ≠ l := (hF2.fr f1).ne z
    exact ⟨r, rfl, nr, keep nr (z.fr f2)⟩
/-- found = [..] -/
theorem rs_fnd (c : Ctx X N L k) {x : Str} (hj : (x, KN.loc) ∈ L) (hx : x ∈ N) (h0 : es ≠ []) (hm : es.length ≤ 900) (hE : ELs X σ (fun _ => True) es) (q : ∀ l H', H l = none → Fr NoB H H' → FdL H' l es.length → ∃ σ', Put N σ x (.ref l) σ' ∧ D.nx σ' H')
    (hs : swapsWith (.List es p2) (some (.Name x p1)) pos.line X.env = pure false := by with_unfolding_all rfl) : RS X (.Assign [.Name x p1] (.List es p2) pos) D σ H := by
  refine rs_set c hj .loc hx (re_lst (ra_els (fun _ _ _ _ => trivial) hE H _ trivial fun ws H1 hl hws f1 => ⟨by rw [hl]; exact Nat.le_trans (by omega : _ ≤ 1000) (by decide), fun p hp => ?_⟩)) hs
  refine q p _ (f1.free hp) (f1.trans (Fr.new hp)) ⟨ws, upd_same, by rw [hl]; exact Nat.le_refl _, fun z => h0 (List.eq_nil_of_length_eq_zero (by rw [← hl, z]; rfl)), fun u hu => ?_⟩
  obtain ⟨r, rfl, z⟩ := hws u hu
  refine ⟨r, rfl, fun y => ?_, z.fr (Fr.new hp)⟩
  obtain ⟨vs, e, _⟩ := z
  rw [y, hp] at e
  cases e
end
local macro_rules | `(tactic| walk_at "ess") => `(tactic| repeat (first | exact ESs.nil | refine ESs.cons (fun _ _ => rfl) es_int ?_ | refine ESs.cons (fun _ _ => rfl) es_bl ?_ | refine ESs.cons (fun _ _ => rfl) (es_name (by assumption) (by walk_at "gs") (by walk_at "gm") .loc) ?_))
local macro_rules | `(tactic| walk_at "els") => `(tactic| repeat (first
  | exact ELs.nil
  | apply ELs.cons (fun _ _ => rfl)
  | refine el_list (by walk_at "ess") (Nat.le_refl _) (by decide)
  | refine el_name (by assumption) (by walk_at "gs") (by walk_at "gm") .loc (by intro H hP; first | exact hP.1 | exact hP.2 | exact hP)
  | apply el_cat (by assumption)
  | apply el_rep
  | apply el_to
  | apply el_from
  | decide))
section
variable {X : Cx} {vs : List V} {H : Hp} {Q : VK} {E : XK}
theorem body_heads (c : Ctx X nq_heads lq_heads 0) (h : spRowsC vs H Q E) : RB X (defBody sq_heads) { nx := fun _ H' => Q .non H', rt := Q } (start nq_heads vs) H := by
  obtain ⟨rfl, q⟩ := h
  have st : ∀ H H' : Hp, (fun _ : Hp => True) H → Fr NoB H H' → (fun _ : Hp => True) H' := fun _ _ _ _ => trivial
  show RB X (defBody sq_heads) _ [none] H
  refine rb_cons (rs_fnd c (by walk_at "gm") (by walk_at "gm") (by simp) (by decide) (by walk_at "els") fun l H1 hl f1 F1 => ⟨_, by walk_at "gs", ?_⟩)
  refine rb_cons (rs_ext c H (by walk_at "gm") .loc (by walk_at "gs") f1 hl F1 (by decide) st trivial (by walk_at "els") (fun _ _ _ _ => trivial) fun H2 f2 F2 _ => ?_)
  refine rb_cons (rs_ext c H (by walk_at "gm") .loc (by walk_at "gs") f2 hl F2 (by decide) st trivial (by walk_at "els") (fun _ _ _ _ => trivial) fun H3 f3 F3 _ => ?_)
  refine rb_cons (rs_ext c H (by walk_at "gm") .loc (by walk_at "gs") f3 hl F3 (by decide) st trivial (by walk_at "els") (fun _ _ _ _ => trivial) fun H4 f4 F4 _ => ?_)
  walk_at "g0"
  obtain ⟨us, a, b, ne, g⟩ := F4
  exact q l H4 f4 ⟨us, a, Nat.le_trans b (by decide), ne, g⟩
theorem body_limits (c : Ctx X nq_limits lq_limits 0) (zr : X.mg "range" = none) (h : spRowsC vs H Q E) : RB X (defBody sq_limits) { nx := fun _ H' => Q .non H', rt := Q } (start nq_limits vs) H := by
  obtain ⟨rfl, q⟩ := h
  have st : ∀ H H' : Hp, (fun _ : Hp => True) H → Fr NoB H H' → (fun _ : Hp => True) H' := fun _ _ _ _ => trivial
  show RB X (defBody sq_limits) _ [none, none, none, none] H
  refine rb_cons (rs_fnd c (by walk_at "gm") (by walk_at "gm") (by simp) (by decide) (by walk_at "els") fun l H1 hl f1 F1 => ⟨_, by walk_at "gs", ?_⟩)
  refine rb_cons (rs_ext c H (by walk_at "gm") .loc (by walk_at "gs") f1 hl F1 (by decide) st trivial (by walk_at "els") (fun _ _ _ _ => trivial) fun H2 f2 F2 _ => ?_)
  refine rb_cons (rs_ext c H (by walk_at "gm") .loc (by walk_at "gs") f2 hl F2 (by decide) st trivial (by walk_at "els") (fun _ _ _ _ => trivial) fun H3 f3 F3 _ => ?_)
  refine rb_cons (rs_set c (by walk_at "gm") .loc (by walk_at "gm") ((by walk_at "els" : EL X _ (fun _ => True) _ _) H3 _ trivial fun pg H4 g4 L4 _ => ⟨_, by walk_at "gs", ?_⟩))
  have f4 := f3.trans g4
  have F4 := F3.fr g4
  have npl := F4.ne L4
  clear st
  have st : ∀ H H' : Hp, (fun H : Hp => LiS H 7 pg) H → Fr NoB H H' → (fun H : Hp => LiS H 7 pg) H' := fun _ _ a f => LiS.fr a f
  have hx : ∀ (H' : Hp) (us : List V), (fun H : Hp => LiS H 7 pg) H' → (fun H : Hp => LiS H 7 pg) (upd H' l (.lst us)) := fun H' us ⟨vs, a, b, c⟩ => ⟨vs, by rw [upd_ne npl]; exact a, b, c⟩
  refine rb_cons (rs_ext c H (P := fun H => LiS H 7 pg) (by walk_at "gm") .loc (by walk_at "gs") f4 hl F4 (by decide) st L4 (by walk_at "els") (fun H' us _ a => hx H' us a) fun H5 f5 F5 L5 => ?_)
  refine rb_cons (rs_ext c H (P := fun H => LiS H 7 pg) (by walk_at "gm") .loc (by walk_at "gs") f5 hl F5 (by decide) st L5 (by walk_at "els") (fun H' us _ a => hx H' us a) fun H6 f6 F6 L6 => ?_)
  refine rb_cons (rs_ext c H (P := fun H => LiS H 7 pg) (by walk_at "gm") .loc (by walk_at "gs") f6 hl F6 (by decide) st L6 (by walk_at "els") (fun H' us _ a => hx H' us a) fun H7 f7 F7 L7 => ?_)
  refine rb_cons (rs_set c (by walk_at "gm") .loc (by walk_at "gm") ((by walk_at "els" : EL X _ (fun H => LiS H 7 pg) _ _) H7 _ L7 fun sx H8 g8 L8 _ => ⟨_, by walk_at "gs", ?_⟩))
  refine rb_cons (rs_for_range c (by walk_at "gm") .loc (by walk_at "gm") (by walk_at "gm") zr ?_)
  walk_at "e"
  refine ⟨by decide, by decide, fun i σ' H' => ∃ (sx : Addr) (s3 : Option V), σ' = [some (.ref l), some (.ref pg), some (.ref sx), s3] ∧ Fr NoB H H' ∧ FdL H' l _ ∧ LiS H' 7 pg ∧ LiS H' (5 * i) sx, ⟨sx, _, rfl, f7.trans g8, F7.fr g8, L7.fr g8, L8⟩, fun _ _ _ _ _ => trivial, ?_, ?_⟩
  · rintro i y σ' H9 hi rfl ⟨sx, s3, rfl, f9, F9, L9, S9⟩
    have hi6 : i < 6 := hi
    refine ⟨_, by walk_at "gs", ?_⟩
    have stS : ∀ K K' : Hp, (fun K : Hp => LiS K (5 * i) sx) K → Fr NoB K K' → (fun K : Hp => LiS K (5 * i) sx) K' := fun _ _ a f => LiS.fr a f
    have en : EL X [some (.ref l), some (.ref pg), some (.ref sx), some (.int (i : Int))] (fun K : Hp => LiS K (5 * i) sx) (5 * i) (.Name "six" ⟨0, 0, 0, 0⟩) := el_name c (by walk_at "gs") (by walk_at "gm") .loc (fun H hP => hP)
    refine rb_cons (rs_set c (by walk_at "gm") .loc (by walk_at "gm") ((el_cat (n := 5 * i) (m := 5) (P := fun K : Hp => LiS K (5 * i) sx) stS (el_name c (by walk_at "gs") (by walk_at "gm") .loc (fun H hP => hP)) (el_list (by walk_at "ess") (by decide) (by decide)) (by omega)) H9 _ S9 fun p H10 g10 L10 _ => ⟨_, by walk_at "gs", ?_⟩))
    walk_at "e"
    exact ⟨p, _, rfl, f9.trans g10, F9.fr g10, L9.fr g10, L10⟩
  · rintro σ' H9 ⟨sx, s3, rfl, f9, F9, L9, S9⟩
    have S9 : LiS H9 30 sx := S9
    have nsl := F9.ne S9
    clear hx st
    have st : ∀ H H' : Hp, (fun H : Hp => LiS H 7 pg ∧ LiS H 30 sx) H → Fr NoB H H' → (fun H : Hp => LiS H 7 pg ∧ LiS H 30 sx) H' := fun _ _ a f => ⟨LiS.fr a.1 f, LiS.fr a.2 f⟩
    have hx : ∀ (H' : Hp) (us : List V), (fun H : Hp => LiS H 7 pg ∧ LiS H 30 sx) H' → (fun H : Hp => LiS H 7 pg ∧ LiS H 30 sx) (upd H' l (.lst us)) := fun H' us ⟨⟨vs, a, b, c⟩, ⟨ws, d, e, f⟩⟩ => ⟨⟨vs, by rw [upd_ne npl]; exact a, b, c⟩, ⟨ws, by rw [upd_ne nsl]; exact d, e, f⟩⟩
    refine rb_cons (rs_ext c H (P := fun H => LiS H 7 pg ∧ LiS H 30 sx) (by walk_at "gm") .loc (by walk_at "gs") f9 hl F9 (by decide) st ⟨L9, S9⟩ (by walk_at "els") (fun H' us _ a => hx H' us a) fun HA fA FA LA => ?_)
    refine rb_cons (rs_ext c H (P := fun H => LiS H 7 pg ∧ LiS H 30 sx) (by walk_at "gm") .loc (by walk_at "gs") fA hl FA (by decide) st LA (by walk_at "els") (fun H' us _ a => hx H' us a) fun HB fB FB LB => ?_)
    refine rb_cons (rs_ext c H (P := fun H => LiS H 7 pg ∧ LiS H 30 sx) (by walk_at "gm") .loc (by walk_at "gs") fB hl FB (by decide) st LB (by walk_at "els") (fun H' us _ a => hx H' us a) fun HC fC FC LC => ?_)
    refine rb_cons (rs_ext c H (P := fun H => LiS H 7 pg ∧ LiS H 30 sx) (by walk_at "gm") .loc (by walk_at "gs") fC hl FC (by decide) st LC (by walk_at "els") (fun H' us _ a => hx H' us a) fun HD fD FD LD => ?_)
    refine rb_cons (rs_ext c H (P := fun H => LiS H 7 pg ∧ LiS H 30 sx) (by walk_at "gm") .loc (by walk_at "gs") fD hl FD (by decide) st LD (by walk_at "els") (fun H' us _ a => hx H' us a) fun HE fE FE LE => ?_)
    walk_at "g0"
    obtain ⟨us, a, b, ne, g⟩ := FE
    exact q l HE fE ⟨us, a, Nat.le_trans b (by decide), ne, g⟩
end
structure LawD (X : Cx) (P1 P2 C1 : Addr) : Prop where
  he : DT X "_law_heads" [] 1 spRowsC
  li : DT X "_law_limits" [] 1 spRowsC
  bx : DT X "_law_box" ["script", "k"] 1 (spBox X.K)
  tk : DT X "_law_take" ["box", "many"] 1 spTake
  pk : DT X "_law_pick" ["box", "some"] 2 (spPick X.K)
  it : DT X "_law_items" ["box"] 9 (spItems X.K)
  rt : DG X "_law_right" ["items", "handed"] 14 (spRt P1 P2)
  sm : DG X "_law_same" ["told", "due"] 9 (spSame X.K 8)
  sp : DG X "_law_spoilt_right" ["box", "form"] 15 (spSp P1 P2)
  fm : DT X "_law_form" ["event"] 6 (spFVn X.K)
  ev : DT X "_law_event" ["box", "kind", "most"] 8 (spEvent X.K)
  kd : KeyC X (L2.CX X.prog X.w) "decode_event" ["octets"] ["octets"] g1 g1 11 (spDec C1)
  zl : X.mg "len" = none
  zr : X.mg "range" = none
  zm : X.mg "min" = none
  zM : X.mg "max" = none
  zt : X.mg "tuple" = none
def spLaw (K : PySem.W.Frag) (P1 P2 : Addr) : Sp := fun vs H Q _ => ∃ (a : Addr) (ns : List Int), vs = [.ref a] ∧ SqL K H a (ns.map V.int) ∧ ns.length ≤ 63 ∧ LamX.Tabs (TT P1 P2) H ∧ ∀ H', Q (.bl true) H'
def Odd (d : D) : Prop := d = .non ∨ (∃ i, d = .int i) ∨ (∃ s, d = .str s) ∨ ∃ b, d = .bl b
theorem odd_v {K : PySem.W.Frag} {B : Addr → Prop} {H : Hp} {v : V} {d : D} (h : Dt K B H v d) (o : Odd d) : v = .non ∨ (∃ i, v = .int i) ∨ (∃ s, v = .str s) ∨ ∃ b, v = .bl b := by
  rcases o with rfl | ⟨i, rfl⟩ | ⟨s, rfl⟩ | ⟨b, rfl⟩
  · cases h; exact .inl rfl
  · cases h; exact .inr (.inl ⟨_, rfl⟩)
  · cases h; exact .inr (.inr (.inl ⟨_, rfl⟩))
  · cases h; exact .inr (.inr (.inr ⟨_, rfl⟩))
theorem dep8 {ds : List D} (h : ∀ d ∈ ds, Dep 1 d) : Dep 8 (.lst ds) := .lst fun d hd => dep_up (h d hd) 7 (by decide)
section
variable {X : Cx} {vs : List V} {H : Hp} {Q : VK} {E : XK}
theorem body_law {cc P1 P2 C1 g : Addr} {fdh : FuncData} (c : Ctx X nq_law lq_law 15) (n2 : P1 ≠ P2) (hq : X.env.qual = "law" ++ ".<locals>.") (LA : Lam X cc P2 C1 g fdh) (F : LawD X P1 P2 C1) (h : spLaw X.K P1 P2 vs H Q E) :
    RB X (defBody sq_law) { nx := fun _ H' => Q .non H', rt := Q } (start nq_law vs) H := by
  obtain ⟨a, ns, rfl, hS, h63, hT, q⟩ := h
  have zl := F.zl
  have zr := F.zr
  have zm := F.zm
  have zM := F.zM
  have zt := F.zt
  have tb : ∀ {H1 H2 : Hp}, Fr NoB H1 H2 → LamX.Tabs (TT P1 P2) H1 → LamX.Tabs (TT P1 P2) H2 := fun f t => t.ext fun b o e => f b o (fun z => z) e
  show RB X (defBody sq_law) _ [some (.ref a), none, none, none, none, none, none] H
  refine rb_cons ?_
  refine rs_for_list c (by walk_at "gm") .loc (by walk_at "gm") ?_
  refine re_call0 c F.he (by decide) (by walk_at "gm") ⟨rfl, fun l H1 f1 F1 => ?_⟩
  obtain ⟨us1, h1, _, _, g1⟩ := F1
  refine ⟨l, us1, rfl, SqL.of h1, fun i σ H' => Fx NoB H1 H' ∧ LamX.Tabs (TT P1 P2) H' ∧ ∃ s1 : Option V, σ = [some (.ref a), s1, none, none, none, none, none], ⟨Fx.refl, tb f1 hT, _, rfl⟩, fun i σ H' _ h => h.1.seqL (fun z => z) (SqL.of h1), ?_, ?_⟩
  · rintro i v σ H2 hi hv ⟨f2, t2, s1, rfl⟩
    obtain ⟨p, rfl, npl, ws, hp, hsc, lw⟩ := g1 v (List.mem_of_getElem? hv)
    have hp2 := f2.lst (fun z => z) hp
    refine ⟨_, by walk_at "gs", ?_⟩
    walk_at "g0"
    refine re_call c F.rt (by decide) (by walk_at "gm") ?_
    walk_at "e"
    refine sv_list (SqL.of hp2) fun p2 hp3 => ?_
    rw [cutV_all]
    have f3 : Fr NoB H2 (upd H2 p2 (.lst ws)) := Fr.new hp3
    walk_at "e"
    have I : Items (upd H2 p2 (.lst ws)) ws ((ws.map dOf).map oct) := items_of (K := X.K) (B := NoB) (dts_sc hsc)
    refine ⟨_, p, p2, ws, ws, rfl, (row_sc (by omega)).ok, f3 _ _ (fun z => z) hp2, I, .inl upd_same, I, tb f3 t2, fun H4 f4 t4 => ?_⟩
    walk_at "g"
    exact ⟨(f2.trans f3.fx).trans f4, t4, _, rfl⟩
  · rintro σ H2 ⟨f2, t2, s1, rfl⟩
    have f02 : Fx NoB H H2 := f1.fx.trans f2
    refine rb_cons ?_
    refine rs_for_list c (by walk_at "gm") .loc (by walk_at "gm") ?_
    refine re_call0 c F.li (by decide) (by walk_at "gm") ⟨rfl, fun l H3 f3 F3 => ?_⟩
    obtain ⟨us3, h3, _, _, g3⟩ := F3
    refine ⟨l, us3, rfl, SqL.of h3, fun i σ H' => Fx NoB H3 H' ∧ LamX.Tabs (TT P1 P2) H' ∧ ∃ s1 : Option V, σ = [some (.ref a), s1, none, none, none, none, none], ⟨Fx.refl, tb f3 t2, _, rfl⟩, fun i σ H' _ h => h.1.seqL (fun z => z) (SqL.of h3), ?_, ?_⟩
    · rintro i v σ H4 hi hv ⟨f4, t4, s4, rfl⟩
      obtain ⟨p, rfl, npl, ws, hp, hsc, lw⟩ := g3 v (List.mem_of_getElem? hv)
      have hp4 := f4.lst (fun z => z) hp
      refine ⟨_, by walk_at "gs", ?_⟩
      walk_at "g0"
      refine re_call c F.rt (by decide) (by walk_at "gm") ?_
      walk_at "e"
      refine ⟨by show 6 ≤ sizeLine; decide, fun p5 hp5 => ?_⟩
      have f5 : Fr NoB H4 (upd H4 p5 (.lst [.int 7, .int 0, .int 128, .int 1, .int 4, .int 3])) := Fr.new hp5
      walk_at "e"
      refine ov_cat (upd_same (o := .lst [.int 7, .int 0, .int 128, .int 1, .int 4, .int 3])) (f5 _ _ (fun z => z) hp4) (by exact sz (by show 6 + ws.length ≤ _; omega)) fun p6 hp6 => ?_
      have f6 := f5.trans (Fr.new (B := NoB) (o := .lst ([.int 7, .int 0, .int 128, .int 1, .int 4, .int 3] ++ ws)) hp6)
      have t6 := upd_same (H := upd H4 p5 (.lst [.int 7, .int 0, .int 128, .int 1, .int 4, .int 3])) (a := p6) (o := .lst ([.int 7, .int 0, .int 128, .int 1, .int 4, .int 3] ++ ws))
      generalize upd (upd H4 p5 (.lst [.int 7, .int 0, .int 128, .int 1, .int 4, .int 3])) p6 (.lst ([.int 7, .int 0, .int 128, .int 1, .int 4, .int 3] ++ ws)) = H6 at f6 t6 ⊢
      have hp6' := f6 _ _ (fun z => z) hp4
      walk_at "e"
      refine ⟨by show 6 ≤ sizeLine; decide, fun p7 hp7 => ?_⟩
      have f7 : Fr NoB H6 (upd H6 p7 (.lst [.int 7, .int 0, .int 128, .int 1, .int 4, .int 3])) := Fr.new hp7
      walk_at "e"
      refine ov_cat (upd_same (o := .lst [.int 7, .int 0, .int 128, .int 1, .int 4, .int 3])) (f7 _ _ (fun z => z) hp6') (by exact sz (by show 6 + ws.length ≤ _; omega)) fun p8 hp8 => ?_
      have f8 := f7.trans (Fr.new (B := NoB) (o := .lst ([.int 7, .int 0, .int 128, .int 1, .int 4, .int 3] ++ ws)) hp8)
      have t8 := upd_same (H := upd H6 p7 (.lst [.int 7, .int 0, .int 128, .int 1, .int 4, .int 3])) (a := p8) (o := .lst ([.int 7, .int 0, .int 128, .int 1, .int 4, .int 3] ++ ws))
      generalize upd (upd H6 p7 (.lst [.int 7, .int 0, .int 128, .int 1, .int 4, .int 3])) p8 (.lst ([.int 7, .int 0, .int 128, .int 1, .int 4, .int 3] ++ ws)) = H8 at f8 t8 ⊢
      walk_at "e"
      refine lv_tupL (SqL.of t8) fun p9 hp9 => ?_
      have f9 : Fr NoB H8 (upd H8 p9 (.tup ([.int 7, .int 0, .int 128, .int 1, .int 4, .int 3] ++ ws))) := Fr.new hp9
      walk_at "e"
      have sc2 : ∀ v ∈ ([.int 7, .int 0, .int 128, .int 1, .int 4, .int 3] ++ ws : List V), Sc v := fun v hv => by
        rcases List.mem_append.mp hv with hv | hv
        · simp only [List.mem_cons, List.not_mem_nil, or_false] at hv
          rcases hv with rfl | rfl | rfl | rfl | rfl | rfl <;> exact .inl ⟨_, rfl⟩
        · exact hsc v hv
      have I : Items (upd H8 p9 (.tup ([.int 7, .int 0, .int 128, .int 1, .int 4, .int 3] ++ ws))) ([.int 7, .int 0, .int 128, .int 1, .int 4, .int 3] ++ ws) ((([.int 7, .int 0, .int 128, .int 1, .int 4, .int 3] ++ ws : List V).map dOf).map oct) := items_of (K := X.K) (B := NoB) (dts_sc sc2)
      have fA := f6.trans (f8.trans f9)
      refine ⟨_, p6, p9, _, _, rfl, (row_sc (by rw [List.length_append]; show 6 + ws.length ≤ 139; omega)).ok, (f8.trans f9) _ _ (fun z => z) t6, I, .inr upd_same, I, tb fA t4, fun HB fB tB => ?_⟩
      walk_at "g"
      exact ⟨(f4.trans fA.fx).trans fB, tB, _, rfl⟩
    · rintro σ H4 ⟨f4, t4, s4, rfl⟩
      have f04 : Fx NoB H H4 := (f02.trans f3.fx).trans f4
      refine rb_cons ?_
      refine rs_for_range c (by walk_at "gm") .loc (by walk_at "gm") (by walk_at "gm") zr ?_
      walk_at "e"
      refine lv_lenL (f04.seqL (fun z => z) hS) ?_
      rw [List.length_map]
      walk_at "e"
      obtain ⟨n, hn, n63⟩ : ∃ n : Nat, (if (if (7 : Int) < (ns.length : Int) then (7 : Int) else (ns.length : Int)) > 3 then (if (7 : Int) < (ns.length : Int) then (7 : Int) else (ns.length : Int)) else 3) = (n : Int) ∧ n ≤ 63 := by
        refine ⟨(if (if (7 : Int) < (ns.length : Int) then (7 : Int) else (ns.length : Int)) > 3 then (if (7 : Int) < (ns.length : Int) then (7 : Int) else (ns.length : Int)) else 3).toNat, ?_, ?_⟩
        · split <;> split <;> omega
        · split <;> split <;> omega
      rw [hn]
      refine ⟨by omega, by omega, ?_⟩
      rw [Int.toNat_natCast]
      refine ⟨fun i σ H' => Fx NoB H H' ∧ LamX.Tabs (TT P1 P2) H' ∧ ∃ s1 s2 s3 s4 s5 s6 : Option V, σ = [some (.ref a), s1, s2, s3, s4, s5, s6], ⟨f04, t4, _, _, _, _, _, _, rfl⟩, fun _ _ _ _ _ => trivial, ?_, ?_⟩
      · rintro i y σ H5 hi rfl ⟨f5, t5, s1, s2, s3, s4', s5, s6, rfl⟩
        refine ⟨_, by walk_at "gs", ?_⟩
        walk_at "e0"
        refine re_call c F.bx (by decide) (by walk_at "gm") ?_
        walk_at "e"
        refine ⟨a, ns, i, rfl, f5.seqL (fun z => z) hS, h63, by omega, by omega, fun b H6 hb f6 hB6 => ?_⟩
        have S6 : St (TT P1 P2) H b H6 := ⟨f5.trans f6.fx, tb f6 t5, Fx.nt f5 hb, hB6⟩
        walk_at "e"
        refine rb_cons ?_
        refine rs_for_range c (by walk_at "gm") .loc (by walk_at "gm") (by walk_at "gm") zr ?_
        walk_at "e"
        refine ⟨by decide, by decide, ?_⟩
        refine ⟨fun t σ H' => St (TT P1 P2) H b H' ∧ ∃ u1 u4 u5 u6 : Option V, σ = [some (.ref a), u1, some (.int (i : Nat)), some (.ref b), u4, u5, u6], ⟨S6, _, _, _, _, rfl⟩, fun _ _ _ _ _ => trivial, ?_, ?_⟩
        · rintro t y σ H7 ht rfl ⟨S7, u1, u4, u5, u6, rfl⟩
          refine ⟨_, by walk_at "gs", ?_⟩
          walk_at "e0"
          refine re_call c F.it (by decide) (by walk_at "gm") ?_
          walk_at "e"
          refine ⟨b, rfl, S7.box, fun li ds H8 hli ⟨us, h8, nlb, hd8, rw8⟩ f8 b8 => ?_⟩
          have S8 := S7.draw f8 b8
          have hd8' : Dts X.K NoB H8 us ds := ⟨hd8.1, fun i v d a1 a2 => (hd8.2 i v d a1 a2).mono fun a z => z.elim⟩
          walk_at "e"
          walk_at "e0"
          refine sv_list (SqL.of h8) fun ha hha => ?_
          rw [cutV_all]
          have f9 : Fr NoB H8 (upd H8 ha (.lst us)) := Fr.new hha
          have S9 := S8.fr f9
          have h9 := f9 _ _ (fun z => z) h8
          have t9 := upd_same (H := H8) (a := ha) (o := .lst us)
          have hd9 := hd8'.fr f9
          generalize upd H8 ha (.lst us) = H9 at f9 S9 h9 t9 hd9 ⊢
          walk_at "e"
          walk_at "e0"
          refine re_call c F.rt (by decide) (by walk_at "gm") ?_
          walk_at "e"
          refine ⟨_, li, ha, us, us, rfl, rw8.ok, h9, items_of hd9, .inl t9, items_of hd9, S9.tab, fun H10 f10 t10 => ?_⟩
          have S10 := S9.go f10 t10
          have hA := f10.lst (fun z => z) h9
          have tA := f10.lst (fun z => z) t9
          have hdA := f10.dts hd9
          walk_at "e"
          refine re_call c F.sm (by decide) (by walk_at "gm") ?_
          walk_at "e"
          refine ⟨.lst ds, _, _, NoB, NoB, rfl, Dt.ofL (fun z => z) tA hdA, Dt.ofL (fun z => z) hA hdA, dep8 rw8.dp, fun H11 f11 => ?_⟩
          have S11 := S10.fr f11
          have hB := f11 _ _ (fun z => z) hA
          have hdB := hdA.fr f11
          walk_at "e"
          refine re_call c F.rt (by decide) (by walk_at "gm") ?_
          walk_at "e"
          refine lv_tupL (SqL.of hB) fun tp htp => ?_
          have f12 : Fr NoB H11 (upd H11 tp (.tup us)) := Fr.new htp
          walk_at "e"
          refine ⟨_, li, tp, us, us, rfl, rw8.ok, f12 _ _ (fun z => z) hB, items_of (hdB.fr f12), .inr upd_same, items_of (hdB.fr f12), (S11.fr f12).tab, fun H13 f13 t13 => ?_⟩
          have S13 := (S11.fr f12).go f13 t13
          walk_at "e"
          exact ⟨S13, _, _, _, _, rfl⟩
        · rintro σ H7 ⟨S7, u1, u4, u5, u6, rfl⟩
          -- behind the spoilt ones
          have rest : ∀ (H8 : Hp) (s4 s5 s6 s1 : Option V) (D : Ends), St (TT P1 P2) H b H8 → (∀ σ H', (Fx NoB H H' ∧ LamX.Tabs (TT P1 P2) H' ∧ ∃ s1 s2 s3 s4 s5 s6 : Option V, σ = [some (.ref a), s1, s2, s3, s4, s5, s6]) → D.nx σ H') → RB X (List.drop 3 (match List.getD (defBody sq_law) 2 (.Pass ⟨0, 0, 0, 0⟩) with | .For _ _ bd _ _ => bd | _ => [])) D [some (.ref a), s1, some (.int (i : Nat)), some (.ref b), s4, s5, s6] H8 := by
            intro H8 s4 s5 s6 s1 D S8 hD
            walk_at "g0"
            refine re_pickI (P := Odd) c (by decide) F.pk (by walk_at "gm") (by walk_at "gm") .loc (by walk_at "gs") S8.box (by
              refine .cons (fun _ _ => rfl) (it_de (by walk_at "de") (.inl rfl)) ?_
              refine .cons (fun _ _ => rfl) (it_de (by walk_at "de") (.inr (.inl ⟨_, rfl⟩))) ?_
              refine .cons (fun _ _ => rfl) (it_de (by walk_at "de") (.inr (.inr (.inl ⟨_, rfl⟩)))) ?_
              refine .cons (fun _ _ => rfl) (it_de (by walk_at "de") (.inr (.inr (.inl ⟨_, rfl⟩)))) ?_
              exact .cons (fun _ _ => rfl) (it_de (by walk_at "de") (.inr (.inr (.inr ⟨_, rfl⟩)))) .nil) (by decide) (by decide) fun v d H9 hd dv f9 b9 => ?_
            have S9 := S8.draw f9 b9
            have ov := odd_v dv hd
            refine ⟨_, by walk_at "gs", ?_⟩
            walk_at "g0"
            refine re_call c F.sm (by decide) (by walk_at "gm") ?_
            refine ra_cons ?_
            refine heard_odd c (by decide) (T := TT P1 P2) (v := v) lq_law_l0 (by decide +kernel) LA (by rw [hq]; walk_at "gm") (fun r hr e => by rw [hq]; exact hu2 n2 hr (r := (P2, qL)) (by walk_at "gm") e) (by walk_at "gm") (fun Xl cl al E tkl H2 K hs => ?_) S9.tab ov fun pg H10 f10 t10 dg => ?_
            · obtain ⟨f', fd2, F2, gx2, kp2, hk2⟩ := (key5X F.kd al).ex
              refine re_callKO cl F2 (by decide) (by walk_at "gm") gx2 kp2 hk2 (passes_call tkl (fun cls d σ H h => h)) ?_
              refine rk_cons ?_
              walk_at "e"
              refine rk_nil ?_
              exact hs
            have S10 := S9.go f10 t10
            walk_at "e"
            refine ⟨by show 5 ≤ sizeLine; decide, fun t ht => ?_⟩
            walk_at "e"
            refine ⟨noneD (-1), _, _, NoB, NoB, rfl, (dg.kf (KF.new ht)).dt nob, (Dz.newT ht (.cons .str (.cons .int (.cons .bl (.cons .bl (.cons .bl .nil)))))).dt nob, dep_none, fun H11 f11 => ?_⟩
            have S11 := S10.fr ((Fr.new (B := NoB) ht).trans f11)
            walk_at "e"
            exact hD _ _ ⟨S11.fx, S11.tab, _, _, _, _, _, _, rfl⟩
          walk_at "e0"
          refine ite2 (fun e => ?_) (fun e => ?_)
          · walk_at "e"
            refine re_call c F.sp (by decide) (by walk_at "gm") ?_
            refine ra_cons (re_name c (by walk_at "gs") (by walk_at "gm") .loc (ra_cons ?_))
            refine re_call c F.fm (by decide) (by walk_at "gm") (ra_cons ?_)
            refine re_call c F.ev (by decide) (by walk_at "gm") ?_
            walk_at "e"
            refine re_call c F.tk (by decide) (by walk_at "gm") ?_
            walk_at "e"
            refine ⟨b, _, rfl, S7.box, by decide, by decide, fun x8 H8 x0 x1 f8 b8 => ?_⟩
            have S8 := S7.draw f8 b8
            obtain ⟨j, rfl⟩ : ∃ j : Nat, x8 = j := ⟨x8.toNat, by omega⟩
            walk_at "e"
            refine ⟨b, j, 2, rfl, by omega, by decide, by decide, b8, fun v d H9 hd dv f9 b9 => ?_⟩
            have S9 := S8.draw f9 b9
            obtain ⟨bs, hV⟩ := hd
            refine ra_nil ⟨v, d, bs, rfl, dv.mono (fun a z => z.elim), hV, fun l2 H10 n10 hl2 => ?_⟩
            have S10 := S9.fr n10.1
            refine ra_nil ⟨b, l2, d, bs, H, rfl, hV, n10.2, (fun z => by rw [z] at hl2; obtain ⟨g, r, hg, _⟩ := b9; rw [hg] at hl2; cases hl2), S10, fun H11 S11 => ?_⟩
            walk_at "e"
            exact rest H11 _ _ _ _ _ S11 fun _ _ h => h
          · walk_at "e"
            exact rest H7 _ _ _ _ _ S7 fun _ _ h => h
      · rintro σ H5 ⟨f5, t5, s1, s2, s3, s4', s5, s6, rfl⟩
        walk_at "g"
        exact q _
end
/-! ### the tables of the top -/
abbrev rdTab : List (Str × Str) := [("kept", "read_kept"), ("node", "read_node"), ("id", "read_id"), ("term", "read_term"), ("label", "read_label"), ("entry", "read_entry"), ("fraction", "read_fraction_octets"), ("name", "read_name"), ("most", "read_most"), ("answer", "read_answer")]
def partB (K : PySem.W.Frag) (x : Str × List Str) : Bool := He.eqO (PySem.W.nsIn K (He.ga K "PARTS") x.1) (some (some (.ref (atK K (He.ga K "PARTS") x.1)))) && tupAB K (atK K (He.ga K "PARTS") x.1) (x.2.map V.str)
def partsB (K : PySem.W.Frag) : Bool := kindTab.all (partB K)
def rdB (K : PySem.W.Frag) (x : Str × Str) : Bool := He.eqO (PySem.W.nsIn K (He.ga K "READERS") x.1) (some (some (.ref (atK K (He.ga K "READERS") x.1)))) && decide (atK K (He.ga K "READERS") x.1 = He.ga K x.2)
def readersB (K : PySem.W.Frag) : Bool := rdTab.all (rdB K)
def errNB (K : PySem.W.Frag) (nm : Str) : Bool := PySem.W.excIn K (He.ga K nm) [.type "Exception", .type "BaseException", .type "object"] "Exception.__new__" && (PySem.W.keepIn K (.ref (He.ga K nm)) && (decide (PySem.W.subIn K (.ref (He.ga K nm)) (.type "BaseException") = some true) && decide (PySem.W.typeIn K (.ref (He.ga K nm)) = some (.type "type"))))
theorem errNB_ok {K : PySem.W.Frag} {mg : Str → Option Value} {nm : Str} (g : mg nm = some (.ref (He.ga K nm))) (h : errNB K nm = true) : ErrN K mg nm (He.ga K nm) := by
  obtain ⟨h1, h⟩ := He.ba h
  obtain ⟨h2, h⟩ := He.ba h
  obtain ⟨h3, h4⟩ := He.ba h
  exact ⟨h1, g, h2, of_decide_eq_true h3, of_decide_eq_true h4⟩
theorem Ctx.le {X : Cx} {N : List Str} {L : List (Str × KN)} {k m : Nat} (c : Ctx X N L k) (h : m ≤ k) : Ctx X N L m := ⟨c.n, c.nd, c.look, c.dbg, c.calm, c.room.mono h, c.po, c.kind⟩
/-! ### the facts of the top -/
def dD (x : Str) (st : Stmt) : He.DefD := ⟨(x, none), x, x, defArgs st, defBody st, defScope st, [], []⟩
abbrev sIniBadOctets : Stmt := inCls (top 6) 0
def dIniBadOctets : He.DefD := ⟨("BadOctets", some "__init__"), "__init__", "BadOctets.__init__", defArgs sIniBadOctets, defBody sIniBadOctets, defScope sIniBadOctets, [], []⟩
abbrev fns : List He.DefD := [dD "is_whole" sq_is_whole, dD "groups_behind" sq_groups_behind, dD "read_groups" sq_read_groups, dD "read_node" sq_read_node, dD "read_most" sq_read_most, dD "read_id" sq_read_id, dD "read_term" sq_read_term, dD "read_kept" sq_read_kept, dD "read_fraction_octets" sq_read_fraction_octets, dD "read_label_above" sq_read_label_above, dD "read_label" sq_read_label, dD "read_name" sq_read_name, dD "plain_entry" sq_plain_entry, dD "read_first_entries" sq_read_first_entries, dD "read_entry" sq_read_entry, dD "read_found" sq_read_found, dD "read_answer" sq_read_answer, dD "read_event" sq_read_event, dD "decode_event" sq_decode_event, dD "_law_take" sq_take, dD "_law_box" sq_box, dD "_law_pick" sq_pick, dD "_law_number" sq_number, dD "_law_part" sq_part, dD "_law_fraction" sq_fraction, dD "_law_label" sq_label, dD "_law_name" sq_name, dD "_law_id" sq_id, dD "_law_rows" sq_rows, dD "_law_entry" sq_entry, dD "_law_answer" sq_answer, dD "_law_words" sq_words, dD "_law_kinds" sq_kinds, dD "_law_piece" sq_piece, dD "_law_event" sq_event, dD "_law_groups" sq_groups, dD "_law_form_label" sq_form_label, dD "_law_form_name" sq_form_name, dD "_law_form_fraction" sq_form_fraction, dD "_law_form_id" sq_form_id, dD "_law_form_entry" sq_form_entry, dD "_law_form_answer" sq_form_answer, dD "_law_form_part" sq_form_part, dD "_law_form" sq_form, dD "_law_get" sq_get, dD "_law_back" sq_back, dD "_law_worth" sq_worth, dD "_law_get_number" sq_get_number, dD "_law_get_fraction" sq_get_fraction, dD "_law_get_label" sq_get_label, dD "_law_get_name" sq_get_name, dD "_law_get_id" sq_get_id, dD "_law_get_rows" sq_get_rows, dD "_law_get_entry" sq_get_entry, dD "_law_get_answer" sq_get_answer, dD "_law_get_part" sq_get_part, dD "_law_one" sq_one, dD "_law_same" sq_same, dD "_law_right" sq_right, dD "_law_heard" sq_heard, dD "_law_limits" sq_limits, dD "_law_heads" sq_heads, dD "_law_item" sq_item, dD "_law_items" sq_items, dD "_law_spoilt_right" sq_spoilt_right, dD "law" sq_law]
def dRinit : He.DefD := ⟨("Reader", some "__init__"), "__init__", "Reader.__init__", defArgs sR_init, defBody sR_init, defScope sR_init, [], []⟩
def dRdone : He.DefD := ⟨("Reader", some "is_done"), "is_done", "Reader.is_done", defArgs sR_done, defBody sR_done, defScope sR_done, [], []⟩
def dRtake : He.DefD := ⟨("Reader", some "take"), "take", "Reader.take", defArgs sR_take, defBody sR_take, defScope sR_take, [], []⟩
def dRrefuse : He.DefD := ⟨("Reader", some "refuse"), "refuse", "Reader.refuse", defArgs sR_refuse, defBody sR_refuse, defScope sR_refuse, [], []⟩
abbrev fnA : List He.DefD := dRinit :: dRdone :: dRtake :: dRrefuse :: dIniBadOctets :: fns
abbrev frA : List Str := ["isinstance", "int", "bool", "tuple", "len", "list", "abs", "range", "max", "min", "zip", "str", "sorted", "ValueError"]
abbrev clA : List Str := ["OwnError", "BadDeed", "BadEvent", "BadFraction", "BadLabel", "BadName", "BadOctets", "BadRoster", "BadRun", "BadText", "BadView", "Refused", "KINDS", "PARTS", "READERS", "CutShort", "Reader"]
abbrev gcA : List He.Fa := [He.Fa.int "LABEL_LETTERS" (8), He.Fa.int "NAME_LABELS" (6), He.Fa.int "LAST_NODE" (31), He.Fa.int "MOST_NAMES" (8), He.Fa.int "FIRST_ENTRIES" (6)]
abbrev faA : List He.Fa := (fns.map fun d => He.Fa.glo d.name) ++ (frA.map He.Fa.free ++ (clA.map He.Fa.glo ++ gcA))
def tbA : List He.Tab := [((fun K : PySem.W.Frag => He.ga K "PARTS"), ["start", "tick", "send", "hear", "put", "give", "pass", "swear", "hand", "tell", "ask"]), ((fun K : PySem.W.Frag => He.ga K "READERS"), ["kept", "node", "id", "term", "label", "entry", "fraction", "name", "most", "answer"])]
def ex0 (K : PySem.W.Frag) : Bool := (errB K "BadOctets" "at" && (kitCB K (He.ga K "BadOctets") && (decide (PySem.W.exmOne K (.ref (He.ga K "BadOctets")) (.ref (He.ga K "BadOctets")) = some true) && (decide (PySem.W.kitOne K (.ref (He.ga K "BadOctets")) (.type "ValueError") = some true) && (decide (PySem.W.kitOne K (.ref (He.ga K "BadOctets")) (.ref (He.ga K "OwnError")) = some true) && (decide (PySem.W.kitAny K (.ref (He.ga K "BadOctets")) (bads_1.map fun n => .ref (He.ga K n)) = some false) && (decide (PySem.W.exmOne K (.ref (He.ga K "CutShort")) (.ref (He.ga K "CutShort")) = some true) && (decide (PySem.W.exmOne K (.ref (He.ga K "BadOctets")) (.ref (He.ga K "CutShort")) = some false) && (He.eqO (PySem.W.nsIn K mainGlobals "gcd") (some (some (.builtin "math.gcd"))) && decide ((He.cT K ("_law_right", none)).2 ≠ (He.cT K ("law", none)).2))))))))))
def exA (K : PySem.W.Frag) : Bool := ex0 K && (partsB K && (readersB K && (tupAB K (He.ga K "KINDS") (KINDSL.map V.str) && (tupDB K (He.ga K "KINDS") && ((He.Fa.cls "Reader").ok K && ((He.Fa.noat "Reader" "at").ok K && ((He.Fa.noat "Reader" "octets").ok K && ((He.Fa.mkr "Reader").ok K && ((He.Fa.meth "Reader" "is_done").ok K && ((He.Fa.meth "Reader" "take").ok K && ((He.Fa.meth "Reader" "refuse").ok K && (errNB K "CutShort" && ((He.Fa.str "LETTERS" "abcdefghijklmnopqrstuvwxyz").ok K && ((He.Fa.str "LAST_LABEL" "zzzzzzzz").ok K))))))))))))))
structure FA (K : PySem.W.Frag) (mg : Str → Option Value) (w : World) : Prop where
  fn : ∀ x st, dD x st ∈ fns → ∃ fd, FnP K x st (He.ga K x) fd ∧ mg x = some (.ref (He.ga K x))
  free : ∀ x ∈ frA, mg x = none
  gi_LABEL_LETTERS : ∃ t, mg "LABEL_LETTERS" = some (.int (8) t)
  gi_NAME_LABELS : ∃ t, mg "NAME_LABELS" = some (.int (6) t)
  gi_LAST_NODE : ∃ t, mg "LAST_NODE" = some (.int (31) t)
  gi_MOST_NAMES : ∃ t, mg "MOST_NAMES" = some (.int (8) t)
  gi_FIRST_ENTRIES : ∃ t, mg "FIRST_ENTRIES" = some (.int (6) t)
  err_BadOctets : ErrK K (He.ga K "BadOctets") (He.ma K (He.ga K "BadOctets") "__init__") "at"
  g_BadOctets : mg "BadOctets" = some (.ref (He.ga K "BadOctets"))
  ini_BadOctets : ∃ fd, FunD K "__init__" "BadOctets.__init__" (defArgs sIniBadOctets) (defBody sIniBadOctets) (defScope sIniBadOctets) [] [] (He.ma K (He.ga K "BadOctets") "__init__") fd
  heard_BadOctets : HeardC K mg "BadOctets" "at" bads_1 (He.ga K "BadOctets")
  exm_CutShort_CutShort : PySem.W.exmOne K (.ref (He.ga K "CutShort")) (.ref (He.ga K "CutShort")) = some true
  exm_BadOctets_CutShort : PySem.W.exmOne K (.ref (He.ga K "BadOctets")) (.ref (He.ga K "CutShort")) = some false
  blt_gcd : mg "gcd" = some (.builtin "math.gcd")
  ne_0_1 : (He.cT K ("_law_right", none)).2 ≠ (He.cT K ("law", none)).2
  parts : partsB K = true
  readers : readersB K = true
  kinds : tupAB K (He.ga K "KINDS") (KINDSL.map V.str) = true
  kindsD : tupDB K (He.ga K "KINDS") = true
  rcls : (He.Fa.cls "Reader").ok K = true
  rat : (He.Fa.noat "Reader" "at").ok K = true
  roct : (He.Fa.noat "Reader" "octets").ok K = true
  rmk : (He.Fa.mkr "Reader").ok K = true
  rdone : (He.Fa.meth "Reader" "is_done").ok K = true
  rtake : (He.Fa.meth "Reader" "take").ok K = true
  rref : (He.Fa.meth "Reader" "refuse").ok K = true
  cutn : errNB K "CutShort" = true
  letters : ∃ t, mg "LETTERS" = some (.str "abcdefghijklmnopqrstuvwxyz" t)
  last : ∃ t, mg "LAST_LABEL" = some (.str "zzzzzzzz" t)
  tab_PARTS : ∃ es n, KDict K w (He.ga K "PARTS") es n
  g_PARTS : mg "PARTS" = some (.ref (He.ga K "PARTS"))
  tab_READERS : ∃ es n, KDict K w (He.ga K "READERS") es n
  g_READERS : mg "READERS" = some (.ref (He.ga K "READERS"))
  g_KINDS : mg "KINDS" = some (.ref (He.ga K "KINDS"))
  g_CutShort : mg "CutShort" = some (.ref (He.ga K "CutShort"))
  g_Reader : mg "Reader" = some (.ref (He.ga K "Reader"))
  m_init : ∃ fd, FunD K "__init__" "Reader.__init__" (defArgs sR_init) (defBody sR_init) (defScope sR_init) [] [] (He.ma K (He.ga K "Reader") "__init__") fd
  m_done : ∃ fd, FunD K "is_done" "Reader.is_done" (defArgs sR_done) (defBody sR_done) (defScope sR_done) [] [] (He.ma K (He.ga K "Reader") "is_done") fd
  m_take : ∃ fd, FunD K "take" "Reader.take" (defArgs sR_take) (defBody sR_take) (defScope sR_take) [] [] (He.ma K (He.ga K "Reader") "take") fd
  m_refuse : ∃ fd, FunD K "refuse" "Reader.refuse" (defArgs sR_refuse) (defBody sR_refuse) (defScope sR_refuse) [] [] (He.ma K (He.ga K "Reader") "refuse") fd
theorem fA_of {w : World} {h : Heap} {K : PySem.W.Frag} {mg : Str → Option Value} {tf : List He.Defn} (X : K.In h) (G : h.Ns mainGlobals mg) (c : He.SaysX faA fnA tbA tf exA w h K) : FA K mg w := by
  have hg : ∀ x, He.Fa.glo x ∈ faA → mg x = some (.ref (He.ga K x)) := fun x hx => He.glo_ok X G (c.t.d.facts hx)
  have hf : ∀ x ∈ frA, mg x = none := fun x hx => He.free_ok X G (c.t.d.facts (List.mem_append_right _ (List.mem_append_left _ (List.mem_map.mpr ⟨x, hx, rfl⟩))))
  have hc : ∀ x ∈ clA, mg x = some (.ref (He.ga K x)) := fun x hx => hg x (List.mem_append_right _ (List.mem_append_right _ (List.mem_append_left _ (List.mem_map.mpr ⟨x, hx, rfl⟩))))
  have hi : ∀ x i, He.Fa.int x i ∈ gcA → ∃ t, mg x = some (.int i t) := fun x i hx => He.int_ok X G (c.t.d.facts (List.mem_append_right _ (List.mem_append_right _ (List.mem_append_right _ hx))))
  have hy0 : exA K = true := c.more
  unfold exA at hy0
  obtain ⟨hx0, hy1⟩ := He.ba hy0
  obtain ⟨y0, hy2⟩ := He.ba hy1
  obtain ⟨y1, hy3⟩ := He.ba hy2
  obtain ⟨y2, hy4⟩ := He.ba hy3
  obtain ⟨y3, hy5⟩ := He.ba hy4
  obtain ⟨y4, hy6⟩ := He.ba hy5
  obtain ⟨y5, hy7⟩ := He.ba hy6
  obtain ⟨y6, hy8⟩ := He.ba hy7
  obtain ⟨y7, hy9⟩ := He.ba hy8
  obtain ⟨y8, hy10⟩ := He.ba hy9
  obtain ⟨y9, hy11⟩ := He.ba hy10
  obtain ⟨y10, hy12⟩ := He.ba hy11
  obtain ⟨y11, hy13⟩ := He.ba hy12
  obtain ⟨y12, hy14⟩ := He.ba hy13
  have y13 := hy14
  unfold ex0 at hx0
  obtain ⟨b0, hx1⟩ := He.ba hx0
  obtain ⟨b1, hx2⟩ := He.ba hx1
  obtain ⟨b2, hx3⟩ := He.ba hx2
  obtain ⟨b3, hx4⟩ := He.ba hx3
  obtain ⟨b4, hx5⟩ := He.ba hx4
  obtain ⟨b5, hx6⟩ := He.ba hx5
  obtain ⟨b6, hx7⟩ := He.ba hx6
  obtain ⟨b7, hx8⟩ := He.ba hx7
  obtain ⟨b8, hx9⟩ := He.ba hx8
  have b9 := hx9
  have er_BadOctets := errB_ok b0
  refine ⟨fun x st hx => ?_, hf, hi _ _ (by walk_at "gm"), hi _ _ (by walk_at "gm"), hi _ _ (by walk_at "gm"), hi _ _ (by walk_at "gm"), hi _ _ (by walk_at "gm"), er_BadOctets, hc _ (by walk_at "gm"), c.t.d.defs (d := dIniBadOctets) (by walk_at "gm"), ⟨hc _ (by walk_at "gm"), of_decide_eq_true b2, hf _ (by walk_at "gm"), hf _ (by walk_at "gm"), of_decide_eq_true b3, ⟨_, hc _ (by walk_at "gm"), of_decide_eq_true b4⟩, ⟨He.ga K, fun n hn => hc n (by revert hn; revert n; decide), of_decide_eq_true b5⟩, kitCB_ok b1, er_BadOctets.xf, er_BadOctets.no⟩, of_decide_eq_true b6, of_decide_eq_true b7, PySem.W.mg_of X G (He.eqO_ok b8), of_decide_eq_true b9, y0, y1, y2, y3, y4, y5, y6, y7, y8, y9, y10, y11, He.str_ok X G y12, He.str_ok X G y13, c.t.tab 0, hc _ (by walk_at "gm"), c.t.tab 1, hc _ (by walk_at "gm"), hc _ (by walk_at "gm"), hc _ (by walk_at "gm"), hc _ (by walk_at "gm"), c.t.d.defs (d := dRinit) (by walk_at "gm"), c.t.d.defs (d := dRdone) (by walk_at "gm"), c.t.d.defs (d := dRtake) (by walk_at "gm"), c.t.d.defs (d := dRrefuse) (by walk_at "gm")⟩
  obtain ⟨fd, F⟩ := c.t.d.defs (d := dD x st) (List.mem_cons_of_mem _ (List.mem_cons_of_mem _ (List.mem_cons_of_mem _ (List.mem_cons_of_mem _ (List.mem_cons_of_mem _ hx)))))
  exact ⟨fd, F, hg x (List.mem_append_left _ (List.mem_map.mpr ⟨_, hx, rfl⟩))⟩
theorem mIniBadOctets : Nms sIniBadOctets ["self", "at"] ["self", "at"] [("self", .loc), ("at", .loc)] := ⟨⟨rfl, rfl, rfl, by decide +kernel, rfl, by decide +kernel, by decide +kernel⟩, by decide +kernel, by decide +kernel, by decide +kernel⟩
theorem errC_BadOctets {P : Program} {w : World} {K : PySem.W.Frag} {mg : Str → Option Value} {base : Heap} (F : FA K mg w) : ErrC P w K mg base "BadOctets" "at" (He.ga K "BadOctets") := by
  obtain ⟨fd, Fi⟩ := F.ini_BadOctets
  refine ⟨F.err_BadOctets.oex, F.g_BadOctets, F.err_BadOctets.no, F.err_BadOctets.xf, _, fd, ["self", "at"], F.err_BadOctets.iC, F.err_BadOctets.tI, ?_, FunD.bindsN Fi fun _ _ _ _ _ _ us hl => match us, hl with | [_, _], _ => rfl⟩
  refine Fi.ok mIniBadOctets.S (fun vs H Q E h => ?_) (fun cdv A outer s H vs Q E hr h => ?_)
  · obtain ⟨a, C, v, rfl, _⟩ := h
    rfl
  · have c : Ctx (cxOf CX0 P w K mg base ["self", "at"] "BadOctets.__init__" (defScope sIniBadOctets) (He.ma K (He.ga K "BadOctets") "__init__") cdv A outer s H E).nox ["self", "at"] [("self", .loc), ("at", .loc)] 0 := ⟨rfl, mIniBadOctets.S.nd, knIs_of mIniBadOctets rfl (fun _ => rfl), mIniBadOctets.db, rfl, hr, PassesOwn.never, mIniBadOctets.S.kind⟩
    have rb : RB (cxOf CX0 P w K mg base ["self", "at"] "BadOctets.__init__" (defScope sIniBadOctets) (He.ma K (He.ga K "BadOctets") "__init__") cdv A outer s H E).nox (defBody sIniBadOctets) { nx := fun _ H' => Q .non H', rt := Q } (start ["self", "at"] vs) H := by
      obtain ⟨a, C, v, rfl, o, n, hh, q⟩ := h
      show RB _ (defBody sIniBadOctets) _ [some (.ref a), some v] H
      refine rb_cons (rs_ost ?_)
      walk_at "e"
      exact ⟨a, C, rfl, o, n, hh, fun dx h1 h2 => rb_nil (q dx h1 h2)⟩
    obtain ⟨t, ht, q⟩ := rb.ex
    exact ⟨t, ht.nox, q⟩
theorem kindsT {X : Cx} (F : FA X.K X.mg X.w) : TabT X "KINDS" KINDSL := ⟨He.ga X.K "KINDS", F.g_KINDS, fun H => tupAB_ok F.kinds H, tupDB_ok F.kindsD⟩
theorem partsT {X : Cx} (F : FA X.K X.mg X.w) : PaT X := by
  obtain ⟨es, n, D⟩ := F.tab_PARTS
  refine ⟨He.ga X.K "PARTS", F.g_PARTS, fun j k ws hj => ?_⟩
  have h : partB X.K (k, ws) = true := List.all_eq_true.mp F.parts _ (List.mem_of_getElem? hj)
  unfold partB at h
  obtain ⟨h1, h2⟩ := He.ba h
  exact ⟨_, kdct_of D h1, fun H => tupAB_ok h2 H⟩
theorem errH_BadOctets {P : Program} {w : World} {K : PySem.W.Frag} {mg : Str → Option Value} {base : Heap} (F : FA K mg w) : ErrH P w K mg base "BadOctets" "at" (He.ga K "BadOctets") := by
  obtain ⟨fd, Fi⟩ := F.ini_BadOctets
  refine ⟨errC_BadOctets F, _, fd, ["self", "at"], F.err_BadOctets.iC, F.err_BadOctets.tI, ?_, FunD.bindsN Fi fun _ _ _ _ _ _ us hl => match us, hl with | [_, _], _ => rfl⟩
  refine fnHH_of (st := sIniBadOctets) Fi mIniBadOctets (fun vs H Q E h => ?_) (fun X c al vs H Q E h => ?_)
  · obtain ⟨a, C, v, rfl, _⟩ := h
    rfl
  · obtain ⟨rfl, rfl, rfl, rfl, rfl⟩ := al
    obtain ⟨a, C, v, rfl, o, n, hh, q⟩ := h
    show RB _ (defBody sIniBadOctets) _ [some (.ref a), some v] H
    refine rb_cons (rs_ost ?_)
    refine re_nameS c (by walk_at "gs") (by walk_at "gm") .loc ?_
    refine re_nameS c (by walk_at "gs") (by walk_at "gm") .loc ?_
    exact ⟨a, C, rfl, o, n, hh, fun dx h1 h2 => rb_nil (q dx h1 h2)⟩
theorem rdC {K : PySem.W.Frag} {mg : Str → Option Value} {w : World} (F : FA K mg w) : RdC K (He.ga K "Reader") := ⟨He.cls_ok F.rcls, He.noat_ok F.rat, He.noat_ok F.roct⟩
theorem cutN {K : PySem.W.Frag} {mg : Str → Option Value} {w : World} (F : FA K mg w) : ErrN K mg "CutShort" (He.ga K "CutShort") := errNB_ok F.g_CutShort F.cutn
section
variable {P : Program} {w : World} {K : PySem.W.Frag} {mg : Str → Option Value} {base : Heap} {x : Str} {st : Stmt} {N ps : List Str} {L : List (Str × KN)} {k : Nat} {sp : Sp} {f : Addr} {fd : FuncData}
theorem fnC_of (F : FnP K x st (He.fAd K (x, none)) fd) : FnC K x st (He.fAd K (x, none)) (He.cT K (x, none)).1 fd := by
  obtain ⟨oc, od, dV, kV, doc, pm, an, cdv, ct, osl, e, lk, hcd, _, _⟩ := F.ex
  obtain ⟨c, rfl⟩ := He.codeIn_ref hcd
  have e2 : (He.cT K (x, none)).1 = c := He.codeOf_eq lk (by rw [e] <;> rfl)
  rw [e2]
  exact ⟨⟨oc, od, dV, kV, doc, pm, an, ct, osl, e, lk, hcd⟩, F.kp⟩
theorem fnOkC_of {cc : Addr} (F : FnC K x st f cc fd) (M : Nms st N ps L) (len : ∀ vs H Q E, sp vs H Q E → vs.length = ps.length)
    (body : ∀ (X : Cx), Ctx X N L k → At5 X P w K mg base → X.env.code = .ref cc → X.env.qual = x ++ ".<locals>." → ∀ (vs : List V) (H : Hp) (Q : VK) (E : XK), sp vs H Q E → RB X (defBody st) { nx := fun _ H' => Q .non H', rt := Q } (start N vs) H) : FnOk P w K mg base CX0 (k + 1) f fd ps sp := by
  obtain ⟨oc, od, dV, kV, doc, pm, an, ct, osl, rfl, lk, hcd⟩ := F.ex
  refine fn_of lk hcd M.S len (fun A outer s H vs Q E hr h => ?_)
  have c : Ctx (cxOf CX0 P w K mg base N x (defScope st) f (.ref cc) A outer s H E).nox N L k := ⟨rfl, M.S.nd, knIs_of M rfl (fun _ => rfl), M.db, rfl, hr, PassesOwn.never, M.S.kind⟩
  obtain ⟨t, ht, q⟩ := (body _ c ⟨rfl, rfl, rfl, rfl, rfl⟩ rfl rfl vs H Q E h).ex
  exact ⟨t, ht.nox, q⟩
end
theorem fnQ_of {P : Program} {w : World} {K : PySem.W.Frag} {mg : Str → Option Value} {base : Heap} {x qual : Str} {st : Stmt} {N ps : List Str} {L : List (Str × KN)} {k : Nat} {sp : Sp} {f : Addr} {fd : FuncData} (F : FunD K x qual (defArgs st) (defBody st) (defScope st) [] [] f fd) (M : Nms st N ps L) (len : ∀ vs H Q E, sp vs H Q E → vs.length = ps.length)
    (body : ∀ (X : Cx), Ctx X N L k → At5 X P w K mg base → ∀ (vs : List V) (H : Hp) (Q : VK) (E : XK), sp vs H Q E → RB X (defBody st) { nx := fun _ H' => Q .non H', rt := Q } (start N vs) H) : FnOk P w K mg base CX0 (k + 1) f fd ps sp := by
  refine F.ok M.S len (fun cdv A outer s H vs Q E hr h => ?_)
  have c : Ctx (cxOf CX0 P w K mg base N qual (defScope st) f cdv A outer s H E).nox N L k := ⟨rfl, M.S.nd, knIs_of M rfl (fun _ => rfl), M.db, rfl, hr, PassesOwn.never, M.S.kind⟩
  obtain ⟨t, ht, q⟩ := (body _ c ⟨rfl, rfl, rfl, rfl, rfl⟩ vs H Q E h).ex
  exact ⟨t, ht.nox, q⟩
theorem fnXQ_of {P : Program} {w : World} {K : PySem.W.Frag} {mg : Str → Option Value} {base : Heap} {x qual : Str} {st : Stmt} {N ps : List Str} {L : List (Str × KN)} {k : Nat} {sp : Sp} {f : Addr} {fd : FuncData} (F : FunD K x qual (defArgs st) (defBody st) (defScope st) [] [] f fd) (M : Nms st N ps L) (len : ∀ vs H Q E, sp vs H Q E → vs.length = ps.length)
    (body : ∀ (X : Cx), Ctx X N L k → At5 X P w K mg base → X.stack = X.env :: X.outer → X.env.frame = some X.env.locals → (∀ hd : Option Value, PassesOwnAt (model X.prog X.w) (X.A.mark hd) X.A X.env X.xe) → ∀ (vs : List V) (H : Hp) (Q : VK) (E : XK), Takes X (fun cls d _ H' => E cls d H') → sp vs H Q E → RB X (defBody st) { nx := fun _ H' => Q .non H', rt := Q } (start N vs) H) : FnOk P w K mg base (L2.CX P w) (k + 1) f fd ps sp := by
  refine F.ok M.S len (fun cdv A outer s H vs Q E hr h => ?_)
  have c : Ctx (cxOf (L2.CX P w) P w K mg base N qual (defScope st) f cdv A outer s H E) N L k := ⟨rfl, M.S.nd, knIs_of M rfl (fun _ => rfl), M.db, rfl, hr, passes_of rfl, M.S.kind⟩
  exact (body _ c ⟨rfl, rfl, rfl, rfl, rfl⟩ rfl rfl (L2H.passesAt_of rfl) vs H Q E (takes_of rfl rfl rfl rfl) h).ex
section
variable {Pg : Program} {w : World} {K : PySem.W.Frag} {mg : Str → Option Value} {base : Heap}
theorem d_is_whole (F : FA K mg w) : DefP Pg w K mg base CX0 "is_whole" ["value"] 1 (spWh) := by
  obtain ⟨fd, f, g⟩ := F.fn "is_whole" sq_is_whole (by walk_at "gm")
  refine defP_of f g mq_is_whole (FunD.bindsN f fun _ _ _ _ _ _ us hl => match us, hl with | [_], _ => rfl) (fun vs H Q E h => by first | (obtain ⟨rfl, _⟩ := h; rfl) | (obtain ⟨_, rfl, _⟩ := h; rfl) | (obtain ⟨_, _, rfl, _⟩ := h; rfl) | (obtain ⟨_, _, _, rfl, _⟩ := h; rfl) | (obtain ⟨_, _, _, _, rfl, _⟩ := h; rfl) | (obtain ⟨_, _, _, _, _, rfl, _⟩ := h; rfl) | (obtain ⟨_, _, _, _, _, _, rfl, _⟩ := h; rfl) | (obtain ⟨_, _, _, _, _, _, _, rfl, _⟩ := h; rfl) | (obtain ⟨_, _, _, _, _, _, _, _, rfl, _⟩ := h; rfl) | (obtain ⟨_, _, _, _, _, _, _, _, _, rfl, _⟩ := h; rfl) | (obtain ⟨⟨_, _, _, _, _, _, _, rfl, _⟩, _⟩ := h; rfl)) fun X c al vs H Q E h => ?_
  obtain ⟨rfl, rfl, rfl, rfl, rfl⟩ := al
  exact body_is_whole c (F.free _ (by walk_at "gm")) (F.free _ (by walk_at "gm")) (F.free _ (by walk_at "gm")) h
theorem m_done (F : FA K mg w) (oc : Addr) (os : ORow) : MethP Pg w K mg base CX0 (He.ga K "Reader") "is_done" ["self"] 1 (spDone (He.ga K "Reader") oc os) := by
  obtain ⟨fd, f⟩ := F.m_done
  refine ⟨_, fd, fnQ_of f mR_done (fun vs H Q E h => by first | (obtain ⟨rfl, _⟩ := h; rfl) | (obtain ⟨_, rfl, _⟩ := h; rfl) | (obtain ⟨_, _, rfl, _⟩ := h; rfl) | (obtain ⟨_, _, _, rfl, _⟩ := h; rfl) | (obtain ⟨_, _, _, _, rfl, _⟩ := h; rfl) | (obtain ⟨_, _, _, _, _, rfl, _⟩ := h; rfl) | (obtain ⟨_, _, _, _, _, _, rfl, _⟩ := h; rfl) | (obtain ⟨_, _, _, _, _, _, _, rfl, _⟩ := h; rfl) | (obtain ⟨_, _, _, _, _, _, _, _, rfl, _⟩ := h; rfl) | (obtain ⟨_, _, _, _, _, _, _, _, _, rfl, _⟩ := h; rfl) | (obtain ⟨⟨_, _, _, _, _, _, _, rfl, _⟩, _⟩ := h; rfl)) (fun X c al vs H Q E h => ?_), He.meth_ok F.rdone, FunD.bindsN f fun _ _ _ _ _ _ us hl => match us, hl with | [_], _ => rfl⟩
  obtain ⟨rfl, rfl, rfl, rfl, rfl⟩ := al
  exact body_done c (rdC F) (F.free _ (by walk_at "gm")) h
theorem m_take (F : FA K mg w) (oc : Addr) (os : ORow) : MethP Pg w K mg base (L2N.CX Pg w) (He.ga K "Reader") "take" ["self", "low", "high"] 3 (spTk (He.ga K "CutShort") (He.ga K "BadOctets") (He.ga K "Reader") oc os) := by
  obtain ⟨fd, f⟩ := F.m_take
  refine ⟨_, fd, fnNN_of f mR_take (fun vs H Q E h => by first | (obtain ⟨rfl, _⟩ := h; rfl) | (obtain ⟨_, rfl, _⟩ := h; rfl) | (obtain ⟨_, _, rfl, _⟩ := h; rfl) | (obtain ⟨_, _, _, rfl, _⟩ := h; rfl) | (obtain ⟨_, _, _, _, rfl, _⟩ := h; rfl) | (obtain ⟨_, _, _, _, _, rfl, _⟩ := h; rfl) | (obtain ⟨_, _, _, _, _, _, rfl, _⟩ := h; rfl) | (obtain ⟨_, _, _, _, _, _, _, rfl, _⟩ := h; rfl) | (obtain ⟨_, _, _, _, _, _, _, _, rfl, _⟩ := h; rfl) | (obtain ⟨_, _, _, _, _, _, _, _, _, rfl, _⟩ := h; rfl) | (obtain ⟨⟨_, _, _, _, _, _, _, rfl, _⟩, _⟩ := h; rfl)) (fun X c al vs H Q E tk h => ?_), He.meth_ok F.rtake, FunD.bindsN f fun _ _ _ _ _ _ us hl => match us, hl with | [_, _, _], _ => rfl⟩
  obtain ⟨rfl, rfl, rfl, rfl, rfl⟩ := al
  exact body_Rtake c (rdC F) (cutN F) (errC_BadOctets F) (m_done F oc os) (d_is_whole F) tk h
theorem m_refuse (F : FA K mg w) (oc : Addr) (os : ORow) : MethP Pg w K mg base (L2N.CX Pg w) (He.ga K "Reader") "refuse" ["self"] 3 (spRef (He.ga K "BadOctets") (He.ga K "Reader") oc os) := by
  obtain ⟨fd, f⟩ := F.m_refuse
  refine ⟨_, fd, fnNN_of f mR_refuse (fun vs H Q E h => by first | (obtain ⟨rfl, _⟩ := h; rfl) | (obtain ⟨_, rfl, _⟩ := h; rfl) | (obtain ⟨_, _, rfl, _⟩ := h; rfl) | (obtain ⟨_, _, _, rfl, _⟩ := h; rfl) | (obtain ⟨_, _, _, _, rfl, _⟩ := h; rfl) | (obtain ⟨_, _, _, _, _, rfl, _⟩ := h; rfl) | (obtain ⟨_, _, _, _, _, _, rfl, _⟩ := h; rfl) | (obtain ⟨_, _, _, _, _, _, _, rfl, _⟩ := h; rfl) | (obtain ⟨_, _, _, _, _, _, _, _, rfl, _⟩ := h; rfl) | (obtain ⟨_, _, _, _, _, _, _, _, _, rfl, _⟩ := h; rfl) | (obtain ⟨⟨_, _, _, _, _, _, _, rfl, _⟩, _⟩ := h; rfl)) (fun X c al vs H Q E tk h => ?_), He.meth_ok F.rref, FunD.bindsN f fun _ _ _ _ _ _ us hl => match us, hl with | [_], _ => rfl⟩
  obtain ⟨rfl, rfl, rfl, rfl, rfl⟩ := al
  exact body_refuse c (rdC F) (errC_BadOctets F) tk h
theorem m_init (F : FA K mg w) : ∃ fd, FnOk Pg w K mg base (L2.CX Pg w) 3 (He.ma K (He.ga K "Reader") "__init__") fd ["self", "octets"] (spRI (He.ga K "BadOctets") (He.ga K "Reader")) ∧ Binds K fd ["self", "octets"] [] := by
  obtain ⟨fd, f⟩ := F.m_init
  refine ⟨fd, fnXQ_of f mR_init (fun vs H Q E h => by first | (obtain ⟨rfl, _⟩ := h; rfl) | (obtain ⟨_, rfl, _⟩ := h; rfl) | (obtain ⟨_, _, rfl, _⟩ := h; rfl) | (obtain ⟨_, _, _, rfl, _⟩ := h; rfl) | (obtain ⟨_, _, _, _, rfl, _⟩ := h; rfl) | (obtain ⟨_, _, _, _, _, rfl, _⟩ := h; rfl) | (obtain ⟨_, _, _, _, _, _, rfl, _⟩ := h; rfl) | (obtain ⟨_, _, _, _, _, _, _, rfl, _⟩ := h; rfl) | (obtain ⟨_, _, _, _, _, _, _, _, rfl, _⟩ := h; rfl) | (obtain ⟨_, _, _, _, _, _, _, _, _, rfl, _⟩ := h; rfl) | (obtain ⟨⟨_, _, _, _, _, _, _, rfl, _⟩, _⟩ := h; rfl)) (fun X c al _ _ _ vs H Q E tk h => ?_), FunD.bindsN f fun _ _ _ _ _ _ us hl => match us, hl with | [_, _], _ => rfl⟩
  obtain ⟨rfl, rfl, rfl, rfl, rfl⟩ := al
  exact body_RinitL c (rdC F) (F.free _ (by walk_at "gm")) (F.free _ (by walk_at "gm")) (F.free _ (by walk_at "gm")) (errC_BadOctets F) tk h
theorem d_groups_behind (F : FA K mg w) (oc : Addr) (os : ORow) : DefP Pg w K mg base (L2N.CX Pg w) "groups_behind" ["reader", "first"] 4 (spGB (He.ga K "CutShort") (He.ga K "BadOctets") (He.ga K "Reader") oc os) := by
  obtain ⟨fd, f, g⟩ := F.fn "groups_behind" sq_groups_behind (by walk_at "gm")
  refine defPN_of f g mq_groups_behind (FunD.bindsN f fun _ _ _ _ _ _ us hl => match us, hl with | [_, _], _ => rfl) (fun vs H Q E h => by first | (obtain ⟨rfl, _⟩ := h; rfl) | (obtain ⟨_, rfl, _⟩ := h; rfl) | (obtain ⟨_, _, rfl, _⟩ := h; rfl) | (obtain ⟨_, _, _, rfl, _⟩ := h; rfl) | (obtain ⟨_, _, _, _, rfl, _⟩ := h; rfl) | (obtain ⟨_, _, _, _, _, rfl, _⟩ := h; rfl) | (obtain ⟨_, _, _, _, _, _, rfl, _⟩ := h; rfl) | (obtain ⟨_, _, _, _, _, _, _, rfl, _⟩ := h; rfl) | (obtain ⟨_, _, _, _, _, _, _, _, rfl, _⟩ := h; rfl) | (obtain ⟨_, _, _, _, _, _, _, _, _, rfl, _⟩ := h; rfl) | (obtain ⟨⟨_, _, _, _, _, _, _, rfl, _⟩, _⟩ := h; rfl)) fun X c al vs H Q E tk h => ?_
  obtain ⟨rfl, rfl, rfl, rfl, rfl⟩ := al
  exact body_groups_behind c (rdC F) (m_take F oc os) tk h
theorem d_read_groups (F : FA K mg w) (oc : Addr) (os : ORow) : DefP Pg w K mg base (L2N.CX Pg w) "read_groups" ["reader"] 5 (spRd (He.ga K "CutShort") (He.ga K "BadOctets") (He.ga K "Reader") oc os (rNum os) rI) := by
  obtain ⟨fd, f, g⟩ := F.fn "read_groups" sq_read_groups (by walk_at "gm")
  refine defPN_of f g mq_read_groups (FunD.bindsN f fun _ _ _ _ _ _ us hl => match us, hl with | [_], _ => rfl) (fun vs H Q E h => by first | (obtain ⟨rfl, _⟩ := h; rfl) | (obtain ⟨_, rfl, _⟩ := h; rfl) | (obtain ⟨_, _, rfl, _⟩ := h; rfl) | (obtain ⟨_, _, _, rfl, _⟩ := h; rfl) | (obtain ⟨_, _, _, _, rfl, _⟩ := h; rfl) | (obtain ⟨_, _, _, _, _, rfl, _⟩ := h; rfl) | (obtain ⟨_, _, _, _, _, _, rfl, _⟩ := h; rfl) | (obtain ⟨_, _, _, _, _, _, _, rfl, _⟩ := h; rfl) | (obtain ⟨_, _, _, _, _, _, _, _, rfl, _⟩ := h; rfl) | (obtain ⟨_, _, _, _, _, _, _, _, _, rfl, _⟩ := h; rfl) | (obtain ⟨⟨_, _, _, _, _, _, _, rfl, _⟩, _⟩ := h; rfl)) fun X c al vs H Q E tk h => ?_
  obtain ⟨rfl, rfl, rfl, rfl, rfl⟩ := al
  exact body_read_groups c (rdC F) (m_take F oc os) (d_groups_behind F oc os) tk h
theorem d_read_node (F : FA K mg w) (oc : Addr) (os : ORow) : DefP Pg w K mg base (L2N.CX Pg w) "read_node" ["reader"] 4 (spRd (He.ga K "CutShort") (He.ga K "BadOctets") (He.ga K "Reader") oc os (rTake os 0 31) rI) := by
  obtain ⟨fd, f, g⟩ := F.fn "read_node" sq_read_node (by walk_at "gm")
  refine defPN_of f g mq_read_node (FunD.bindsN f fun _ _ _ _ _ _ us hl => match us, hl with | [_], _ => rfl) (fun vs H Q E h => by first | (obtain ⟨rfl, _⟩ := h; rfl) | (obtain ⟨_, rfl, _⟩ := h; rfl) | (obtain ⟨_, _, rfl, _⟩ := h; rfl) | (obtain ⟨_, _, _, rfl, _⟩ := h; rfl) | (obtain ⟨_, _, _, _, rfl, _⟩ := h; rfl) | (obtain ⟨_, _, _, _, _, rfl, _⟩ := h; rfl) | (obtain ⟨_, _, _, _, _, _, rfl, _⟩ := h; rfl) | (obtain ⟨_, _, _, _, _, _, _, rfl, _⟩ := h; rfl) | (obtain ⟨_, _, _, _, _, _, _, _, rfl, _⟩ := h; rfl) | (obtain ⟨_, _, _, _, _, _, _, _, _, rfl, _⟩ := h; rfl) | (obtain ⟨⟨_, _, _, _, _, _, _, rfl, _⟩, _⟩ := h; rfl)) fun X c al vs H Q E tk h => ?_
  obtain ⟨rfl, rfl, rfl, rfl, rfl⟩ := al
  exact body_read_node c (rdC F) F.gi_LAST_NODE (m_take F oc os) tk h
theorem d_read_most (F : FA K mg w) (oc : Addr) (os : ORow) : DefP Pg w K mg base (L2N.CX Pg w) "read_most" ["reader"] 4 (spRd (He.ga K "CutShort") (He.ga K "BadOctets") (He.ga K "Reader") oc os (rTake os 0 8) rI) := by
  obtain ⟨fd, f, g⟩ := F.fn "read_most" sq_read_most (by walk_at "gm")
  refine defPN_of f g mq_read_most (FunD.bindsN f fun _ _ _ _ _ _ us hl => match us, hl with | [_], _ => rfl) (fun vs H Q E h => by first | (obtain ⟨rfl, _⟩ := h; rfl) | (obtain ⟨_, rfl, _⟩ := h; rfl) | (obtain ⟨_, _, rfl, _⟩ := h; rfl) | (obtain ⟨_, _, _, rfl, _⟩ := h; rfl) | (obtain ⟨_, _, _, _, rfl, _⟩ := h; rfl) | (obtain ⟨_, _, _, _, _, rfl, _⟩ := h; rfl) | (obtain ⟨_, _, _, _, _, _, rfl, _⟩ := h; rfl) | (obtain ⟨_, _, _, _, _, _, _, rfl, _⟩ := h; rfl) | (obtain ⟨_, _, _, _, _, _, _, _, rfl, _⟩ := h; rfl) | (obtain ⟨_, _, _, _, _, _, _, _, _, rfl, _⟩ := h; rfl) | (obtain ⟨⟨_, _, _, _, _, _, _, rfl, _⟩, _⟩ := h; rfl)) fun X c al vs H Q E tk h => ?_
  obtain ⟨rfl, rfl, rfl, rfl, rfl⟩ := al
  exact body_read_most c (rdC F) F.gi_MOST_NAMES (m_take F oc os) tk h
theorem d_read_id (F : FA K mg w) (oc : Addr) (os : ORow) : DefP Pg w K mg base (L2N.CX Pg w) "read_id" ["reader"] 6 (spRd (He.ga K "CutShort") (He.ga K "BadOctets") (He.ga K "Reader") oc os (rId os) rD) := by
  obtain ⟨fd, f, g⟩ := F.fn "read_id" sq_read_id (by walk_at "gm")
  refine defPN_of f g mq_read_id (FunD.bindsN f fun _ _ _ _ _ _ us hl => match us, hl with | [_], _ => rfl) (fun vs H Q E h => by first | (obtain ⟨rfl, _⟩ := h; rfl) | (obtain ⟨_, rfl, _⟩ := h; rfl) | (obtain ⟨_, _, rfl, _⟩ := h; rfl) | (obtain ⟨_, _, _, rfl, _⟩ := h; rfl) | (obtain ⟨_, _, _, _, rfl, _⟩ := h; rfl) | (obtain ⟨_, _, _, _, _, rfl, _⟩ := h; rfl) | (obtain ⟨_, _, _, _, _, _, rfl, _⟩ := h; rfl) | (obtain ⟨_, _, _, _, _, _, _, rfl, _⟩ := h; rfl) | (obtain ⟨_, _, _, _, _, _, _, _, rfl, _⟩ := h; rfl) | (obtain ⟨_, _, _, _, _, _, _, _, _, rfl, _⟩ := h; rfl) | (obtain ⟨⟨_, _, _, _, _, _, _, rfl, _⟩, _⟩ := h; rfl)) fun X c al vs H Q E tk h => ?_
  obtain ⟨rfl, rfl, rfl, rfl, rfl⟩ := al
  exact body_read_id c (d_read_node F oc os) (d_read_groups F oc os) tk h
theorem d_read_term (F : FA K mg w) (oc : Addr) (os : ORow) : DefP Pg w K mg base (L2N.CX Pg w) "read_term" ["reader"] 6 (spRd (He.ga K "CutShort") (He.ga K "BadOctets") (He.ga K "Reader") oc os (rTerm os (.tup [])) rD) := by
  obtain ⟨fd, f, g⟩ := F.fn "read_term" sq_read_term (by walk_at "gm")
  refine defPN_of f g mq_read_term (FunD.bindsN f fun _ _ _ _ _ _ us hl => match us, hl with | [_], _ => rfl) (fun vs H Q E h => by first | (obtain ⟨rfl, _⟩ := h; rfl) | (obtain ⟨_, rfl, _⟩ := h; rfl) | (obtain ⟨_, _, rfl, _⟩ := h; rfl) | (obtain ⟨_, _, _, rfl, _⟩ := h; rfl) | (obtain ⟨_, _, _, _, rfl, _⟩ := h; rfl) | (obtain ⟨_, _, _, _, _, rfl, _⟩ := h; rfl) | (obtain ⟨_, _, _, _, _, _, rfl, _⟩ := h; rfl) | (obtain ⟨_, _, _, _, _, _, _, rfl, _⟩ := h; rfl) | (obtain ⟨_, _, _, _, _, _, _, _, rfl, _⟩ := h; rfl) | (obtain ⟨_, _, _, _, _, _, _, _, _, rfl, _⟩ := h; rfl) | (obtain ⟨⟨_, _, _, _, _, _, _, rfl, _⟩, _⟩ := h; rfl)) fun X c al vs H Q E tk h => ?_
  obtain ⟨rfl, rfl, rfl, rfl, rfl⟩ := al
  exact body_read_term c (rdC F) F.gi_LAST_NODE (m_take F oc os) (d_read_groups F oc os) tk h
theorem d_read_kept (F : FA K mg w) (oc : Addr) (os : ORow) : DefP Pg w K mg base (L2N.CX Pg w) "read_kept" ["reader"] 7 (spRd (He.ga K "CutShort") (He.ga K "BadOctets") (He.ga K "Reader") oc os (rTerm os .non) rD) := by
  obtain ⟨fd, f, g⟩ := F.fn "read_kept" sq_read_kept (by walk_at "gm")
  refine defPN_of f g mq_read_kept (FunD.bindsN f fun _ _ _ _ _ _ us hl => match us, hl with | [_], _ => rfl) (fun vs H Q E h => by first | (obtain ⟨rfl, _⟩ := h; rfl) | (obtain ⟨_, rfl, _⟩ := h; rfl) | (obtain ⟨_, _, rfl, _⟩ := h; rfl) | (obtain ⟨_, _, _, rfl, _⟩ := h; rfl) | (obtain ⟨_, _, _, _, rfl, _⟩ := h; rfl) | (obtain ⟨_, _, _, _, _, rfl, _⟩ := h; rfl) | (obtain ⟨_, _, _, _, _, _, rfl, _⟩ := h; rfl) | (obtain ⟨_, _, _, _, _, _, _, rfl, _⟩ := h; rfl) | (obtain ⟨_, _, _, _, _, _, _, _, rfl, _⟩ := h; rfl) | (obtain ⟨_, _, _, _, _, _, _, _, _, rfl, _⟩ := h; rfl) | (obtain ⟨⟨_, _, _, _, _, _, _, rfl, _⟩, _⟩ := h; rfl)) fun X c al vs H Q E tk h => ?_
  obtain ⟨rfl, rfl, rfl, rfl, rfl⟩ := al
  exact body_read_kept c (d_read_term F oc os) tk h
theorem d_read_fraction_octets (F : FA K mg w) (oc : Addr) (os : ORow) : DefP Pg w K mg base (L2N.CX Pg w) "read_fraction_octets" ["reader"] 6 (spRd (He.ga K "CutShort") (He.ga K "BadOctets") (He.ga K "Reader") oc os (rFrac os) rD) := by
  obtain ⟨fd, f, g⟩ := F.fn "read_fraction_octets" sq_read_fraction_octets (by walk_at "gm")
  refine defPN_of f g mq_read_fraction_octets (FunD.bindsN f fun _ _ _ _ _ _ us hl => match us, hl with | [_], _ => rfl) (fun vs H Q E h => by first | (obtain ⟨rfl, _⟩ := h; rfl) | (obtain ⟨_, rfl, _⟩ := h; rfl) | (obtain ⟨_, _, rfl, _⟩ := h; rfl) | (obtain ⟨_, _, _, rfl, _⟩ := h; rfl) | (obtain ⟨_, _, _, _, rfl, _⟩ := h; rfl) | (obtain ⟨_, _, _, _, _, rfl, _⟩ := h; rfl) | (obtain ⟨_, _, _, _, _, _, rfl, _⟩ := h; rfl) | (obtain ⟨_, _, _, _, _, _, _, rfl, _⟩ := h; rfl) | (obtain ⟨_, _, _, _, _, _, _, _, rfl, _⟩ := h; rfl) | (obtain ⟨_, _, _, _, _, _, _, _, _, rfl, _⟩ := h; rfl) | (obtain ⟨⟨_, _, _, _, _, _, _, rfl, _⟩, _⟩ := h; rfl)) fun X c al vs H Q E tk h => ?_
  obtain ⟨rfl, rfl, rfl, rfl, rfl⟩ := al
  exact body_read_fraction c (rdC F) F.blt_gcd (m_take F oc os) (m_refuse F oc os) (d_read_groups F oc os) (d_groups_behind F oc os) tk h
theorem d_read_label_above (F : FA K mg w) (oc : Addr) (os : ORow) : DefP Pg w K mg base (L2N.CX Pg w) "read_label_above" ["reader", "ahead"] 4 (spLA (He.ga K "CutShort") (He.ga K "BadOctets") (He.ga K "Reader") oc os) := by
  obtain ⟨fd, f, g⟩ := F.fn "read_label_above" sq_read_label_above (by walk_at "gm")
  refine defPN_of f g mq_read_label_above (FunD.bindsN f fun _ _ _ _ _ _ us hl => match us, hl with | [_, _], _ => rfl) (fun vs H Q E h => by first | (obtain ⟨rfl, _⟩ := h; rfl) | (obtain ⟨_, rfl, _⟩ := h; rfl) | (obtain ⟨_, _, rfl, _⟩ := h; rfl) | (obtain ⟨_, _, _, rfl, _⟩ := h; rfl) | (obtain ⟨_, _, _, _, rfl, _⟩ := h; rfl) | (obtain ⟨_, _, _, _, _, rfl, _⟩ := h; rfl) | (obtain ⟨_, _, _, _, _, _, rfl, _⟩ := h; rfl) | (obtain ⟨_, _, _, _, _, _, _, rfl, _⟩ := h; rfl) | (obtain ⟨_, _, _, _, _, _, _, _, rfl, _⟩ := h; rfl) | (obtain ⟨_, _, _, _, _, _, _, _, _, rfl, _⟩ := h; rfl) | (obtain ⟨⟨_, _, _, _, _, _, _, rfl, _⟩, _⟩ := h; rfl)) fun X c al vs H Q E tk h => ?_
  obtain ⟨rfl, rfl, rfl, rfl, rfl⟩ := al
  exact body_read_label_above c (rdC F) (F.free _ (by walk_at "gm")) F.gi_LABEL_LETTERS F.letters (m_take F oc os) (m_refuse F oc os) tk h
theorem d_read_label (F : FA K mg w) (oc : Addr) (os : ORow) : DefP Pg w K mg base (L2N.CX Pg w) "read_label" ["reader"] 5 (spRd (He.ga K "CutShort") (He.ga K "BadOctets") (He.ga K "Reader") oc os (rLabel os []) rS) := by
  obtain ⟨fd, f, g⟩ := F.fn "read_label" sq_read_label (by walk_at "gm")
  refine defPN_of f g mq_read_label (FunD.bindsN f fun _ _ _ _ _ _ us hl => match us, hl with | [_], _ => rfl) (fun vs H Q E h => by first | (obtain ⟨rfl, _⟩ := h; rfl) | (obtain ⟨_, rfl, _⟩ := h; rfl) | (obtain ⟨_, _, rfl, _⟩ := h; rfl) | (obtain ⟨_, _, _, rfl, _⟩ := h; rfl) | (obtain ⟨_, _, _, _, rfl, _⟩ := h; rfl) | (obtain ⟨_, _, _, _, _, rfl, _⟩ := h; rfl) | (obtain ⟨_, _, _, _, _, _, rfl, _⟩ := h; rfl) | (obtain ⟨_, _, _, _, _, _, _, rfl, _⟩ := h; rfl) | (obtain ⟨_, _, _, _, _, _, _, _, rfl, _⟩ := h; rfl) | (obtain ⟨_, _, _, _, _, _, _, _, _, rfl, _⟩ := h; rfl) | (obtain ⟨⟨_, _, _, _, _, _, _, rfl, _⟩, _⟩ := h; rfl)) fun X c al vs H Q E tk h => ?_
  obtain ⟨rfl, rfl, rfl, rfl, rfl⟩ := al
  exact body_read_label c (d_read_label_above F oc os) tk h
theorem d_read_name (F : FA K mg w) (oc : Addr) (os : ORow) : DefP Pg w K mg base (L2N.CX Pg w) "read_name" ["reader"] 6 (spRd (He.ga K "CutShort") (He.ga K "BadOctets") (He.ga K "Reader") oc os (rName os) rD) := by
  obtain ⟨fd, f, g⟩ := F.fn "read_name" sq_read_name (by walk_at "gm")
  refine defPN_of f g mq_read_name (FunD.bindsN f fun _ _ _ _ _ _ us hl => match us, hl with | [_], _ => rfl) (fun vs H Q E h => by first | (obtain ⟨rfl, _⟩ := h; rfl) | (obtain ⟨_, rfl, _⟩ := h; rfl) | (obtain ⟨_, _, rfl, _⟩ := h; rfl) | (obtain ⟨_, _, _, rfl, _⟩ := h; rfl) | (obtain ⟨_, _, _, _, rfl, _⟩ := h; rfl) | (obtain ⟨_, _, _, _, _, rfl, _⟩ := h; rfl) | (obtain ⟨_, _, _, _, _, _, rfl, _⟩ := h; rfl) | (obtain ⟨_, _, _, _, _, _, _, rfl, _⟩ := h; rfl) | (obtain ⟨_, _, _, _, _, _, _, _, rfl, _⟩ := h; rfl) | (obtain ⟨_, _, _, _, _, _, _, _, _, rfl, _⟩ := h; rfl) | (obtain ⟨⟨_, _, _, _, _, _, _, rfl, _⟩, _⟩ := h; rfl)) fun X c al vs H Q E tk h => ?_
  obtain ⟨rfl, rfl, rfl, rfl, rfl⟩ := al
  exact body_read_name c (rdC F) (F.free _ (by walk_at "gm")) (F.free _ (by walk_at "gm")) F.gi_NAME_LABELS (m_take F oc os) (d_read_label F oc os) tk h
theorem d_plain_entry (F : FA K mg w) (oc : Addr) (os : ORow) : DefP Pg w K mg base (L2N.CX Pg w) "plain_entry" ["reader", "kind"] 7 (spPl (He.ga K "CutShort") (He.ga K "BadOctets") (He.ga K "Reader") oc os) := by
  obtain ⟨fd, f, g⟩ := F.fn "plain_entry" sq_plain_entry (by walk_at "gm")
  refine defPN_of f g mq_plain_entry (FunD.bindsN f fun _ _ _ _ _ _ us hl => match us, hl with | [_, _], _ => rfl) (fun vs H Q E h => by first | (obtain ⟨rfl, _⟩ := h; rfl) | (obtain ⟨_, rfl, _⟩ := h; rfl) | (obtain ⟨_, _, rfl, _⟩ := h; rfl) | (obtain ⟨_, _, _, rfl, _⟩ := h; rfl) | (obtain ⟨_, _, _, _, rfl, _⟩ := h; rfl) | (obtain ⟨_, _, _, _, _, rfl, _⟩ := h; rfl) | (obtain ⟨_, _, _, _, _, _, rfl, _⟩ := h; rfl) | (obtain ⟨_, _, _, _, _, _, _, rfl, _⟩ := h; rfl) | (obtain ⟨_, _, _, _, _, _, _, _, rfl, _⟩ := h; rfl) | (obtain ⟨_, _, _, _, _, _, _, _, _, rfl, _⟩ := h; rfl) | (obtain ⟨⟨_, _, _, _, _, _, _, rfl, _⟩, _⟩ := h; rfl)) fun X c al vs H Q E tk h => ?_
  obtain ⟨rfl, rfl, rfl, rfl, rfl⟩ := al
  exact body_plain_entry c (d_read_groups F oc os) (d_read_name F oc os) tk h
theorem d_read_first_entries (F : FA K mg w) (oc : Addr) (os : ORow) : DefP Pg w K mg base (L2N.CX Pg w) "read_first_entries" ["reader"] 8 (spRd (He.ga K "CutShort") (He.ga K "BadOctets") (He.ga K "Reader") oc os (rRows os 6 []) (fun H v ds => Dz H v (.tup ds))) := by
  obtain ⟨fd, f, g⟩ := F.fn "read_first_entries" sq_read_first_entries (by walk_at "gm")
  refine defPN_of f g mq_read_first_entries (FunD.bindsN f fun _ _ _ _ _ _ us hl => match us, hl with | [_], _ => rfl) (fun vs H Q E h => by first | (obtain ⟨rfl, _⟩ := h; rfl) | (obtain ⟨_, rfl, _⟩ := h; rfl) | (obtain ⟨_, _, rfl, _⟩ := h; rfl) | (obtain ⟨_, _, _, rfl, _⟩ := h; rfl) | (obtain ⟨_, _, _, _, rfl, _⟩ := h; rfl) | (obtain ⟨_, _, _, _, _, rfl, _⟩ := h; rfl) | (obtain ⟨_, _, _, _, _, _, rfl, _⟩ := h; rfl) | (obtain ⟨_, _, _, _, _, _, _, rfl, _⟩ := h; rfl) | (obtain ⟨_, _, _, _, _, _, _, _, rfl, _⟩ := h; rfl) | (obtain ⟨_, _, _, _, _, _, _, _, _, rfl, _⟩ := h; rfl) | (obtain ⟨⟨_, _, _, _, _, _, _, rfl, _⟩, _⟩ := h; rfl)) fun X c al vs H Q E tk h => ?_
  obtain ⟨rfl, rfl, rfl, rfl, rfl⟩ := al
  exact body_read_first_entries c (rdC F) (F.free _ (by walk_at "gm")) (F.free _ (by walk_at "gm")) F.gi_FIRST_ENTRIES F.last (m_take F oc os) (m_refuse F oc os) (d_read_label_above F oc os) (d_plain_entry F oc os) tk h
theorem d_read_entry (F : FA K mg w) (oc : Addr) (os : ORow) : DefP Pg w K mg base (L2N.CX Pg w) "read_entry" ["reader"] 9 (spRd (He.ga K "CutShort") (He.ga K "BadOctets") (He.ga K "Reader") oc os (rEntry os 0 3) rD) := by
  obtain ⟨fd, f, g⟩ := F.fn "read_entry" sq_read_entry (by walk_at "gm")
  refine defPN_of f g mq_read_entry (FunD.bindsN f fun _ _ _ _ _ _ us hl => match us, hl with | [_], _ => rfl) (fun vs H Q E h => by first | (obtain ⟨rfl, _⟩ := h; rfl) | (obtain ⟨_, rfl, _⟩ := h; rfl) | (obtain ⟨_, _, rfl, _⟩ := h; rfl) | (obtain ⟨_, _, _, rfl, _⟩ := h; rfl) | (obtain ⟨_, _, _, _, rfl, _⟩ := h; rfl) | (obtain ⟨_, _, _, _, _, rfl, _⟩ := h; rfl) | (obtain ⟨_, _, _, _, _, _, rfl, _⟩ := h; rfl) | (obtain ⟨_, _, _, _, _, _, _, rfl, _⟩ := h; rfl) | (obtain ⟨_, _, _, _, _, _, _, _, rfl, _⟩ := h; rfl) | (obtain ⟨_, _, _, _, _, _, _, _, _, rfl, _⟩ := h; rfl) | (obtain ⟨⟨_, _, _, _, _, _, _, rfl, _⟩, _⟩ := h; rfl)) fun X c al vs H Q E tk h => ?_
  obtain ⟨rfl, rfl, rfl, rfl, rfl⟩ := al
  exact body_read_entry c (rdC F) (m_take F oc os) (d_read_node F oc os) (d_read_first_entries F oc os) (d_plain_entry F oc os) tk h
theorem d_read_found (F : FA K mg w) (oc : Addr) (os : ORow) : DefP Pg w K mg base (L2N.CX Pg w) "read_found" ["reader"] 7 (spRd (He.ga K "CutShort") (He.ga K "BadOctets") (He.ga K "Reader") oc os (rFound os) rD) := by
  obtain ⟨fd, f, g⟩ := F.fn "read_found" sq_read_found (by walk_at "gm")
  refine defPN_of f g mq_read_found (FunD.bindsN f fun _ _ _ _ _ _ us hl => match us, hl with | [_], _ => rfl) (fun vs H Q E h => by first | (obtain ⟨rfl, _⟩ := h; rfl) | (obtain ⟨_, rfl, _⟩ := h; rfl) | (obtain ⟨_, _, rfl, _⟩ := h; rfl) | (obtain ⟨_, _, _, rfl, _⟩ := h; rfl) | (obtain ⟨_, _, _, _, rfl, _⟩ := h; rfl) | (obtain ⟨_, _, _, _, _, rfl, _⟩ := h; rfl) | (obtain ⟨_, _, _, _, _, _, rfl, _⟩ := h; rfl) | (obtain ⟨_, _, _, _, _, _, _, rfl, _⟩ := h; rfl) | (obtain ⟨_, _, _, _, _, _, _, _, rfl, _⟩ := h; rfl) | (obtain ⟨_, _, _, _, _, _, _, _, _, rfl, _⟩ := h; rfl) | (obtain ⟨⟨_, _, _, _, _, _, _, rfl, _⟩, _⟩ := h; rfl)) fun X c al vs H Q E tk h => ?_
  obtain ⟨rfl, rfl, rfl, rfl, rfl⟩ := al
  exact body_read_found c (rdC F) (m_take F oc os) (d_read_node F oc os) (d_read_groups F oc os) (d_read_term F oc os) tk h
theorem d_read_answer (F : FA K mg w) (oc : Addr) (os : ORow) : DefP Pg w K mg base (L2N.CX Pg w) "read_answer" ["reader"] 8 (spRd (He.ga K "CutShort") (He.ga K "BadOctets") (He.ga K "Reader") oc os (rAnswer os) rD) := by
  obtain ⟨fd, f, g⟩ := F.fn "read_answer" sq_read_answer (by walk_at "gm")
  refine defPN_of f g mq_read_answer (FunD.bindsN f fun _ _ _ _ _ _ us hl => match us, hl with | [_], _ => rfl) (fun vs H Q E h => by first | (obtain ⟨rfl, _⟩ := h; rfl) | (obtain ⟨_, rfl, _⟩ := h; rfl) | (obtain ⟨_, _, rfl, _⟩ := h; rfl) | (obtain ⟨_, _, _, rfl, _⟩ := h; rfl) | (obtain ⟨_, _, _, _, rfl, _⟩ := h; rfl) | (obtain ⟨_, _, _, _, _, rfl, _⟩ := h; rfl) | (obtain ⟨_, _, _, _, _, _, rfl, _⟩ := h; rfl) | (obtain ⟨_, _, _, _, _, _, _, rfl, _⟩ := h; rfl) | (obtain ⟨_, _, _, _, _, _, _, _, rfl, _⟩ := h; rfl) | (obtain ⟨_, _, _, _, _, _, _, _, _, rfl, _⟩ := h; rfl) | (obtain ⟨⟨_, _, _, _, _, _, _, rfl, _⟩, _⟩ := h; rfl)) fun X c al vs H Q E tk h => ?_
  obtain ⟨rfl, rfl, rfl, rfl, rfl⟩ := al
  exact body_read_answer c (rdC F) (F.free _ (by walk_at "gm")) (F.free _ (by walk_at "gm")) F.gi_MOST_NAMES (m_take F oc os) (d_read_found F oc os) (d_read_name F oc os) tk h
theorem rdT (F : FA K mg w) {X : Cx} (al : At5 X Pg w K mg base) (oc : Addr) (os : ORow) : RdT X (He.ga X.K "CutShort") (He.ga X.K "BadOctets") (He.ga X.K "Reader") oc os := by
  obtain ⟨rfl, rfl, rfl, rfl, rfl⟩ := al
  obtain ⟨es, n, DK⟩ := F.tab_READERS
  have one : ∀ (w : Wd) (x : Str) (ps : List Str) (n : Nat) (sp : Sp), n ≤ 9 → (wdS w, x) ∈ rdTab → X.mg x = some (.ref (He.ga X.K x)) → DefP X.prog X.w X.K X.mg X.base (L2N.CX X.prog X.w) x ps n sp → (∀ vs H Q E, spRd (He.ga X.K "CutShort") (He.ga X.K "BadOctets") (He.ga X.K "Reader") oc os (rPart os w) rD vs H Q E → sp vs H Q E) →
      ∃ (f : Addr) (fd : FuncData) (ps : List Str) (n : Nat), n ≤ 9 ∧ KDct X.K X.w (He.ga X.K "READERS") (wdS w) (.ref f) ∧ FnOk X.prog X.w X.K X.mg X.base (L2N.CX X.prog X.w) n f fd ps (spRd (He.ga X.K "CutShort") (He.ga X.K "BadOctets") (He.ga X.K "Reader") oc os (rPart os w) rD) ∧ PySem.W.keepIn X.K (.ref f) = true ∧ Binds X.K fd ps [] := by
    intro w x ps n sp hn hm g d hR
    obtain ⟨f, fd, F1, m, kp, b⟩ := d.ex
    have h : rdB X.K (wdS w, x) = true := List.all_eq_true.mp F.readers _ hm
    unfold rdB at h
    obtain ⟨h1, h2⟩ := He.ba h
    have e : atK X.K (He.ga X.K "READERS") (wdS w) = He.ga X.K x := of_decide_eq_true h2
    have ef : f = He.ga X.K x := by
      have := m.symm.trans g
      injection this with this
      injection this
    refine ⟨f, fd, ps, n, hn, ?_, F1.imp hR, kp, b⟩
    rw [ef, ← e]
    exact kdct_of DK h1
  refine ⟨He.ga X.K "READERS", F.g_READERS, fun w => ?_⟩
  cases w with
  | kept => exact one .kept "read_kept" _ 7 _ (by decide) (by decide +kernel) (F.fn "read_kept" sq_read_kept (by walk_at "gm")).choose_spec.2 (d_read_kept F oc os) (fun vs H Q E h => h)
  | term => exact one .term "read_term" _ 6 _ (by decide) (by decide +kernel) (F.fn "read_term" sq_read_term (by walk_at "gm")).choose_spec.2 (d_read_term F oc os) (fun vs H Q E h => h)
  | node => exact one .node "read_node" _ 4 _ (by decide) (by decide +kernel) (F.fn "read_node" sq_read_node (by walk_at "gm")).choose_spec.2 (d_read_node F oc os) (fun vs H Q E ⟨a, p, e, hr, q⟩ => ⟨a, p, e, hr, K08.PPost.imp (PPost.map q) fun H v x e => by obtain rfl : v = .int x := e; exact .int⟩)
  | most => exact one .most "read_most" _ 4 _ (by decide) (by decide +kernel) (F.fn "read_most" sq_read_most (by walk_at "gm")).choose_spec.2 (d_read_most F oc os) (fun vs H Q E ⟨a, p, e, hr, q⟩ => ⟨a, p, e, hr, K08.PPost.imp (PPost.map q) fun H v x e => by obtain rfl : v = .int x := e; exact .int⟩)
  | id => exact one .id "read_id" _ 6 _ (by decide) (by decide +kernel) (F.fn "read_id" sq_read_id (by walk_at "gm")).choose_spec.2 (d_read_id F oc os) (fun vs H Q E h => h)
  | label => exact one .label "read_label" _ 5 _ (by decide) (by decide +kernel) (F.fn "read_label" sq_read_label (by walk_at "gm")).choose_spec.2 (d_read_label F oc os) (fun vs H Q E ⟨a, p, e, hr, q⟩ => ⟨a, p, e, hr, K08.PPost.imp (PPost.map q) fun H v x e => by obtain rfl : v = sV x := e; exact .str⟩)
  | fraction => exact one .fraction "read_fraction_octets" _ 6 _ (by decide) (by decide +kernel) (F.fn "read_fraction_octets" sq_read_fraction_octets (by walk_at "gm")).choose_spec.2 (d_read_fraction_octets F oc os) (fun vs H Q E h => h)
  | name => exact one .name "read_name" _ 6 _ (by decide) (by decide +kernel) (F.fn "read_name" sq_read_name (by walk_at "gm")).choose_spec.2 (d_read_name F oc os) (fun vs H Q E h => h)
  | entry => exact one .entry "read_entry" _ 9 _ (by decide) (by decide +kernel) (F.fn "read_entry" sq_read_entry (by walk_at "gm")).choose_spec.2 (d_read_entry F oc os) (fun vs H Q E h => h)
  | answer => exact one .answer "read_answer" _ 8 _ (by decide) (by decide +kernel) (F.fn "read_answer" sq_read_answer (by walk_at "gm")).choose_spec.2 (d_read_answer F oc os) (fun vs H Q E h => h)
theorem d_read_event (F : FA K mg w) (oc : Addr) (os : ORow) : DefP Pg w K mg base (L2N.CX Pg w) "read_event" ["reader"] 10 (spRd (He.ga K "CutShort") (He.ga K "BadOctets") (He.ga K "Reader") oc os (rEvent os) rD) := by
  obtain ⟨fd, f, g⟩ := F.fn "read_event" sq_read_event (by walk_at "gm")
  refine defPN_of f g mq_read_event (FunD.bindsN f fun _ _ _ _ _ _ us hl => match us, hl with | [_], _ => rfl) (fun vs H Q E h => by first | (obtain ⟨rfl, _⟩ := h; rfl) | (obtain ⟨_, rfl, _⟩ := h; rfl) | (obtain ⟨_, _, rfl, _⟩ := h; rfl) | (obtain ⟨_, _, _, rfl, _⟩ := h; rfl) | (obtain ⟨_, _, _, _, rfl, _⟩ := h; rfl) | (obtain ⟨_, _, _, _, _, rfl, _⟩ := h; rfl) | (obtain ⟨_, _, _, _, _, _, rfl, _⟩ := h; rfl) | (obtain ⟨_, _, _, _, _, _, _, rfl, _⟩ := h; rfl) | (obtain ⟨_, _, _, _, _, _, _, _, rfl, _⟩ := h; rfl) | (obtain ⟨_, _, _, _, _, _, _, _, _, rfl, _⟩ := h; rfl) | (obtain ⟨⟨_, _, _, _, _, _, _, rfl, _⟩, _⟩ := h; rfl)) fun X c al vs H Q E tk h => ?_
  obtain ⟨rfl, rfl, rfl, rfl, rfl⟩ := al
  exact body_read_event c (rdC F) (F.free _ (by walk_at "gm")) (F.free _ (by walk_at "gm")) (m_take F oc os) (d_read_id F oc os) (d_read_fraction_octets F oc os) (kindsT F) (partsT F) (rdT F ⟨rfl, rfl, rfl, rfl, rfl⟩ oc os) tk h
theorem d_decode_event (F : FA K mg w) : DefP Pg w K mg base (L2.CX Pg w) "decode_event" ["octets"] 11 (spDec (He.ga K "BadOctets")) := by
  obtain ⟨fd, f, g⟩ := F.fn "decode_event" sq_decode_event (by walk_at "gm")
  have FD : FnOk Pg w K mg base (L2.CX Pg w) 11 (He.ga K "decode_event") fd ["octets"] (spDec (He.ga K "BadOctets")) := by
    refine fnXQ_of f mq_decode_event (fun vs H Q E h => by first | (obtain ⟨rfl, _⟩ := h; rfl) | (obtain ⟨_, rfl, _⟩ := h; rfl) | (obtain ⟨_, _, rfl, _⟩ := h; rfl) | (obtain ⟨_, _, _, rfl, _⟩ := h; rfl) | (obtain ⟨_, _, _, _, rfl, _⟩ := h; rfl) | (obtain ⟨_, _, _, _, _, rfl, _⟩ := h; rfl) | (obtain ⟨_, _, _, _, _, _, rfl, _⟩ := h; rfl) | (obtain ⟨_, _, _, _, _, _, _, rfl, _⟩ := h; rfl) | (obtain ⟨_, _, _, _, _, _, _, _, rfl, _⟩ := h; rfl) | (obtain ⟨_, _, _, _, _, _, _, _, _, rfl, _⟩ := h; rfl) | (obtain ⟨⟨_, _, _, _, _, _, _, rfl, _⟩, _⟩ := h; rfl)) (fun X c al hs hf hpa vs H Q E tk h => ?_)
    obtain ⟨rfl, rfl, rfl, rfl, rfl⟩ := al
    obtain ⟨fdI, FI, bI⟩ := m_init (Pg := X.prog) (base := X.base) F
    exact body_decode_event c hs hf hpa (rdC F) (F.free _ (by walk_at "gm")) (cutN F) (errH_BadOctets F) F.g_Reader F.exm_CutShort_CutShort F.exm_BadOctets_CutShort (He.mkr_ok F.rmk) FI bI (fun oc os => m_done F oc os) (fun oc os => d_read_event F oc os) tk h
  exact ⟨_, fd, FD, g, f.kp, FunD.bindsN f fun _ _ _ _ _ _ us hl => match us, hl with | [_], _ => rfl⟩
theorem kb_decode_event {f : Addr} {fd : FuncData} (F : FnP K "decode_event" sq_decode_event f fd) : KBinds K fd ["octets"] ["octets"] g1 g1 := by
  obtain ⟨oc, od, dV, kV, doc, pm, an, cdv, ct, osl, rfl, lk, hcd, hD, hK⟩ := F.ex
  rcases hD with ⟨_, rfl⟩ | ⟨e, _⟩
  · refine ⟨fun s us ws _ hl => ?_, fun {vs us zs ws} r rz => ?_⟩
    · match us, ws, hl with
      | [], [a0], _ => exact .of_eq rfl
    · match vs, us, r with
      | [], [], _ =>
        match zs, ws, rz with
        | [a0], [a0'], .cons h0 (.nil) => exact .cons h0 (.nil)
        | [], _, .nil => exact .nil
        | _ :: _ :: _, _, .cons _ (.cons _ (_)) => exact .nil
      | _ :: _, _, .cons _ _ => exact .nil
  · exact absurd rfl e
theorem key_decode_event {X : Cx} (F : FA X.K X.mg X.w) : KeyC X (L2.CX X.prog X.w) "decode_event" ["octets"] ["octets"] g1 g1 11 (spDec (He.ga X.K "BadOctets")) := by
  obtain ⟨fd, f, g⟩ := F.fn "decode_event" sq_decode_event (by walk_at "gm")
  have FD : FnOk X.prog X.w X.K X.mg X.base (L2.CX X.prog X.w) 11 (He.ga X.K "decode_event") fd ["octets"] (spDec (He.ga X.K "BadOctets")) := by
    obtain ⟨fdI, FI, bI⟩ := m_init (Pg := X.prog) (base := X.base) F
    refine fnXQ_of f mq_decode_event (fun vs H Q E h => by first | (obtain ⟨rfl, _⟩ := h; rfl) | (obtain ⟨_, rfl, _⟩ := h; rfl) | (obtain ⟨_, _, rfl, _⟩ := h; rfl) | (obtain ⟨_, _, _, rfl, _⟩ := h; rfl) | (obtain ⟨_, _, _, _, rfl, _⟩ := h; rfl) | (obtain ⟨_, _, _, _, _, rfl, _⟩ := h; rfl) | (obtain ⟨_, _, _, _, _, _, rfl, _⟩ := h; rfl) | (obtain ⟨_, _, _, _, _, _, _, rfl, _⟩ := h; rfl) | (obtain ⟨_, _, _, _, _, _, _, _, rfl, _⟩ := h; rfl) | (obtain ⟨_, _, _, _, _, _, _, _, _, rfl, _⟩ := h; rfl) | (obtain ⟨⟨_, _, _, _, _, _, _, rfl, _⟩, _⟩ := h; rfl)) (fun Y c al hs hf hpa vs H Q E tk h => ?_)
    have e := al
    obtain ⟨e1, e2, e3, e4, e5⟩ := e
    have F2 : FA Y.K Y.mg Y.w := by rw [e3, e4, e2]; exact F
    have h2 : spDec (He.ga Y.K "BadOctets") vs H Q E := by rw [e3]; exact h
    obtain ⟨fdI, FI, bI⟩ := m_init (Pg := Y.prog) (base := Y.base) F2
    exact body_decode_event c hs hf hpa (rdC F2) (F2.free _ (by walk_at "gm")) (cutN F2) (errH_BadOctets F2) F2.g_Reader F2.exm_CutShort_CutShort F2.exm_BadOctets_CutShort (He.mkr_ok F2.rmk) FI bI (fun oc os => m_done F2 oc os) (fun oc os => d_read_event F2 oc os) tk h2
  exact ⟨_, fd, FD, g, f.kp, kb_decode_event f⟩
theorem d_take (F : FA K mg w) : DefP Pg w K mg base CX0 "_law_take" ["box", "many"] 1 (spTake) := by
  obtain ⟨fd, f, g⟩ := F.fn "_law_take" sq_take (by walk_at "gm")
  refine defP_of f g mq_take (FunD.bindsN f fun _ _ _ _ _ _ us hl => match us, hl with | [_, _], _ => rfl) (fun vs H Q E h => by first | (obtain ⟨rfl, _⟩ := h; rfl) | (obtain ⟨_, rfl, _⟩ := h; rfl) | (obtain ⟨_, _, rfl, _⟩ := h; rfl) | (obtain ⟨_, _, _, rfl, _⟩ := h; rfl) | (obtain ⟨_, _, _, _, rfl, _⟩ := h; rfl) | (obtain ⟨_, _, _, _, _, rfl, _⟩ := h; rfl) | (obtain ⟨_, _, _, _, _, _, rfl, _⟩ := h; rfl) | (obtain ⟨_, _, _, _, _, _, _, rfl, _⟩ := h; rfl) | (obtain ⟨_, _, _, _, _, _, _, _, rfl, _⟩ := h; rfl) | (obtain ⟨_, _, _, _, _, _, _, _, _, rfl, _⟩ := h; rfl) | (obtain ⟨⟨_, _, _, _, _, _, _, rfl, _⟩, _⟩ := h; rfl)) fun X c al vs H Q E h => ?_
  obtain ⟨rfl, rfl, rfl, rfl, rfl⟩ := al
  exact body_take c (F.free _ (by walk_at "gm")) h
theorem d_box (F : FA K mg w) : DefP Pg w K mg base CX0 "_law_box" ["script", "k"] 1 (spBox K) := by
  obtain ⟨fd, f, g⟩ := F.fn "_law_box" sq_box (by walk_at "gm")
  refine defP_of f g mq_box (FunD.bindsN f fun _ _ _ _ _ _ us hl => match us, hl with | [_, _], _ => rfl) (fun vs H Q E h => by first | (obtain ⟨rfl, _⟩ := h; rfl) | (obtain ⟨_, rfl, _⟩ := h; rfl) | (obtain ⟨_, _, rfl, _⟩ := h; rfl) | (obtain ⟨_, _, _, rfl, _⟩ := h; rfl) | (obtain ⟨_, _, _, _, rfl, _⟩ := h; rfl) | (obtain ⟨_, _, _, _, _, rfl, _⟩ := h; rfl) | (obtain ⟨_, _, _, _, _, _, rfl, _⟩ := h; rfl) | (obtain ⟨_, _, _, _, _, _, _, rfl, _⟩ := h; rfl) | (obtain ⟨_, _, _, _, _, _, _, _, rfl, _⟩ := h; rfl) | (obtain ⟨_, _, _, _, _, _, _, _, _, rfl, _⟩ := h; rfl) | (obtain ⟨⟨_, _, _, _, _, _, _, rfl, _⟩, _⟩ := h; rfl)) fun X c al vs H Q E h => ?_
  obtain ⟨rfl, rfl, rfl, rfl, rfl⟩ := al
  exact body_box c (F.free _ (by walk_at "gm")) (F.free _ (by walk_at "gm")) (F.free _ (by walk_at "gm")) h
theorem d_pick (F : FA K mg w) : DefP Pg w K mg base CX0 "_law_pick" ["box", "some"] 2 (spPick K) := by
  obtain ⟨fd, f, g⟩ := F.fn "_law_pick" sq_pick (by walk_at "gm")
  refine defP_of f g mq_pick (FunD.bindsN f fun _ _ _ _ _ _ us hl => match us, hl with | [_, _], _ => rfl) (fun vs H Q E h => by first | (obtain ⟨rfl, _⟩ := h; rfl) | (obtain ⟨_, rfl, _⟩ := h; rfl) | (obtain ⟨_, _, rfl, _⟩ := h; rfl) | (obtain ⟨_, _, _, rfl, _⟩ := h; rfl) | (obtain ⟨_, _, _, _, rfl, _⟩ := h; rfl) | (obtain ⟨_, _, _, _, _, rfl, _⟩ := h; rfl) | (obtain ⟨_, _, _, _, _, _, rfl, _⟩ := h; rfl) | (obtain ⟨_, _, _, _, _, _, _, rfl, _⟩ := h; rfl) | (obtain ⟨_, _, _, _, _, _, _, _, rfl, _⟩ := h; rfl) | (obtain ⟨_, _, _, _, _, _, _, _, _, rfl, _⟩ := h; rfl) | (obtain ⟨⟨_, _, _, _, _, _, _, rfl, _⟩, _⟩ := h; rfl)) fun X c al vs H Q E h => ?_
  obtain ⟨rfl, rfl, rfl, rfl, rfl⟩ := al
  exact body_pick c (F.free _ (by walk_at "gm")) (d_take F) h
theorem d_number (F : FA K mg w) : DefP Pg w K mg base CX0 "_law_number" ["box"] 3 (spNum) := by
  obtain ⟨fd, f, g⟩ := F.fn "_law_number" sq_number (by walk_at "gm")
  refine defP_of f g mq_number (FunD.bindsN f fun _ _ _ _ _ _ us hl => match us, hl with | [_], _ => rfl) (fun vs H Q E h => by first | (obtain ⟨rfl, _⟩ := h; rfl) | (obtain ⟨_, rfl, _⟩ := h; rfl) | (obtain ⟨_, _, rfl, _⟩ := h; rfl) | (obtain ⟨_, _, _, rfl, _⟩ := h; rfl) | (obtain ⟨_, _, _, _, rfl, _⟩ := h; rfl) | (obtain ⟨_, _, _, _, _, rfl, _⟩ := h; rfl) | (obtain ⟨_, _, _, _, _, _, rfl, _⟩ := h; rfl) | (obtain ⟨_, _, _, _, _, _, _, rfl, _⟩ := h; rfl) | (obtain ⟨_, _, _, _, _, _, _, _, rfl, _⟩ := h; rfl) | (obtain ⟨_, _, _, _, _, _, _, _, _, rfl, _⟩ := h; rfl) | (obtain ⟨⟨_, _, _, _, _, _, _, rfl, _⟩, _⟩ := h; rfl)) fun X c al vs H Q E h => ?_
  obtain ⟨rfl, rfl, rfl, rfl, rfl⟩ := al
  exact body_number c (d_take F) (d_pick F) h
theorem d_part (F : FA K mg w) : DefP Pg w K mg base CX0 "_law_part" ["one", "two"] 1 (spPart2) := by
  obtain ⟨fd, f, g⟩ := F.fn "_law_part" sq_part (by walk_at "gm")
  refine defP_of f g mq_part (FunD.bindsN f fun _ _ _ _ _ _ us hl => match us, hl with | [_, _], _ => rfl) (fun vs H Q E h => by first | (obtain ⟨rfl, _⟩ := h; rfl) | (obtain ⟨_, rfl, _⟩ := h; rfl) | (obtain ⟨_, _, rfl, _⟩ := h; rfl) | (obtain ⟨_, _, _, rfl, _⟩ := h; rfl) | (obtain ⟨_, _, _, _, rfl, _⟩ := h; rfl) | (obtain ⟨_, _, _, _, _, rfl, _⟩ := h; rfl) | (obtain ⟨_, _, _, _, _, _, rfl, _⟩ := h; rfl) | (obtain ⟨_, _, _, _, _, _, _, rfl, _⟩ := h; rfl) | (obtain ⟨_, _, _, _, _, _, _, _, rfl, _⟩ := h; rfl) | (obtain ⟨_, _, _, _, _, _, _, _, _, rfl, _⟩ := h; rfl) | (obtain ⟨⟨_, _, _, _, _, _, _, rfl, _⟩, _⟩ := h; rfl)) fun X c al vs H Q E h => ?_
  obtain ⟨rfl, rfl, rfl, rfl, rfl⟩ := al
  exact body_part2 c (F.free _ (by walk_at "gm")) (F.free _ (by walk_at "gm")) (F.free _ (by walk_at "gm")) h
theorem d_part_2 (F : FA K mg w) : DefP Pg w K mg base CX0 "_law_part" ["one", "two"] 2 spPart := by
  obtain ⟨f, fd, F1, m, kp, b⟩ := (d_part F : DefP Pg w K mg base CX0 "_law_part" ["one", "two"] 1 spPart2).ex
  exact ⟨f, fd, (F1.mono (by decide)).imp fun vs H Q E ⟨a, b, e, wa, wb, q⟩ => ⟨a, b, e, Nat.lt_trans wb (by decide +kernel), q⟩, m, kp, b⟩
theorem d_fraction (F : FA K mg w) : DefP Pg w K mg base CX0 "_law_fraction" ["box"] 3 (spDr (ER EncF) K) := by
  obtain ⟨fd, f, g⟩ := F.fn "_law_fraction" sq_fraction (by walk_at "gm")
  refine defP_of f g mq_fraction (FunD.bindsN f fun _ _ _ _ _ _ us hl => match us, hl with | [_], _ => rfl) (fun vs H Q E h => by first | (obtain ⟨rfl, _⟩ := h; rfl) | (obtain ⟨_, rfl, _⟩ := h; rfl) | (obtain ⟨_, _, rfl, _⟩ := h; rfl) | (obtain ⟨_, _, _, rfl, _⟩ := h; rfl) | (obtain ⟨_, _, _, _, rfl, _⟩ := h; rfl) | (obtain ⟨_, _, _, _, _, rfl, _⟩ := h; rfl) | (obtain ⟨_, _, _, _, _, _, rfl, _⟩ := h; rfl) | (obtain ⟨_, _, _, _, _, _, _, rfl, _⟩ := h; rfl) | (obtain ⟨_, _, _, _, _, _, _, _, rfl, _⟩ := h; rfl) | (obtain ⟨_, _, _, _, _, _, _, _, _, rfl, _⟩ := h; rfl) | (obtain ⟨⟨_, _, _, _, _, _, _, rfl, _⟩, _⟩ := h; rfl)) fun X c al vs H Q E h => ?_
  obtain ⟨rfl, rfl, rfl, rfl, rfl⟩ := al
  exact body_fraction c (F.free _ (by walk_at "gm")) (d_take F) (d_pick F) (d_part_2 F) h
theorem d_label (F : FA K mg w) : DefP Pg w K mg base CX0 "_law_label" ["box"] 3 (spDr PL K) := by
  obtain ⟨fd, f, g⟩ := F.fn "_law_label" sq_label (by walk_at "gm")
  refine defP_of f g mq_label (FunD.bindsN f fun _ _ _ _ _ _ us hl => match us, hl with | [_], _ => rfl) (fun vs H Q E h => by first | (obtain ⟨rfl, _⟩ := h; rfl) | (obtain ⟨_, rfl, _⟩ := h; rfl) | (obtain ⟨_, _, rfl, _⟩ := h; rfl) | (obtain ⟨_, _, _, rfl, _⟩ := h; rfl) | (obtain ⟨_, _, _, _, rfl, _⟩ := h; rfl) | (obtain ⟨_, _, _, _, _, rfl, _⟩ := h; rfl) | (obtain ⟨_, _, _, _, _, _, rfl, _⟩ := h; rfl) | (obtain ⟨_, _, _, _, _, _, _, rfl, _⟩ := h; rfl) | (obtain ⟨_, _, _, _, _, _, _, _, rfl, _⟩ := h; rfl) | (obtain ⟨_, _, _, _, _, _, _, _, _, rfl, _⟩ := h; rfl) | (obtain ⟨⟨_, _, _, _, _, _, _, rfl, _⟩, _⟩ := h; rfl)) fun X c al vs H Q E h => ?_
  obtain ⟨rfl, rfl, rfl, rfl, rfl⟩ := al
  exact body_label c (F.free _ (by walk_at "gm")) (F.free _ (by walk_at "gm")) (d_take F) (d_pick F) h
theorem d_name (F : FA K mg w) : DefP Pg w K mg base CX0 "_law_name" ["box", "most"] 4 (spDrM (ER EncN) K) := by
  obtain ⟨fd, f, g⟩ := F.fn "_law_name" sq_name (by walk_at "gm")
  refine defP_of f g mq_name (FunD.bindsN f fun _ _ _ _ _ _ us hl => match us, hl with | [_, _], _ => rfl) (fun vs H Q E h => by first | (obtain ⟨rfl, _⟩ := h; rfl) | (obtain ⟨_, rfl, _⟩ := h; rfl) | (obtain ⟨_, _, rfl, _⟩ := h; rfl) | (obtain ⟨_, _, _, rfl, _⟩ := h; rfl) | (obtain ⟨_, _, _, _, rfl, _⟩ := h; rfl) | (obtain ⟨_, _, _, _, _, rfl, _⟩ := h; rfl) | (obtain ⟨_, _, _, _, _, _, rfl, _⟩ := h; rfl) | (obtain ⟨_, _, _, _, _, _, _, rfl, _⟩ := h; rfl) | (obtain ⟨_, _, _, _, _, _, _, _, rfl, _⟩ := h; rfl) | (obtain ⟨_, _, _, _, _, _, _, _, _, rfl, _⟩ := h; rfl) | (obtain ⟨⟨_, _, _, _, _, _, _, rfl, _⟩, _⟩ := h; rfl)) fun X c al vs H Q E h => ?_
  obtain ⟨rfl, rfl, rfl, rfl, rfl⟩ := al
  exact body_name c (F.free _ (by walk_at "gm")) (F.free _ (by walk_at "gm")) (d_take F) (d_label F) h
theorem d_id (F : FA K mg w) : DefP Pg w K mg base CX0 "_law_id" ["box"] 4 (spDr (ER (EncI 0)) K) := by
  obtain ⟨fd, f, g⟩ := F.fn "_law_id" sq_id (by walk_at "gm")
  refine defP_of f g mq_id (FunD.bindsN f fun _ _ _ _ _ _ us hl => match us, hl with | [_], _ => rfl) (fun vs H Q E h => by first | (obtain ⟨rfl, _⟩ := h; rfl) | (obtain ⟨_, rfl, _⟩ := h; rfl) | (obtain ⟨_, _, rfl, _⟩ := h; rfl) | (obtain ⟨_, _, _, rfl, _⟩ := h; rfl) | (obtain ⟨_, _, _, _, rfl, _⟩ := h; rfl) | (obtain ⟨_, _, _, _, _, rfl, _⟩ := h; rfl) | (obtain ⟨_, _, _, _, _, _, rfl, _⟩ := h; rfl) | (obtain ⟨_, _, _, _, _, _, _, rfl, _⟩ := h; rfl) | (obtain ⟨_, _, _, _, _, _, _, _, rfl, _⟩ := h; rfl) | (obtain ⟨_, _, _, _, _, _, _, _, _, rfl, _⟩ := h; rfl) | (obtain ⟨⟨_, _, _, _, _, _, _, rfl, _⟩, _⟩ := h; rfl)) fun X c al vs H Q E h => ?_
  obtain ⟨rfl, rfl, rfl, rfl, rfl⟩ := al
  exact body_id c (d_take F) (d_pick F) (d_number F) h
theorem d_rows (F : FA K mg w) : DefP Pg w K mg base CX0 "_law_rows" ["box", "most"] 5 (spRows K) := by
  obtain ⟨fd, f, g⟩ := F.fn "_law_rows" sq_rows (by walk_at "gm")
  refine defP_of f g mq_rows (FunD.bindsN f fun _ _ _ _ _ _ us hl => match us, hl with | [_, _], _ => rfl) (fun vs H Q E h => by first | (obtain ⟨rfl, _⟩ := h; rfl) | (obtain ⟨_, rfl, _⟩ := h; rfl) | (obtain ⟨_, _, rfl, _⟩ := h; rfl) | (obtain ⟨_, _, _, rfl, _⟩ := h; rfl) | (obtain ⟨_, _, _, _, rfl, _⟩ := h; rfl) | (obtain ⟨_, _, _, _, _, rfl, _⟩ := h; rfl) | (obtain ⟨_, _, _, _, _, _, rfl, _⟩ := h; rfl) | (obtain ⟨_, _, _, _, _, _, _, rfl, _⟩ := h; rfl) | (obtain ⟨_, _, _, _, _, _, _, _, rfl, _⟩ := h; rfl) | (obtain ⟨_, _, _, _, _, _, _, _, _, rfl, _⟩ := h; rfl) | (obtain ⟨⟨_, _, _, _, _, _, _, rfl, _⟩, _⟩ := h; rfl)) fun X c al vs H Q E h => ?_
  obtain ⟨rfl, rfl, rfl, rfl, rfl⟩ := al
  exact body_rows c (F.free _ (by walk_at "gm")) (F.free _ (by walk_at "gm")) (F.free _ (by walk_at "gm")) (F.free _ (by walk_at "gm")) (d_take F) (d_pick F) (d_label F) (d_number F) (d_name F) h
theorem d_entry (F : FA K mg w) : DefP Pg w K mg base CX0 "_law_entry" ["box", "most"] 6 (spDrM (ER EncE) K) := by
  obtain ⟨fd, f, g⟩ := F.fn "_law_entry" sq_entry (by walk_at "gm")
  refine defP_of f g mq_entry (FunD.bindsN f fun _ _ _ _ _ _ us hl => match us, hl with | [_, _], _ => rfl) (fun vs H Q E h => by first | (obtain ⟨rfl, _⟩ := h; rfl) | (obtain ⟨_, rfl, _⟩ := h; rfl) | (obtain ⟨_, _, rfl, _⟩ := h; rfl) | (obtain ⟨_, _, _, rfl, _⟩ := h; rfl) | (obtain ⟨_, _, _, _, rfl, _⟩ := h; rfl) | (obtain ⟨_, _, _, _, _, rfl, _⟩ := h; rfl) | (obtain ⟨_, _, _, _, _, _, rfl, _⟩ := h; rfl) | (obtain ⟨_, _, _, _, _, _, _, rfl, _⟩ := h; rfl) | (obtain ⟨_, _, _, _, _, _, _, _, rfl, _⟩ := h; rfl) | (obtain ⟨_, _, _, _, _, _, _, _, _, rfl, _⟩ := h; rfl) | (obtain ⟨⟨_, _, _, _, _, _, _, rfl, _⟩, _⟩ := h; rfl)) fun X c al vs H Q E h => ?_
  obtain ⟨rfl, rfl, rfl, rfl, rfl⟩ := al
  exact body_entry c (d_take F) (d_pick F) (d_number F) (d_name F) (d_rows F) h
theorem d_answer (F : FA K mg w) : DefP Pg w K mg base CX0 "_law_answer" ["box", "most"] 6 (spDrM (ER EncA) K) := by
  obtain ⟨fd, f, g⟩ := F.fn "_law_answer" sq_answer (by walk_at "gm")
  refine defP_of f g mq_answer (FunD.bindsN f fun _ _ _ _ _ _ us hl => match us, hl with | [_, _], _ => rfl) (fun vs H Q E h => by first | (obtain ⟨rfl, _⟩ := h; rfl) | (obtain ⟨_, rfl, _⟩ := h; rfl) | (obtain ⟨_, _, rfl, _⟩ := h; rfl) | (obtain ⟨_, _, _, rfl, _⟩ := h; rfl) | (obtain ⟨_, _, _, _, rfl, _⟩ := h; rfl) | (obtain ⟨_, _, _, _, _, rfl, _⟩ := h; rfl) | (obtain ⟨_, _, _, _, _, _, rfl, _⟩ := h; rfl) | (obtain ⟨_, _, _, _, _, _, _, rfl, _⟩ := h; rfl) | (obtain ⟨_, _, _, _, _, _, _, _, rfl, _⟩ := h; rfl) | (obtain ⟨_, _, _, _, _, _, _, _, _, rfl, _⟩ := h; rfl) | (obtain ⟨⟨_, _, _, _, _, _, _, rfl, _⟩, _⟩ := h; rfl)) fun X c al vs H Q E h => ?_
  obtain ⟨rfl, rfl, rfl, rfl, rfl⟩ := al
  exact body_answer c (F.free _ (by walk_at "gm")) (F.free _ (by walk_at "gm")) (d_take F) (d_pick F) (d_number F) (d_id F) (d_name F) h
theorem d_words (F : FA K mg w) : DefP Pg w K mg base CX0 "_law_words" ["kind"] 1 (spWords) := by
  obtain ⟨fd, f, g⟩ := F.fn "_law_words" sq_words (by walk_at "gm")
  refine defP_of f g mq_words (FunD.bindsN f fun _ _ _ _ _ _ us hl => match us, hl with | [_], _ => rfl) (fun vs H Q E h => by first | (obtain ⟨rfl, _⟩ := h; rfl) | (obtain ⟨_, rfl, _⟩ := h; rfl) | (obtain ⟨_, _, rfl, _⟩ := h; rfl) | (obtain ⟨_, _, _, rfl, _⟩ := h; rfl) | (obtain ⟨_, _, _, _, rfl, _⟩ := h; rfl) | (obtain ⟨_, _, _, _, _, rfl, _⟩ := h; rfl) | (obtain ⟨_, _, _, _, _, _, rfl, _⟩ := h; rfl) | (obtain ⟨_, _, _, _, _, _, _, rfl, _⟩ := h; rfl) | (obtain ⟨_, _, _, _, _, _, _, _, rfl, _⟩ := h; rfl) | (obtain ⟨_, _, _, _, _, _, _, _, _, rfl, _⟩ := h; rfl) | (obtain ⟨⟨_, _, _, _, _, _, _, rfl, _⟩, _⟩ := h; rfl)) fun X c al vs H Q E h => ?_
  obtain ⟨rfl, rfl, rfl, rfl, rfl⟩ := al
  exact body_words c  h
theorem d_kinds (F : FA K mg w) : DefP Pg w K mg base CX0 "_law_kinds" [] 1 (spKinds) := by
  obtain ⟨fd, f, g⟩ := F.fn "_law_kinds" sq_kinds (by walk_at "gm")
  refine defP_of f g mq_kinds (FunD.bindsN f fun _ _ _ _ _ _ us hl => match us, hl with | [], _ => rfl) (fun vs H Q E h => by first | (obtain ⟨rfl, _⟩ := h; rfl) | (obtain ⟨_, rfl, _⟩ := h; rfl) | (obtain ⟨_, _, rfl, _⟩ := h; rfl) | (obtain ⟨_, _, _, rfl, _⟩ := h; rfl) | (obtain ⟨_, _, _, _, rfl, _⟩ := h; rfl) | (obtain ⟨_, _, _, _, _, rfl, _⟩ := h; rfl) | (obtain ⟨_, _, _, _, _, _, rfl, _⟩ := h; rfl) | (obtain ⟨_, _, _, _, _, _, _, rfl, _⟩ := h; rfl) | (obtain ⟨_, _, _, _, _, _, _, _, rfl, _⟩ := h; rfl) | (obtain ⟨_, _, _, _, _, _, _, _, _, rfl, _⟩ := h; rfl) | (obtain ⟨⟨_, _, _, _, _, _, _, rfl, _⟩, _⟩ := h; rfl)) fun X c al vs H Q E h => ?_
  obtain ⟨rfl, rfl, rfl, rfl, rfl⟩ := al
  exact body_kinds c  h
theorem d_piece (F : FA K mg w) : DefP Pg w K mg base CX0 "_law_piece" ["box", "word", "most"] 7 (spPiece K) := by
  obtain ⟨fd, f, g⟩ := F.fn "_law_piece" sq_piece (by walk_at "gm")
  refine defP_of f g mq_piece (FunD.bindsN f fun _ _ _ _ _ _ us hl => match us, hl with | [_, _, _], _ => rfl) (fun vs H Q E h => by first | (obtain ⟨rfl, _⟩ := h; rfl) | (obtain ⟨_, rfl, _⟩ := h; rfl) | (obtain ⟨_, _, rfl, _⟩ := h; rfl) | (obtain ⟨_, _, _, rfl, _⟩ := h; rfl) | (obtain ⟨_, _, _, _, rfl, _⟩ := h; rfl) | (obtain ⟨_, _, _, _, _, rfl, _⟩ := h; rfl) | (obtain ⟨_, _, _, _, _, _, rfl, _⟩ := h; rfl) | (obtain ⟨_, _, _, _, _, _, _, rfl, _⟩ := h; rfl) | (obtain ⟨_, _, _, _, _, _, _, _, rfl, _⟩ := h; rfl) | (obtain ⟨_, _, _, _, _, _, _, _, _, rfl, _⟩ := h; rfl) | (obtain ⟨⟨_, _, _, _, _, _, _, rfl, _⟩, _⟩ := h; rfl)) fun X c al vs H Q E h => ?_
  obtain ⟨rfl, rfl, rfl, rfl, rfl⟩ := al
  exact body_piece c (d_take F) (d_pick F) (d_id F) (d_label F) (d_fraction F) (d_name F) (d_entry F) (d_answer F) h
theorem d_event (F : FA K mg w) : DefP Pg w K mg base CX0 "_law_event" ["box", "kind", "most"] 8 (spEvent K) := by
  obtain ⟨fd, f, g⟩ := F.fn "_law_event" sq_event (by walk_at "gm")
  refine defP_of f g mq_event (FunD.bindsN f fun _ _ _ _ _ _ us hl => match us, hl with | [_, _, _], _ => rfl) (fun vs H Q E h => by first | (obtain ⟨rfl, _⟩ := h; rfl) | (obtain ⟨_, rfl, _⟩ := h; rfl) | (obtain ⟨_, _, rfl, _⟩ := h; rfl) | (obtain ⟨_, _, _, rfl, _⟩ := h; rfl) | (obtain ⟨_, _, _, _, rfl, _⟩ := h; rfl) | (obtain ⟨_, _, _, _, _, rfl, _⟩ := h; rfl) | (obtain ⟨_, _, _, _, _, _, rfl, _⟩ := h; rfl) | (obtain ⟨_, _, _, _, _, _, _, rfl, _⟩ := h; rfl) | (obtain ⟨_, _, _, _, _, _, _, _, rfl, _⟩ := h; rfl) | (obtain ⟨_, _, _, _, _, _, _, _, _, rfl, _⟩ := h; rfl) | (obtain ⟨⟨_, _, _, _, _, _, _, rfl, _⟩, _⟩ := h; rfl)) fun X c al vs H Q E h => ?_
  obtain ⟨rfl, rfl, rfl, rfl, rfl⟩ := al
  exact body_event c (F.free _ (by walk_at "gm")) (d_words F) (d_kinds F) (d_id F) (d_fraction F) (d_piece F) h
theorem d_groups (F : FA K mg w) : DefP Pg w K mg base CX0 "_law_groups" ["worth"] 1 (spGr) := by
  obtain ⟨fd, f, g⟩ := F.fn "_law_groups" sq_groups (by walk_at "gm")
  refine defP_of f g mq_groups (FunD.bindsN f fun _ _ _ _ _ _ us hl => match us, hl with | [_], _ => rfl) (fun vs H Q E h => by first | (obtain ⟨rfl, _⟩ := h; rfl) | (obtain ⟨_, rfl, _⟩ := h; rfl) | (obtain ⟨_, _, rfl, _⟩ := h; rfl) | (obtain ⟨_, _, _, rfl, _⟩ := h; rfl) | (obtain ⟨_, _, _, _, rfl, _⟩ := h; rfl) | (obtain ⟨_, _, _, _, _, rfl, _⟩ := h; rfl) | (obtain ⟨_, _, _, _, _, _, rfl, _⟩ := h; rfl) | (obtain ⟨_, _, _, _, _, _, _, rfl, _⟩ := h; rfl) | (obtain ⟨_, _, _, _, _, _, _, _, rfl, _⟩ := h; rfl) | (obtain ⟨_, _, _, _, _, _, _, _, _, rfl, _⟩ := h; rfl) | (obtain ⟨⟨_, _, _, _, _, _, _, rfl, _⟩, _⟩ := h; rfl)) fun X c al vs H Q E h => ?_
  obtain ⟨rfl, rfl, rfl, rfl, rfl⟩ := al
  exact body_groups c (F.free _ (by walk_at "gm")) (F.free _ (by walk_at "gm")) h
theorem d_form_label (F : FA K mg w) : DefP Pg w K mg base CX0 "_law_form_label" ["label"] 1 (spFm EncB K) := by
  obtain ⟨fd, f, g⟩ := F.fn "_law_form_label" sq_form_label (by walk_at "gm")
  refine defP_of f g mq_form_label (FunD.bindsN f fun _ _ _ _ _ _ us hl => match us, hl with | [_], _ => rfl) (fun vs H Q E h => by first | (obtain ⟨rfl, _⟩ := h; rfl) | (obtain ⟨_, rfl, _⟩ := h; rfl) | (obtain ⟨_, _, rfl, _⟩ := h; rfl) | (obtain ⟨_, _, _, rfl, _⟩ := h; rfl) | (obtain ⟨_, _, _, _, rfl, _⟩ := h; rfl) | (obtain ⟨_, _, _, _, _, rfl, _⟩ := h; rfl) | (obtain ⟨_, _, _, _, _, _, rfl, _⟩ := h; rfl) | (obtain ⟨_, _, _, _, _, _, _, rfl, _⟩ := h; rfl) | (obtain ⟨_, _, _, _, _, _, _, _, rfl, _⟩ := h; rfl) | (obtain ⟨_, _, _, _, _, _, _, _, _, rfl, _⟩ := h; rfl) | (obtain ⟨⟨_, _, _, _, _, _, _, rfl, _⟩, _⟩ := h; rfl)) fun X c al vs H Q E h => ?_
  obtain ⟨rfl, rfl, rfl, rfl, rfl⟩ := al
  exact body_form_label c (F.free _ (by walk_at "gm")) h
theorem d_form_name (F : FA K mg w) : DefP Pg w K mg base CX0 "_law_form_name" ["name"] 2 (spFm EncN K) := by
  obtain ⟨fd, f, g⟩ := F.fn "_law_form_name" sq_form_name (by walk_at "gm")
  refine defP_of f g mq_form_name (FunD.bindsN f fun _ _ _ _ _ _ us hl => match us, hl with | [_], _ => rfl) (fun vs H Q E h => by first | (obtain ⟨rfl, _⟩ := h; rfl) | (obtain ⟨_, rfl, _⟩ := h; rfl) | (obtain ⟨_, _, rfl, _⟩ := h; rfl) | (obtain ⟨_, _, _, rfl, _⟩ := h; rfl) | (obtain ⟨_, _, _, _, rfl, _⟩ := h; rfl) | (obtain ⟨_, _, _, _, _, rfl, _⟩ := h; rfl) | (obtain ⟨_, _, _, _, _, _, rfl, _⟩ := h; rfl) | (obtain ⟨_, _, _, _, _, _, _, rfl, _⟩ := h; rfl) | (obtain ⟨_, _, _, _, _, _, _, _, rfl, _⟩ := h; rfl) | (obtain ⟨_, _, _, _, _, _, _, _, _, rfl, _⟩ := h; rfl) | (obtain ⟨⟨_, _, _, _, _, _, _, rfl, _⟩, _⟩ := h; rfl)) fun X c al vs H Q E h => ?_
  obtain ⟨rfl, rfl, rfl, rfl, rfl⟩ := al
  exact body_form_name c (F.free _ (by walk_at "gm")) (d_form_label F) h
theorem d_form_fraction (F : FA K mg w) : DefP Pg w K mg base CX0 "_law_form_fraction" ["one"] 2 (spFm EncF K) := by
  obtain ⟨fd, f, g⟩ := F.fn "_law_form_fraction" sq_form_fraction (by walk_at "gm")
  refine defP_of f g mq_form_fraction (FunD.bindsN f fun _ _ _ _ _ _ us hl => match us, hl with | [_], _ => rfl) (fun vs H Q E h => by first | (obtain ⟨rfl, _⟩ := h; rfl) | (obtain ⟨_, rfl, _⟩ := h; rfl) | (obtain ⟨_, _, rfl, _⟩ := h; rfl) | (obtain ⟨_, _, _, rfl, _⟩ := h; rfl) | (obtain ⟨_, _, _, _, rfl, _⟩ := h; rfl) | (obtain ⟨_, _, _, _, _, rfl, _⟩ := h; rfl) | (obtain ⟨_, _, _, _, _, _, rfl, _⟩ := h; rfl) | (obtain ⟨_, _, _, _, _, _, _, rfl, _⟩ := h; rfl) | (obtain ⟨_, _, _, _, _, _, _, _, rfl, _⟩ := h; rfl) | (obtain ⟨_, _, _, _, _, _, _, _, _, rfl, _⟩ := h; rfl) | (obtain ⟨⟨_, _, _, _, _, _, _, rfl, _⟩, _⟩ := h; rfl)) fun X c al vs H Q E h => ?_
  obtain ⟨rfl, rfl, rfl, rfl, rfl⟩ := al
  exact body_form_fraction c (d_groups F) h
theorem d_form_id (F : FA K mg w) : DefP Pg w K mg base CX0 "_law_form_id" ["one", "more"] 2 (spFI K) := by
  obtain ⟨fd, f, g⟩ := F.fn "_law_form_id" sq_form_id (by walk_at "gm")
  refine defP_of f g mq_form_id (FunD.bindsN f fun _ _ _ _ _ _ us hl => match us, hl with | [_, _], _ => rfl) (fun vs H Q E h => by first | (obtain ⟨rfl, _⟩ := h; rfl) | (obtain ⟨_, rfl, _⟩ := h; rfl) | (obtain ⟨_, _, rfl, _⟩ := h; rfl) | (obtain ⟨_, _, _, rfl, _⟩ := h; rfl) | (obtain ⟨_, _, _, _, rfl, _⟩ := h; rfl) | (obtain ⟨_, _, _, _, _, rfl, _⟩ := h; rfl) | (obtain ⟨_, _, _, _, _, _, rfl, _⟩ := h; rfl) | (obtain ⟨_, _, _, _, _, _, _, rfl, _⟩ := h; rfl) | (obtain ⟨_, _, _, _, _, _, _, _, rfl, _⟩ := h; rfl) | (obtain ⟨_, _, _, _, _, _, _, _, _, rfl, _⟩ := h; rfl) | (obtain ⟨⟨_, _, _, _, _, _, _, rfl, _⟩, _⟩ := h; rfl)) fun X c al vs H Q E h => ?_
  obtain ⟨rfl, rfl, rfl, rfl, rfl⟩ := al
  exact body_form_id c (d_groups F) h
theorem d_form_entry1 (F : FA K mg w) : DefP Pg w K mg base CX0 "_law_form_entry" ["entry"] 3 (spFm Ent1 K) := by
  obtain ⟨fd, f, g⟩ := F.fn "_law_form_entry" sq_form_entry (by walk_at "gm")
  refine defP_of f g mq_form_entry (FunD.bindsN f fun _ _ _ _ _ _ us hl => match us, hl with | [_], _ => rfl) (fun vs H Q E h => by first | (obtain ⟨rfl, _⟩ := h; rfl) | (obtain ⟨_, rfl, _⟩ := h; rfl) | (obtain ⟨_, _, rfl, _⟩ := h; rfl) | (obtain ⟨_, _, _, rfl, _⟩ := h; rfl) | (obtain ⟨_, _, _, _, rfl, _⟩ := h; rfl) | (obtain ⟨_, _, _, _, _, rfl, _⟩ := h; rfl) | (obtain ⟨_, _, _, _, _, _, rfl, _⟩ := h; rfl) | (obtain ⟨_, _, _, _, _, _, _, rfl, _⟩ := h; rfl) | (obtain ⟨_, _, _, _, _, _, _, _, rfl, _⟩ := h; rfl) | (obtain ⟨_, _, _, _, _, _, _, _, _, rfl, _⟩ := h; rfl) | (obtain ⟨⟨_, _, _, _, _, _, _, rfl, _⟩, _⟩ := h; rfl)) fun X c al vs H Q E h => ?_
  obtain ⟨rfl, rfl, rfl, rfl, rfl⟩ := al
  exact body_form_entry1 c (d_groups F) (d_form_name F) h
theorem d_form_entry (F : FA K mg w) : DefP Pg w K mg base CX0 "_law_form_entry" ["entry"] 4 (spFm EncE K) := by
  obtain ⟨fd, f, g⟩ := F.fn "_law_form_entry" sq_form_entry (by walk_at "gm")
  refine defP_of f g mq_form_entry (FunD.bindsN f fun _ _ _ _ _ _ us hl => match us, hl with | [_], _ => rfl) (fun vs H Q E h => by first | (obtain ⟨rfl, _⟩ := h; rfl) | (obtain ⟨_, rfl, _⟩ := h; rfl) | (obtain ⟨_, _, rfl, _⟩ := h; rfl) | (obtain ⟨_, _, _, rfl, _⟩ := h; rfl) | (obtain ⟨_, _, _, _, rfl, _⟩ := h; rfl) | (obtain ⟨_, _, _, _, _, rfl, _⟩ := h; rfl) | (obtain ⟨_, _, _, _, _, _, rfl, _⟩ := h; rfl) | (obtain ⟨_, _, _, _, _, _, _, rfl, _⟩ := h; rfl) | (obtain ⟨_, _, _, _, _, _, _, _, rfl, _⟩ := h; rfl) | (obtain ⟨_, _, _, _, _, _, _, _, _, rfl, _⟩ := h; rfl) | (obtain ⟨⟨_, _, _, _, _, _, _, rfl, _⟩, _⟩ := h; rfl)) fun X c al vs H Q E h => ?_
  obtain ⟨rfl, rfl, rfl, rfl, rfl⟩ := al
  exact body_form_entry c (K08.Ctx.le c (by decide)) (d_groups F) (d_form_name F) (d_form_label F) (d_form_entry1 F) h
theorem d_form_answer (F : FA K mg w) : DefP Pg w K mg base CX0 "_law_form_answer" ["answer"] 4 (spFm EncA K) := by
  obtain ⟨fd, f, g⟩ := F.fn "_law_form_answer" sq_form_answer (by walk_at "gm")
  refine defP_of f g mq_form_answer (FunD.bindsN f fun _ _ _ _ _ _ us hl => match us, hl with | [_], _ => rfl) (fun vs H Q E h => by first | (obtain ⟨rfl, _⟩ := h; rfl) | (obtain ⟨_, rfl, _⟩ := h; rfl) | (obtain ⟨_, _, rfl, _⟩ := h; rfl) | (obtain ⟨_, _, _, rfl, _⟩ := h; rfl) | (obtain ⟨_, _, _, _, rfl, _⟩ := h; rfl) | (obtain ⟨_, _, _, _, _, rfl, _⟩ := h; rfl) | (obtain ⟨_, _, _, _, _, _, rfl, _⟩ := h; rfl) | (obtain ⟨_, _, _, _, _, _, _, rfl, _⟩ := h; rfl) | (obtain ⟨_, _, _, _, _, _, _, _, rfl, _⟩ := h; rfl) | (obtain ⟨_, _, _, _, _, _, _, _, _, rfl, _⟩ := h; rfl) | (obtain ⟨⟨_, _, _, _, _, _, _, rfl, _⟩, _⟩ := h; rfl)) fun X c al vs H Q E h => ?_
  obtain ⟨rfl, rfl, rfl, rfl, rfl⟩ := al
  exact body_form_answer c (F.free _ (by walk_at "gm")) (d_groups F) (d_form_id F) (d_form_name F) h
theorem d_form_part (F : FA K mg w) : DefP Pg w K mg base CX0 "_law_form_part" ["word", "part"] 5 (spFP K) := by
  obtain ⟨fd, f, g⟩ := F.fn "_law_form_part" sq_form_part (by walk_at "gm")
  refine defP_of f g mq_form_part (FunD.bindsN f fun _ _ _ _ _ _ us hl => match us, hl with | [_, _], _ => rfl) (fun vs H Q E h => by first | (obtain ⟨rfl, _⟩ := h; rfl) | (obtain ⟨_, rfl, _⟩ := h; rfl) | (obtain ⟨_, _, rfl, _⟩ := h; rfl) | (obtain ⟨_, _, _, rfl, _⟩ := h; rfl) | (obtain ⟨_, _, _, _, rfl, _⟩ := h; rfl) | (obtain ⟨_, _, _, _, _, rfl, _⟩ := h; rfl) | (obtain ⟨_, _, _, _, _, _, rfl, _⟩ := h; rfl) | (obtain ⟨_, _, _, _, _, _, _, rfl, _⟩ := h; rfl) | (obtain ⟨_, _, _, _, _, _, _, _, rfl, _⟩ := h; rfl) | (obtain ⟨_, _, _, _, _, _, _, _, _, rfl, _⟩ := h; rfl) | (obtain ⟨⟨_, _, _, _, _, _, _, rfl, _⟩, _⟩ := h; rfl)) fun X c al vs H Q E h => ?_
  obtain ⟨rfl, rfl, rfl, rfl, rfl⟩ := al
  exact body_form_part c (d_form_id F) (d_form_label F) (d_form_fraction F) (d_form_name F) (d_form_entry F) (d_form_answer F) h
theorem d_form (F : FA K mg w) : DefP Pg w K mg base CX0 "_law_form" ["event"] 6 (spFVn K) := by
  obtain ⟨fd, f, g⟩ := F.fn "_law_form" sq_form (by walk_at "gm")
  refine defP_of f g mq_form (FunD.bindsN f fun _ _ _ _ _ _ us hl => match us, hl with | [_], _ => rfl) (fun vs H Q E h => by first | (obtain ⟨rfl, _⟩ := h; rfl) | (obtain ⟨_, rfl, _⟩ := h; rfl) | (obtain ⟨_, _, rfl, _⟩ := h; rfl) | (obtain ⟨_, _, _, rfl, _⟩ := h; rfl) | (obtain ⟨_, _, _, _, rfl, _⟩ := h; rfl) | (obtain ⟨_, _, _, _, _, rfl, _⟩ := h; rfl) | (obtain ⟨_, _, _, _, _, _, rfl, _⟩ := h; rfl) | (obtain ⟨_, _, _, _, _, _, _, rfl, _⟩ := h; rfl) | (obtain ⟨_, _, _, _, _, _, _, _, rfl, _⟩ := h; rfl) | (obtain ⟨_, _, _, _, _, _, _, _, _, rfl, _⟩ := h; rfl) | (obtain ⟨⟨_, _, _, _, _, _, _, rfl, _⟩, _⟩ := h; rfl)) fun X c al vs H Q E h => ?_
  obtain ⟨rfl, rfl, rfl, rfl, rfl⟩ := al
  exact body_formN c (F.free _ (by walk_at "gm")) (d_kinds F) (d_words F) (d_form_id F) (d_form_fraction F) (d_form_part F) h
theorem d_get (F : FA K mg w) : DefP Pg w K mg base CX0 "_law_get" ["items", "cursor", "low", "high", "out"] 1 (spGet) := by
  obtain ⟨fd, f, g⟩ := F.fn "_law_get" sq_get (by walk_at "gm")
  refine defP_of f g mq_get (FunD.bindsN f fun _ _ _ _ _ _ us hl => match us, hl with | [_, _, _, _, _], _ => rfl) (fun vs H Q E h => by first | (obtain ⟨rfl, _⟩ := h; rfl) | (obtain ⟨_, rfl, _⟩ := h; rfl) | (obtain ⟨_, _, rfl, _⟩ := h; rfl) | (obtain ⟨_, _, _, rfl, _⟩ := h; rfl) | (obtain ⟨_, _, _, _, rfl, _⟩ := h; rfl) | (obtain ⟨_, _, _, _, _, rfl, _⟩ := h; rfl) | (obtain ⟨_, _, _, _, _, _, rfl, _⟩ := h; rfl) | (obtain ⟨_, _, _, _, _, _, _, rfl, _⟩ := h; rfl) | (obtain ⟨_, _, _, _, _, _, _, _, rfl, _⟩ := h; rfl) | (obtain ⟨_, _, _, _, _, _, _, _, _, rfl, _⟩ := h; rfl) | (obtain ⟨⟨_, _, _, _, _, _, _, rfl, _⟩, _⟩ := h; rfl)) fun X c al vs H Q E h => ?_
  obtain ⟨rfl, rfl, rfl, rfl, rfl⟩ := al
  exact body_get c (F.free _ (by walk_at "gm")) (F.free _ (by walk_at "gm")) (F.free _ (by walk_at "gm")) (F.free _ (by walk_at "gm")) h
theorem d_back (F : FA K mg w) : DefP Pg w K mg base CX0 "_law_back" ["cursor"] 1 (spBack) := by
  obtain ⟨fd, f, g⟩ := F.fn "_law_back" sq_back (by walk_at "gm")
  refine defP_of f g mq_back (FunD.bindsN f fun _ _ _ _ _ _ us hl => match us, hl with | [_], _ => rfl) (fun vs H Q E h => by first | (obtain ⟨rfl, _⟩ := h; rfl) | (obtain ⟨_, rfl, _⟩ := h; rfl) | (obtain ⟨_, _, rfl, _⟩ := h; rfl) | (obtain ⟨_, _, _, rfl, _⟩ := h; rfl) | (obtain ⟨_, _, _, _, rfl, _⟩ := h; rfl) | (obtain ⟨_, _, _, _, _, rfl, _⟩ := h; rfl) | (obtain ⟨_, _, _, _, _, _, rfl, _⟩ := h; rfl) | (obtain ⟨_, _, _, _, _, _, _, rfl, _⟩ := h; rfl) | (obtain ⟨_, _, _, _, _, _, _, _, rfl, _⟩ := h; rfl) | (obtain ⟨_, _, _, _, _, _, _, _, _, rfl, _⟩ := h; rfl) | (obtain ⟨⟨_, _, _, _, _, _, _, rfl, _⟩, _⟩ := h; rfl)) fun X c al vs H Q E h => ?_
  obtain ⟨rfl, rfl, rfl, rfl, rfl⟩ := al
  exact body_back c  h
theorem d_worth (F : FA K mg w) : DefP Pg w K mg base CX0 "_law_worth" ["digits"] 1 (spWorth K) := by
  obtain ⟨fd, f, g⟩ := F.fn "_law_worth" sq_worth (by walk_at "gm")
  refine defP_of f g mq_worth (FunD.bindsN f fun _ _ _ _ _ _ us hl => match us, hl with | [_], _ => rfl) (fun vs H Q E h => by first | (obtain ⟨rfl, _⟩ := h; rfl) | (obtain ⟨_, rfl, _⟩ := h; rfl) | (obtain ⟨_, _, rfl, _⟩ := h; rfl) | (obtain ⟨_, _, _, rfl, _⟩ := h; rfl) | (obtain ⟨_, _, _, _, rfl, _⟩ := h; rfl) | (obtain ⟨_, _, _, _, _, rfl, _⟩ := h; rfl) | (obtain ⟨_, _, _, _, _, _, rfl, _⟩ := h; rfl) | (obtain ⟨_, _, _, _, _, _, _, rfl, _⟩ := h; rfl) | (obtain ⟨_, _, _, _, _, _, _, _, rfl, _⟩ := h; rfl) | (obtain ⟨_, _, _, _, _, _, _, _, _, rfl, _⟩ := h; rfl) | (obtain ⟨⟨_, _, _, _, _, _, _, rfl, _⟩, _⟩ := h; rfl)) fun X c al vs H Q E h => ?_
  obtain ⟨rfl, rfl, rfl, rfl, rfl⟩ := al
  exact body_worth c (F.free _ (by walk_at "gm")) h
theorem d_get_number (F : FA K mg w) : DefP Pg w K mg base CX0 "_law_get_number" ["items", "cursor", "out"] 2 (spLG rNum rI) := by
  obtain ⟨fd, f, g⟩ := F.fn "_law_get_number" sq_get_number (by walk_at "gm")
  refine defP_of f g mq_get_number (FunD.bindsN f fun _ _ _ _ _ _ us hl => match us, hl with | [_, _, _], _ => rfl) (fun vs H Q E h => by first | (obtain ⟨rfl, _⟩ := h; rfl) | (obtain ⟨_, rfl, _⟩ := h; rfl) | (obtain ⟨_, _, rfl, _⟩ := h; rfl) | (obtain ⟨_, _, _, rfl, _⟩ := h; rfl) | (obtain ⟨_, _, _, _, rfl, _⟩ := h; rfl) | (obtain ⟨_, _, _, _, _, rfl, _⟩ := h; rfl) | (obtain ⟨_, _, _, _, _, _, rfl, _⟩ := h; rfl) | (obtain ⟨_, _, _, _, _, _, _, rfl, _⟩ := h; rfl) | (obtain ⟨_, _, _, _, _, _, _, _, rfl, _⟩ := h; rfl) | (obtain ⟨_, _, _, _, _, _, _, _, _, rfl, _⟩ := h; rfl) | (obtain ⟨⟨_, _, _, _, _, _, _, rfl, _⟩, _⟩ := h; rfl)) fun X c al vs H Q E h => ?_
  obtain ⟨rfl, rfl, rfl, rfl, rfl⟩ := al
  exact body_get_number c (F.free _ (by walk_at "gm")) (F.free _ (by walk_at "gm")) (d_get F) (d_worth F) h
theorem d_get_fraction (F : FA K mg w) : DefP Pg w K mg base CX0 "_law_get_fraction" ["items", "cursor", "out"] 3 (spLG rFrac rD) := by
  obtain ⟨fd, f, g⟩ := F.fn "_law_get_fraction" sq_get_fraction (by walk_at "gm")
  refine defP_of f g mq_get_fraction (FunD.bindsN f fun _ _ _ _ _ _ us hl => match us, hl with | [_, _, _], _ => rfl) (fun vs H Q E h => by first | (obtain ⟨rfl, _⟩ := h; rfl) | (obtain ⟨_, rfl, _⟩ := h; rfl) | (obtain ⟨_, _, rfl, _⟩ := h; rfl) | (obtain ⟨_, _, _, rfl, _⟩ := h; rfl) | (obtain ⟨_, _, _, _, rfl, _⟩ := h; rfl) | (obtain ⟨_, _, _, _, _, rfl, _⟩ := h; rfl) | (obtain ⟨_, _, _, _, _, _, rfl, _⟩ := h; rfl) | (obtain ⟨_, _, _, _, _, _, _, rfl, _⟩ := h; rfl) | (obtain ⟨_, _, _, _, _, _, _, _, rfl, _⟩ := h; rfl) | (obtain ⟨_, _, _, _, _, _, _, _, _, rfl, _⟩ := h; rfl) | (obtain ⟨⟨_, _, _, _, _, _, _, rfl, _⟩, _⟩ := h; rfl)) fun X c al vs H Q E h => ?_
  obtain ⟨rfl, rfl, rfl, rfl, rfl⟩ := al
  exact body_get_fraction c (F.free _ (by walk_at "gm")) (F.free _ (by walk_at "gm")) (F.free _ (by walk_at "gm")) (d_get F) (d_worth F) (d_back F) (d_get_number F) (d_part F) h
theorem d_get_label (F : FA K mg w) : DefP Pg w K mg base CX0 "_law_get_label" ["items", "cursor", "floor", "out"] 2 (spGL) := by
  obtain ⟨fd, f, g⟩ := F.fn "_law_get_label" sq_get_label (by walk_at "gm")
  refine defP_of f g mq_get_label (FunD.bindsN f fun _ _ _ _ _ _ us hl => match us, hl with | [_, _, _, _], _ => rfl) (fun vs H Q E h => by first | (obtain ⟨rfl, _⟩ := h; rfl) | (obtain ⟨_, rfl, _⟩ := h; rfl) | (obtain ⟨_, _, rfl, _⟩ := h; rfl) | (obtain ⟨_, _, _, rfl, _⟩ := h; rfl) | (obtain ⟨_, _, _, _, rfl, _⟩ := h; rfl) | (obtain ⟨_, _, _, _, _, rfl, _⟩ := h; rfl) | (obtain ⟨_, _, _, _, _, _, rfl, _⟩ := h; rfl) | (obtain ⟨_, _, _, _, _, _, _, rfl, _⟩ := h; rfl) | (obtain ⟨_, _, _, _, _, _, _, _, rfl, _⟩ := h; rfl) | (obtain ⟨_, _, _, _, _, _, _, _, _, rfl, _⟩ := h; rfl) | (obtain ⟨⟨_, _, _, _, _, _, _, rfl, _⟩, _⟩ := h; rfl)) fun X c al vs H Q E h => ?_
  obtain ⟨rfl, rfl, rfl, rfl, rfl⟩ := al
  exact body_get_label c (F.free _ (by walk_at "gm")) (d_get F) (d_back F) h
theorem d_get_name (F : FA K mg w) : DefP Pg w K mg base CX0 "_law_get_name" ["items", "cursor", "out"] 3 (spLG rName rD) := by
  obtain ⟨fd, f, g⟩ := F.fn "_law_get_name" sq_get_name (by walk_at "gm")
  refine defP_of f g mq_get_name (FunD.bindsN f fun _ _ _ _ _ _ us hl => match us, hl with | [_, _, _], _ => rfl) (fun vs H Q E h => by first | (obtain ⟨rfl, _⟩ := h; rfl) | (obtain ⟨_, rfl, _⟩ := h; rfl) | (obtain ⟨_, _, rfl, _⟩ := h; rfl) | (obtain ⟨_, _, _, rfl, _⟩ := h; rfl) | (obtain ⟨_, _, _, _, rfl, _⟩ := h; rfl) | (obtain ⟨_, _, _, _, _, rfl, _⟩ := h; rfl) | (obtain ⟨_, _, _, _, _, _, rfl, _⟩ := h; rfl) | (obtain ⟨_, _, _, _, _, _, _, rfl, _⟩ := h; rfl) | (obtain ⟨_, _, _, _, _, _, _, _, rfl, _⟩ := h; rfl) | (obtain ⟨_, _, _, _, _, _, _, _, _, rfl, _⟩ := h; rfl) | (obtain ⟨⟨_, _, _, _, _, _, _, rfl, _⟩, _⟩ := h; rfl)) fun X c al vs H Q E h => ?_
  obtain ⟨rfl, rfl, rfl, rfl, rfl⟩ := al
  exact body_get_name c (F.free _ (by walk_at "gm")) (F.free _ (by walk_at "gm")) (d_get F) (d_get_label F) h
theorem d_get_id (F : FA K mg w) : DefP Pg w K mg base CX0 "_law_get_id" ["items", "cursor", "none", "out"] 3 (spGI) := by
  obtain ⟨fd, f, g⟩ := F.fn "_law_get_id" sq_get_id (by walk_at "gm")
  refine defP_of f g mq_get_id (FunD.bindsN f fun _ _ _ _ _ _ us hl => match us, hl with | [_, _, _, _], _ => rfl) (fun vs H Q E h => by first | (obtain ⟨rfl, _⟩ := h; rfl) | (obtain ⟨_, rfl, _⟩ := h; rfl) | (obtain ⟨_, _, rfl, _⟩ := h; rfl) | (obtain ⟨_, _, _, rfl, _⟩ := h; rfl) | (obtain ⟨_, _, _, _, rfl, _⟩ := h; rfl) | (obtain ⟨_, _, _, _, _, rfl, _⟩ := h; rfl) | (obtain ⟨_, _, _, _, _, _, rfl, _⟩ := h; rfl) | (obtain ⟨_, _, _, _, _, _, _, rfl, _⟩ := h; rfl) | (obtain ⟨_, _, _, _, _, _, _, _, rfl, _⟩ := h; rfl) | (obtain ⟨_, _, _, _, _, _, _, _, _, rfl, _⟩ := h; rfl) | (obtain ⟨⟨_, _, _, _, _, _, _, rfl, _⟩, _⟩ := h; rfl)) fun X c al vs H Q E h => ?_
  obtain ⟨rfl, rfl, rfl, rfl, rfl⟩ := al
  exact body_get_id c (F.free _ (by walk_at "gm")) (F.free _ (by walk_at "gm")) (d_get F) (d_get_number F) h
theorem d_get_entry1 (F : FA K mg w) : DefP Pg w K mg base CX0 "_law_get_entry" ["items", "cursor", "low", "high", "out"] 4 (spGE1) := by
  obtain ⟨fd, f, g⟩ := F.fn "_law_get_entry" sq_get_entry (by walk_at "gm")
  refine defP_of f g mq_get_entry (FunD.bindsN f fun _ _ _ _ _ _ us hl => match us, hl with | [_, _, _, _, _], _ => rfl) (fun vs H Q E h => by first | (obtain ⟨rfl, _⟩ := h; rfl) | (obtain ⟨_, rfl, _⟩ := h; rfl) | (obtain ⟨_, _, rfl, _⟩ := h; rfl) | (obtain ⟨_, _, _, rfl, _⟩ := h; rfl) | (obtain ⟨_, _, _, _, rfl, _⟩ := h; rfl) | (obtain ⟨_, _, _, _, _, rfl, _⟩ := h; rfl) | (obtain ⟨_, _, _, _, _, _, rfl, _⟩ := h; rfl) | (obtain ⟨_, _, _, _, _, _, _, rfl, _⟩ := h; rfl) | (obtain ⟨_, _, _, _, _, _, _, _, rfl, _⟩ := h; rfl) | (obtain ⟨_, _, _, _, _, _, _, _, _, rfl, _⟩ := h; rfl) | (obtain ⟨⟨_, _, _, _, _, _, _, rfl, _⟩, _⟩ := h; rfl)) fun X c al vs H Q E h => ?_
  obtain ⟨rfl, rfl, rfl, rfl, rfl⟩ := al
  exact body_get_entry (E := E) (by decide) c (F.free _ (by walk_at "gm")) (d_get F) (d_get_number F) (d_get_name F) h.1 (.inr h.2)
theorem d_get_rows (F : FA K mg w) : DefP Pg w K mg base CX0 "_law_get_rows" ["items", "cursor", "out"] 5 (spLG (fun os => rRows os 6 []) rT) := by
  obtain ⟨fd, f, g⟩ := F.fn "_law_get_rows" sq_get_rows (by walk_at "gm")
  refine defP_of f g mq_get_rows (FunD.bindsN f fun _ _ _ _ _ _ us hl => match us, hl with | [_, _, _], _ => rfl) (fun vs H Q E h => by first | (obtain ⟨rfl, _⟩ := h; rfl) | (obtain ⟨_, rfl, _⟩ := h; rfl) | (obtain ⟨_, _, rfl, _⟩ := h; rfl) | (obtain ⟨_, _, _, rfl, _⟩ := h; rfl) | (obtain ⟨_, _, _, _, rfl, _⟩ := h; rfl) | (obtain ⟨_, _, _, _, _, rfl, _⟩ := h; rfl) | (obtain ⟨_, _, _, _, _, _, rfl, _⟩ := h; rfl) | (obtain ⟨_, _, _, _, _, _, _, rfl, _⟩ := h; rfl) | (obtain ⟨_, _, _, _, _, _, _, _, rfl, _⟩ := h; rfl) | (obtain ⟨_, _, _, _, _, _, _, _, _, rfl, _⟩ := h; rfl) | (obtain ⟨⟨_, _, _, _, _, _, _, rfl, _⟩, _⟩ := h; rfl)) fun X c al vs H Q E h => ?_
  obtain ⟨rfl, rfl, rfl, rfl, rfl⟩ := al
  exact body_get_rows c (F.free _ (by walk_at "gm")) (F.free _ (by walk_at "gm")) (d_get F) (d_get_label F) (d_get_entry1 F) h
theorem d_get_entry (F : FA K mg w) : DefP Pg w K mg base CX0 "_law_get_entry" ["items", "cursor", "low", "high", "out"] 6 (spGE) := by
  obtain ⟨fd, f, g⟩ := F.fn "_law_get_entry" sq_get_entry (by walk_at "gm")
  refine defP_of f g mq_get_entry (FunD.bindsN f fun _ _ _ _ _ _ us hl => match us, hl with | [_, _, _, _, _], _ => rfl) (fun vs H Q E h => by first | (obtain ⟨rfl, _⟩ := h; rfl) | (obtain ⟨_, rfl, _⟩ := h; rfl) | (obtain ⟨_, _, rfl, _⟩ := h; rfl) | (obtain ⟨_, _, _, rfl, _⟩ := h; rfl) | (obtain ⟨_, _, _, _, rfl, _⟩ := h; rfl) | (obtain ⟨_, _, _, _, _, rfl, _⟩ := h; rfl) | (obtain ⟨_, _, _, _, _, _, rfl, _⟩ := h; rfl) | (obtain ⟨_, _, _, _, _, _, _, rfl, _⟩ := h; rfl) | (obtain ⟨_, _, _, _, _, _, _, _, rfl, _⟩ := h; rfl) | (obtain ⟨_, _, _, _, _, _, _, _, _, rfl, _⟩ := h; rfl) | (obtain ⟨⟨_, _, _, _, _, _, _, rfl, _⟩, _⟩ := h; rfl)) fun X c al vs H Q E h => ?_
  obtain ⟨rfl, rfl, rfl, rfl, rfl⟩ := al
  exact body_get_entry (by decide) c (F.free _ (by walk_at "gm")) (d_get F) (d_get_number F) (d_get_name F) h (.inl ⟨by decide, d_get_rows F⟩)
theorem d_get_answer (F : FA K mg w) : DefP Pg w K mg base CX0 "_law_get_answer" ["items", "cursor", "out"] 4 (spLG rAnswer rD) := by
  obtain ⟨fd, f, g⟩ := F.fn "_law_get_answer" sq_get_answer (by walk_at "gm")
  refine defP_of f g mq_get_answer (FunD.bindsN f fun _ _ _ _ _ _ us hl => match us, hl with | [_, _, _], _ => rfl) (fun vs H Q E h => by first | (obtain ⟨rfl, _⟩ := h; rfl) | (obtain ⟨_, rfl, _⟩ := h; rfl) | (obtain ⟨_, _, rfl, _⟩ := h; rfl) | (obtain ⟨_, _, _, rfl, _⟩ := h; rfl) | (obtain ⟨_, _, _, _, rfl, _⟩ := h; rfl) | (obtain ⟨_, _, _, _, _, rfl, _⟩ := h; rfl) | (obtain ⟨_, _, _, _, _, _, rfl, _⟩ := h; rfl) | (obtain ⟨_, _, _, _, _, _, _, rfl, _⟩ := h; rfl) | (obtain ⟨_, _, _, _, _, _, _, _, rfl, _⟩ := h; rfl) | (obtain ⟨_, _, _, _, _, _, _, _, _, rfl, _⟩ := h; rfl) | (obtain ⟨⟨_, _, _, _, _, _, _, rfl, _⟩, _⟩ := h; rfl)) fun X c al vs H Q E h => ?_
  obtain ⟨rfl, rfl, rfl, rfl, rfl⟩ := al
  exact body_get_answer c (F.free _ (by walk_at "gm")) (F.free _ (by walk_at "gm")) (d_get F) (d_get_number F) (d_get_name F) (d_get_id F) h
theorem d_get_part (F : FA K mg w) : DefP Pg w K mg base CX0 "_law_get_part" ["items", "cursor", "word", "out"] 7 (spGP) := by
  obtain ⟨fd, f, g⟩ := F.fn "_law_get_part" sq_get_part (by walk_at "gm")
  refine defP_of f g mq_get_part (FunD.bindsN f fun _ _ _ _ _ _ us hl => match us, hl with | [_, _, _, _], _ => rfl) (fun vs H Q E h => by first | (obtain ⟨rfl, _⟩ := h; rfl) | (obtain ⟨_, rfl, _⟩ := h; rfl) | (obtain ⟨_, _, rfl, _⟩ := h; rfl) | (obtain ⟨_, _, _, rfl, _⟩ := h; rfl) | (obtain ⟨_, _, _, _, rfl, _⟩ := h; rfl) | (obtain ⟨_, _, _, _, _, rfl, _⟩ := h; rfl) | (obtain ⟨_, _, _, _, _, _, rfl, _⟩ := h; rfl) | (obtain ⟨_, _, _, _, _, _, _, rfl, _⟩ := h; rfl) | (obtain ⟨_, _, _, _, _, _, _, _, rfl, _⟩ := h; rfl) | (obtain ⟨_, _, _, _, _, _, _, _, _, rfl, _⟩ := h; rfl) | (obtain ⟨⟨_, _, _, _, _, _, _, rfl, _⟩, _⟩ := h; rfl)) fun X c al vs H Q E h => ?_
  obtain ⟨rfl, rfl, rfl, rfl, rfl⟩ := al
  exact body_get_part c (d_get F) (d_get_id F) (d_get_label F) (d_get_fraction F) (d_get_name F) (d_get_entry F) (d_get_answer F) h
theorem d_one (F : FA K mg w) : DefP Pg w K mg base CX0 "_law_one" ["items", "cursor"] 8 (spOne) := by
  obtain ⟨fd, f, g⟩ := F.fn "_law_one" sq_one (by walk_at "gm")
  refine defP_of f g mq_one (FunD.bindsN f fun _ _ _ _ _ _ us hl => match us, hl with | [_, _], _ => rfl) (fun vs H Q E h => by first | (obtain ⟨rfl, _⟩ := h; rfl) | (obtain ⟨_, rfl, _⟩ := h; rfl) | (obtain ⟨_, _, rfl, _⟩ := h; rfl) | (obtain ⟨_, _, _, rfl, _⟩ := h; rfl) | (obtain ⟨_, _, _, _, rfl, _⟩ := h; rfl) | (obtain ⟨_, _, _, _, _, rfl, _⟩ := h; rfl) | (obtain ⟨_, _, _, _, _, _, rfl, _⟩ := h; rfl) | (obtain ⟨_, _, _, _, _, _, _, rfl, _⟩ := h; rfl) | (obtain ⟨_, _, _, _, _, _, _, _, rfl, _⟩ := h; rfl) | (obtain ⟨_, _, _, _, _, _, _, _, _, rfl, _⟩ := h; rfl) | (obtain ⟨⟨_, _, _, _, _, _, _, rfl, _⟩, _⟩ := h; rfl)) fun X c al vs H Q E h => ?_
  obtain ⟨rfl, rfl, rfl, rfl, rfl⟩ := al
  exact body_one c (F.free _ (by walk_at "gm")) (d_get F) (d_get_id F) (d_get_fraction F) (d_get_part F) (d_kinds F) (d_words F) h
theorem d_same_n (F : FA K mg w) : ∀ n, DefP Pg w K mg base CX0 "_law_same" ["told", "due"] (n + 1) (spSame K n) := by
  intro n
  induction n with
  | zero =>
    obtain ⟨fd, f, g⟩ := F.fn "_law_same" sq_same (by walk_at "gm")
    refine defP_of f g mq_same (FunD.bindsN f fun _ _ _ _ _ _ us hl => match us, hl with | [_, _], _ => rfl) (fun vs H Q E h => by first | (obtain ⟨rfl, _⟩ := h; rfl) | (obtain ⟨_, rfl, _⟩ := h; rfl) | (obtain ⟨_, _, rfl, _⟩ := h; rfl) | (obtain ⟨_, _, _, rfl, _⟩ := h; rfl) | (obtain ⟨_, _, _, _, rfl, _⟩ := h; rfl) | (obtain ⟨_, _, _, _, _, rfl, _⟩ := h; rfl) | (obtain ⟨_, _, _, _, _, _, rfl, _⟩ := h; rfl) | (obtain ⟨_, _, _, _, _, _, _, rfl, _⟩ := h; rfl) | (obtain ⟨_, _, _, _, _, _, _, _, rfl, _⟩ := h; rfl) | (obtain ⟨_, _, _, _, _, _, _, _, _, rfl, _⟩ := h; rfl) | (obtain ⟨⟨_, _, _, _, _, _, _, rfl, _⟩, _⟩ := h; rfl)) fun X c al vs H Q E h => ?_
    obtain ⟨rfl, rfl, rfl, rfl, rfl⟩ := al
    exact body_same c (F.free _ (by walk_at "gm")) (F.free _ (by walk_at "gm")) (F.free _ (by walk_at "gm")) (F.free _ (by walk_at "gm")) (F.free _ (by walk_at "gm")) (F.free _ (by walk_at "gm")) (F.free _ (by walk_at "gm")) (F.free _ (by walk_at "gm")) (fun m e => by omega) h
  | succ n ih =>
    obtain ⟨fd, f, g⟩ := F.fn "_law_same" sq_same (by walk_at "gm")
    refine defP_of f g mq_same (FunD.bindsN f fun _ _ _ _ _ _ us hl => match us, hl with | [_, _], _ => rfl) (fun vs H Q E h => by first | (obtain ⟨rfl, _⟩ := h; rfl) | (obtain ⟨_, rfl, _⟩ := h; rfl) | (obtain ⟨_, _, rfl, _⟩ := h; rfl) | (obtain ⟨_, _, _, rfl, _⟩ := h; rfl) | (obtain ⟨_, _, _, _, rfl, _⟩ := h; rfl) | (obtain ⟨_, _, _, _, _, rfl, _⟩ := h; rfl) | (obtain ⟨_, _, _, _, _, _, rfl, _⟩ := h; rfl) | (obtain ⟨_, _, _, _, _, _, _, rfl, _⟩ := h; rfl) | (obtain ⟨_, _, _, _, _, _, _, _, rfl, _⟩ := h; rfl) | (obtain ⟨_, _, _, _, _, _, _, _, _, rfl, _⟩ := h; rfl) | (obtain ⟨⟨_, _, _, _, _, _, _, rfl, _⟩, _⟩ := h; rfl)) fun X c al vs H Q E h => ?_
    obtain ⟨rfl, rfl, rfl, rfl, rfl⟩ := al
    exact body_same c (F.free _ (by walk_at "gm")) (F.free _ (by walk_at "gm")) (F.free _ (by walk_at "gm")) (F.free _ (by walk_at "gm")) (F.free _ (by walk_at "gm")) (F.free _ (by walk_at "gm")) (F.free _ (by walk_at "gm")) (F.free _ (by walk_at "gm")) (fun m e => by have e2 : m = n := (by omega); subst e2; exact ih) h
theorem d_same (F : FA K mg w) : DefP Pg w K mg base CX0 "_law_same" ["told", "due"] 9 (spSame K 8) := d_same_n F 8
theorem d_right (F : FA K mg w) (TB : LamX.TabB base mg (He.cT K ("_law_right", none)).1 (He.cT K ("_law_right", none)).2) : DefP Pg w K mg base CX0 "_law_right" ["items", "handed"] 14 (spRt (He.cT K ("_law_right", none)).2 (He.cT K ("law", none)).2) := by
  obtain ⟨fd0, f0, g0⟩ := F.fn "_law_right" sq_right (by walk_at "gm")
  obtain ⟨fdH, fH, gH⟩ := F.fn "_law_heard" sq_heard (by walk_at "gm")
  refine defPC_of (fnC_of f0) g0 mq_right (FunD.bindsN f0 fun _ _ _ _ _ _ us hl => match us, hl with | [_, _], _ => rfl) (fun vs H Q E h => by first | (obtain ⟨rfl, _⟩ := h; rfl) | (obtain ⟨_, rfl, _⟩ := h; rfl) | (obtain ⟨_, _, rfl, _⟩ := h; rfl) | (obtain ⟨_, _, _, rfl, _⟩ := h; rfl) | (obtain ⟨_, _, _, _, rfl, _⟩ := h; rfl) | (obtain ⟨_, _, _, _, _, rfl, _⟩ := h; rfl) | (obtain ⟨_, _, _, _, _, _, rfl, _⟩ := h; rfl) | (obtain ⟨_, _, _, _, _, _, _, rfl, _⟩ := h; rfl) | (obtain ⟨_, _, _, _, _, _, _, _, rfl, _⟩ := h; rfl) | (obtain ⟨_, _, _, _, _, _, _, _, _, rfl, _⟩ := h; rfl) | (obtain ⟨⟨_, _, _, _, _, _, _, rfl, _⟩, _⟩ := h; rfl)) fun X c al hc hq vs H Q E h => ?_
  obtain ⟨rfl, rfl, rfl, rfl, rfl⟩ := al
  exact body_right c F.ne_0_1 hq ⟨hc, TB, fH, gH, (FunD.bindsN fH fun _ _ _ _ _ _ us hl => match us, hl with | [_], _ => rfl), F.heard_BadOctets⟩ (F.free _ (by walk_at "gm")) (d_one F) (d_decode_event F) (d_same F) h
theorem d_limits (F : FA K mg w) : DefP Pg w K mg base CX0 "_law_limits" [] 1 (spRowsC) := by
  obtain ⟨fd, f, g⟩ := F.fn "_law_limits" sq_limits (by walk_at "gm")
  refine defP_of f g mq_limits (FunD.bindsN f fun _ _ _ _ _ _ us hl => match us, hl with | [], _ => rfl) (fun vs H Q E h => by first | (obtain ⟨rfl, _⟩ := h; rfl) | (obtain ⟨_, rfl, _⟩ := h; rfl) | (obtain ⟨_, _, rfl, _⟩ := h; rfl) | (obtain ⟨_, _, _, rfl, _⟩ := h; rfl) | (obtain ⟨_, _, _, _, rfl, _⟩ := h; rfl) | (obtain ⟨_, _, _, _, _, rfl, _⟩ := h; rfl) | (obtain ⟨_, _, _, _, _, _, rfl, _⟩ := h; rfl) | (obtain ⟨_, _, _, _, _, _, _, rfl, _⟩ := h; rfl) | (obtain ⟨_, _, _, _, _, _, _, _, rfl, _⟩ := h; rfl) | (obtain ⟨_, _, _, _, _, _, _, _, _, rfl, _⟩ := h; rfl) | (obtain ⟨⟨_, _, _, _, _, _, _, rfl, _⟩, _⟩ := h; rfl)) fun X c al vs H Q E h => ?_
  obtain ⟨rfl, rfl, rfl, rfl, rfl⟩ := al
  exact body_limits c (F.free _ (by walk_at "gm")) h
theorem d_heads (F : FA K mg w) : DefP Pg w K mg base CX0 "_law_heads" [] 1 (spRowsC) := by
  obtain ⟨fd, f, g⟩ := F.fn "_law_heads" sq_heads (by walk_at "gm")
  refine defP_of f g mq_heads (FunD.bindsN f fun _ _ _ _ _ _ us hl => match us, hl with | [], _ => rfl) (fun vs H Q E h => by first | (obtain ⟨rfl, _⟩ := h; rfl) | (obtain ⟨_, rfl, _⟩ := h; rfl) | (obtain ⟨_, _, rfl, _⟩ := h; rfl) | (obtain ⟨_, _, _, rfl, _⟩ := h; rfl) | (obtain ⟨_, _, _, _, rfl, _⟩ := h; rfl) | (obtain ⟨_, _, _, _, _, rfl, _⟩ := h; rfl) | (obtain ⟨_, _, _, _, _, _, rfl, _⟩ := h; rfl) | (obtain ⟨_, _, _, _, _, _, _, rfl, _⟩ := h; rfl) | (obtain ⟨_, _, _, _, _, _, _, _, rfl, _⟩ := h; rfl) | (obtain ⟨_, _, _, _, _, _, _, _, _, rfl, _⟩ := h; rfl) | (obtain ⟨⟨_, _, _, _, _, _, _, rfl, _⟩, _⟩ := h; rfl)) fun X c al vs H Q E h => ?_
  obtain ⟨rfl, rfl, rfl, rfl, rfl⟩ := al
  exact body_heads c  h
theorem d_item (F : FA K mg w) : DefP Pg w K mg base CX0 "_law_item" ["box"] 3 (spItem K) := by
  obtain ⟨fd, f, g⟩ := F.fn "_law_item" sq_item (by walk_at "gm")
  refine defP_of f g mq_item (FunD.bindsN f fun _ _ _ _ _ _ us hl => match us, hl with | [_], _ => rfl) (fun vs H Q E h => by first | (obtain ⟨rfl, _⟩ := h; rfl) | (obtain ⟨_, rfl, _⟩ := h; rfl) | (obtain ⟨_, _, rfl, _⟩ := h; rfl) | (obtain ⟨_, _, _, rfl, _⟩ := h; rfl) | (obtain ⟨_, _, _, _, rfl, _⟩ := h; rfl) | (obtain ⟨_, _, _, _, _, rfl, _⟩ := h; rfl) | (obtain ⟨_, _, _, _, _, _, rfl, _⟩ := h; rfl) | (obtain ⟨_, _, _, _, _, _, _, rfl, _⟩ := h; rfl) | (obtain ⟨_, _, _, _, _, _, _, _, rfl, _⟩ := h; rfl) | (obtain ⟨_, _, _, _, _, _, _, _, _, rfl, _⟩ := h; rfl) | (obtain ⟨⟨_, _, _, _, _, _, _, rfl, _⟩, _⟩ := h; rfl)) fun X c al vs H Q E h => ?_
  obtain ⟨rfl, rfl, rfl, rfl, rfl⟩ := al
  exact body_item c (d_take F) (d_pick F) h
theorem d_items (F : FA K mg w) : DefP Pg w K mg base CX0 "_law_items" ["box"] 9 (spItems K) := by
  obtain ⟨fd, f, g⟩ := F.fn "_law_items" sq_items (by walk_at "gm")
  refine defP_of f g mq_items (FunD.bindsN f fun _ _ _ _ _ _ us hl => match us, hl with | [_], _ => rfl) (fun vs H Q E h => by first | (obtain ⟨rfl, _⟩ := h; rfl) | (obtain ⟨_, rfl, _⟩ := h; rfl) | (obtain ⟨_, _, rfl, _⟩ := h; rfl) | (obtain ⟨_, _, _, rfl, _⟩ := h; rfl) | (obtain ⟨_, _, _, _, rfl, _⟩ := h; rfl) | (obtain ⟨_, _, _, _, _, rfl, _⟩ := h; rfl) | (obtain ⟨_, _, _, _, _, _, rfl, _⟩ := h; rfl) | (obtain ⟨_, _, _, _, _, _, _, rfl, _⟩ := h; rfl) | (obtain ⟨_, _, _, _, _, _, _, _, rfl, _⟩ := h; rfl) | (obtain ⟨_, _, _, _, _, _, _, _, _, rfl, _⟩ := h; rfl) | (obtain ⟨⟨_, _, _, _, _, _, _, rfl, _⟩, _⟩ := h; rfl)) fun X c al vs H Q E h => ?_
  obtain ⟨rfl, rfl, rfl, rfl, rfl⟩ := al
  exact body_items c (F.free _ (by walk_at "gm")) (F.free _ (by walk_at "gm")) (d_take F) (d_pick F) (d_item F) (d_event F) (d_form F) h
theorem d_spoilt_right (F : FA K mg w) (TB : LamX.TabB base mg (He.cT K ("_law_right", none)).1 (He.cT K ("_law_right", none)).2) : DefP Pg w K mg base CX0 "_law_spoilt_right" ["box", "form"] 15 (spSp (He.cT K ("_law_right", none)).2 (He.cT K ("law", none)).2) := by
  obtain ⟨fd, f, g⟩ := F.fn "_law_spoilt_right" sq_spoilt_right (by walk_at "gm")
  refine defP_of f g mq_spoilt_right (FunD.bindsN f fun _ _ _ _ _ _ us hl => match us, hl with | [_, _], _ => rfl) (fun vs H Q E h => by first | (obtain ⟨rfl, _⟩ := h; rfl) | (obtain ⟨_, rfl, _⟩ := h; rfl) | (obtain ⟨_, _, rfl, _⟩ := h; rfl) | (obtain ⟨_, _, _, rfl, _⟩ := h; rfl) | (obtain ⟨_, _, _, _, rfl, _⟩ := h; rfl) | (obtain ⟨_, _, _, _, _, rfl, _⟩ := h; rfl) | (obtain ⟨_, _, _, _, _, _, rfl, _⟩ := h; rfl) | (obtain ⟨_, _, _, _, _, _, _, rfl, _⟩ := h; rfl) | (obtain ⟨_, _, _, _, _, _, _, _, rfl, _⟩ := h; rfl) | (obtain ⟨_, _, _, _, _, _, _, _, _, rfl, _⟩ := h; rfl) | (obtain ⟨⟨_, _, _, _, _, _, _, rfl, _⟩, _⟩ := h; rfl)) fun X c al vs H Q E h => ?_
  obtain ⟨rfl, rfl, rfl, rfl, rfl⟩ := al
  exact body_spoilt c (F.free _ (by walk_at "gm")) (F.free _ (by walk_at "gm")) (F.free _ (by walk_at "gm")) (d_item F) (d_right F TB) h
end
def asK : List Addr := [3, 52, 72, 91, 110, 129, 148, 167, 186, 205, 224, 243, 262, 271, 272, 273, 294, 335, 346, 353, 360, 367, 374, 381, 388, 395, 402, 409, 416, 423, 430, 437, 444, 451, 452, 459, 466, 473, 480, 487, 494, 501, 508, 513, 518, 525, 530, 537, 542, 549, 556, 563, 568, 575, 580, 587, 594, 601, 608, 615, 622, 629, 636, 643, 650, 657, 664, 671, 678, 685, 692, 699, 706, 713, 720, 727, 734, 741, 748, 755, 760, 767, 774, 781, 51, 128, 270, 274, 275, 276, 277, 278, 279, 280, 281, 282, 283, 284, 293, 334, 345, 352, 359, 366, 373, 380, 387, 394, 401, 408, 415, 422, 429, 436, 443, 450, 458, 465, 472, 479, 486, 493, 500, 507, 512, 517, 524, 529, 536, 541, 548, 555, 562, 567, 574, 579, 586, 593, 600, 607, 614, 621, 628, 635, 642, 649, 656, 663, 670, 677, 684, 691, 698, 705, 712, 719, 726, 733, 740, 747, 754, 759, 766, 773, 780, 126, 311, 318, 325, 332, 125, 310, 317, 324, 331]
abbrev tfA : List He.Defn := [("_law_right", none), ("law", none)]
abbrev hkA : PySem.W.Hook := hookL asK faA fnA tbA tfA exA
theorem law_facts {Pg : Program} {w : World} {h : Heap} {K : PySem.W.Frag} {mg : Str → Option Value} {fa : Addr} (X : K.In h) (G : h.Ns mainGlobals mg) (hfa : mg "law" = some (.ref fa)) (c : He.SaysX faA fnA tbA tfA exA w h K) :
    ∃ fd : FuncData, (∀ (s : Shared) (v : Value), BindsTo s fd ⟨[v], []⟩ [("script", v)]) ∧ ∀ base : Heap, LamX.TabB base mg (He.cT K ("_law_right", none)).1 (He.cT K ("_law_right", none)).2 → LamX.TabB base mg (He.cT K ("law", none)).1 (He.cT K ("law", none)).2 → FnOk Pg w K mg base CX0 16 fa fd ["script"] (spLaw K (He.cT K ("_law_right", none)).2 (He.cT K ("law", none)).2) := by
  have F := fA_of X G c
  obtain ⟨fd, f, g⟩ := F.fn "law" sq_law (by walk_at "gm")
  have e := hfa.symm.trans g
  cases e
  have b := FunD.bindsA (ps := ["script"]) f fun _ _ _ _ _ _ us hl => match us, hl with | [_], _ => rfl
  refine ⟨fd, fun s v => b s [v] rfl, fun base TB0 TB1 => ?_⟩
  obtain ⟨fdH, fH, gH⟩ := F.fn "_law_heard" sq_heard (by walk_at "gm")
  refine fnOkC_of (fnC_of f) mq_law (fun vs H Q E h => by first | (obtain ⟨rfl, _⟩ := h; rfl) | (obtain ⟨_, rfl, _⟩ := h; rfl) | (obtain ⟨_, _, rfl, _⟩ := h; rfl) | (obtain ⟨_, _, _, rfl, _⟩ := h; rfl) | (obtain ⟨_, _, _, _, rfl, _⟩ := h; rfl) | (obtain ⟨_, _, _, _, _, rfl, _⟩ := h; rfl) | (obtain ⟨_, _, _, _, _, _, rfl, _⟩ := h; rfl) | (obtain ⟨_, _, _, _, _, _, _, rfl, _⟩ := h; rfl) | (obtain ⟨_, _, _, _, _, _, _, _, rfl, _⟩ := h; rfl) | (obtain ⟨_, _, _, _, _, _, _, _, _, rfl, _⟩ := h; rfl) | (obtain ⟨⟨_, _, _, _, _, _, _, rfl, _⟩, _⟩ := h; rfl)) fun X cx al hc hq vs H Q E h => ?_
  obtain ⟨rfl, rfl, rfl, rfl, rfl⟩ := al
  exact body_law cx F.ne_0_1 hq ⟨hc, TB1, fH, gH, (FunD.bindsN fH fun _ _ _ _ _ _ us hl => match us, hl with | [_], _ => rfl), F.heard_BadOctets⟩ ⟨d_heads F, d_limits F, d_box F, d_take F, d_pick F, d_items F, d_right F TB0, d_same F, d_spoilt_right F TB0, d_form F, d_event F, key_decode_event F, F.free _ (by walk_at "gm"), F.free _ (by walk_at "gm"), F.free _ (by walk_at "gm"), F.free _ (by walk_at "gm"), F.free _ (by walk_at "gm")⟩ h
end K08
open PySem PySem.W PySem.Calls PyProof.Rows
theorem PySem.Challenge.cw_goodtill_k08_octets_that_are_no_event_holds : PySem.Challenge.rw_goodtill_k08_octets_that_are_no_event.Holds := by
  w_on; o_law
  o_head K08.hkA
  case hw => w_witness2
  case hc =>
    refine LamX.walk_ofTsE (l := PySem.Challenge.rw_goodtill_k08_octets_that_are_no_event) (n := 63) (k := 16) (x := "script") (CX := fun _ => L2.CX0) rfl (by decide) (by kernel_rfl) ⟨rfl, by decide, by decide⟩ ?F (fun _ _ _ _ _ z => z)
    intro w mg fa h Y G hmg0
    obtain ⟨K, KX, c⟩ := Y
    have hmg : mg ("law" : PySem.Str) = some (.ref fa) := hmg0
    obtain ⟨fd, hb, hF⟩ := K08.law_facts (Pg := (PySem.Challenge.rw_goodtill_k08_octets_that_are_no_event).prog) KX G hmg c
    refine ⟨K, KX, fd, K08.tfA.map (He.cT K), K08.spLaw K (He.cT K ("_law_right", none)).2 (He.cT K ("law", none)).2, fun p hp => ?_, fun p hp => ?_, fun p hp => ?_, hb, fun H a ns hl hbits hH hS => ?_, fun base _ _ hT => ?_⟩
    · obtain ⟨t, ht, rfl⟩ := List.mem_map.mp hp
      exact c.empty _ ht
    · obtain ⟨t, ht, rfl⟩ := List.mem_map.mp hp
      exact c.out _ ht
    · obtain ⟨t, ht, rfl⟩ := List.mem_map.mp hp
      exact PySem.W.codeHd_of_K KX (c.hd _ ht)
    · refine ⟨a, ns, rfl, hS, hl, fun p hp => ?_, fun _ => rfl⟩
      simp only [List.mem_cons, List.not_mem_nil, or_false] at hp
      have at_ : ∀ t ∈ K08.tfA, LamX.TabS H (He.cT K t).2 p.2 := fun t ht => LamX.TabS.nil (hH _ (List.mem_map.mpr ⟨t, ht, rfl⟩))
      rcases hp with rfl | rfl
      · exact at_ _ List.mem_cons_self
      · exact at_ _ (List.mem_cons_of_mem _ List.mem_cons_self)
    · exact hF base (hT _ (List.mem_map.mpr ⟨_, by first | exact List.mem_cons_self | exact List.mem_cons_of_mem _ List.mem_cons_self | exact List.mem_cons_of_mem _ (List.mem_cons_of_mem _ List.mem_cons_self), rfl⟩)) (hT _ (List.mem_map.mpr ⟨_, by first | exact List.mem_cons_self | exact List.mem_cons_of_mem _ List.mem_cons_self | exact List.mem_cons_of_mem _ (List.mem_cons_of_mem _ List.mem_cons_self), rfl⟩))
namespace K08
end K08
