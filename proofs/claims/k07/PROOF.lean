import PyProof.Rows.All
import Wide.All
import OpenK.AllK
import Wide.FinOn
import HandS.ForMost
import HandS.ForExc
import HandS.Wide
import HandS.Zip
import HandS.Walk
import HandS.IsInst
import HandS.Flow
import HandS.TupAny
import HandS.Defaults
import HandS.Words
import HandS.SortKw
import HandS.StrMore
import HandS.ExcInit
import HandS.ExcField
import HandS.WordsExc
import HandS.Lambda
import KE.KExcIs
import HandS.HeadHook4
import HandS.HeadWalk
import HandS.Head2
import PyProof.Draws
import KE.GoesEnum
import HandS.Gcd
import HandS.TryMany
import HandS.Head3
import HandS.Style
import HandS.FStr
import HandS.Text
import HandS.More
import HandS.Replace
import HandS.HeadHook3
import HandS.CallLocal
import HandS.Strs
import PySem.Challenge.RW_goodtill_k07_events_as_octets
set_option Elab.async false
set_option linter.all false
set_option maxRecDepth 100000
set_option maxHeartbeats 4000000
/-! A core of one's own over the hand layer: what an expression, a test, a block asks, whatever rule serves it; so a def's body is walked from the left, rule by rule. -/
namespace GT
open PySem PySem.Spec PyProof.Rows L2
/-! ### what is asked, whatever rule serves -/
structure RE (X : Cx) (e : Expr) (σ : L2.St) (H : Hp) (Q : VK) : Prop where
  ex : ∃ t, PE X e t ∧ t σ H Q
structure RT (X : Cx) (e : Expr) (σ : L2.St) (H : Hp) (Q : Bool → Hp → Prop) : Prop where
  ex : ∃ t, PT X e t ∧ t σ H Q
structure RW (X : Cx) (e : Expr) (σ : L2.St) (H : Hp) (Q : Bool → Hp → Prop) : Prop where
  ex : ∃ t, PW X e t ∧ t σ H Q
structure RA (X : Cx) (es : List Expr) (σ : L2.St) (H : Hp) (Q : List V → Hp → Prop) : Prop where
  ex : ∃ t, PA X es t ∧ t σ H Q
structure RS (X : Cx) (st : Stmt) (D : Ends) (σ : L2.St) (H : Hp) : Prop where
  ex : ∃ t, PS X st t ∧ t D σ H
structure RB (X : Cx) (st : List Stmt) (D : Ends) (σ : L2.St) (H : Hp) : Prop where
  ex : ∃ t, PSs X st t ∧ t D σ H
structure RO (X : Cx) (e : Option Expr) (σ : L2.St) (H : Hp) (Q : Option Int → Hp → Prop) : Prop where
  ex : ∃ t, PO X e t ∧ t σ H Q
section
variable {X : Cx} {σ : L2.St} {H : Hp}
theorem PE.self {e : Expr} : PE X e (RE X e) := ⟨fun pins s σ H Q I h => by obtain ⟨t, ht, q⟩ := h.ex; exact ht.run pins s σ H Q I q⟩
theorem PT.self {e : Expr} : PT X e (RT X e) := ⟨fun pins s σ H Q I h => by obtain ⟨t, ht, q⟩ := h.ex; exact ht.run pins s σ H Q I q⟩
theorem PW.self {e : Expr} : PW X e (RW X e) := ⟨fun wh pins s σ H Q I h => by obtain ⟨t, ht, q⟩ := h.ex; exact ht.run wh pins s σ H Q I q⟩
theorem PA.self {es : List Expr} : PA X es (RA X es) := ⟨fun pos pins s σ H Q I h => by obtain ⟨t, ht, q⟩ := h.ex; exact ht.run pos pins s σ H Q I q⟩
theorem PS.self {st : Stmt} : PS X st (RS X st) := ⟨fun pins s σ H D I h => by obtain ⟨t, ht, q⟩ := h.ex; exact ht.run pins s σ H D I q⟩
theorem PSs.self {st : List Stmt} : PSs X st (RB X st) := ⟨fun pins s σ H D I h => by obtain ⟨t, ht, q⟩ := h.ex; exact ht.run pins s σ H D I q⟩
theorem re_of {e : Expr} {t : TE} {Q : VK} (h : PE X e t) (q : t σ H Q) : RE X e σ H Q := ⟨⟨t, h, q⟩⟩
theorem rt_of {e : Expr} {t : TT} {Q : Bool → Hp → Prop} (h : PT X e t) (q : t σ H Q) : RT X e σ H Q := ⟨⟨t, h, q⟩⟩
theorem rw_of {e : Expr} {t : TT} {Q : Bool → Hp → Prop} (h : PW X e t) (q : t σ H Q) : RW X e σ H Q := ⟨⟨t, h, q⟩⟩
theorem ra_of {e : List Expr} {t : TA} {Q : List V → Hp → Prop} (h : PA X e t) (q : t σ H Q) : RA X e σ H Q := ⟨⟨t, h, q⟩⟩
theorem rs_of {st : Stmt} {t : TS} {D : Ends} (h : PS X st t) (q : t D σ H) : RS X st D σ H := ⟨⟨t, h, q⟩⟩
theorem rb_of {st : List Stmt} {t : TS} {D : Ends} (h : PSs X st t) (q : t D σ H) : RB X st D σ H := ⟨⟨t, h, q⟩⟩
/-! ### slots by name -/
inductive Slot : List Str → L2.St → Str → V → Prop
  | here {x : Str} {N : List Str} {v : V} {σ : L2.St} : Slot (x :: N) (some v :: σ) x v
  | there {x y : Str} {N : List Str} {v : V} {o : Option V} {σ : L2.St} (h : Slot N σ x v) : Slot (y :: N) (o :: σ) x v
inductive Put : List Str → L2.St → Str → V → L2.St → Prop
  | here {x : Str} {N : List Str} {v : V} {o : Option V} {σ : L2.St} : Put (x :: N) (o :: σ) x v (some v :: σ)
  | there {x y : Str} {N : List Str} {v : V} {o : Option V} {σ σ' : L2.St} (h : Put N σ x v σ') : Put (y :: N) (o :: σ) x v (o :: σ')
theorem Slot.ix {N : List Str} {σ : L2.St} {x : Str} {v : V} (h : Slot N σ x v) : ∃ i : Nat, N[i]? = some x ∧ σ[i]? = some (some v) := by
  induction h with
  | here => exact ⟨0, rfl, rfl⟩
  | there _ ih => obtain ⟨i, h1, h2⟩ := ih; exact ⟨i + 1, h1, h2⟩
theorem Put.ix {N : List Str} {σ σ' : L2.St} {x : Str} {v : V} (h : Put N σ x v σ') : ∃ i : Nat, N[i]? = some x ∧ σ' = σ.set i (some v) := by
  induction h with
  | here => exact ⟨0, rfl, rfl⟩
  | there _ ih => obtain ⟨i, h1, h2⟩ := ih; exact ⟨i + 1, h1, by rw [h2]; rfl⟩
/-- a name: the def's own local, the def's own captured by an inner one, one from around, a global -/
inductive KN where
  | loc | cell | cap | glob
  deriving DecidableEq
def knOf : NameKind → Option KN
  | .local => some .loc
  | .cell => some .cell
  | .free => some .cap
  | .globalImplicit => some .glob
  | _ => none
def knAll : List (Str × NameKind) → List (Str × KN)
  | [] => []
  | (x, j) :: r => match knOf j with
    | some m => (x, m) :: knAll r
    | none => knAll r
inductive Mine : KN → Prop
  | loc : Mine .loc
  | cell : Mine .cell
  | cap : Mine .cap
inductive Own : KN → Prop
  | loc : Own .loc
  | cell : Own .cell
def KnIs (X : Cx) (x : Str) : KN → Prop
  | .loc => X.env.scope.names.lookup x = some .local
  | .cell => X.env.scope.names.lookup x = some .cell ∧ X.fn x = true
  | .cap => X.env.scope.names.lookup x = some .cell ∨ X.env.scope.names.lookup x = some .free
  | .glob => X.env.scope.names.lookup x = some .globalImplicit
def okName (x : Str) : Bool := !(x == ("__debug__" : Str)) && !(x == ("__classdict__" : Str)) && !decide (x = "__name__")
/-- where one stands: the def's names by slot, the scope's names, the room -/
structure Ctx (X : Cx) (N : List Str) (L : List (Str × KN)) (k : Nat) : Prop where
  n : X.N = N
  nd : N.Nodup
  look : ∀ p ∈ L, KnIs X p.1 p.2
  dbg : ∀ p ∈ L, okName p.1 = true
  calm : X.calm = true
  room : Room k X.A
  po : PassesOwn (model X.prog X.w) X.A X.env X.xe
  kind : X.env.scope.kind = .function
theorem lookup_mem {L : List (Str × NameKind)} {x : Str} {k : NameKind} (nd : (L.map (·.1)).Nodup) (h : (x, k) ∈ L) : L.lookup x = some k := by
  induction L with
  | nil => cases h
  | cons p r ih =>
    obtain ⟨y, j⟩ := p
    rw [List.map_cons, List.nodup_cons] at nd
    rcases List.mem_cons.mp h with e | e
    · cases e
      simp [List.lookup]
    · have hne : (x == y) = false := by
        rw [beq_eq_false_iff_ne]
        intro q
        subst q
        exact nd.1 (List.mem_map.mpr ⟨_, e, rfl⟩)
      simp only [List.lookup, hne]
      exact ih nd.2 e
theorem knAll_mem {x : Str} {m : KN} : ∀ {L : List (Str × NameKind)}, (x, m) ∈ knAll L → ∃ j, (x, j) ∈ L ∧ knOf j = some m
  | [], h => by cases h
  | (y, j) :: r, h => by
    unfold knAll at h
    cases e : knOf j with
    | none =>
      rw [e] at h
      obtain ⟨j', h1, h2⟩ := knAll_mem h
      exact ⟨j', List.mem_cons_of_mem _ h1, h2⟩
    | some m' =>
      rw [e] at h
      rcases List.mem_cons.mp h with q | q
      · cases q
        exact ⟨j, List.mem_cons_self, e⟩
      · obtain ⟨j', h1, h2⟩ := knAll_mem q
        exact ⟨j', List.mem_cons_of_mem _ h1, h2⟩
variable {N : List Str} {L : List (Str × KN)} {k : Nat}
theorem okName_of {x : Str} (h : okName x = true) : (x == ("__debug__" : Str)) = false ∧ (x == ("__classdict__" : Str)) = false ∧ x ≠ "__name__" := by
  unfold okName at h
  rw [Bool.and_eq_true, Bool.and_eq_true] at h
  obtain ⟨⟨h1, h2⟩, h3⟩ := h
  exact ⟨by simpa using h1, by simpa using h2, by simpa using h3⟩
theorem Ctx.gl (c : Ctx X N L k) {x : Str} (h : (x, KN.glob) ∈ L) : Gl X x := c.look _ h
theorem Ctx.d1 (c : Ctx X N L k) {x : Str} {j : KN} (h : (x, j) ∈ L) : (x == ("__debug__" : Str)) = false := (okName_of (c.dbg _ h)).1
theorem Ctx.d2 (c : Ctx X N L k) {x : Str} {j : KN} (h : (x, j) ∈ L) : (x == ("__classdict__" : Str)) = false := (okName_of (c.dbg _ h)).2.1
theorem Ctx.d3 (c : Ctx X N L k) {x : Str} {j : KN} (h : (x, j) ∈ L) : x ≠ "__name__" := (okName_of (c.dbg _ h)).2.2
theorem Ctx.vis (c : Ctx X N L k) {x : Str} {j : KN} (h : (x, j) ∈ L) (m : Mine j) : Vis X.env.scope x := by
  have e := c.look _ h
  cases m with
  | loc => exact Or.inl e
  | cell => exact Or.inr (Or.inl e.1)
  | cap => exact Or.inr e
theorem Ctx.loc (c : Ctx X N L k) {x : Str} {j : KN} (h : (x, j) ∈ L) (m : Own j) : Loc X.env.scope x := by
  have e := c.look _ h
  cases m with
  | loc => exact Or.inl e
  | cell => exact Or.inr e.1
theorem Ctx.fn (c : Ctx X N L k) {x : Str} {j : KN} (h : (x, j) ∈ L) (m : Own j) : X.fn x = true ∨ X.env.scope.names.lookup x = some .local := by
  have e := c.look _ h
  cases m with
  | loc => exact Or.inr e
  | cell => exact Or.inl e.2
theorem Ctx.lcl (c : Ctx X N L k) {x : Str} (h : (x, KN.loc) ∈ L) : X.env.scope.names.lookup x = some .local := c.look _ h
/-! ### expressions -/
variable {pos p0 p1 p2 : Pos} {Q : VK} {D : Ends}
theorem re_name (c : Ctx X N L k) {x : Str} {v : V} {j : KN} (s : Slot N σ x v) (h : (x, j) ∈ L) (m : Mine j) (q : Q v H) : RE X (.Name x pos) σ H Q := by
  obtain ⟨i, h1, h2⟩ := s.ix
  rw [← c.n] at h1
  exact re_of (pe_var h1 (c.vis h m) (c.d1 h) (c.d2 h)) ⟨v, h2, q⟩
theorem re_int {i : Int} {j : Nat} (q : Q (.int i) H) : RE X (.Constant (.int i) j pos) σ H Q := re_of pe_int q
theorem re_bl {b : Bool} {j : Nat} (q : Q (.bl b) H) : RE X (.Constant (.bool b) j pos) σ H Q := re_of pe_bl q
theorem re_non {j : Nat} (q : Q .non H) : RE X (.Constant .none j pos) σ H Q := re_of pe_non q
theorem re_str {x : Str} {j : Nat} (q : Q (.str x) H) : RE X (.Constant (.str x) j pos) σ H Q := re_of pe_str q
/-- a class or type of the module, a builtin's name, as a value -/
theorem re_glob (c : Ctx X N L k) {x : Str} {v : V} {u : Value} (h : (x, KN.glob) ∈ L) (hm : X.mg x = some u) (r : RelV v u) (q : Q v H) : RE X (.Name x pos) σ H Q := re_of (pe_glob (c.gl h) hm r (c.d1 h)) q
theorem re_bltn (c : Ctx X N L k) {x : Str} {v : V} {u : Value} (h : (x, KN.glob) ∈ L) (hm : X.mg x = none) (hv : bootBuiltins x = some u) (r : RelV v u) (q : Q v H) : RE X (.Name x pos) σ H Q := re_of (pe_bltn (c.gl h) hm hv r (c.d3 h) (c.d1 h)) q
/-! ### operators by values -/
structure OpV (X : Cx) (op : Operator) (x y : V) (H : Hp) (Q : VK) : Prop where
  ex : ∃ r, OpR X (binaryOp op) r ∧ r x y H Q
structure CpV (X : Cx) (op : CmpOp) (x y : V) (H : Hp) (Q : VK) : Prop where
  ex : ∃ r, OpR X (compareOp op) r ∧ r x y H Q
structure IxV (X : Cx) (x y : V) (H : Hp) (Q : VK) : Prop where
  ex : ∃ r, IxR X r ∧ r x y H Q
structure SlV (X : Cx) (x : V) (a b : Option Int) (H : Hp) (Q : VK) : Prop where
  ex : ∃ r, SlR X r ∧ r x a b H Q
theorem OpR.self {op : Operator} : OpR X (binaryOp op) (OpV X op) := fun pins s σ H x y v u Q I rx ry h => by
  obtain ⟨r, hr, q⟩ := h.ex
  exact hr pins s σ H x y v u Q I rx ry q
theorem CpR.self {op : CmpOp} : OpR X (compareOp op) (CpV X op) := fun pins s σ H x y v u Q I rx ry h => by
  obtain ⟨r, hr, q⟩ := h.ex
  exact hr pins s σ H x y v u Q I rx ry q
theorem IxR.self : IxR X (IxV X) := fun va sl pins s σ H x y v u Q I rx ry h => by
  obtain ⟨r, hr, q⟩ := h.ex
  exact hr va sl pins s σ H x y v u Q I rx ry q
theorem re_bin {a b : Expr} {op : Operator} (q : RE X a σ H fun x H1 => RE X b σ H1 fun y H2 => OpV X op x y H2 Q) : RE X (.BinOp a op b pos) σ H Q := re_of (pe_op OpR.self PE.self PE.self) q
theorem re_cmp {a b : Expr} {op : CmpOp} (q : RE X a σ H fun x H1 => RE X b σ H1 fun y H2 => CpV X op x y H2 Q) (hm : behindInMarks op b = false := by first | exact nobehind _ (by decide) (by decide) | with_unfolding_all rfl) : RE X (.Compare a [op] [b] pos) σ H Q :=
  re_of (pe_cmpR CpR.self PE.self PE.self hm) q
theorem rt_cmp {a b : Expr} {op : CmpOp} {Q : Bool → Hp → Prop} (q : RE X a σ H fun x H1 => RE X b σ H1 fun y H2 => CpV X op x y H2 fun v H3 => ∃ k, v = .bl k ∧ Q k H3) (hm : behindInMarks op b = false := by first | exact nobehind _ (by decide) (by decide) | with_unfolding_all rfl) :
    RT X (.Compare a [op] [b] pos) σ H Q := rt_of (pt_cmpR CpR.self PE.self PE.self hm) q
theorem re_ix {a b : Expr} (q : RE X a σ H fun x H1 => RE X b σ H1 fun y H2 => IxV X x y H2 Q) (hs : PlainIx b := by with_unfolding_all exact fun _ _ => rfl) : RE X (.Subscript a b pos) σ H Q := re_of (pe_ix IxR.self PE.self PE.self hs) q
theorem re_neg {a : Expr} (q : RE X a σ H fun x H1 => ∃ i, x = .int i ∧ Q (.int (-i)) H1) : RE X (.UnaryOp .USub a pos) σ H Q := re_of (pe_un un_neg PE.self) q
variable {i j : Int} {z w : Str} {x y : V}
theorem ov_add (q : Q (.int (i + j)) H) : OpV X .Add (.int i) (.int j) H Q := ⟨⟨_, op_add, i, j, rfl, rfl, q⟩⟩
theorem ov_sub (q : Q (.int (i - j)) H) : OpV X .Sub (.int i) (.int j) H Q := ⟨⟨_, op_sub, i, j, rfl, rfl, q⟩⟩
theorem ov_mul (h : CMul i j) (q : Q (.int (i * j)) H) : OpV X .Mult (.int i) (.int j) H Q := ⟨⟨_, op_mul, i, j, rfl, rfl, h, q⟩⟩
theorem ov_mulR (h : -(2 ^ 64) < j ∧ j < 2 ^ 64) (q : Q (.int (i * j)) H) : OpV X .Mult (.int i) (.int j) H Q := ov_mul (.inr h) q
theorem ov_mulL (h : -(2 ^ 64) < i ∧ i < 2 ^ 64) (q : Q (.int (i * j)) H) : OpV X .Mult (.int i) (.int j) H Q := ov_mul (.inl h) q
theorem ov_mulW (h : CMulW i j) (q : Q (.int (i * j)) H) : OpV X .Mult (.int i) (.int j) H Q := ⟨⟨_, op_mulW, i, j, rfl, rfl, h, q⟩⟩
theorem ov_mod (h : 0 < j) (q : Q (.int (i % j)) H) : OpV X .Mod (.int i) (.int j) H Q := ⟨⟨_, op_mod, i, j, rfl, rfl, h, q⟩⟩
theorem ov_fdiv (h : CDivW i j) (q : Q (.int (i / j)) H) : OpV X .FloorDiv (.int i) (.int j) H Q := ⟨⟨_, op_fdivW, i, j, rfl, rfl, h, q⟩⟩
theorem ov_pow (h : CPow i j) (q : Q (.int (i ^ j.toNat)) H) : OpV X .Pow (.int i) (.int j) H Q := ⟨⟨_, op_pow, i, j, rfl, rfl, h, q⟩⟩
theorem ov_powL {n m : Nat} (h : n ≤ 1000000 ∧ m < 2 ^ 64) (q : Q (.int ((m : Int) ^ n)) H) : OpV X .Pow (.int (m : Int)) (.int (n : Int)) H Q := ov_pow ⟨Int.natCast_nonneg n, by omega, by simpa using h.2⟩ (by simpa using q)
theorem ov_adds (h : z.length + w.length ≤ sizeLine) (q : Q (.str (z ++ w)) H) : OpV X .Add (.str z) (.str w) H Q := ⟨⟨_, op_add_str, z, w, rfl, rfl, h, q⟩⟩
theorem cv_lt (q : Q (.bl (decide (i < j))) H) : CpV X .Lt (.int i) (.int j) H Q := ⟨⟨_, op_lt, i, j, rfl, rfl, q⟩⟩
theorem cv_le (q : Q (.bl (decide (i ≤ j))) H) : CpV X .LtE (.int i) (.int j) H Q := ⟨⟨_, op_le, i, j, rfl, rfl, q⟩⟩
theorem cv_gt (q : Q (.bl (decide (j < i))) H) : CpV X .Gt (.int i) (.int j) H Q := ⟨⟨_, op_gt, i, j, rfl, rfl, q⟩⟩
theorem cv_ge (q : Q (.bl (decide (j ≤ i))) H) : CpV X .GtE (.int i) (.int j) H Q := ⟨⟨_, op_ge, i, j, rfl, rfl, q⟩⟩
theorem cv_eqI (q : Q (.bl (decide (i = j))) H) : CpV X .Eq (.int i) (.int j) H Q := ⟨⟨_, op_eq, rfl, by
  have e : decide (V.int i = V.int j) = decide (i = j) := by simp
  rw [e]; exact q⟩⟩
theorem cv_neI (q : Q (.bl (!decide (i = j))) H) : CpV X .NotEq (.int i) (.int j) H Q := ⟨⟨_, op_ne, rfl, by
  have e : decide (V.int i = V.int j) = decide (i = j) := by simp
  rw [e]; exact q⟩⟩
theorem cv_eqS (q : Q (.bl (decide (z = w))) H) : CpV X .Eq (.str z) (.str w) H Q := ⟨⟨_, op_eq, rfl, by
  have e : decide (V.str z = V.str w) = decide (z = w) := by simp
  rw [e]; exact q⟩⟩
theorem cv_neS (q : Q (.bl (!decide (z = w))) H) : CpV X .NotEq (.str z) (.str w) H Q := ⟨⟨_, op_ne, rfl, by
  have e : decide (V.str z = V.str w) = decide (z = w) := by simp
  rw [e]; exact q⟩⟩
/-- == of scalars (None, bools, ints, texts) -/
theorem cv_eq (h : scal x y = true) (q : Q (.bl (decide (x = y))) H) : CpV X .Eq x y H Q := ⟨⟨_, op_eq, h, q⟩⟩
theorem cv_ne (h : scal x y = true) (q : Q (.bl (!decide (x = y))) H) : CpV X .NotEq x y H Q := ⟨⟨_, op_ne, h, q⟩⟩
theorem cv_ltS (q : Q (.bl (decide (z.cps.toList < w.cps.toList))) H) : CpV X .Lt (.str z) (.str w) H Q := ⟨⟨_, op_lt_str, z, w, rfl, rfl, q⟩⟩
theorem cv_gtS (q : Q (.bl (decide (w.cps.toList < z.cps.toList))) H) : CpV X .Gt (.str z) (.str w) H Q := ⟨⟨_, op_gt_str, z, w, rfl, rfl, q⟩⟩
theorem cv_isN (q : Q (.bl (decide (x = .non))) H) : CpV X .Is x .non H Q := ⟨⟨_, op_isN, rfl, q⟩⟩
theorem cv_notN (q : Q (.bl (!decide (x = .non))) H) : CpV X .IsNot x .non H Q := ⟨⟨_, op_notN, rfl, q⟩⟩
theorem cv_isN_s (q : Q (.bl false) H) : CpV X .Is (.str z) .non H Q := cv_isN (by rw [decide_eq_false (fun e => nomatch e)]; exact q)
theorem cv_notN_s (q : Q (.bl true) H) : CpV X .IsNot (.str z) .non H Q := cv_notN (by rw [decide_eq_false (fun e => nomatch e)]; exact q)
theorem cv_isN_i (q : Q (.bl false) H) : CpV X .Is (.int i) .non H Q := cv_isN (by rw [decide_eq_false (fun e => nomatch e)]; exact q)
theorem cv_notN_i (q : Q (.bl true) H) : CpV X .IsNot (.int i) .non H Q := cv_notN (by rw [decide_eq_false (fun e => nomatch e)]; exact q)
theorem cv_isN_b {b : Bool} (q : Q (.bl false) H) : CpV X .Is (.bl b) .non H Q := cv_isN (by rw [decide_eq_false (fun e => nomatch e)]; exact q)
theorem cv_notN_b {b : Bool} (q : Q (.bl true) H) : CpV X .IsNot (.bl b) .non H Q := cv_notN (by rw [decide_eq_false (fun e => nomatch e)]; exact q)
theorem cv_isN_r {p : Addr} (q : Q (.bl false) H) : CpV X .Is (.ref p) .non H Q := cv_isN (by rw [decide_eq_false (fun e => nomatch e)]; exact q)
theorem cv_notN_r {p : Addr} (q : Q (.bl true) H) : CpV X .IsNot (.ref p) .non H Q := cv_notN (by rw [decide_eq_false (fun e => nomatch e)]; exact q)
theorem cv_isN_n (q : Q (.bl true) H) : CpV X .Is .non .non H Q := cv_isN (by rw [decide_eq_true rfl]; exact q)
theorem cv_notN_n (q : Q (.bl false) H) : CpV X .IsNot .non .non H Q := cv_notN (by rw [decide_eq_true rfl]; exact q)
theorem iv_list {p : Addr} {xs : List V} {v : V} (h : SqL X.K H p xs) (ha : atI xs i = some v) (q : Q v H) : IxV X (.ref p) (.int i) H Q := ⟨⟨_, ix_list, p, xs, i, v, rfl, rfl, h, ha, q⟩⟩
theorem iv_tup {p : Addr} {xs : List V} {v : V} (h : SqT X.K H p xs) (ha : atI xs i = some v) (q : Q v H) : IxV X (.ref p) (.int i) H Q := ⟨⟨_, ix_tup, p, xs, i, v, rfl, rfl, h, ha, q⟩⟩
theorem iv_str {n : Nat} (hz : z.length ≤ sizeLine) (ha : atI z.cps.toList i = some n) (q : Q (.str ⟨#[n]⟩) H) : IxV X (.str z) (.int i) H Q := ⟨⟨_, ix_str, z, i, n, rfl, rfl, hz, ha, q⟩⟩
/-! ### displays, choices -/
theorem ra_nil {Q : List V → Hp → Prop} (q : Q [] H) : RA X [] σ H Q := ra_of pa_nil q
theorem ra_cons {e : Expr} {es : List Expr} {Q : List V → Hp → Prop} (q : RE X e σ H fun x H1 => RA X es σ H1 fun xs H2 => Q (x :: xs) H2) (hs : starEach (e :: es) X.env = (false, eval e X.env) :: starEach es X.env := by with_unfolding_all rfl) : RA X (e :: es) σ H Q :=
  ra_of (pa_cons PE.self PA.self hs) q
theorem re_tup {es : List Expr} {x1} (q : RA X es σ H fun xs H1 => xs.length ≤ sizeLine ∧ ∀ p, H1 p = none → Q (.ref p) (upd H1 p (.tup xs))) : RE X (.Tuple es x1 pos) σ H Q := re_of (pe_tup PA.self) q
theorem re_lst {es : List Expr} (q : RA X es σ H fun xs H1 => xs.length ≤ sizeLine ∧ ∀ p, H1 p = none → Q (.ref p) (upd H1 p (.lst xs))) : RE X (.List es pos) σ H Q := re_of (pe_lst PA.self) q
theorem re_if {t a b : Expr} (q : RT X t σ H fun c H1 => if c = true then RE X a σ H1 Q else RE X b σ H1 Q) : RE X (.IfExp t a b pos) σ H Q := re_of (pe_ifExp PT.self PE.self PE.self) q
theorem re_and {a b : Expr} {rest : List Expr} (q : RE X a σ H fun x H1 => ∃ c, x = .bl c ∧ if c = true then RE X (.BoolOp .And (b :: rest) pos) σ H1 Q else Q (.bl false) H1) : RE X (.BoolOp .And (a :: b :: rest) pos) σ H Q := re_of (pe_and PE.self PE.self) q
theorem re_or {a b : Expr} {rest : List Expr} (q : RE X a σ H fun x H1 => ∃ c, x = .bl c ∧ if c = true then Q (.bl true) H1 else RE X (.BoolOp .Or (b :: rest) pos) σ H1 Q) : RE X (.BoolOp .Or (a :: b :: rest) pos) σ H Q := re_of (pe_or PE.self PE.self) q
theorem re_one {op : BoolOp} {a : Expr} (q : RE X a σ H Q) : RE X (.BoolOp op [a] pos) σ H Q := re_of (pe_one PE.self) q
theorem re_not {a : Expr} (q : RE X a σ H fun x H1 => ∃ c, x = .bl c ∧ Q (.bl (!c)) H1) : RE X (.UnaryOp .Not a pos) σ H Q := re_of (pe_not PE.self) q
/-! ### tests -/
theorem rt_not {a : Expr} {Q : Bool → Hp → Prop} (q : RT X a σ H fun c H1 => Q (!c) H1) : RT X (.UnaryOp .Not a pos) σ H Q := rt_of (pt_not PT.self) q
theorem rt_bool {op : BoolOp} {es : List Expr} {Q : Bool → Hp → Prop} (q : RW X (.BoolOp op es pos) σ H Q) : RT X (.BoolOp op es pos) σ H Q := rt_of (PW.pt PW.self) q
theorem rw_and {a b : Expr} {rest : List Expr} {Q : Bool → Hp → Prop} (q : RT X a σ H fun c H1 => if c = true then RW X (.BoolOp .And (b :: rest) pos) σ H1 Q else Q false H1) : RW X (.BoolOp .And (a :: b :: rest) pos) σ H Q := rw_of (pw_and PT.self PW.self) q
theorem rw_and1 {a : Expr} {Q : Bool → Hp → Prop} (q : RT X a σ H Q) : RW X (.BoolOp .And [a] pos) σ H Q := rw_of (pw_and1 PT.self) q
theorem rw_or {a b : Expr} {rest : List Expr} {Q : Bool → Hp → Prop} (q : RT X a σ H fun c H1 => if c = true then Q true H1 else RW X (.BoolOp .Or (b :: rest) pos) σ H1 Q) : RW X (.BoolOp .Or (a :: b :: rest) pos) σ H Q := rw_of (pw_or PT.self PW.self) q
theorem rw_or1 {a : Expr} {Q : Bool → Hp → Prop} (q : RT X a σ H Q) : RW X (.BoolOp .Or [a] pos) σ H Q := rw_of (pw_or1 PT.self) q
theorem rt_val {e : Expr} {Q : Bool → Hp → Prop} (q : RE X e σ H fun x H1 => ∃ c, x = .bl c ∧ Q c H1) (he : ∀ whole, isTrue e X.env whole = (do let v ← whole; standAt e.pos; holding [v] (truthy v)) := by intro _; with_unfolding_all rfl) : RT X e σ H Q := rt_of (pt_val PE.self he) q
/-! ### blocks -/
theorem rb_nil (q : D.nx σ H) : RB X [] D σ H := rb_of pss_nil q
theorem rb_cons {st : Stmt} {rest : List Stmt} (q : RS X st { D with nx := fun σ1 H1 => RB X rest D σ1 H1 } σ H) : RB X (st :: rest) D σ H := rb_of (pss_cons PS.self PSs.self) q
theorem Ctx.put (c : Ctx X N L k) {x : Str} (hx : x ∈ N) : ∃ i : Nat, X.N[i]? = some x ∧ ∀ {σ σ' : L2.St} {v : V}, Put N σ x v σ' → σ' = σ.set i (some v) := by
  obtain ⟨i, hi, e⟩ := List.mem_iff_getElem.mp hx
  have h1 : N[i]? = some x := by rw [List.getElem?_eq_getElem hi, e]
  refine ⟨i, by rw [c.n]; exact h1, fun {σ σ' v} p => ?_⟩
  obtain ⟨j, h2, h3⟩ := p.ix
  rw [h3, nodup_ix c.nd h1 h2]
theorem Ctx.nodup (c : Ctx X N L k) : X.N.Nodup := by
  rw [c.n]
  exact c.nd
theorem pe_mono {e : Expr} {Q Q' : VK} (q : RE X e σ H Q) (h : ∀ v H1, Q v H1 → Q' v H1) : RE X e σ H Q' := by
  refine ⟨⟨fun σ1 H1 Q1 => ∃ Q0, RE X e σ1 H1 Q0 ∧ ∀ v H2, Q0 v H2 → Q1 v H2, ⟨fun pins s σ1 H1 Q1 I h1 => ?_⟩, Q, q, h⟩⟩
  obtain ⟨Q0, h2, h3⟩ := h1
  exact thn (PE.self.run pins s σ1 H1 Q0 I h2) fun u s' ⟨v, H', I', r, q'⟩ => ⟨v, H', I', r, h3 v H' q'⟩
theorem rt_mono {e : Expr} {Q Q' : Bool → Hp → Prop} (q : RT X e σ H Q) (h : ∀ v H1, Q v H1 → Q' v H1) : RT X e σ H Q' := by
  refine ⟨⟨fun σ1 H1 Q1 => ∃ Q0 : Bool → Hp → Prop, RT X e σ1 H1 Q0 ∧ ∀ v H2, Q0 v H2 → Q1 v H2, ⟨fun pins s σ1 H1 Q1 I h1 => ?_⟩, Q, q, h⟩⟩
  obtain ⟨Q0, h2, h3⟩ := h1
  exact thn (PT.self.run pins s σ1 H1 Q0 I h2) fun u s' ⟨H', I', q'⟩ => ⟨H', I', h3 u H' q'⟩
theorem ra_mono {e : List Expr} {Q Q' : List V → Hp → Prop} (q : RA X e σ H Q) (h : ∀ v H1, Q v H1 → Q' v H1) : RA X e σ H Q' := by
  refine ⟨⟨fun σ1 H1 Q1 => ∃ Q0 : List V → Hp → Prop, RA X e σ1 H1 Q0 ∧ ∀ v H2, Q0 v H2 → Q1 v H2, ⟨fun pos pins s σ1 H1 Q1 I h1 => ?_⟩, Q, q, h⟩⟩
  obtain ⟨Q0, h2, h3⟩ := h1
  exact thn (PA.self.run pos pins s σ1 H1 Q0 I h2) fun u s' ⟨v, H', I', r, q'⟩ => ⟨v, H', I', r, h3 v H' q'⟩
theorem rs_set (c : Ctx X N L k) {x : Str} {e : Expr} {j : KN} {pos' : Pos} (h : (x, j) ∈ L) (m : Own j) (hx : x ∈ N) (q : RE X e σ H fun v H1 => ∃ σ', Put N σ x v σ' ∧ D.nx σ' H1) (hs : swapsWith e (some (.Name x pos')) pos.line X.env = pure false := by with_unfolding_all rfl) :
    RS X (.Assign [.Name x pos'] e pos) D σ H := by
  obtain ⟨i, h1, h2⟩ := c.put hx
  refine rs_of (ps_set (i := i) c.nodup h1 (c.loc h m) PE.self hs (c.fn h m)) (pe_mono q fun v H1 ⟨σ', p, d⟩ => ?_)
  rw [h2 p] at d
  exact d
theorem rs_expr {e : Expr} (q : RE X e σ H fun _ H1 => D.nx σ H1) (hs : swapsWith e none pos.line X.env = pure false := by with_unfolding_all rfl) : RS X (.Expr e pos) D σ H := rs_of (ps_expr PE.self hs) q
theorem rs_ret {e : Expr} (q : RE X e σ H D.rt) : RS X (.Return (some e) pos) D σ H := rs_of (ps_ret PE.self) q
theorem rs_retN (q : D.rt .non H) : RS X (.Return none pos) D σ H := rs_of ps_retN q
theorem rs_pass (q : D.nx σ H) : RS X (.Pass pos) D σ H := rs_of ps_pass q
theorem rs_break (q : D.bk σ H) : RS X (.Break pos) D σ H := rs_of ps_break q
theorem rs_continue (q : D.ct σ H) : RS X (.Continue pos) D σ H := rs_of ps_continue q
theorem rs_doc {x j} (q : D.nx σ H) : RS X (.Expr (.Constant (.str x) j p0) pos) D σ H := rs_of ps_doc q
theorem rs_if {t : Expr} {a b : List Stmt} (q : RT X t σ H fun c H1 => if c = true then RB X a D σ H1 else RB X b D σ H1) : RS X (.If t a b pos) D σ H := rs_of (ps_if PT.self PSs.self PSs.self) q
/-- o[i] = e, o a list -/
theorem rs_sub {o i e : Expr} (q : RE X e σ H fun v H1 => RE X o σ H1 fun x H2 => RE X i σ H2 fun y H3 => ∃ p xs k j, x = .ref p ∧ y = .int k ∧ H3 p = some (.lst xs) ∧ ixN xs.length k = some j ∧ D.nx σ (upd H3 p (.lst (xs.set j v))))
    (ha : ∀ v, assign (.Subscript o i p0) X.env v = (do
      let ov ← holding [v] (eval o X.env)
      let iv ← holding [v, ov] (eval i X.env)
      standAt p0
      holding [v, ov, iv] (setItem ov iv v)
      release [v, ov, iv] []) := by intro _; with_unfolding_all rfl)
    (hs : swapsWithSole [.Subscript o i p0] e pos.line X.env = pure false := by with_unfolding_all rfl) (hw : swappedStores [.Subscript o i p0] e X.env = pure none := by with_unfolding_all rfl)
    (h1 : (assignEach [.Subscript o i p0] X.env).map (·.2) = [assign (.Subscript o i p0) X.env] := by with_unfolding_all rfl) : RS X (.Assign [.Subscript o i p0] e pos) D σ H :=
  rs_of (ps_asg PE.self (pg_sub PE.self PE.self set_list ha) hs hw h1) q
/-- a, b = e1, e2 (two local names) -/
theorem rs_par (c : Ctx X N L k) {x y : Str} {a b : Expr} {px py pt : Pos} {kt k2 pt2} (hx : (x, KN.loc) ∈ L) (hy : (y, KN.loc) ∈ L) (mx : x ∈ N) (my : y ∈ N) (hxy : x ≠ y)
    (q : RA X [a, b] σ H fun vs H1 => ∃ v w σ' σ'', vs = [v, w] ∧ Put N σ x v σ' ∧ Put N σ' y w σ'' ∧ D.nx σ'' H1)
    (hw : swappedStores [.Tuple [.Name x px, .Name y py] kt pt] (.Tuple [a, b] k2 pt2) X.env = pure (some [x, y]) := by with_unfolding_all rfl)
    (hs : swapsWithSole [.Tuple [.Name x px, .Name y py] kt pt] (.Tuple [a, b] k2 pt2) pos.line X.env = pure false := by with_unfolding_all rfl) :
    RS X (.Assign [.Tuple [.Name x px, .Name y py] kt pt] (.Tuple [a, b] k2 pt2) pos) D σ H := by
  obtain ⟨i, h1, h2⟩ := c.put mx
  obtain ⟨j, h3, h4⟩ := c.put my
  have hij : i ≠ j := fun e => hxy (by rw [e, h3] at h1; exact (Option.some.inj h1).symm)
  refine rs_of (ps_par (i := i) (j := j) c.calm c.nodup h1 h3 hij (c.lcl hx) (c.lcl hy) PA.self hw hs) ?_
  refine (ra_mono q fun vs H1 ⟨v, w, σ', σ'', e, p1, p2, d⟩ => ?_)
  rw [h4 p2, h2 p1] at d
  exact ⟨v, w, e, d⟩
end
end GT
namespace GT
open PySem PySem.Spec PyProof.Rows L2
section
variable {X : Cx} {σ : L2.St} {H : Hp} {N : List Str} {L : List (Str × KN)} {k : Nat} {pos p0 p1 p2 : Pos} {Q : VK} {D : Ends}
/-! ### calls of builtins -/
structure ClV (X : Cx) (f : Value) (vs : List V) (H : Hp) (Q : VK) : Prop where
  ex : ∃ r, CallR X f r ∧ r vs H Q
theorem ClR.self {f : Value} : CallR X f (ClV X f) := fun pins s σ H xs us Q I r h => by
  obtain ⟨r', hr, q⟩ := h.ex
  exact hr pins s σ H xs us Q I r q
theorem re_callB (c : Ctx X N L k) {x : Str} {id : String} {e : Expr} {es : List Expr} (h : (x, KN.glob) ∈ L) (hm : X.mg x = none) (hv : bootBuiltins x = some (.builtin id)) (q : RA X (e :: es) σ H fun vs H1 => ClV X (.builtin id) vs H1 Q)
    (he : starEach (e :: es) X.env = (false, eval e X.env) :: starEach es X.env := by with_unfolding_all rfl) (hpl : (backTo pos (starEach es X.env)).any (·.1) = false := by with_unfolding_all rfl) : RE X (.Call (.Name x p0) (e :: es) [] pos) σ H Q :=
  re_of (pe_callB ClR.self (c.gl h) hm hv PA.self (c.d3 h) (c.d1 h) he hpl) q
theorem re_callT (c : Ctx X N L k) {x : Str} {T : String} {e : Expr} {es : List Expr} (h : (x, KN.glob) ∈ L) (hm : X.mg x = none) (hv : bootBuiltins x = some (.type T)) (q : RA X (e :: es) σ H fun vs H1 => ClV X (.type T) vs H1 Q)
    (he : starEach (e :: es) X.env = (false, eval e X.env) :: starEach es X.env := by with_unfolding_all rfl) (hpl : (backTo pos (starEach es X.env)).any (·.1) = false := by with_unfolding_all rfl) : RE X (.Call (.Name x p0) (e :: es) [] pos) σ H Q :=
  re_of (pe_callTy ClR.self (c.gl h) hm hv PA.self (c.d3 h) (c.d1 h) he hpl) q
variable {i j : Int} {z w : Str} {x y : V} {p : Addr} {xs ys : List V}
theorem lv_abs (q : Q (.int (if i < 0 then -i else i)) H) : ClV X (.builtin "abs") [.int i] H Q := ⟨⟨_, call_abs, i, rfl, q⟩⟩
theorem lv_max (hc : X.calm = true) (q : Q (.int (if j > i then j else i)) H) : ClV X (.builtin "max") [.int i, .int j] H Q := ⟨⟨_, call_max2 hc, i, j, rfl, q⟩⟩
theorem lv_min (hc : X.calm = true) (q : Q (.int (if j < i then j else i)) H) : ClV X (.builtin "min") [.int i, .int j] H Q := ⟨⟨_, call_min2 hc, i, j, rfl, q⟩⟩
theorem lv_int (q : Q (.int i) H) : ClV X (.type "int") [.int i] H Q := ⟨⟨_, call_int1, .inl ⟨i, rfl, q⟩⟩⟩
theorem lv_lenL (h : SqL X.K H p xs) (q : Q (.int xs.length) H) : ClV X (.builtin "len") [.ref p] H Q := ⟨⟨_, call_len_seq, p, xs, rfl, .inl h, q⟩⟩
theorem lv_lenT (h : SqT X.K H p xs) (q : Q (.int xs.length) H) : ClV X (.builtin "len") [.ref p] H Q := ⟨⟨_, call_len_seq, p, xs, rfl, .inr h, q⟩⟩
theorem lv_lenS (h : z.length ≤ sizeLine) (q : Q (.int z.length) H) : ClV X (.builtin "len") [.str z] H Q := ⟨⟨_, call_len_str, z, rfl, h, q⟩⟩
theorem lv_isi {t u : Value} {b : Bool} (k : ClsV y u) (ty : TyX X.K H x t) (e : PySem.W.kitOne X.K t u = some b) (q : Q (.bl b) H) : ClV X (.builtin "isinstance") [x, y] H Q := ⟨⟨_, call_isi, x, y, t, u, b, rfl, k, ty, e, q⟩⟩
theorem lv_isiT {t : Value} {us : List Value} {b : Bool} {tp : Addr} {cs : List V} (h : H tp = some (.tup cs)) (k : Paired ClsV cs us) (ty : TyX X.K H x t) (e : PySem.W.kitAny X.K t us = some b) (q : Q (.bl b) H) : ClV X (.builtin "isinstance") [x, .ref tp] H Q :=
  ⟨⟨_, call_isiT, x, tp, cs, t, us, b, rfl, h, k, ty, e, q⟩⟩
theorem lv_tupL (h : SqL X.K H p xs) (q : ∀ l, H l = none → Q (.ref l) (upd H l (.tup xs))) : ClV X (.type "tuple") [.ref p] H Q := ⟨⟨_, call_tuple_of, p, xs, rfl, .inl ⟨h, q⟩⟩⟩
theorem lv_listL (h : SqL X.K H p xs ∨ SqT X.K H p xs) (q : ∀ l, H l = none → Q (.ref l) (upd H l (.lst xs))) : ClV X (.type "list") [.ref p] H Q := ⟨⟨_, call_list_of, p, xs, rfl, h, q⟩⟩
theorem re_c_len (c : Ctx X N L k) {e : Expr} {es : List Expr} (h : (("len" : Str), KN.glob) ∈ L) (hm : X.mg "len" = none) (q : RA X (e :: es) σ H fun vs H1 => ClV X (.builtin "len") vs H1 Q)
    (he : starEach (e :: es) X.env = (false, eval e X.env) :: starEach es X.env := by with_unfolding_all rfl) (hpl : (backTo pos (starEach es X.env)).any (·.1) = false := by with_unfolding_all rfl) : RE X (.Call (.Name "len" p0) (e :: es) [] pos) σ H Q := re_callB c h hm (by decide +kernel) q he hpl
theorem re_c_abs (c : Ctx X N L k) {e : Expr} {es : List Expr} (h : (("abs" : Str), KN.glob) ∈ L) (hm : X.mg "abs" = none) (q : RA X (e :: es) σ H fun vs H1 => ClV X (.builtin "abs") vs H1 Q)
    (he : starEach (e :: es) X.env = (false, eval e X.env) :: starEach es X.env := by with_unfolding_all rfl) (hpl : (backTo pos (starEach es X.env)).any (·.1) = false := by with_unfolding_all rfl) : RE X (.Call (.Name "abs" p0) (e :: es) [] pos) σ H Q := re_callB c h hm (by decide +kernel) q he hpl
theorem re_c_min (c : Ctx X N L k) {e : Expr} {es : List Expr} (h : (("min" : Str), KN.glob) ∈ L) (hm : X.mg "min" = none) (q : RA X (e :: es) σ H fun vs H1 => ClV X (.builtin "min") vs H1 Q)
    (he : starEach (e :: es) X.env = (false, eval e X.env) :: starEach es X.env := by with_unfolding_all rfl) (hpl : (backTo pos (starEach es X.env)).any (·.1) = false := by with_unfolding_all rfl) : RE X (.Call (.Name "min" p0) (e :: es) [] pos) σ H Q := re_callB c h hm (by decide +kernel) q he hpl
theorem re_c_max (c : Ctx X N L k) {e : Expr} {es : List Expr} (h : (("max" : Str), KN.glob) ∈ L) (hm : X.mg "max" = none) (q : RA X (e :: es) σ H fun vs H1 => ClV X (.builtin "max") vs H1 Q)
    (he : starEach (e :: es) X.env = (false, eval e X.env) :: starEach es X.env := by with_unfolding_all rfl) (hpl : (backTo pos (starEach es X.env)).any (·.1) = false := by with_unfolding_all rfl) : RE X (.Call (.Name "max" p0) (e :: es) [] pos) σ H Q := re_callB c h hm (by decide +kernel) q he hpl
theorem re_c_isinstance (c : Ctx X N L k) {e : Expr} {es : List Expr} (h : (("isinstance" : Str), KN.glob) ∈ L) (hm : X.mg "isinstance" = none) (q : RA X (e :: es) σ H fun vs H1 => ClV X (.builtin "isinstance") vs H1 Q)
    (he : starEach (e :: es) X.env = (false, eval e X.env) :: starEach es X.env := by with_unfolding_all rfl) (hpl : (backTo pos (starEach es X.env)).any (·.1) = false := by with_unfolding_all rfl) : RE X (.Call (.Name "isinstance" p0) (e :: es) [] pos) σ H Q := re_callB c h hm (by decide +kernel) q he hpl
theorem re_c_sorted (c : Ctx X N L k) {e : Expr} {es : List Expr} (h : (("sorted" : Str), KN.glob) ∈ L) (hm : X.mg "sorted" = none) (q : RA X (e :: es) σ H fun vs H1 => ClV X (.builtin "sorted") vs H1 Q)
    (he : starEach (e :: es) X.env = (false, eval e X.env) :: starEach es X.env := by with_unfolding_all rfl) (hpl : (backTo pos (starEach es X.env)).any (·.1) = false := by with_unfolding_all rfl) : RE X (.Call (.Name "sorted" p0) (e :: es) [] pos) σ H Q := re_callB c h hm (by decide +kernel) q he hpl
theorem re_c_int (c : Ctx X N L k) {e : Expr} {es : List Expr} (h : (("int" : Str), KN.glob) ∈ L) (hm : X.mg "int" = none) (q : RA X (e :: es) σ H fun vs H1 => ClV X (.type "int") vs H1 Q)
    (he : starEach (e :: es) X.env = (false, eval e X.env) :: starEach es X.env := by with_unfolding_all rfl) (hpl : (backTo pos (starEach es X.env)).any (·.1) = false := by with_unfolding_all rfl) : RE X (.Call (.Name "int" p0) (e :: es) [] pos) σ H Q := re_callT c h hm (by decide +kernel) q he hpl
theorem re_c_tuple (c : Ctx X N L k) {e : Expr} {es : List Expr} (h : (("tuple" : Str), KN.glob) ∈ L) (hm : X.mg "tuple" = none) (q : RA X (e :: es) σ H fun vs H1 => ClV X (.type "tuple") vs H1 Q)
    (he : starEach (e :: es) X.env = (false, eval e X.env) :: starEach es X.env := by with_unfolding_all rfl) (hpl : (backTo pos (starEach es X.env)).any (·.1) = false := by with_unfolding_all rfl) : RE X (.Call (.Name "tuple" p0) (e :: es) [] pos) σ H Q := re_callT c h hm (by decide +kernel) q he hpl
theorem re_c_list (c : Ctx X N L k) {e : Expr} {es : List Expr} (h : (("list" : Str), KN.glob) ∈ L) (hm : X.mg "list" = none) (q : RA X (e :: es) σ H fun vs H1 => ClV X (.type "list") vs H1 Q)
    (he : starEach (e :: es) X.env = (false, eval e X.env) :: starEach es X.env := by with_unfolding_all rfl) (hpl : (backTo pos (starEach es X.env)).any (·.1) = false := by with_unfolding_all rfl) : RE X (.Call (.Name "list" p0) (e :: es) [] pos) σ H Q := re_callT c h hm (by decide +kernel) q he hpl
theorem re_c_str (c : Ctx X N L k) {e : Expr} {es : List Expr} (h : (("str" : Str), KN.glob) ∈ L) (hm : X.mg "str" = none) (q : RA X (e :: es) σ H fun vs H1 => ClV X (.type "str") vs H1 Q)
    (he : starEach (e :: es) X.env = (false, eval e X.env) :: starEach es X.env := by with_unfolding_all rfl) (hpl : (backTo pos (starEach es X.env)).any (·.1) = false := by with_unfolding_all rfl) : RE X (.Call (.Name "str" p0) (e :: es) [] pos) σ H Q := re_callT c h hm (by decide +kernel) q he hpl
theorem re_ty_int (c : Ctx X N L k) (h : (("int" : Str), KN.glob) ∈ L) (hm : X.mg "int" = none) (q : Q (.ty "int") H) : RE X (.Name "int" pos) σ H Q := re_bltn (v := .ty "int") (u := .type "int") c h hm (by decide +kernel) rfl q
theorem re_ty_bool (c : Ctx X N L k) (h : (("bool" : Str), KN.glob) ∈ L) (hm : X.mg "bool" = none) (q : Q (.ty "bool") H) : RE X (.Name "bool" pos) σ H Q := re_bltn (v := .ty "bool") (u := .type "bool") c h hm (by decide +kernel) rfl q
theorem re_ty_str (c : Ctx X N L k) (h : (("str" : Str), KN.glob) ∈ L) (hm : X.mg "str" = none) (q : Q (.ty "str") H) : RE X (.Name "str" pos) σ H Q := re_bltn (v := .ty "str") (u := .type "str") c h hm (by decide +kernel) rfl q
theorem re_ty_tuple (c : Ctx X N L k) (h : (("tuple" : Str), KN.glob) ∈ L) (hm : X.mg "tuple" = none) (q : Q (.ty "tuple") H) : RE X (.Name "tuple" pos) σ H Q := re_bltn (v := .ty "tuple") (u := .type "tuple") c h hm (by decide +kernel) rfl q
theorem re_ty_list (c : Ctx X N L k) (h : (("list" : Str), KN.glob) ∈ L) (hm : X.mg "list" = none) (q : Q (.ty "list") H) : RE X (.Name "list" pos) σ H Q := re_bltn (v := .ty "list") (u := .type "list") c h hm (by decide +kernel) rfl q
theorem re_ty_ValueError (c : Ctx X N L k) (h : (("ValueError" : Str), KN.glob) ∈ L) (hm : X.mg "ValueError" = none) (q : Q (.ty "ValueError") H) : RE X (.Name "ValueError" pos) σ H Q := re_bltn (v := .ty "ValueError") (u := .type "ValueError") c h hm (by decide +kernel) rfl q
/-! ### slices -/
theorem SlR.self : SlR X (SlV X) := by
  intro pins s σ H x v vl vu lo hi sl Q I rx hs h1 h2 h
  obtain ⟨r, hr, q⟩ := h.ex
  exact hr pins s σ H x v vl vu lo hi sl Q I rx hs h1 h2 q
theorem PO.self {e : Option Expr} : PO X e (RO X e) := ⟨fun pins s σ H Q I h => by obtain ⟨t, ht, q⟩ := h.ex; exact ht.run pins s σ H Q I q⟩
theorem ro_none {Q : Option Int → Hp → Prop} (q : Q none H) : RO X none σ H Q := ⟨⟨_, po_none, q⟩⟩
theorem ro_some {e : Expr} {Q : Option Int → Hp → Prop} (q : RE X e σ H fun x H1 => ∃ i, x = .int i ∧ Q (some i) H1) : RO X (some e) σ H Q := ⟨⟨_, po_some PE.self, q⟩⟩
theorem re_slice {e : Expr} {lo hi : Option Expr} (q : RE X e σ H fun x H1 => RO X lo σ H1 fun a H2 => RO X hi σ H2 fun b H3 => SlV X x a b H3 Q) : RE X (.Subscript e (.Slice lo hi none p2) pos) σ H Q := re_of (pe_slice SlR.self PE.self PO.self PO.self) q
theorem sv_str {a b : Option Int} (h : z.length ≤ sizeLine) (q : Q (.str (cutS z a b)) H) : SlV X (.str z) a b H Q := ⟨⟨_, sl_str, z, rfl, h, q⟩⟩
theorem sv_list {a b : Option Int} (h : SqL X.K H p xs) (q : ∀ l, H l = none → Q (.ref l) (upd H l (.lst (cutV xs a b)))) : SlV X (.ref p) a b H Q := ⟨⟨_, sl_list, p, xs, rfl, h, q⟩⟩
/-! ### lists -/
theorem ov_cat {b : Addr} (h1 : H p = some (.lst xs)) (h2 : H b = some (.lst ys)) (hl : xs.length + ys.length ≤ sizeLine) (q : ∀ l, H l = none → Q (.ref l) (upd H l (.lst (xs ++ ys)))) : OpV X .Add (.ref p) (.ref b) H Q := ⟨⟨_, op_cat, p, b, xs, ys, rfl, rfl, h1, h2, hl, q⟩⟩
theorem ov_rep {n : Int} (h1 : H p = some (.lst xs)) (h2 : -(2 ^ 63) ≤ n) (h3 : n < 2 ^ 63) (hl : xs.length * n.toNat ≤ sizeLine) (q : ∀ l, H l = none → Q (.ref l) (upd H l (.lst (List.replicate n.toNat xs).flatten))) : OpV X .Mult (.ref p) (.int n) H Q :=
  ⟨⟨_, op_rep, p, n, xs, rfl, rfl, h1, h2, h3, hl, q⟩⟩
theorem ov_catT {b : Addr} (h1 : SqT X.K H p xs) (h2 : SqT X.K H b ys) (hl : xs.length + ys.length ≤ sizeLine) (qa : xs = [] → Q (.ref b) H) (qb : xs ≠ [] → ys = [] → Q (.ref p) H) (q : xs ≠ [] → ys ≠ [] → ∀ l, H l = none → Q (.ref l) (upd H l (.tup (xs ++ ys)))) :
    OpV X .Add (.ref p) (.ref b) H Q := ⟨⟨_, op_catA, p, b, xs, ys, rfl, rfl, h1, h2, hl, qa, qb, q⟩⟩
/-- xs.append(e) -/
theorem re_append {o e : Expr} {apos : Pos} (q : RE X o σ H fun x H1 => ∃ l xs, x = .ref l ∧ H1 l = some (.lst xs) ∧ RE X e σ H1 fun y H2 => ∃ xs', H2 l = some (.lst xs') ∧ xs'.length < sizeLine ∧ Q .non (upd H2 l (.lst (xs' ++ [y]))))
    (hbase : attributeBase o "append" X.env (eval o X.env) = eval o X.env := by with_unfolding_all rfl)
    (hfew : ((backTo pos (starEach [e] X.env)).all (fun x => !x.1) && (backToKw pos (keywordEach [] X.env)).all (fun x => x.1.isSome) && decide (([e] : List Expr).length + ([] : List Keyword).length + (if ([] : List Keyword).isEmpty then 0 else 1) < 30)) = true := by with_unfolding_all rfl)
    (hline : (apos.endLine == pos.line) = true := by with_unfolding_all rfl) (hs : starEach [e] X.env = (false, eval e X.env) :: starEach [] X.env := by with_unfolding_all rfl) (hplain : (backTo pos (starEach [] X.env)).any (·.1) = false := by with_unfolding_all rfl) :
    RE X (.Call (.Attribute o "append" apos) [e] [] pos) σ H Q := by
  refine re_of (pe_bm PySem.F.plainAttrs_list PySem.F.slot_list_append PySem.F.type_list_append mt_append PE.self PA.self hbase hfew hline hs hplain) ?_
  refine pe_mono q fun x H1 ⟨l, xs, e1, h1, q1⟩ => ?_
  subst e1
  refine ⟨.inl ⟨rfl, _, SqL.of h1⟩, ra_cons (pe_mono q1 fun y H2 ⟨xs', h2, h3, q2⟩ => ra_nil ⟨l, xs', y, rfl, rfl, h2, h3, q2⟩) hs⟩
/-- ''.join(e) -/
theorem re_join {o e : Expr} {apos : Pos} (q : RE X o σ H fun x H1 => ∃ a, x = .str a ∧ RE X e σ H1 fun y H2 => ∃ p, ∃ ys : List Str, y = .ref p ∧ (SqL X.K H2 p (ys.map V.str) ∨ SqT X.K H2 p (ys.map V.str)) ∧ (ys.map (·.length)).sum + ys.length * a.length ≤ 16777216 ∧ Q (.str (Txt.join a ys)) H2)
    (hs : starEach [e] X.env = [(false, eval e X.env)] := by with_unfolding_all rfl) (hbase : attributeBase o "join" X.env (eval o X.env) = eval o X.env := by with_unfolding_all rfl) (hline : (apos.endLine == pos.line) = true := by with_unfolding_all rfl) :
    RE X (.Call (.Attribute o "join" apos) [e] [] pos) σ H Q := by
  refine re_of (pe_join PE.self PE.self hs hbase hline) ?_
  refine pe_mono q fun x H1 ⟨a, e1, q1⟩ => ⟨⟨a, e1⟩, pe_mono q1 fun y H2 ⟨p, ys, e2, h2, h3, q2⟩ => ?_⟩
  exact ⟨a, p, ys, e1, by rw [e2], h2, h3, q2⟩
/-! ### calls of the program's own defs -/
/-- a def that stands in the module: its promise, at most so many calls deep -/
structure DefP (P : Program) (wd : World) (K : PySem.W.Frag) (mg : Str → Option Value) (base : Heap) (CXs : CXT) (x : Str) (ps : List Str) (k : Nat) (sp : Sp) : Prop where
  ex : ∃ f fd, FnOk P wd K mg base CXs k f fd ps sp ∧ mg x = some (.ref f) ∧ PySem.W.keepIn K (.ref f) = true ∧ Binds K fd ps []
theorem re_call (c : Ctx X N L k) {x : Str} {ps : List Str} {n : Nat} {sp : Sp} {e : Expr} {es : List Expr} (F : DefP X.prog X.w X.K X.mg X.base CX0 x ps n sp) (hn : n ≤ k) (h : (x, KN.glob) ∈ L) (q : RA X (e :: es) σ H fun vs H1 => sp vs H1 Q E0)
    (he : starEach (e :: es) X.env = (false, eval e X.env) :: starEach es X.env := by with_unfolding_all rfl) (hpl : (backTo pos (starEach es X.env)).any (·.1) = false := by with_unfolding_all rfl) : RE X (.Call (.Name x p0) (e :: es) [] pos) σ H Q := by
  obtain ⟨f, fd, F1, m, kp, b⟩ := F.ex
  refine re_of (pe_call F1 (c.room.mono hn) (c.gl h) m kp b .nil pass0 PA.self (c.d1 h) he hpl) ?_
  exact ra_mono q fun vs H1 d => by rw [List.append_nil]; exact d
/-! ### for -/
theorem Ctx.pg (c : Ctx X N L k) {x : Str} {j : KN} (h : (x, j) ∈ L) (m : Own j) (hx : x ∈ N) : ∃ i : Nat, PG X (.Name x p0) (gName i) ∧ ∀ {σ σ' : L2.St} {v : V}, Put N σ x v σ' → σ' = σ.set i (some v) := by
  obtain ⟨i, h1, h2⟩ := c.put hx
  exact ⟨i, pg_name c.nodup h1 (c.loc h m) (c.fn h m), h2⟩
/-- what a loop over xs asks: the invariant Pv by the turn -/
def Turns (X : Cx) (N : List Str) (x : Str) (body : List Stmt) (D : Ends) (stand : Hp → Prop) (n : Nat) (it : Nat → V → Prop) (σ : L2.St) (H : Hp) : Prop :=
  ∃ Pv : Nat → L2.St → Hp → Prop, Pv 0 σ H ∧ (∀ i σ H, i ≤ n → Pv i σ H → stand H) ∧
    (∀ i y σ H, i < n → it i y → Pv i σ H → ∃ σ', Put N σ x y σ' ∧ RB X body { D with nx := Pv (i + 1), ct := Pv (i + 1), bk := D.nx } σ' H) ∧ (∀ σ H, Pv n σ H → D.nx σ H)
theorem rs_for_list (c : Ctx X N L k) {x : Str} {l : Expr} {body : List Stmt} {j : KN} (h : (x, j) ∈ L) (m : Own j) (hx : x ∈ N)
    (q : RE X l σ H fun v H1 => ∃ a xs, v = .ref a ∧ SqL X.K H1 a xs ∧ Turns X N x body D (fun H => SqL X.K H a xs) xs.length (fun i y => xs[i]? = some y) σ H1)
    (hs : ∀ x, foldedSetIterable l X.env x = pure x := by intro _; with_unfolding_all rfl) : RS X (.For (.Name x p0) l body [] pos) D σ H := by
  obtain ⟨i, g, h2⟩ := c.pg (p0 := p0) h m hx
  refine rs_of (ps_for c.po c.calm (pi_list PE.self) g PSs.self hs) (pe_mono q fun v H1 ⟨a, xs, e, hq, Pv, p1, p2, p3, p4⟩ => ⟨a, e, ⟨xs, hq⟩, ?_⟩)
  refine for_list (K := X.K) (a := a) (xs := xs) Pv p1 p2 (fun i y σ H e p => ?_) p4
  obtain ⟨σ', hp, r⟩ := p3 i y σ H (by rcases Nat.lt_or_ge i xs.length with z | z; exact z; rw [List.getElem?_eq_none z] at e; cases e) e p
  rw [h2 hp] at r
  exact r
theorem rs_for_tup (c : Ctx X N L k) {x : Str} {l : Expr} {body : List Stmt} {j : KN} (h : (x, j) ∈ L) (m : Own j) (hx : x ∈ N)
    (q : RE X l σ H fun v H1 => ∃ a xs, v = .ref a ∧ SqT X.K H1 a xs ∧ Turns X N x body D (fun H => SqT X.K H a xs) xs.length (fun i y => xs[i]? = some y) σ H1)
    (hs : ∀ x, foldedSetIterable l X.env x = pure x := by intro _; with_unfolding_all rfl) : RS X (.For (.Name x p0) l body [] pos) D σ H := by
  obtain ⟨i, g, h2⟩ := c.pg (p0 := p0) h m hx
  refine rs_of (ps_for c.po c.calm (pi_tup PE.self) g PSs.self hs) (pe_mono q fun v H1 ⟨a, xs, e, hq, Pv, p1, p2, p3, p4⟩ => ⟨a, e, ⟨xs, hq⟩, ?_⟩)
  refine for_tup (K := X.K) (a := a) (xs := xs) Pv p1 p2 (fun i y σ H e p => ?_) p4
  obtain ⟨σ', hp, r⟩ := p3 i y σ H (by rcases Nat.lt_or_ge i xs.length with z | z; exact z; rw [List.getElem?_eq_none z] at e; cases e) e p
  rw [h2 hp] at r
  exact r
theorem rs_for_range (c : Ctx X N L k) {x : Str} {e : Expr} {body : List Stmt} {j : KN} (h : (x, j) ∈ L) (m : Own j) (hx : x ∈ N) (hg : (("range" : Str), KN.glob) ∈ L) (hm : X.mg "range" = none)
    (q : RE X e σ H fun v H1 => ∃ n : Int, v = .int n ∧ -(2 ^ 62) ≤ n ∧ n < 2 ^ 62 ∧ Turns X N x body D (fun _ => True) n.toNat (fun i y => y = .int i) σ H1)
    (hs : ∀ x, foldedSetIterable (.Call (.Name "range" p1) [e] [] p2) X.env x = pure x := by intro _; with_unfolding_all rfl) (hsE : starEach [e] X.env = [(false, eval e X.env)] := by with_unfolding_all rfl) : RS X (.For (.Name x p0) (.Call (.Name "range" p1) [e] [] p2) body [] pos) D σ H := by
  obtain ⟨i, g, h2⟩ := c.pg (p0 := p0) h m hx
  refine rs_of (ps_for c.po c.calm (pi_range1 (c.gl hg) hm PA.self hsE) g PSs.self hs) ?_
  refine ra_cons (pe_mono q fun v H1 ⟨n, e, n1, n2, Pv, p1, _, p3, p4⟩ => ra_nil ⟨n, by rw [e], n1, n2, ?_⟩) hsE
  refine for_range (lo := 0) (n := n.toNat) Pv p1 (fun i σ H e p => ?_) p4
  obtain ⟨σ', hp, r⟩ := p3 i (.int (0 + i)) σ H e (by simp) p
  rw [h2 hp] at r
  exact r
/-- for x, y in zip(a, b), both lists or both tuples, of one length -/
theorem rs_for_zip (c : Ctx X N L k) {x y : Str} {e1 e2 : Expr} {body : List Stmt} {j j' : KN} {kt : Nat} {q0 q1 q2 : Pos} (h : (x, j) ∈ L) (m : Own j) (hx : x ∈ N) (h' : (y, j') ∈ L) (m' : Own j') (hy : y ∈ N) (hg : (("zip" : Str), KN.glob) ∈ L) (hm : X.mg "zip" = none)
    (q : RA X [e1, e2] σ H fun vs H1 => ∃ a b xs ys, vs = [.ref a, .ref b] ∧ xs.length = ys.length ∧ ∃ Sq : Hp → Addr → List V → Prop, (Sq = (fun H => SqL X.K H) ∨ Sq = fun H => SqT X.K H) ∧ Sq H1 a xs ∧ Sq H1 b ys ∧ ∃ Pv : Nat → L2.St → Hp → Prop, Pv 0 σ H1 ∧ (∀ i σ H, Pv i σ H → Sq H a xs ∧ Sq H b ys) ∧
      (∀ i u v σ H T, xs[i]? = some u → ys[i]? = some v → Pv i σ H → H T = none → ∃ σ' σ'', Put N σ x u σ' ∧ Put N σ' y v σ'' ∧ RB X body { D with nx := Pv (i + 1), ct := Pv (i + 1), bk := D.nx } σ'' (upd H T (.tup [u, v]))) ∧ (∀ σ H, Pv xs.length σ H → D.nx σ H))
    (hs : ∀ x, foldedSetIterable (.Call (.Name "zip" p1) [e1, e2] [] p2) X.env x = pure x := by intro _; with_unfolding_all rfl) (he : starEach [e1, e2] X.env = (false, eval e1 X.env) :: starEach [e2] X.env := by with_unfolding_all rfl) (hpl : (backTo p2 (starEach [e2] X.env)).any (·.1) = false := by with_unfolding_all rfl)
    (hn : (assignEach [.Name x q0, .Name y q1] X.env).length = 2 := by with_unfolding_all rfl) (hst : (assignEach [.Name x q0, .Name y q1] X.env).findIdx? (·.1) = none := by with_unfolding_all rfl)
    (ha : (assignEach [.Name x q0, .Name y q1] X.env).map (·.2) = assign (.Name x q0) X.env :: (assignEach [.Name y q1] X.env).map (·.2) := by with_unfolding_all rfl) (hb : (assignEach [.Name y q1] X.env).map (·.2) = assign (.Name y q1) X.env :: (assignEach [] X.env).map (·.2) := by with_unfolding_all rfl) :
    RS X (.For (.Tuple [.Name x q0, .Name y q1] kt q2) (.Call (.Name "zip" p1) [e1, e2] [] p2) body [] pos) D σ H := by
  obtain ⟨i, g, h2⟩ := c.pg (p0 := q0) h m hx
  obtain ⟨i', g', h2'⟩ := c.pg (p0 := q1) h' m' hy
  refine rs_of (ps_for c.po c.calm (RZ.pi_zipA (c.gl hg) hm PA.self he hpl) (pg_tup (n := 2) c.calm (pgs_cons g (pgs_cons g' pgs_nil hb) ha) hn hst) PSs.self hs) ?_
  refine ra_mono q fun vs H1 ⟨a, b, xs, ys, e, hl, Sq, hS, s1, s2, Pv, p1, p2, p3, p4⟩ => ⟨a, b, xs, ys, e, ?_⟩
  have step : ∀ (i : Nat) (u v : V) (T : Addr) (σ : L2.St) (H : Hp), xs[i]? = some u → ys[i]? = some v → Pv i σ H → H T = none → gTup X.K 2 (gCons (gName _) (gCons (gName _) gNil)) (.ref T) σ (upd H T (.tup [u, v])) fun σ2 H2 => RB X body { D with nx := Pv (i + 1), ct := Pv (i + 1), bk := D.nx } σ2 H2 := fun i u v T σ H e1 e2 p hT => by
    obtain ⟨σ', σ'', a1, a2, r⟩ := p3 i u v σ H T e1 e2 p hT
    rw [h2' a2, h2 a1] at r
    exact ⟨T, _, rfl, SqT.of upd_same, rfl, _, _, rfl, _, _, rfl, rfl, r⟩
  rcases hS with rfl | rfl
  · exact .inl ⟨s1, s2, RZ.for_zipL hl Pv p1 p2 step p4⟩
  · exact .inr ⟨s1, s2, RZ.for_zipT hl Pv p1 p2 step p4⟩
end
end GT
namespace GT
open PySem PySem.Spec PyProof.Rows L2
section
variable {X : Cx} {σ : L2.St} {H : Hp} {N : List Str} {L Lc : List (Str × KN)} {k : Nat} {pos p0 p1 p2 : Pos} {Q : VK} {D : Ends} {scope : Scope}
/-! ### comprehensions -/
structure RTs (X : Cx) (ifs : List Expr) (σ : L2.St) (H : Hp) (Q : Bool → Hp → Prop) : Prop where
  ex : ∃ t, PTs X ifs t ∧ t σ H Q
theorem PTs.self {ifs : List Expr} : PTs X ifs (RTs X ifs) := ⟨fun pins s σ H Q I h => by obtain ⟨t, ht, q⟩ := h.ex; exact ht.run pins s σ H Q I q⟩
theorem rts_nil {Q : Bool → Hp → Prop} (q : Q true H) : RTs X [] σ H Q := ⟨⟨_, pts_nil, q⟩⟩
theorem rts_one {t : Expr} {Q : Bool → Hp → Prop} (q : RT X t σ H Q) : RTs X [t] σ H Q := ⟨⟨_, pts_one PT.self, q⟩⟩
/-- what is known of a comprehension's own scope -/
structure Scp (scope : Scope) (Lc : List (Str × KN)) : Prop where
  names : ∀ p ∈ Lc, p ∈ knAll scope.names
  lnd : (scope.names.map (·.1)).Nodup
  dbg : ∀ p ∈ Lc, okName p.1 = true
  kind : scope.kind = .function
/-- a comprehension over x, within names N whose kinds are told by L; Lc tells its own -/
def lcOk (N : List Str) (L : List (Str × KN)) (scope : Scope) (Lc : List (Str × KN)) (x : Str) : Bool :=
  decide (scope.kind = .function) && (Lc.all fun p => decide (p ∈ knAll scope.names)) && decide (scope.names.map (·.1)).Nodup && (Lc.all fun p => okName p.1) &&
    (scope.names.all fun y => !decide (y.2 = .free) || (decide ((y.1, KN.cell) ∈ L) || decide ((y.1, KN.cap) ∈ L))) &&
    (scope.names.all fun y => !(decide (y.2 = .local) || decide (y.2 = .cell)) || (decide (y.1 = x) || !decide (y.1 ∈ N))) && decide (x ∈ N) && decide ((x, KN.loc) ∈ Lc)
theorem lcOk_of {x : Str} (c : Ctx X N L k) (h : lcOk N L scope Lc x = true) : Scp scope Lc ∧ x ∈ N ∧ (x, KN.loc) ∈ Lc ∧ ∀ i : Nat, N[i]? = some x → BlkOk N X.env.scope scope [(x, i)] := by
  unfold lcOk at h
  simp only [Bool.and_eq_true, Bool.or_eq_true, Bool.not_eq_true', decide_eq_true_eq, decide_eq_false_iff_not, List.all_eq_true] at h
  obtain ⟨⟨⟨⟨⟨⟨⟨h1, h2⟩, h3⟩, h4⟩, h5⟩, h6⟩, h7⟩, h8⟩ := h
  refine ⟨⟨h2, h3, h4, h1⟩, h7, h8, fun i hi => ⟨h1, fun y hy => lookup_mem h3 hy, fun p hp => ?_, fun y hy e => ?_, fun y hy e => ?_⟩⟩
  · obtain rfl : p = (x, i) := by simpa using hp
    exact hi
  · rcases h5 y hy with z | z | z
    · exact absurd e z
    · exact .inl (c.look _ z).1
    · exact c.look _ z
  · rcases h6 y hy with z | z | z
    · rcases e with e | e <;> simp [e] at z
    · exact .inl (by simp [z])
    · exact .inr z
theorem relabel_lookup {names : List (Str × NameKind)} {f : NameKind → Bool} {x : Str} {j : NameKind} (g : Str → Bool) (h : names.lookup x = some j) :
    (names.map fun p => if (f p.2 && g p.1) = true then (p.1, NameKind.cell) else p).lookup x = some (if (f j && g x) = true then NameKind.cell else j) := by
  induction names with
  | nil => cases h
  | cons p r ih =>
    obtain ⟨y, i⟩ := p
    rw [List.map_cons]
    by_cases e : x = y
    · subst e
      have e1 : i = j := by simpa [List.lookup] using h
      subst e1
      split <;> simp [List.lookup, *]
    · have hb : (x == y) = false := beq_eq_false_iff_ne.mpr e
      have h' : r.lookup x = some j := by simpa [List.lookup, hb] using h
      have ih' := ih h'
      split
      · simpa [List.lookup, hb] using ih'
      · simpa [List.lookup, hb] using ih'
theorem Ctx.blk (c : Ctx X N L k) (S : Scp scope Lc) (s : Shared) (Hb : Hp) (C : Addr) (cl : List (Str × Addr)) (fp : List Addr) : Ctx (X.blk s Hb scope (compEnvC scope cl C X.env) fp) N Lc k where
  n := c.n
  nd := c.nd
  look := fun p hp => by
    obtain ⟨x, m⟩ := p
    obtain ⟨j, h1, h2⟩ := knAll_mem (S.names _ hp)
    have e := lookup_mem S.lnd h1
    have e2 := relabel_lookup (f := fun k => k == NameKind.free && X.env.scope.kind == .function) (fun n => X.env.kindOf n == some .cell) e
    have e3 : (X.blk s Hb scope (compEnvC scope cl C X.env) fp).env.scope.names.lookup x = some (if ((j == NameKind.free && X.env.scope.kind == .function) && X.env.kindOf x == some .cell) = true then NameKind.cell else j) := e2
    cases j <;> simp only [knOf] at h2 <;> cases h2
    · exact e3
    · refine ⟨e3, ?_⟩
      show (scope.names.lookup x == some .cell) = true
      rw [e]
      rfl
    · show _ ∨ _
      rw [e3]
      split
      · exact .inl rfl
      · exact .inr rfl
    · exact e3
  dbg := S.dbg
  calm := c.calm
  room := c.room
  po := PassesOwn.never
  kind := by
    have e : (compEnvC scope cl C X.env).scope.kind = scope.kind := rfl
    exact e.trans S.kind
def REA (X : Cx) (N : List Str) (Lc : List (Str × KN)) (k : Nat) (scope : Scope) (e : Expr) : TE := fun σ H Q =>
  ∀ (s : Shared) (Hb : Hp) (C : Addr) (cl : List (Str × Addr)) (fp : List Addr), Ctx (X.blk s Hb scope (compEnvC scope cl C X.env) fp) N Lc k → RE (X.blk s Hb scope (compEnvC scope cl C X.env) fp) e σ H Q
def RTA (X : Cx) (N : List Str) (Lc : List (Str × KN)) (k : Nat) (scope : Scope) (ifs : List Expr) : TT := fun σ H Q =>
  ∀ (s : Shared) (Hb : Hp) (C : Addr) (cl : List (Str × Addr)) (fp : List Addr), Ctx (X.blk s Hb scope (compEnvC scope cl C X.env) fp) N Lc k → RTs (X.blk s Hb scope (compEnvC scope cl C X.env) fp) ifs σ H Q
theorem PE.rea (c : Ctx X N L k) (S : Scp scope Lc) {e : Expr} (s : Shared) (Hb : Hp) (C : Addr) (cl : List (Str × Addr)) (fp : List Addr) : PE (X.blk s Hb scope (compEnvC scope cl C X.env) fp) e (REA X N Lc k scope e) :=
  ⟨fun pins s1 σ H Q I h => PE.self.run pins s1 σ H Q I (h s Hb C cl fp (c.blk S s Hb C cl fp))⟩
theorem PTs.rta (c : Ctx X N L k) (S : Scp scope Lc) {ifs : List Expr} (s : Shared) (Hb : Hp) (C : Addr) (cl : List (Str × Addr)) (fp : List Addr) : PTs (X.blk s Hb scope (compEnvC scope cl C X.env) fp) ifs (RTA X N Lc k scope ifs) :=
  ⟨fun pins s1 σ H Q I h => PTs.self.run pins s1 σ H Q I (h s Hb C cl fp (c.blk S s Hb C cl fp))⟩
/-- what a comprehension asks of its turns: y the item, Dn the new list -/
def CTurns (X : Cx) (N : List Str) (Lc : List (Str × KN)) (k : Nat) (scope : Scope) (x : Str) (elt : Expr) (ifs : List Expr) (stand : Hp → Prop) (n : Nat) (it : Nat → V → Prop) (σ : L2.St) (H1 : Hp) (Q : VK) : Prop :=
  ∀ Dn, H1 Dn = none → ∃ Pv : Nat → Hp → Prop, Pv 0 (upd H1 Dn (.lst [])) ∧ (∀ i H, i ≤ n → Pv i H → stand H) ∧
    (∀ i y H2, i < n → it i y → Pv i H2 → ∃ σ', Put N σ x y σ' ∧ RTA X N Lc k scope ifs σ' H2 fun b H3 =>
      if b = true then REA X N Lc k scope elt σ' H3 fun z H4 => ∃ acc, H4 Dn = some (.lst acc) ∧ acc.length < sizeLine ∧ Pv (i + 1) (upd H4 Dn (.lst (acc ++ [z]))) else Pv (i + 1) H3) ∧ ∀ H2, Pv n H2 → Q (.ref Dn) H2
theorem set_back {σ : L2.St} {i : Nat} {v : V} : wipe ((wipe σ [i]).set i (some v)) [i] = wipe σ [i] := by
  show (((σ.set i none).set i (some v)).set i none) = σ.set i none
  rw [List.set_set, List.set_set]
theorem set_on {σ : L2.St} {i : Nat} {v : V} : (wipe σ [i]).set i (some v) = σ.set i (some v) := by
  show ((σ.set i none).set i (some v)) = σ.set i (some v)
  rw [List.set_set]
section
variable {x : Str} {elt : Expr} {ifs : List Expr}
theorem blk_at (c : Ctx X N L k) (S : Scp scope Lc) (hx : x ∈ N) (hl : (x, KN.loc) ∈ Lc) (ok : ∀ i : Nat, N[i]? = some x → BlkOk N X.env.scope scope [(x, i)]) :
    ∃ i : Nat, (∀ {σ σ' : L2.St} {v : V}, Put N σ x v σ' → σ' = σ.set i (some v)) ∧ BlkOk X.N X.env.scope scope [(x, i)] ∧
      ∀ (s : Shared) (Hb : Hp) (C : Addr) (cl : List (Str × Addr)) (fp : List Addr), PG (X.blk s Hb scope (compEnvC scope cl C X.env) fp) (.Name x p0) (gName i) := by
  obtain ⟨i, h1, h2⟩ := c.put hx
  refine ⟨i, h2, ?_, fun s Hb C cl fp => ?_⟩
  · rw [c.n]
    rw [c.n] at h1
    exact ok i h1
  · have cb := c.blk S s Hb C cl fp
    exact pg_name c.nodup h1 (cb.loc hl .loc) (cb.fn hl .loc)
theorem lc_go {Itx : It} {n : Nat} {stand : Hp → Prop} {it : Nat → V → Prop} {H1 : Hp} {i : Nat} (hput : ∀ {σ σ' : L2.St} {v : V}, Put N σ x v σ' → σ' = σ.set i (some v))
    (W : Walk Itx n stand fun j H y H' => H' = H ∧ it j y) (q : CTurns X N Lc k scope x elt ifs stand n it σ H1 Q) :
    ∀ Dn, H1 Dn = none → ∃ W : Nat → Nat → Hp → Prop, (∃ m, W 0 m (upd H1 Dn (.lst []))) ∧ ∀ j m H, W j m H →
      (Itx.stop j H ∧ Q (.ref Dn) H) ∨ (Itx.go j H ∧ ∃ Nx : Hp → Prop, (∀ H', Nx H' → ∃ m', m' < m ∧ W (j + 1) m' H') ∧ ∀ y H', Itx.yld j H y H' → gName i y (wipe σ [i]) H' fun σ2 H2 => wipe σ2 [i] = wipe σ [i] ∧ RTA X N Lc k scope ifs σ2 H2 fun b H3 =>
        if b = true then REA X N Lc k scope elt σ2 H3 fun z H4 => ∃ acc, H4 Dn = some (.lst acc) ∧ acc.length < sizeLine ∧ Nx (upd H4 Dn (.lst (acc ++ [z]))) else Nx H3) := by
  intro Dn hD
  obtain ⟨Pv, p1, p2, p3, p4⟩ := q Dn hD
  refine lc_it W (g := gName i) (tt := RTA X N Lc k scope ifs) (te := REA X N Lc k scope elt) (vs := [i]) (σ := σ) Pv p1 p2 (fun j y H H' hj p hy => ?_) p4
  obtain ⟨rfl, hy⟩ := hy
  obtain ⟨σ', hp, r⟩ := p3 j y H' hj hy p
  refine ⟨set_back, ?_⟩
  rw [set_on, ← hput hp]
  exact r
theorem re_lc_list (c : Ctx X N L k) (Lc : List (Str × KN)) (hok : lcOk N L scope Lc x = true) {l : Expr}
    (q : RE X l σ H fun v H1 => ∃ a xs, v = .ref a ∧ SqL X.K H1 a xs ∧ CTurns X N Lc k scope x elt ifs (fun H => SqL X.K H a xs) xs.length (fun i y => xs[i]? = some y) σ H1 Q)
    (hs : ∀ x, foldedSetIterable l X.env x = pure x := by intro _; with_unfolding_all rfl) : RE X (.ListComp elt [⟨.Name x p0, l, ifs, 0⟩] scope pos) σ H Q := by
  obtain ⟨S, hx, hl, ok⟩ := lcOk_of c hok
  obtain ⟨i, hput, bk, g⟩ := blk_at (p0 := p0) c S hx hl ok
  refine re_of (pe_lc c.calm c.nodup (pi_list PE.self) bk g (fun s H C cl fp => PTs.rta c S s H C cl fp) (fun s H C cl fp => PE.rea c S s H C cl fp) hs) ?_
  refine pe_mono q fun v H1 ⟨a, xs, e, h1, q1⟩ => ⟨a, e, ⟨xs, h1⟩, lc_go hput walk_list q1⟩
theorem re_lc_range (c : Ctx X N L k) (Lc : List (Str × KN)) (hok : lcOk N L scope Lc x = true) {e : Expr} (hg : (("range" : Str), KN.glob) ∈ L) (hm : X.mg "range" = none)
    (q : RE X e σ H fun v H1 => ∃ n : Int, v = .int n ∧ -(2 ^ 62) ≤ n ∧ n < 2 ^ 62 ∧ CTurns X N Lc k scope x elt ifs (fun _ => True) n.toNat (fun i y => y = .int i) σ H1 Q)
    (hs : ∀ x, foldedSetIterable (.Call (.Name "range" p1) [e] [] p2) X.env x = pure x := by intro _; with_unfolding_all rfl) (hsE : starEach [e] X.env = [(false, eval e X.env)] := by with_unfolding_all rfl) : RE X (.ListComp elt [⟨.Name x p0, .Call (.Name "range" p1) [e] [] p2, ifs, 0⟩] scope pos) σ H Q := by
  obtain ⟨S, hx, hl, ok⟩ := lcOk_of c hok
  obtain ⟨i, hput, bk, g⟩ := blk_at (p0 := p0) c S hx hl ok
  refine re_of (pe_lc c.calm c.nodup (pi_range1 (c.gl hg) hm PA.self hsE) bk g (fun s H C cl fp => PTs.rta c S s H C cl fp) (fun s H C cl fp => PE.rea c S s H C cl fp) hs) ?_
  refine ra_cons (pe_mono q fun v H1 ⟨n, e, n1, n2, q1⟩ => ra_nil ⟨n, by rw [e], n1, n2, ?_⟩) hsE
  refine lc_go hput (walk_range.mono (fun _ h => h) fun j H y H' hj _ hy => ?_) q1
  obtain ⟨h1, h2⟩ := hy
  exact ⟨h1, by rw [h2]; simp⟩
/-- y = [..] on one line -/
theorem rs_lc_list (c : Ctx X N L k) (Lc : List (Str × KN)) (hok : lcOk N L scope Lc x = true) {l : Expr} {y : Str} {py cp : Pos} (hy : (y, KN.loc) ∈ L) (my : y ∈ N)
    (q : RE X l σ H fun v H1 => ∃ a xs, v = .ref a ∧ SqL X.K H1 a xs ∧ CTurns X N Lc k scope x elt ifs (fun H => SqL X.K H a xs) xs.length (fun i y => xs[i]? = some y) σ H1 fun v H2 => ∃ σ', Put N σ y v σ' ∧ D.nx σ' H2)
    (hln : (py.line == cp.line) = true := by with_unfolding_all rfl) (ha : (scope.names.any fun (n, k) => n == y && (k == .local || k == .cell)) = false := by decide +kernel)
    (hs : ∀ x, foldedSetIterable l X.env x = pure x := by intro _; with_unfolding_all rfl) : RS X (.Assign [.Name y py] (.ListComp elt [⟨.Name x p0, l, ifs, 0⟩] scope cp) pos) D σ H := by
  obtain ⟨S, hx, hl, ok⟩ := lcOk_of c hok
  obtain ⟨i, hput, bk, g⟩ := blk_at (p0 := p0) c S hx hl ok
  obtain ⟨i2, h1, h2⟩ := c.put my
  refine rs_of (ps_setLc (i := i2) c.calm c.nodup h1 (c.lcl hy) (sw_true c.kind (c.lcl hy) hln ha) (pi_list PE.self) bk g (fun s H C cl fp => PTs.rta c S s H C cl fp) (fun s H C cl fp => PE.rea c S s H C cl fp) hs) ?_
  refine pe_mono q fun v H1 ⟨a, xs, e, h1, q1⟩ => ⟨a, e, ⟨xs, h1⟩, lc_go hput (walk_list (xs := xs)) (Q := fun v H1 => D.nx (σ.set i2 (some v)) H1) (fun Dn hD => ?_ : CTurns X N Lc k scope x elt ifs (fun H => SqL X.K H a xs) xs.length (fun i y => xs[i]? = some y) σ H1 fun v H1 => D.nx (σ.set i2 (some v)) H1)⟩
  obtain ⟨Pv, a1, a2, a3, a4⟩ := q1 Dn hD
  refine ⟨Pv, a1, a2, a3, fun H2 hp => ?_⟩
  obtain ⟨σ', p, d⟩ := a4 H2 hp
  rw [h2 p] at d
  exact d
end
end
end GT
namespace GT
open PySem PySem.Spec PyProof.Rows L2
/-- the def that st says, as it stands behind the top -/
abbrev FnP (K : PySem.W.Frag) (x : Str) (st : Stmt) (f : Addr) (fd : FuncData) : Prop := FunD K x x (defArgs st) (defBody st) (defScope st) [] [] f fd
/-- a context of this program and heap -/
structure At5 (X : Cx) (P : Program) (w : World) (K : PySem.W.Frag) (mg : Str → Option Value) (base : Heap) : Prop where
  p : X.prog = P
  w : X.w = w
  k : X.K = K
  m : X.mg = mg
  b : X.base = base
/-- what is known of a def's names (each line by decide +kernel) -/
structure Nms (st : Stmt) (N ps : List Str) (L : List (Str × KN)) : Prop where
  S : FnScope N ps (defScope st)
  kl : ∀ p ∈ L, p ∈ knAll (defScope st).names
  nd : ((defScope st).names.map (·.1)).Nodup
  db : ∀ p ∈ L, okName p.1 = true
section
variable {P : Program} {w : World} {K : PySem.W.Frag} {mg : Str → Option Value} {base : Heap} {CXs : CXT} {x : Str} {st : Stmt} {N ps : List Str} {L : List (Str × KN)} {k : Nat} {sp : Sp} {f : Addr} {fd : FuncData}
theorem knIs_of {X : Cx} {st : Stmt} (M : Nms st N ps L) (e : X.env.scope = defScope st) (hf : ∀ x, X.fn x = true) : ∀ p ∈ L, KnIs X p.1 p.2 := fun p hp => by
  obtain ⟨x, m⟩ := p
  obtain ⟨j, h1, h2⟩ := knAll_mem (M.kl _ hp)
  have e1 : X.env.scope.names.lookup x = some j := by
    rw [e]
    exact lookup_mem M.nd h1
  cases j <;> simp only [knOf] at h2 <;> cases h2
  · exact e1
  · exact ⟨e1, hf x⟩
  · exact .inr e1
  · exact e1
/-- a def that raises nothing keeps its promise -/
theorem defP_of (F : FnP K x st f fd) (gx : mg x = some (.ref f)) (M : Nms st N ps L) (hb : Binds K fd ps []) (len : ∀ vs H Q E, sp vs H Q E → vs.length = ps.length)
    (body : ∀ (X : Cx), Ctx X N L k → At5 X P w K mg base → ∀ (vs : List V) (H : Hp) (Q : VK) (E : XK), sp vs H Q E → RB X (defBody st) { nx := fun _ H' => Q .non H', rt := Q } (start N vs) H) : DefP P w K mg base CX0 x ps (k + 1) sp := by
  refine ⟨f, fd, F.ok M.S len (fun cdv A outer s H vs Q E hr h => ?_), gx, F.kp, hb⟩
  have c : Ctx (cxOf CX0 P w K mg base N x (defScope st) f cdv A outer s H E).nox N L k := ⟨rfl, M.S.nd, knIs_of M rfl (fun _ => rfl), M.db, rfl, hr, PassesOwn.never, M.S.kind⟩
  obtain ⟨t, ht, q⟩ := (body _ c ⟨rfl, rfl, rfl, rfl, rfl⟩ vs H Q E h).ex
  exact ⟨t, ht.nox, q⟩
theorem DefP.at5 {X : Cx} {n : Nat} (d : DefP P w K mg base CXs x ps n sp) (a : At5 X P w K mg base) : DefP X.prog X.w X.K X.mg X.base CXs x ps n sp := by
  obtain ⟨p1, p2, p3, p4, p5⟩ := a
  rw [p1, p2, p3, p4, p5]
  exact d
end
/-! ### frames -/
/-- what stands outside of the addresses of B is as it was -/
def Fr (B : Addr → Prop) (H H' : Hp) : Prop := ∀ a o, ¬ B a → H a = some o → H' a = some o
abbrev NoB : Addr → Prop := fun _ => False
section
variable {B : Addr → Prop} {K : PySem.W.Frag} {H H1 H2 : Hp} {a p : Addr} {o : HO} {xs : List V}
theorem Fr.refl : Fr B H H := fun _ _ _ h => h
theorem Fr.trans (h : Fr B H H1) (g : Fr B H1 H2) : Fr B H H2 := fun a o n e => g a o n (h a o n e)
theorem Fr.any (h : Fr NoB H H1) : Fr B H H1 := fun a o _ e => h a o (fun z => z) e
theorem Fr.new (h : H p = none) : Fr B H (upd H p o) := fun a u _ e => by
  rw [upd_ne (ne_of_none e h)]
  exact e
theorem Fr.seqL (f : Fr B H H1) (n : ¬ B a) (h : SqL K H a xs) : SqL K H1 a xs := by
  rcases h with (h | ⟨o, h⟩) | h
  · exact .inl (.inl (f _ _ n h))
  · exact .inl (.inr ⟨o, f _ _ n h⟩)
  · exact .inr h
theorem Fr.seqT (f : Fr B H H1) (n : ¬ B a) (h : SqT K H a xs) : SqT K H1 a xs := by
  rcases h with (h | ⟨o, h⟩) | h
  · exact .inl (.inl (f _ _ n h))
  · exact .inl (.inr ⟨o, f _ _ n h⟩)
  · exact .inr h
theorem Fr.free (f : Fr NoB H H1) (h : H1 a = .none) : H a = .none := by
  cases e : H a with
  | none => rfl
  | some o =>
    rw [f a o (fun z => z) e] at h
    cases h
theorem Fr.gone (f : Fr B H H1) (n : ¬ B p) (h : H1 p = .none) : H p = .none := by
  cases e : H p with
  | none => rfl
  | some o =>
    rw [f p o n e] at h
    cases h
/-- an object that was not there at first is written -/
theorem Fr.put (f : Fr B H H1) (h : H p = .none) : Fr B H (upd H1 p o) := fun a u n e => by
  rw [upd_ne (ne_of_none e h)]
  exact f a u n e
end
/-! ### data -/
inductive D where
  | non | bl (b : Bool) | int (i : Int) | str (s : Str) | lst (l : List D) | tup (l : List D)
/-- v bears the data d: what it reaches stands outside of B -/
inductive Dt (K : PySem.W.Frag) (B : Addr → Prop) (H : Hp) : V → D → Prop
  | non : Dt K B H .non .non
  | bl {b : Bool} : Dt K B H (.bl b) (.bl b)
  | int {i : Int} : Dt K B H (.int i) (.int i)
  | str {s : Str} : Dt K B H (.str s) (.str s)
  | lst {a : Addr} {vs : List V} {ds : List D} (n : ¬ B a) (t : H a = some (.lst vs)) (l : vs.length = ds.length) (h : ∀ (i : Nat) v d, vs[i]? = some v → ds[i]? = some d → Dt K B H v d) : Dt K B H (.ref a) (.lst ds)
  | tup {a : Addr} {vs : List V} {ds : List D} (n : ¬ B a) (t : H a = some (.tup vs)) (l : vs.length = ds.length) (h : ∀ (i : Nat) v d, vs[i]? = some v → ds[i]? = some d → Dt K B H v d) : Dt K B H (.ref a) (.tup ds)
theorem Dt.fr {K : PySem.W.Frag} {B : Addr → Prop} {H H' : Hp} {v : V} {d : D} (h : Dt K B H v d) (f : Fr B H H') : Dt K B H' v d := by
  induction h with
  | non => exact .non
  | bl => exact .bl
  | int => exact .int
  | str => exact .str
  | lst n t l _ ih => exact .lst n (f _ _ n t) l ih
  | tup n t l _ ih => exact .tup n (f _ _ n t) l ih
theorem Dt.mono {K : PySem.W.Frag} {B B' : Addr → Prop} {H : Hp} {v : V} {d : D} (h : Dt K B H v d) (s : ∀ a, B' a → B a) : Dt K B' H v d := by
  induction h with
  | non => exact .non
  | bl => exact .bl
  | int => exact .int
  | str => exact .str
  | lst n t l _ ih => exact .lst (fun z => n (s _ z)) t l ih
  | tup n t l _ ih => exact .tup (fun z => n (s _ z)) t l ih
/-- row by row -/
def Dts (K : PySem.W.Frag) (B : Addr → Prop) (H : Hp) (vs : List V) (ds : List D) : Prop := vs.length = ds.length ∧ ∀ (i : Nat) v d, vs[i]? = some v → ds[i]? = some d → Dt K B H v d
theorem Dts.nil {K : PySem.W.Frag} {B : Addr → Prop} {H : Hp} : Dts K B H [] [] := ⟨rfl, fun i v d h => by simp at h⟩
theorem Dts.cons {K : PySem.W.Frag} {B : Addr → Prop} {H : Hp} {v : V} {d : D} {vs : List V} {ds : List D} (h : Dt K B H v d) (t : Dts K B H vs ds) : Dts K B H (v :: vs) (d :: ds) := by
  refine ⟨by rw [List.length_cons, List.length_cons, t.1], fun i u e h1 h2 => ?_⟩
  cases i with
  | zero =>
    simp at h1 h2
    subst h1 h2
    exact h
  | succ i => exact t.2 i u e (by simpa using h1) (by simpa using h2)
theorem Dts.fr {K : PySem.W.Frag} {B : Addr → Prop} {H H' : Hp} {vs : List V} {ds : List D} (h : Dts K B H vs ds) (f : Fr B H H') : Dts K B H' vs ds := ⟨h.1, fun i v d a b => (h.2 i v d a b).fr f⟩
theorem Dt.ofT {K : PySem.W.Frag} {B : Addr → Prop} {H : Hp} {a : Addr} {vs : List V} {ds : List D} (n : ¬ B a) (t : H a = some (.tup vs)) (h : Dts K B H vs ds) : Dt K B H (.ref a) (.tup ds) := .tup n t h.1 h.2
theorem Dt.ofL {K : PySem.W.Frag} {B : Addr → Prop} {H : Hp} {a : Addr} {vs : List V} {ds : List D} (n : ¬ B a) (t : H a = some (.lst vs)) (h : Dts K B H vs ds) : Dt K B H (.ref a) (.lst ds) := .lst n t h.1 h.2
/-- a new tuple, a new list, of data -/
theorem Dt.newT {K : PySem.W.Frag} {B : Addr → Prop} {H : Hp} {p : Addr} {vs : List V} {ds : List D} (hp : H p = none) (n : ¬ B p) (h : Dts K B H vs ds) : Dt K B (upd H p (.tup vs)) (.ref p) (.tup ds) := .ofT n upd_same (h.fr (Fr.new hp))
theorem Dt.newL {K : PySem.W.Frag} {B : Addr → Prop} {H : Hp} {p : Addr} {vs : List V} {ds : List D} (hp : H p = none) (n : ¬ B p) (h : Dts K B H vs ds) : Dt K B (upd H p (.lst vs)) (.ref p) (.lst ds) := .ofL n upd_same (h.fr (Fr.new hp))
/-! ### the box of a law's draws -/
/-- the two numbers: what is left of a great one, and the state of the draws -/
def BoxAt (H : Hp) (b : Addr) : Prop := ∃ g r : Int, H b = some (.lst [.int g, .int r]) ∧ 0 ≤ g ∧ 0 ≤ r ∧ r < 2 ^ 32
theorem BoxAt.fr {H H' : Hp} {b : Addr} (h : BoxAt H b) (f : Fr NoB H H') : BoxAt H' b := by
  obtain ⟨g, r, h1, h2⟩ := h
  exact ⟨g, r, f _ _ (fun z => z) h1, h2⟩
theorem BoxAt.ne {H : Hp} {b p : Addr} (h : BoxAt H b) (hp : H p = none) : ¬ p = b := by
  obtain ⟨g, r, h1, _⟩ := h
  exact fun e => by rw [e, h1] at hp; cases hp
theorem BoxAt.put {H : Hp} {b p : Addr} {o : HO} (h : BoxAt H b) (n : ¬ p = b) : BoxAt (upd H p o) b := by
  obtain ⟨g, r, h1, h2⟩ := h
  exact ⟨g, r, by rw [upd_ne (fun e => n e.symm)]; exact h1, h2⟩
end GT
namespace GT
open PySem PySem.Spec PyProof.Rows L2
section
variable {X : Cx} {σ : L2.St} {H : Hp} {N : List Str} {L Lc : List (Str × KN)} {k : Nat} {pos p0 p1 p2 : Pos} {Q : VK}
/-- s.index(sign), the sign there -/
theorem re_sindex {o e : Expr} {apos : Pos} (hc : X.calm = true) (q : RE X o σ H fun x H1 => ∃ a, x = .str a ∧ RE X e σ H1 fun y H2 => ∃ b k, y = .str b ∧ Txt.index0 a b = some k ∧ Q (.int (k : Nat)) H2)
    (hbase : attributeBase o "index" X.env (eval o X.env) = eval o X.env := by with_unfolding_all rfl)
    (hfew : ((backTo pos (starEach [e] X.env)).all (fun x => !x.1) && (backToKw pos (keywordEach [] X.env)).all (fun x => x.1.isSome) && decide (([e] : List Expr).length + ([] : List Keyword).length + (if ([] : List Keyword).isEmpty then 0 else 1) < 30)) = true := by with_unfolding_all rfl)
    (hline : (apos.endLine == pos.line) = true := by with_unfolding_all rfl) (hs : starEach [e] X.env = (false, eval e X.env) :: starEach [] X.env := by with_unfolding_all rfl) (hplain : (backTo pos (starEach [] X.env)).any (·.1) = false := by with_unfolding_all rfl) :
    RE X (.Call (.Attribute o "index" apos) [e] [] pos) σ H Q := by
  refine re_of (pe_bmS PySem.F.plainAttrs_str PySem.F.slot_str_index PySem.F.type_str_index (mt_indexX hc (W := fun _ _ _ _ => False) L2.takes0) PE.self PA.self hbase hfew hline hs hplain) ?_
  refine pe_mono q fun x H1 ⟨a, e1, q1⟩ => ?_
  subst e1
  refine ⟨rfl, ra_cons (pe_mono q1 fun y H2 ⟨b, k, e2, h2, q2⟩ => ra_nil ⟨a, b, rfl, by rw [e2], fun k' hk => ?_, fun hn => ?_⟩) hs⟩
  · rw [h2] at hk
    cases hk
    exact q2
  · rw [h2] at hn
    cases hn
end
/-! ### texts of small letters -/
def Low (z : Str) : Prop := ∀ c ∈ z.cps.toList, 97 ≤ c ∧ c ≤ 122
/-- a label -/
def Lab (z : Str) : Prop := 1 ≤ z.length ∧ z.length ≤ 8 ∧ Low z
def slt (a b : Str) : Bool := decide (a.cps.toList < b.cps.toList)
theorem lt_at {a b : List Nat} : ∀ {i x y : Nat}, (∀ j, j < i → a[j]? = b[j]?) → a[i]? = some x → b[i]? = some y → x ≠ y → (a < b ↔ x < y) := by
  induction a generalizing b with
  | nil => intro i x y _ h; simp at h
  | cons u a ih =>
    intro i x y h1 h2 h3 h4
    cases b with
    | nil => simp at h3
    | cons v b =>
      cases i with
      | zero =>
        simp at h2 h3
        subst h2 h3
        rw [List.cons_lt_cons_iff]
        constructor
        · rintro (h | ⟨h, _⟩)
          · exact h
          · exact absurd h h4
        · exact Or.inl
      | succ i =>
        have e : u = v := by simpa using h1 0 (by omega)
        subst e
        rw [List.cons_lt_cons_iff]
        have := ih (b := b) (i := i) (x := x) (y := y) (fun j hj => by simpa using h1 (j + 1) (by omega)) (by simpa using h2) (by simpa using h3) h4
        rw [this]
        constructor
        · rintro (h | ⟨_, h⟩)
          · omega
          · exact h
        · exact fun h => Or.inr ⟨rfl, h⟩
theorem lt_len {a b : List Nat} : (∀ j, j < min a.length b.length → a[j]? = b[j]?) → (a < b ↔ a.length < b.length) := by
  induction a generalizing b with
  | nil =>
    intro _
    cases b with
    | nil => simp
    | cons v b => simp
  | cons u a ih =>
    intro h
    cases b with
    | nil => simp
    | cons v b =>
      have e : u = v := by simpa using h 0 (by simp)
      subst e
      rw [List.cons_lt_cons_iff, ih (b := b) (fun j hj => by simpa using h (j + 1) (by simp; omega))]
      simp
theorem abc_at : ∀ c : Nat, 97 ≤ c → c ≤ 122 → Txt.index0 "abcdefghijklmnopqrstuvwxyz" ⟨#[c]⟩ = some (c - 97) := by
  have h : ∀ i : Fin 26, Txt.index0 "abcdefghijklmnopqrstuvwxyz" ⟨#[97 + i.val]⟩ = some i.val := by decide +kernel
  intro c h1 h2
  have := h ⟨c - 97, by omega⟩
  have e : 97 + (c - 97) = c := by omega
  simpa [e] using this
end GT
namespace GT
open PySem PySem.Spec PyProof.Rows L2
theorem Put.slot {N : List Str} {σ σ' : L2.St} {x : Str} {v : V} (h : Put N σ x v σ') : Slot N σ' x v := by
  induction h with
  | here => exact .here
  | there _ ih => exact .there ih
section
variable {X : Cx} {σ : L2.St} {H1 : Hp} {N : List Str} {L Lc : List (Str × KN)} {k : Nat} {pe : Pos} {Q : VK} {scope : Scope} {x : Str} {t : Expr} {a : Addr} {xs : List V}
theorem filter_succ {α : Type} {f : α → Bool} {l : List α} {i : Nat} {y : α} (h : l[i]? = some y) : (l.take (i + 1)).filter f = (l.take i).filter f ++ (if f y = true then [y] else []) := by
  rw [List.take_succ, h, List.filter_append]
  simp [List.filter]
  split <;> simp_all
/-- [x for x in xs if t]: t tells f of the item and changes nothing -/
theorem cturns_filter {f : V → Bool} (hl : xs.length < sizeLine) (hq : SqL X.K H1 a xs) (hx : (x, KN.loc) ∈ Lc) {σf : V → L2.St} (hp : ∀ y, Put N σ x y (σf y))
    (ht : ∀ (y : V) (H' : Hp), y ∈ xs → Fr NoB H1 H' → ∀ (s : Shared) (Hb : Hp) (C : Addr) (cl : List (Str × Addr)) (fp : List Addr), Ctx (X.blk s Hb scope (compEnvC scope cl C X.env) fp) N Lc k →
      RT (X.blk s Hb scope (compEnvC scope cl C X.env) fp) t (σf y) H' fun b H'' => b = f y ∧ Fr NoB H' H'')
    (q : ∀ (Dn : Addr) (H' : Hp), H1 Dn = none → Fr NoB H1 H' → H' Dn = some (.lst (xs.filter f)) → Q (.ref Dn) H') :
    CTurns X N Lc k scope x (.Name x pe) [t] (fun H => SqL X.K H a xs) xs.length (fun i y => xs[i]? = some y) σ H1 Q := by
  intro Dn hD
  refine ⟨fun i H' => H' Dn = some (.lst ((xs.take i).filter f)) ∧ Fr NoB H1 H', ⟨upd_same, Fr.new hD⟩, fun i H _ h => h.2.seqL (fun z => z) hq, ?_, ?_⟩
  · rintro i y H' hi hy ⟨h1, h2⟩
    refine ⟨σf y, hp y, fun s Hb C cl fp cb => rts_one (rt_mono (ht y H' (List.mem_of_getElem? hy) h2 s Hb C cl fp cb) ?_)⟩
    rintro b H'' ⟨e, f2⟩
    have e2 := f2 Dn _ (fun z => z) h1
    cases hb : f y with
    | false =>
      rw [e, hb]
      refine iteF ⟨?_, h2.trans f2⟩
      rw [filter_succ hy, hb, e2]
      simp
    | true =>
      rw [e, hb]
      refine iteT fun s Hb C cl fp cb => re_name cb (hp y).slot hx .loc ?_
      have hlen : ((xs.take i).filter f).length < sizeLine := Nat.lt_of_le_of_lt (Nat.le_trans (List.length_filter_le _ _) (by rw [List.length_take]; omega)) hl
      refine ⟨_, e2, hlen, ?_, (h2.trans f2).put hD⟩
      rw [upd_same, filter_succ hy, hb]
      rfl
  · rintro H' ⟨h1, h2⟩
    rw [List.take_length] at h1
    exact q Dn H' hD h2 h1
end
end GT
namespace GT
open PySem PySem.Spec PyProof.Rows L2
section
variable {X : Cx} {σ : L2.St} {H : Hp} {N : List Str} {L Lc : List (Str × KN)} {k : Nat} {pos p0 p1 p2 p3 : Pos} {Q : VK} {D : Ends}
/-! ### an own exception class with one field that its __init__ lays -/
theorem rs_ost {o e : Expr} {f : Str} {p' : Pos} (q : RE X e σ H fun y H1 => RE X o σ H1 fun x H2 => ∃ a C : Addr, x = .ref a ∧ OexC X.K C ∧ PySem.W.findIn X.K (.ref C) f = some none ∧ H2 a = some (exo a C none) ∧ ∀ dx, H2 dx = none → dx ≠ a → D.nx σ (upd (upd H2 dx (exd dx [(f, y)])) a (exo a C (some dx))))
    (hs : swapsWith e (some (.Attribute o f p')) pos.line X.env = pure false := by with_unfolding_all rfl) : RS X (.Assign [.Attribute o f p'] e pos) D σ H :=
  rs_of (ps_ost PE.self PE.self hs) (pe_mono q fun y H1 q1 => pe_mono q1 fun x H2 ⟨a, C, e1, T, n, h, q2⟩ => ⟨a, C, e1, T, n, .inl ⟨h, q2⟩⟩)
/-- the promise of such an __init__ -/
def spIni (K : PySem.W.Frag) (fl : Str) : Sp := fun vs H Q _ => ∃ (a C : Addr) (v : V), vs = [.ref a, v] ∧ OexC K C ∧ PySem.W.findIn K (.ref C) fl = some none ∧ H a = some (exo a C none) ∧
  ∀ dx, H dx = none → dx ≠ a → Q .non (upd (upd H dx (exd dx [(fl, v)])) a (exo a C (some dx)))
structure ErrC (P : Program) (w : World) (K : PySem.W.Frag) (mg : Str → Option Value) (base : Heap) (nm fl : Str) (C : Addr) : Prop where
  oex : OexC K C
  gC : mg nm = some (.ref C)
  no : PySem.W.findIn K (.ref C) fl = some none
  xf : XfC K C
  ini : ∃ (fI : Addr) (fd : FuncData) (ps : List Str), PySem.W.findIn K (.ref C) "__init__" = some (some (.ref fI)) ∧ PySem.W.typeIn K (.ref fI) = some (.type "function") ∧ FnOk P w K mg base CX0 1 fI fd ps (spIni K fl) ∧ Binds K fd ps []
/-- raise C(e) -/
theorem rs_raise (c : Ctx X N L k) {nm fl : Str} {C : Addr} (EC : ErrC X.prog X.w X.K X.mg X.base nm fl C) (hk : 2 ≤ k) (hg : (nm, KN.glob) ∈ L) {W : WX} (tk : Takes X W) {e : Expr}
    (q : RE X e σ H fun v H1 => ∀ d, H1 d = none → W (.ref C) (some d) σ (upd H1 d (.xd [(fl, v)])))
    (he : starEach (e :: []) X.env = (false, eval e X.env) :: starEach [] X.env := by with_unfolding_all rfl) (hpl : (backTo p1 (starEach [] X.env)).any (·.1) = false := by with_unfolding_all rfl) :
    RS X (.Raise (some (.Call (.Name nm p0) [e] [] p1)) none pos) D σ H := by
  obtain ⟨fI, fd, ps, iC, tI, F1, hb⟩ := EC.ini
  refine rs_of (ps_raise c.calm tk (pmk_oex EC.oex iC tI F1 (c.room.mono hk) hb .nil pass0 (c.gl hg) EC.gC PA.self (c.d1 hg) he hpl)) ?_
  refine ra_cons (pe_mono q fun v H1 q1 => ra_nil ⟨by show 1 ≤ 1000; decide, fun a ha => ⟨a, C, v, rfl, EC.oex, EC.no, upd_same, fun d hd hda => ?_⟩⟩) he
  have hd1 : H1 d = none := by rwa [upd_ne hda] at hd
  refine ⟨rfl, d, [(fl, v)], upd_same, ?_, hd1, ?_⟩
  · rw [upd_ne hda, upd_same]
  · have e1 : upd (del (upd (upd (upd H1 a (exo a C none)) d (exd d [(fl, v)])) a (exo a C (some d))) a) d (.xd [(fl, v)]) = upd H1 d (.xd [(fl, v)]) := by
      funext b
      by_cases hb1 : b = d
      · subst hb1
        rw [upd_same, upd_same]
      · rw [upd_ne hb1, upd_ne hb1]
        by_cases hb2 : b = a
        · subst hb2
          rw [del_same, ha]
        · rw [del_ne hb2, upd_ne hb2, upd_ne hb1, upd_ne hb2]
    rw [e1]
    exact q1 d hd1
/-! ### within an except suite -/
structure CtxS (X : Cx) (N : List Str) (L : List (Str × KN)) : Prop where
  n : X.N = N
  nd : N.Nodup
  look : ∀ p ∈ L, KnIs X p.1 p.2
  dbg : ∀ p ∈ L, okName p.1 = true
theorem CtxS.gl (c : CtxS X N L) {x : Str} (h : (x, KN.glob) ∈ L) : Gl X x := c.look _ h
theorem re_nameS (c : CtxS X N L) {x : Str} {v : V} {j : KN} (s : Slot N σ x v) (h : (x, j) ∈ L) (m : Mine j) (q : Q v H) : RE X (.Name x pos) σ H Q := by
  obtain ⟨i, h1, h2⟩ := s.ix
  rw [← c.n] at h1
  obtain ⟨d1, d2, _⟩ := okName_of (c.dbg _ h)
  refine re_of (pe_var h1 ?_ d1 d2) ⟨_, h2, q⟩
  have e := c.look _ h
  cases m with
  | loc => exact Or.inl e
  | cell => exact Or.inr (Or.inl e.1)
  | cap => exact Or.inr e
theorem re_globS (c : CtxS X N L) {x : Str} {v : V} {u : Value} (h : (x, KN.glob) ∈ L) (hm : X.mg x = some u) (r : RelV v u) (q : Q v H) : RE X (.Name x pos) σ H Q := re_of (pe_glob (c.gl h) hm r (okName_of (c.dbg _ h)).1) q
theorem re_bltnS (c : CtxS X N L) {x : Str} {v : V} {u : Value} (h : (x, KN.glob) ∈ L) (hm : X.mg x = none) (hv : bootBuiltins x = some u) (r : RelV v u) (q : Q v H) : RE X (.Name x pos) σ H Q :=
  re_of (pe_bltn (c.gl h) hm hv r (okName_of (c.dbg _ h)).2.2 (okName_of (c.dbg _ h)).1) q
theorem rs_setS (c : CtxS X N L) {x : Str} {e : Expr} {pos' : Pos} (h : (x, KN.loc) ∈ L) (hx : x ∈ N) (q : RE X e σ H fun v H1 => ∃ σ', Put N σ x v σ' ∧ D.nx σ' H1) (hs : swapsWith e (some (.Name x pos')) pos.line X.env = pure false := by with_unfolding_all rfl) : RS X (.Assign [.Name x pos'] e pos) D σ H := by
  obtain ⟨i, h1⟩ := List.mem_iff_getElem?.mp hx
  have e1 := c.look _ h
  refine rs_of (ps_set (i := i) (by rw [c.n]; exact c.nd) (by rw [c.n]; exact h1) (Or.inl e1) PE.self hs (Or.inr e1)) (pe_mono q fun v H1 ⟨σ', hp, q1⟩ => ?_)
  obtain ⟨i', h2, h3⟩ := hp.ix
  have : i' = i := (List.getElem?_inj (by rcases Nat.lt_or_ge i' N.length with z | z; exact z; rw [List.getElem?_eq_none z] at h2; cases h2) c.nd).mp (h2.trans h1.symm)
  subst this
  subst h3
  exact q1
/-- what the class D says, so that isinstance asks its instances rightly -/
structure KitC (K : PySem.W.Frag) (D : Addr) : Prop where
  cl : (PySem.W.clsIn K D).isSome = true
  ga : PySem.W.findIn K (.ref D) "__getattribute__" = some (some (.builtin "BaseException.__getattribute__"))
  gg : PySem.W.findIn K (.ref D) "__getattr__" = some none
  sb : PySem.W.subIn K (.ref D) (.type "BaseException") = some true
  ca : PySem.W.findIn K (.ref D) "__class__" = some (some (.builtin "object.__class__"))
  gt : PySem.W.specialIn K (.builtin "object.__class__") "__get__" = some (some (.builtin "getset_descriptor.__get__"))
  tk : PySem.W.takesIn K (.builtin "object.__class__") = some true
  mo : PySem.W.mroIn K D (.type "object") = some true
/-- isinstance(e, c) and isinstance(e, (c, ..)), e the exception that the suite holds, with a dict -/
def rIsX (K : PySem.W.Frag) (D a dd : Addr) : List V → Hp → VK → Prop := fun xs H Q => ∃ (c : V) (b : Bool), xs = [.ref a, c] ∧ (∃ fs, H dd = some (.xd fs)) ∧ Q (.bl b) H ∧
  ((∃ u, ClsV c u ∧ PySem.W.kitOne K (.ref D) u = some b) ∨ ∃ (tp : Addr) (cs : List V) (us : List Value), c = .ref tp ∧ H tp = some (.tup cs) ∧ Paired ClsV cs us ∧ PySem.W.kitAny K (.ref D) us = some b)
theorem call_isX {a D dd : Addr} {oe : Obj} {pn : List (Addr × Obj)} (C : KitC X.K D) (hz : Zc (.ref D) (some dd) oe) (hf : ∃ vs, oe.data = .fields vs) : CallR (X.suite a ((a, oe) :: pn)) (.builtin "isinstance") (rIsX X.K D a dd) := by
  intro pins s σ H xs us Q I r h
  obtain ⟨c, b, rfl, ⟨fs, hd⟩, q, h⟩ := h
  cases r with
  | cons rx rr =>
    cases rr with
    | cons rt rr =>
      cases rr
      cases rx
      obtain ⟨hget, _⟩ := I.pin (a, oe) (List.mem_append.mpr (.inl List.mem_cons_self))
      obtain ⟨vs, hv⟩ := hf
      obtain ⟨mA, hns, hr⟩ := (show ObjOk X.prog X.w H s.heap dd (.xd fs) from I.hok dd _ hd)
      obtain ⟨od, ho, hl⟩ := lookIn_ns hns
      have J : PySem.W.InstAt s.heap a oe D (some od) := ⟨hget, hz.1, by unfold PySem.W.notCls; rw [hv] <;> rfl, by rw [hz.2]; exact ho⟩
      have Z := PySem.W.kitx_exc (x := a) (ox := oe) (od := some od) C.cl C.ga C.gg C.sb C.ca C.gt C.tk C.mo
      rcases h with ⟨u, k, e⟩ | ⟨tp, cs, ws, rfl, hT, k, e⟩
      · have e2 := k.eq rt
        subst e2
        exact PySem.W.kia_one Z I.kIn J e (fun z => nomatch z) fun tk => ⟨.bl b, H, I.kept (t' := tk) fun _ _ z => z, rfl, q⟩
      · cases rt
        obtain ⟨_, its, rv, o, h1, h2, n, h3⟩ := (show ObjOk X.prog X.w H s.heap tp (.tup cs) from I.hok tp _ hT)
        have e3 := ClsV.all k rv
        subst e3
        obtain ⟨oc, od', dt, sl⟩ := o
        simp only at h2 h3
        subst h2 h3
        exact PySem.W.kia_tup Z I.kIn J h1 e (fun z => nomatch z) fun tk => ⟨.bl b, H, I.kept (t' := tk) fun _ _ z => z, rfl, q⟩
theorem re_isX (c : CtxS X N L) {e : Expr} {es : List Expr} (h : (("isinstance" : Str), KN.glob) ∈ L) (hm : X.mg "isinstance" = none) (q : RA X (e :: es) σ H fun vs H1 => ClV X (.builtin "isinstance") vs H1 Q)
    (he : starEach (e :: es) X.env = (false, eval e X.env) :: starEach es X.env := by with_unfolding_all rfl) (hpl : (backTo pos (starEach es X.env)).any (·.1) = false := by with_unfolding_all rfl) : RE X (.Call (.Name "isinstance" p0) (e :: es) [] pos) σ H Q :=
  re_of (pe_callB ClR.self (c.gl h) hm (by decide +kernel) PA.self (okName_of (c.dbg _ h)).2.2 (okName_of (c.dbg _ h)).1 he hpl) q
theorem lv_isX {a D dd : Addr} {oe : Obj} {pn : List (Addr × Obj)} {fs : List (Str × V)} {y : V} {u : Value} {b : Bool} (C : KitC X.K D) (hz : Zc (.ref D) (some dd) oe) (hf : ∃ vs, oe.data = .fields vs) (hd : H dd = some (.xd fs)) (k : ClsV y u) (e : PySem.W.kitOne X.K (.ref D) u = some b) (q : Q (.bl b) H) :
    ClV (X.suite a ((a, oe) :: pn)) (.builtin "isinstance") [.ref a, y] H Q := ⟨⟨_, call_isX C hz hf, y, b, rfl, ⟨_, hd⟩, q, .inl ⟨u, k, e⟩⟩⟩
theorem lv_isXT {a D dd tp : Addr} {oe : Obj} {pn : List (Addr × Obj)} {fs : List (Str × V)} {cs : List V} {us : List Value} {b : Bool} (C : KitC X.K D) (hz : Zc (.ref D) (some dd) oe) (hf : ∃ vs, oe.data = .fields vs) (hd : H dd = some (.xd fs)) (hT : H tp = some (.tup cs)) (k : Paired ClsV cs us)
    (e : PySem.W.kitAny X.K (.ref D) us = some b) (q : Q (.bl b) H) : ClV (X.suite a ((a, oe) :: pn)) (.builtin "isinstance") [.ref a, .ref tp] H Q := ⟨⟨_, call_isX C hz hf, .ref tp, b, rfl, ⟨_, hd⟩, q, .inr ⟨tp, cs, us, rfl, hT, k, e⟩⟩⟩
/-- fault.f -/
theorem re_field {a C dd : Addr} {oe : Obj} {pn : List (Addr × Obj)} {e : Expr} {f : Str} {fs : List (Str × V)} {v : V} (T : XfC X.K C) (hno : PySem.W.findIn X.K (.ref C) f = some none) (hz : Zc (.ref C) (some dd) oe) (hf : ∃ vs, oe.data = .fields vs)
    (q : RE (X.suite a ((a, oe) :: pn)) e σ H fun x H1 => x = .ref a ∧ H1 dd = some (.xd fs) ∧ fs.lookup f = some v ∧ Q v H1) (hb : attributeBase e f X.env (eval e X.env) = eval e X.env := by with_unfolding_all rfl) :
    RE (X.suite a ((a, oe) :: pn)) (.Attribute e f pos) σ H Q := re_of (pe_xf T hno hz hf PE.self hb) (pe_mono q fun x H1 ⟨e1, h, l, q1⟩ => ⟨e1, rfl, dd, fs, v, rfl, h, l, q1⟩)
theorem Ctx.tr (c : Ctx X N L k) (pn : List (Addr × Obj)) (xe : Value → Shared → Prop) (po : PassesOwn (model X.prog X.w) X.A X.env xe) : Ctx (X.tr pn xe) N L k := ⟨c.n, c.nd, c.look, c.dbg, c.calm, c.room, po, c.kind⟩
theorem Ctx.suite (c : Ctx X N L k) (a : Addr) (pn : List (Addr × Obj)) : CtxS (X.suite a pn) N L := ⟨c.n, c.nd, c.look, c.dbg⟩
/-- try: body, except x as n: suite (that ends by return) -/
theorem rs_try_as (c : CtxS X N L) (hs : X.stack = X.env :: X.outer) (hf : X.env.frame = some X.env.locals) {x n : Str} {c0 : Value} {b₀ : Stmt} {body suite : List Stmt} {np pos' : Pos} (hn : (n, KN.loc) ∈ L) (mn : n ∈ N) (hc : Names X x c0)
    (q : ∀ (pn : List (Addr × Obj)) (xe : Value → Shared → Prop) (W : WX), Takes (X.tr pn xe) W → PassesOwn (model X.prog X.w) X.A X.env xe →
      (∀ (cls : Value) (d : Option Addr) (σ' : L2.St) (H' : Hp), PySem.W.exmOne X.K cls c0 = some true →
        (∀ (a : Addr) (oe : Obj) (pn2 : List (Addr × Obj)) (nx bk ct : L2.St → Hp → Prop) (σa : L2.St), H' a = none → (∀ i : Nat, N[i]? = some n → σa = σ'.set i (some (.ref a))) → σ'.length = N.length → Zc cls d oe → (∃ vs, oe.data = .fields vs) → CtxS (X.suite a ((a, oe) :: pn2)) N L →
          RB (X.suite a ((a, oe) :: pn2)) (b₀ :: suite) { nx := nx, rt := D.rt, bk := bk, ct := ct } σa H') → W cls d σ' H') →
      RB (X.tr pn xe) body D σ H) :
    RS X (.Try body [.ExceptHandler (some (.Name x np)) (some n) (b₀ :: suite) pos'] [] [] pos) D σ H := by
  obtain ⟨i, h1⟩ := List.mem_iff_getElem?.mp mn
  refine rs_of (ps_try_as (i := i) (c := c0) (Wout := fun _ _ _ _ => False) (tb := fun W D σ H => ∀ (pn : List (Addr × Obj)) (xe : Value → Shared → Prop), Takes (X.tr pn xe) W → PassesOwn (model X.prog X.w) X.A X.env xe → RB (X.tr pn xe) body D σ H)
    (ts := fun a cls d D σ H => ∀ (oe : Obj) (pn2 : List (Addr × Obj)), σ.length = N.length → Zc cls d oe → (∃ vs, oe.data = .fields vs) → RB (X.suite a ((a, oe) :: pn2)) (b₀ :: suite) D σ H)
    hs hf (by rw [c.n]; exact c.nd) (by rw [c.n]; exact h1) (c.look _ hn) hc takes0 (fun W pn xe tk po => ?_) (fun a oe cls d pn hz hd => ?_)) ?_
  · exact ⟨fun pins s σ H D I h => PSs.self.run pins s σ H D I (h pn xe tk po)⟩
  · exact ⟨fun pins s σ H D I h => PSs.self.run pins s σ H D I (h oe pn (by rw [I.len, ← c.n]) hz hd)⟩
  · intro pn xe tk po
    refine q pn xe _ tk po fun cls d σ' H' e r => ⟨true, e, fun _ a ha => ?_, fun z => nomatch z⟩
    exact fun oe pn2 hl hz hd => r a oe pn2 _ _ _ _ ha (fun j hj => by rw [nodup_ix c.nd hj h1]) (by simpa using hl) hz hd ⟨c.n, c.nd, c.look, c.dbg⟩
/-- x = y = e -/
theorem rs_set2 (c : Ctx X N L k) {x y : Str} {e : Expr} {j j' : KN} (h : (x, j) ∈ L) (m : Own j) (hx : x ∈ N) (h' : (y, j') ∈ L) (m' : Own j') (hy : y ∈ N) (q : RE X e σ H fun v H1 => ∃ σ' σ'', Put N σ x v σ' ∧ Put N σ' y v σ'' ∧ D.nx σ'' H1)
    (hs : swapsWithSole [.Name x p0, .Name y p1] e pos.line X.env = pure false := by with_unfolding_all rfl) (hw : swappedStores [.Name x p0, .Name y p1] e X.env = pure none := by with_unfolding_all rfl)
    (h1 : (assignEach [.Name x p0, .Name y p1] X.env).map (·.2) = [assign (.Name x p0) X.env, assign (.Name y p1) X.env] := by with_unfolding_all rfl) : RS X (.Assign [.Name x p0, .Name y p1] e pos) D σ H := by
  obtain ⟨i, g, h2⟩ := c.pg (p0 := p0) h m hx
  obtain ⟨i', g', h2'⟩ := c.pg (p0 := p1) h' m' hy
  refine rs_of (t := fun D σ H => RE X e σ H fun v H1 => ∃ σ' σ'', Put N σ x v σ' ∧ Put N σ' y v σ'' ∧ D.nx σ'' H1) ⟨fun pins s σ H D I h => ?_⟩ q
  refine wpAny_Assign_two (thn (PE.self.run pins s σ H _ I h) fun v s1 ⟨z, H1, I1, r1, σ', σ'', a1, a2, q1⟩ => ?_)
  rw [h2 a1] at a2
  rw [h2' a2] at q1
  exact thn (g.run pins s1 σ H1 z v (fun σ2 H2 => σ2 = σ.set i (some z) ∧ H2 = H1) I1 r1 ⟨rfl, rfl⟩) fun _ s2 ⟨σ2, H2, I2, e1, e2⟩ => by
    subst e1 e2
    exact thn (g'.run pins s2 _ _ z v (fun σ2 H2 => D.nx σ2 H2) I2 r1 q1) fun _ s3 q => q
end
end GT
namespace GT
open PySem PySem.Spec PyProof.Rows L2
section
variable {X : Cx} {σ : L2.St} {H : Hp} {N : List Str} {L Lc : List (Str × KN)} {k : Nat} {pos p0 p1 p2 p3 : Pos} {Q : VK} {D : Ends} {x y : V} {p : Addr} {xs : List V} {b : Bool}
/-- for x, y in l, l a list of pairs -/
theorem rs_for_list2 (c : Ctx X N L k) {x y : Str} {l : Expr} {body : List Stmt} {j j' : KN} {kt : Nat} {q0 q1 q2 : Pos} (h : (x, j) ∈ L) (m : Own j) (hx : x ∈ N) (h' : (y, j') ∈ L) (m' : Own j') (hy : y ∈ N)
    (q : RE X l σ H fun v H1 => ∃ a xs, v = .ref a ∧ SqL X.K H1 a xs ∧ ∃ Pv : Nat → L2.St → Hp → Prop, Pv 0 σ H1 ∧ (∀ i σ H, Pv i σ H → SqL X.K H a xs) ∧
      (∀ i w σ H, xs[i]? = some w → Pv i σ H → ∃ t u v, w = .ref t ∧ SqT X.K H t [u, v] ∧ ∃ σ' σ'', Put N σ x u σ' ∧ Put N σ' y v σ'' ∧ RB X body { D with nx := Pv (i + 1), ct := Pv (i + 1), bk := D.nx } σ'' H) ∧ (∀ σ H, Pv xs.length σ H → D.nx σ H))
    (hs : ∀ x, foldedSetIterable l X.env x = pure x := by intro _; with_unfolding_all rfl)
    (hn : (assignEach [.Name x q0, .Name y q1] X.env).length = 2 := by with_unfolding_all rfl) (hst : (assignEach [.Name x q0, .Name y q1] X.env).findIdx? (·.1) = none := by with_unfolding_all rfl)
    (ha : (assignEach [.Name x q0, .Name y q1] X.env).map (·.2) = assign (.Name x q0) X.env :: (assignEach [.Name y q1] X.env).map (·.2) := by with_unfolding_all rfl) (hb : (assignEach [.Name y q1] X.env).map (·.2) = assign (.Name y q1) X.env :: (assignEach [] X.env).map (·.2) := by with_unfolding_all rfl) :
    RS X (.For (.Tuple [.Name x q0, .Name y q1] kt q2) l body [] pos) D σ H := by
  obtain ⟨i, g, h2⟩ := c.pg (p0 := q0) h m hx
  obtain ⟨i', g', h2'⟩ := c.pg (p0 := q1) h' m' hy
  refine rs_of (ps_for c.po c.calm (pi_list PE.self) (pg_tup (n := 2) c.calm (pgs_cons g (pgs_cons g' pgs_nil hb) ha) hn hst) PSs.self hs) (pe_mono q fun v H1 ⟨a, xs, e, hq, Pv, p1, p2, p3, p4⟩ => ⟨a, e, ⟨xs, hq⟩, ?_⟩)
  refine for_list (K := X.K) (a := a) (xs := xs) Pv p1 (fun i σ H _ p => p2 i σ H p) (fun i w σ H e p => ?_) p4
  obtain ⟨t, u, v, rfl, hT, σ', σ'', a1, a2, r⟩ := p3 i w σ H e p
  rw [h2' a2, h2 a1] at r
  exact ⟨t, _, rfl, hT, rfl, _, _, rfl, _, _, rfl, rfl, r⟩
/-- x is True, x is False; x no reference -/
theorem op_isB : OpR X (compareOp .Is) (fun x y H Q => ∃ b, y = .bl b ∧ (x = .non ∨ (∃ c, x = .bl c) ∨ (∃ i, x = .int i) ∨ (∃ z, x = .str z)) ∧ Q (.bl (decide (x = .bl b))) H) := by
  intro pins s σ H x y v u Q I rx ry h
  obtain ⟨b, rfl, hx, q⟩ := h
  cases ry
  have g : ∀ r, r = decide (x = .bl b) → (L2.EP X pins σ Q (.bool r) s) := fun r e => fin_bl I q e.symm
  rcases hx with rfl | ⟨c, rfl⟩ | ⟨i, rfl⟩ | ⟨z, rfl⟩
  · cases rx
    exact wpAny_pure (g _ rfl)
  · cases rx
    refine wpAny_pure (g _ ?_)
    cases b <;> cases c <;> rfl
  · obtain ⟨t, rfl⟩ := rx
    exact wpAny_pure (g _ rfl)
  · obtain ⟨t, rfl⟩ := rx
    exact wpAny_pure (g _ rfl)
theorem cv_isB_b {c : Bool} (q : Q (.bl (decide (c = b))) H) : CpV X .Is (.bl c) (.bl b) H Q := ⟨⟨_, op_isB, b, rfl, .inr (.inl ⟨c, rfl⟩), by
  have e : decide (V.bl c = V.bl b) = decide (c = b) := by simp
  rw [e]
  exact q⟩⟩
theorem cv_isB_i {i : Int} (q : Q (.bl false) H) : CpV X .Is (.int i) (.bl b) H Q := ⟨⟨_, op_isB, b, rfl, .inr (.inr (.inl ⟨i, rfl⟩)), by rw [decide_eq_false (fun e => nomatch e)]; exact q⟩⟩
theorem cv_isB_s {z : Str} (q : Q (.bl false) H) : CpV X .Is (.str z) (.bl b) H Q := ⟨⟨_, op_isB, b, rfl, .inr (.inr (.inr ⟨z, rfl⟩)), by rw [decide_eq_false (fun e => nomatch e)]; exact q⟩⟩
theorem cv_isB_n (q : Q (.bl false) H) : CpV X .Is .non (.bl b) H Q := ⟨⟨_, op_isB, b, rfl, .inl rfl, by rw [decide_eq_false (fun e => nomatch e)]; exact q⟩⟩
/-- isinstance(x, T), T a built-in type -/
theorem lv_isT {t T : String} (ty : TyX X.K H x (.type t)) (e : kitB t T = some b) (q : Q (.bl b) H) : ClV X (.builtin "isinstance") [x, .ty T] H Q := lv_isi (.ty T) ty (kit_ty e) q
theorem lv_isT_n {T : String} (e : kitB "NoneType" T = some b) (q : Q (.bl b) H) : ClV X (.builtin "isinstance") [.non, .ty T] H Q := lv_isT (.base .non) e q
theorem lv_isT_b {T : String} {c : Bool} (e : kitB "bool" T = some b) (q : Q (.bl b) H) : ClV X (.builtin "isinstance") [.bl c, .ty T] H Q := lv_isT (.base (.bl c)) e q
theorem lv_isT_i {T : String} {i : Int} (e : kitB "int" T = some b) (q : Q (.bl b) H) : ClV X (.builtin "isinstance") [.int i, .ty T] H Q := lv_isT (.base (.int i)) e q
theorem lv_isT_s {T : String} {z : Str} (e : kitB "str" T = some b) (q : Q (.bl b) H) : ClV X (.builtin "isinstance") [.str z, .ty T] H Q := lv_isT (.base (.str z)) e q
theorem lv_isT_l {T : String} (h : H p = some (.lst xs)) (e : kitB "list" T = some b) (q : Q (.bl b) H) : ClV X (.builtin "isinstance") [.ref p, .ty T] H Q := lv_isT (.base (.lst h)) e q
theorem lv_isT_t {T : String} (h : H p = some (.tup xs)) (e : kitB "tuple" T = some b) (q : Q (.bl b) H) : ClV X (.builtin "isinstance") [.ref p, .ty T] H Q := lv_isT (.base (.tup h)) e q
theorem iteNT {A B : Prop} (h : B) : if (!true) = true then A else B := h
theorem iteNF {A B : Prop} (h : A) : if (!false) = true then A else B := h
theorem iteD {p : Prop} [Decidable p] {A B : Prop} (hp : p) (h : A) : if decide p = true then A else B := by
  rw [decide_eq_true hp]
  exact h
theorem iteDN {p : Prop} [Decidable p] {A B : Prop} (hp : ¬ p) (h : B) : if decide p = true then A else B := by
  rw [decide_eq_false hp]
  exact h
/-! ### a def that may raise, called where it doesn't -/
theorem re_callX (c : Ctx X N L k) {x : Str} {ps : List Str} {n : Nat} {sp : Sp} {e : Expr} {es : List Expr} (F : DefP X.prog X.w X.K X.mg X.base (L2.CX X.prog X.w) x ps n sp) (hn : n ≤ k) (h : (x, KN.glob) ∈ L) {E : XK} (hx : Passes (L2.CX X.prog X.w) X E) (q : RA X (e :: es) σ H fun vs H1 => sp vs H1 Q E)
    (he : starEach (e :: es) X.env = (false, eval e X.env) :: starEach es X.env := by with_unfolding_all rfl) (hpl : (backTo pos (starEach es X.env)).any (·.1) = false := by with_unfolding_all rfl) : RE X (.Call (.Name x p0) (e :: es) [] pos) σ H Q := by
  obtain ⟨f, fd, F1, m, kp, b⟩ := F.ex
  refine re_of (pe_call F1 (c.room.mono hn) (c.gl h) m kp b .nil hx PA.self (c.d1 h) he hpl) ?_
  exact ra_mono q fun vs H1 d => by rw [List.append_nil]; exact d
end
section
variable {P : Program} {w : World} {K : PySem.W.Frag} {mg : Str → Option Value} {base : Heap} {x : Str} {st : Stmt} {N ps : List Str} {L : List (Str × KN)} {k : Nat} {sp : Sp} {f : Addr} {fd : FuncData}
/-- a def that may raise keeps its promise -/
theorem defPX_of (F : FnP K x st f fd) (gx : mg x = some (.ref f)) (M : Nms st N ps L) (hb : Binds K fd ps []) (len : ∀ vs H Q E, sp vs H Q E → vs.length = ps.length)
    (body : ∀ (X : Cx), Ctx X N L k → At5 X P w K mg base → ∀ (vs : List V) (H : Hp) (Q : VK) (E : XK), Takes X (fun cls d _ H' => E cls d H') → sp vs H Q E → RB X (defBody st) { nx := fun _ H' => Q .non H', rt := Q } (start N vs) H) : DefP P w K mg base (L2.CX P w) x ps (k + 1) sp := by
  refine ⟨f, fd, F.ok M.S len (fun cdv A outer s H vs Q E hr h => ?_), gx, F.kp, hb⟩
  have c : Ctx (cxOf (L2.CX P w) P w K mg base N x (defScope st) f cdv A outer s H E) N L k := ⟨rfl, M.S.nd, knIs_of M rfl (fun _ => rfl), M.db, rfl, hr, passes_of rfl, M.S.kind⟩
  exact (body _ c ⟨rfl, rfl, rfl, rfl, rfl⟩ vs H Q E (takes_of rfl rfl rfl rfl) h).ex
end
/-- the depth of data -/
inductive Dep : Nat → D → Prop
  | non {n : Nat} : Dep n .non
  | bl {n : Nat} {b : Bool} : Dep n (.bl b)
  | int {n : Nat} {i : Int} : Dep n (.int i)
  | str {n : Nat} {z : Str} : Dep n (.str z)
  | lst {n : Nat} {l : List D} (h : ∀ d ∈ l, Dep n d) : Dep (n + 1) (.lst l)
  | tup {n : Nat} {l : List D} (h : ∀ d ∈ l, Dep n d) : Dep (n + 1) (.tup l)
end GT
namespace GT
open PySem PySem.Spec PyProof.Rows L2
/-! ### frames that let the code tables grow -/
def Fx (B : Addr → Prop) (H H' : Hp) : Prop := ∀ a o, ¬ B a → (∀ ps, o ≠ .tbl ps) → H a = some o → H' a = some o
section
variable {B : Addr → Prop} {K : PySem.W.Frag} {H H1 H2 : Hp} {a p : Addr} {o : HO} {xs : List V}
theorem Fr.fx (f : Fr B H H1) : Fx B H H1 := fun a o n _ e => f a o n e
theorem Fx.ext (f : LamX.ExtN H H1) : Fx NoB H H1 := fun a o _ n e => f a o e n
theorem Fx.refl : Fx B H H := fun _ _ _ _ h => h
theorem Fx.trans (h : Fx B H H1) (g : Fx B H1 H2) : Fx B H H2 := fun a o n t e => g a o n t (h a o n t e)
theorem Fx.any (h : Fx NoB H H1) : Fx B H H1 := fun a o _ t e => h a o (fun z => z) t e
theorem Fx.lst (f : Fx B H H1) (n : ¬ B a) (h : H a = some (.lst xs)) : H1 a = some (.lst xs) := f _ _ n (fun _ z => by cases z) h
theorem Fx.tup (f : Fx B H H1) (n : ¬ B a) (h : H a = some (.tup xs)) : H1 a = some (.tup xs) := f _ _ n (fun _ z => by cases z) h
theorem Fx.xd {fs : List (Str × V)} (f : Fx B H H1) (n : ¬ B a) (h : H a = some (.xd fs)) : H1 a = some (.xd fs) := f _ _ n (fun _ z => by cases z) h
theorem Fx.seqL (f : Fx B H H1) (n : ¬ B a) (h : SqL K H a xs) : SqL K H1 a xs := by
  rcases h with (h | ⟨o, h⟩) | h
  · exact .inl (.inl (f _ _ n (fun _ z => by cases z) h))
  · exact .inl (.inr ⟨o, f _ _ n (fun _ z => by cases z) h⟩)
  · exact .inr h
theorem Fx.dt {v : V} {d : D} (f : Fx B H H1) (h : Dt K B H v d) : Dt K B H1 v d := by
  induction h with
  | non => exact .non
  | bl => exact .bl
  | int => exact .int
  | str => exact .str
  | lst n t l _ ih => exact .lst n (f.lst n t) l ih
  | tup n t l _ ih => exact .tup n (f.tup n t) l ih
theorem Fx.dts {vs : List V} {ds : List D} (f : Fx B H H1) (h : Dts K B H vs ds) : Dts K B H1 vs ds := ⟨h.1, fun i v d a b => f.dt (h.2 i v d a b)⟩
theorem Fx.box {b : Addr} (f : Fx NoB H H1) (h : BoxAt H b) : BoxAt H1 b := by
  obtain ⟨g, r, h1, h2⟩ := h
  exact ⟨g, r, f.lst (fun z => z) h1, h2⟩
theorem Fx.put (f : Fx B H H1) (h : H p = none) : Fx B H (upd H1 p o) := fun a u n t e => by
  rw [upd_ne (ne_of_none e h)]
  exact f a u n t e
theorem tabs_fr {T : List (Addr × Str)} (t : LamX.Tabs T H) (f : Fr NoB H H1) : LamX.Tabs T H1 := t.ext fun b o e => f b o (fun z => z) e
end
/-! ### a def of whose code one knows where it stands -/
structure FnC (K : PySem.W.Frag) (x : Str) (st : Stmt) (f cc : Addr) (fd : FuncData) : Prop where
  ex : ∃ (oc : Value) (od : Option Addr) (dV kV doc pm : Value) (an : Option Addr) (ct : Value) (osl : Array (Option Value)),
    fd = PySem.W.fnOf x x (defArgs st) (defBody st) (defScope st) dV kV doc pm an (.ref cc) ct ∧ K.lookup f = some ⟨oc, od, .func fd, osl⟩ ∧ PySem.W.codeIn K (.ref cc) x = true
  kp : PySem.W.keepIn K (.ref f) = true
section
variable {P : Program} {w : World} {K : PySem.W.Frag} {mg : Str → Option Value} {base : Heap} {x : Str} {st : Stmt} {N ps : List Str} {L : List (Str × KN)} {k : Nat} {sp : Sp} {f cc : Addr} {fd : FuncData}
theorem defPC_of (F : FnC K x st f cc fd) (gx : mg x = some (.ref f)) (M : Nms st N ps L) (hb : Binds K fd ps []) (len : ∀ vs H Q E, sp vs H Q E → vs.length = ps.length)
    (body : ∀ (X : Cx), Ctx X N L k → At5 X P w K mg base → X.env.code = .ref cc → X.env.qual = x ++ ".<locals>." → ∀ (vs : List V) (H : Hp) (Q : VK) (E : XK), sp vs H Q E → RB X (defBody st) { nx := fun _ H' => Q .non H', rt := Q } (start N vs) H) : DefP P w K mg base CX0 x ps (k + 1) sp := by
  obtain ⟨oc, od, dV, kV, doc, pm, an, ct, osl, rfl, lk, hcd⟩ := F.ex
  refine ⟨f, _, fn_of lk hcd M.S len (fun A outer s H vs Q E hr h => ?_), gx, F.kp, hb⟩
  have c : Ctx (cxOf CX0 P w K mg base N x (defScope st) f (.ref cc) A outer s H E).nox N L k := ⟨rfl, M.S.nd, knIs_of M rfl (fun _ => rfl), M.db, rfl, hr, PassesOwn.never, M.S.kind⟩
  obtain ⟨t, ht, q⟩ := (body _ c ⟨rfl, rfl, rfl, rfl, rfl⟩ rfl rfl vs H Q E h).ex
  exact ⟨t, ht.nox, q⟩
end
/-! ### a lambda handed to a def -/
/-- the lambda's own scope within a def of the names L; Ll its names -/
def lamOk (L : List (Str × KN)) (scope : Scope) (Ll : List (Str × KN)) : Bool :=
  decide (scope.kind = .function) && !scope.isCoroutine && !scope.isGenerator && (scope.names.all fun y => !decide (y.2 = .local) && !decide (y.2 = .cell) && (!decide (y.2 = .free) || (decide ((y.1, KN.cell) ∈ L) || decide ((y.1, KN.cap) ∈ L)))) &&
    (Ll.all fun p => decide (p ∈ knAll scope.names)) && decide (scope.names.map (·.1)).Nodup && (Ll.all fun p => okName p.1) && (Ll.all fun p => decide (p.2 = .cap) || decide (p.2 = .glob))
section
variable {X : Cx} {σ : L2.St} {H : Hp} {N : List Str} {L Ll : List (Str × KN)} {k : Nat} {pos p0 p1 : Pos} {Q : VK} {scope : Scope}
def LamR (X : Cx) (scope : Scope) (body : Expr) (kl : Nat) (σ : L2.St) : XK → Hp → VK → Prop := fun E H Q => ∀ (A : Around) (outer : List Env) (s : Shared) (H0 : Hp) (f c' : Addr), Room kl (A.deeper (LamX.lamEnv X scope s.heap.objs.size f c')) → RE (LamX.lamCx X A outer s H0 E scope f c') body σ H Q
theorem lamOk_of (c : Ctx X N L k) (h : lamOk L scope Ll = true) : LamX.LamS X.env.scope scope ∧ (∀ p ∈ Ll, p ∈ knAll scope.names) ∧ (scope.names.map (·.1)).Nodup ∧ (∀ p ∈ Ll, okName p.1 = true) ∧ ∀ p ∈ Ll, p.2 = .cap ∨ p.2 = .glob := by
  unfold lamOk at h
  simp only [Bool.and_eq_true, Bool.or_eq_true, Bool.not_eq_true', decide_eq_true_eq, decide_eq_false_iff_not, List.all_eq_true] at h
  obtain ⟨⟨⟨⟨⟨⟨⟨h1, h2⟩, h3⟩, h4⟩, h5⟩, h6⟩, h7⟩, h8⟩ := h
  refine ⟨⟨h1, h2, h3, fun y hy => ⟨(h4 y hy).1.1, (h4 y hy).1.2⟩, fun y hy e => ?_⟩, h5, h6, h7, h8⟩
  rcases (h4 y hy).2 with z | z | z
  · exact absurd e z
  · exact .inl (c.look _ z).1
  · exact c.look _ z
theorem LamR.intro (c : Ctx X N L k) (h : lamOk L scope Ll = true) {body : Expr} {kl : Nat} {E : XK} (q : ∀ Xl : Cx, Ctx Xl N Ll kl → At5 Xl X.prog X.w X.K X.mg X.base → Takes Xl (fun cls d _ H' => E cls d H') → RE Xl body σ H Q) : LamR X scope body kl σ E H Q := by
  obtain ⟨S, h5, h6, h7, h8⟩ := lamOk_of c h
  intro A outer s H0 f c' hr
  refine q _ ⟨c.n, c.nd, fun p hp => ?_, h7, rfl, hr, passes_of rfl, S.kind⟩ ⟨rfl, rfl, rfl, rfl, rfl⟩ (takes_of rfl rfl rfl rfl)
  obtain ⟨y, m⟩ := p
  obtain ⟨j, h1, h2⟩ := knAll_mem (h5 _ hp)
  have e1 : (LamX.lamCx X A outer s H0 E scope f c').env.scope.names.lookup y = some j := lookup_mem h6 h1
  cases j <;> simp only [knOf] at h2 <;> cases h2
  · exact absurd rfl (S.own _ h1).1
  · exact absurd rfl (S.own _ h1).2
  · exact .inr e1
  · exact e1
theorem re_lamcall (c : Ctx X N L k) {T : List (Addr × Str)} {TT : (XK → Hp → VK → Prop) → Hp → VK → Prop} {x a : Str} {sth : Stmt} {g cc P : Addr} {fdh : FuncData} {Ng : List Str} {params : Arguments} {body : Expr} {kl : Nat} (Ll : List (Str × KN)) (hok : lamOk L scope Ll = true)
    (FH : FnP X.K x sth g fdh) (gx : X.mg x = some (.ref g)) (bH : Binds X.K fdh [a] []) (Sg : FnScope Ng [a] (defScope sth)) (hNg : Ng[0]? = some a) (hva : Vis (defScope sth) a) (ha : okName a = true) (hG : ∀ cdg, LamX.GivesTo X Ng x (defScope sth) g cdg (defBody sth) a (X.env.qual ++ "<lambda>") TT)
    (TB : LamX.TabB X.base X.mg cc P) (hcode : X.env.code = .ref cc) (hmT : (P, X.env.qual ++ "<lambda>") ∈ T) (hu : ∀ p ∈ T, p.1 = P → p.2 = X.env.qual ++ "<lambda>") (hk : kl + 2 ≤ k) (hgl : (x, KN.glob) ∈ L)
    (q : LamX.Tabs T H ∧ ∀ H1, LamX.ExtN H H1 → LamX.Tabs T H1 → TT (LamR X scope body kl σ) H1 Q)
    (hdef : defaultsOf params X.env = ([], []) := by with_unfolding_all rfl) (hbind : ∀ (q : Str) (cl : List (Str × Addr)) (pm cv ctv : Value), bindArgs (PySem.W.kla_fn "<lambda>" q params body scope cl pm cv ctv) ⟨[], []⟩ = pure [] := by intros; with_unfolding_all rfl) :
    RE X (.Call (.Name x p0) [.Lambda params body scope p1] [] pos) σ H Q := by
  obtain ⟨oc, od, dV, kV, doc, pm, an, cdv, ct, osl, rfl, lk, hcd, _, _⟩ := FH.ex
  obtain ⟨d1, d2, d3⟩ := okName_of ha
  refine re_of (LamX.pe_lamcall (t := fun E σ H Q => LamR X scope body kl σ E H Q) (c.gl hgl) gx FH.kp lk hcd bH Sg hNg hva (hG cdv) TB hcode hmT hu (c.room.mono hk) (lamOk_of c hok).1 hdef hbind (fun A outer s H E f c' hr => ?_) (c.d1 hgl) d1 d2) q
  exact ⟨fun pins s' σ H' Q' I h => PE.self.run pins s' σ H' Q' I (h A outer s H f c' hr)⟩
/-- a pair of constants is stored as one folded tuple -/
theorem swapped_folded {x y : Expr} {a b : Expr} {kt k2 : Nat} {q1 q2 : Pos} {env : Env} (h : [a, b].all (foldedForSure 8) = true) : swappedStores [.Tuple [x, y] kt q1] (.Tuple [a, b] k2 q2) env = pure none := by
  unfold swappedStores
  dsimp only
  rw [h]
  repeat' first
    | rfl
    | (rename_i hh _; exact absurd rfl hh)
    | split
/-- x, y = e, e a pair -/
theorem rs_tup2 (c : Ctx X N L k) {x y : Str} {e : Expr} {j j' : KN} {kt : Nat} {q0 q1 q2 : Pos} (h : (x, j) ∈ L) (m : Own j) (hx : x ∈ N) (h' : (y, j') ∈ L) (m' : Own j') (hy : y ∈ N) {D : Ends}
    (q : RE X e σ H fun w H1 => ∃ t u v, w = .ref t ∧ SqT X.K H1 t [u, v] ∧ ∃ σ' σ'', Put N σ x u σ' ∧ Put N σ' y v σ'' ∧ D.nx σ'' H1)
    (hw : swappedStores [.Tuple [.Name x q0, .Name y q1] kt q2] e X.env = pure none) (hs : swapsWithSole [.Tuple [.Name x q0, .Name y q1] kt q2] e pos.line X.env = pure false := by with_unfolding_all rfl)
    (h1 : (assignEach [.Tuple [.Name x q0, .Name y q1] kt q2] X.env).map (·.2) = [assign (.Tuple [.Name x q0, .Name y q1] kt q2) X.env] := by with_unfolding_all rfl)
    (hn : (assignEach [.Name x q0, .Name y q1] X.env).length = 2 := by with_unfolding_all rfl) (hst : (assignEach [.Name x q0, .Name y q1] X.env).findIdx? (·.1) = none := by with_unfolding_all rfl)
    (ha : (assignEach [.Name x q0, .Name y q1] X.env).map (·.2) = assign (.Name x q0) X.env :: (assignEach [.Name y q1] X.env).map (·.2) := by with_unfolding_all rfl) (hb : (assignEach [.Name y q1] X.env).map (·.2) = assign (.Name y q1) X.env :: (assignEach [] X.env).map (·.2) := by with_unfolding_all rfl) :
    RS X (.Assign [.Tuple [.Name x q0, .Name y q1] kt q2] e pos) D σ H := by
  obtain ⟨i, g, h2⟩ := c.pg (p0 := q0) h m hx
  obtain ⟨i', g', h2'⟩ := c.pg (p0 := q1) h' m' hy
  refine rs_of (ps_asg PE.self (pg_tup (n := 2) c.calm (pgs_cons g (pgs_cons g' pgs_nil hb) ha) hn hst) hs hw h1) (pe_mono q fun w H1 ⟨t, u, v, e1, hT, σ', σ'', a1, a2, r⟩ => ?_)
  subst e1
  rw [h2' a2, h2 a1] at r
  exact ⟨t, _, rfl, hT, rfl, _, _, rfl, _, _, rfl, rfl, r⟩
/-- x, y = a, b: not all of it constants -/
theorem swapped_two {x y : Str} {a b : Expr} {px py q1 q2 : Pos} {kt k2 : Nat} {env : Env} (hb : env.blockKind = .function) (hx : env.kindOf x = some .local) (hy : env.kindOf y = some .local) (hl : (px.line == py.line) = true) (hd : ([x, y] : List Str).eraseDups = [x, y])
    (ha : ∀ v p, a ≠ .Starred v p) (hb2 : ∀ v p, b ≠ .Starred v p) (h1 : [a, b].all (foldedForSure 8) = false) (h2 : [a, b].all (constantsAlone 8) = false) :
    swappedStores [.Tuple [.Name x px, .Name y py] kt q1] (.Tuple [a, b] k2 q2) env = pure (some [x, y]) := by
  have hl' : px.line = py.line := by simpa using hl
  unfold swappedStores
  dsimp only
  rw [h1, h2]
  simp only [Bool.false_eq_true, if_false]
  rw [if_neg (by simp [hb])]
  have hstar : ∀ (f : Expr → Bool), (∀ e, (∀ v p, e ≠ .Starred v p) → f e = false) → [a, b].any f = false := fun f hf => by
    simp [hf a ha, hf b hb2]
  rw [hstar _ (fun e he => by
    split
    · exact absurd rfl (he _ _)
    · rfl)]
  simp [hx, hy, hl', hd, Expr.pos]
theorem Ctx.bk (c : Ctx X N L k) : X.env.blockKind = .function := by
  unfold Env.blockKind
  rw [c.kind]
  rfl
theorem rs_par2 (c : Ctx X N L k) {x y : Str} {a b : Expr} {px py pt : Pos} {kt k2 : Nat} {pt2 : Pos} {D : Ends} (hx : (x, KN.loc) ∈ L) (hy : (y, KN.loc) ∈ L) (mx : x ∈ N) (my : y ∈ N) (hxy : x ≠ y)
    (q : RA X [a, b] σ H fun vs H1 => ∃ v w σ' σ'', vs = [v, w] ∧ Put N σ x v σ' ∧ Put N σ' y w σ'' ∧ D.nx σ'' H1)
    (hl : (px.line == py.line) = true := by decide +kernel) (hd : ([x, y] : List Str).eraseDups = [x, y] := by decide +kernel) (ha : ∀ v p, a ≠ .Starred v p := by intros; nofun) (hb2 : ∀ v p, b ≠ .Starred v p := by intros; nofun)
    (h1 : [a, b].all (foldedForSure 8) = false := by decide +kernel) (h2 : [a, b].all (constantsAlone 8) = false := by decide +kernel)
    (hs : swapsWithSole [.Tuple [.Name x px, .Name y py] kt pt] (.Tuple [a, b] k2 pt2) pos.line X.env = pure false := by with_unfolding_all rfl) :
    RS X (.Assign [.Tuple [.Name x px, .Name y py] kt pt] (.Tuple [a, b] k2 pt2) pos) D σ H :=
  rs_par c hx hy mx my hxy q (swapped_two c.bk (c.lcl hx) (c.lcl hy) hl hd ha hb2 h1 h2) hs
end
end GT
namespace GT
open PySem PySem.Spec PyProof.Rows L2
/-! ### Bools of the head that tell an own exception class -/
def oexB (K : PySem.W.Frag) (C : Addr) : Bool := match K.lookup C with
  | some ⟨.type "type", _, .cls cd, sl⟩ => (match cd.mro, sl.toList with
    | .ref C' :: bm, [_, _, _, _, some (.builtin n), _] => C' == C && n == "ValueError.__new__" && !cd.hasDel && cd.hasDict && PySem.HandSPX.refsVE bm
    | _, _ => false)
  | _ => false
theorem oexB_ok {K : PySem.W.Frag} {C : Addr} (q : oexB K C = true) : ∃ nm q N bs bm sn sub ab col dd k0 k1 k2 k3 k5, K.lookup C = some (excClassObj nm q C N bs bm true sn sub ab col dd k0 k1 k2 k3 k5 "ValueError.__new__") ∧ PySem.HandSPX.refsVE bm = true := by
  unfold oexB at q
  split at q
  · rename_i dd cd sl ho
    split at q
    · rename_i C' bm k0 k1 k2 k3 n k5 hm hs
      simp only [Bool.and_eq_true, beq_iff_eq, Bool.not_eq_true'] at q
      obtain ⟨⟨⟨⟨rfl, rfl⟩, hdel⟩, hdict⟩, ht⟩ := q
      obtain ⟨nm, bs, mro, ns, qn, hd, sn, sub, ab, col, del⟩ := cd
      dsimp only at hm hdel hdict
      subst hm hdel hdict
      have hsl : sl = #[k0, k1, k2, k3, some (.builtin "ValueError.__new__"), k5] := by
        obtain ⟨l⟩ := sl
        simp only at hs
        rw [hs]
      subst hsl
      exact ⟨nm, qn, ns, bs, bm, sn, sub, ab, col, dd, k0, k1, k2, k3, k5, ho, ht⟩
    · cases q
  · cases q
def kitCB (K : PySem.W.Frag) (D : Addr) : Bool := (PySem.W.clsIn K D).isSome && (He.eqO (PySem.W.findIn K (.ref D) "__getattribute__") (some (some (.builtin "BaseException.__getattribute__"))) && (He.eqO (PySem.W.findIn K (.ref D) "__getattr__") (some none) && (decide (PySem.W.subIn K (.ref D) (.type "BaseException") = some true) &&
  (He.eqO (PySem.W.findIn K (.ref D) "__class__") (some (some (.builtin "object.__class__"))) && (He.eqO (PySem.W.specialIn K (.builtin "object.__class__") "__get__") (some (some (.builtin "getset_descriptor.__get__"))) && (decide (PySem.W.takesIn K (.builtin "object.__class__") = some true) && decide (PySem.W.mroIn K D (.type "object") = some true)))))))
theorem kitCB_ok {K : PySem.W.Frag} {D : Addr} (h : kitCB K D = true) : KitC K D := by
  obtain ⟨h1, h⟩ := He.ba h
  obtain ⟨h2, h⟩ := He.ba h
  obtain ⟨h3, h⟩ := He.ba h
  obtain ⟨h4, h⟩ := He.ba h
  obtain ⟨h5, h⟩ := He.ba h
  obtain ⟨h6, h⟩ := He.ba h
  obtain ⟨h7, h8⟩ := He.ba h
  exact ⟨h1, He.eqO_ok h2, He.eqO_ok h3, of_decide_eq_true h4, He.eqO_ok h5, He.eqO_ok h6, of_decide_eq_true h7, of_decide_eq_true h8⟩
/-- the class nm, its field fl -/
def errB (K : PySem.W.Frag) (nm fl : Str) : Bool := oexB K (He.ga K nm) && (He.eqO (PySem.W.findIn K (.ref (He.ga K nm)) "__setattr__") (some (some (.builtin "object.__setattr__"))) && (decide (PySem.W.subIn K (.ref (He.ga K nm)) (.type "BaseException") = some true) && (decide (PySem.W.typeIn K (.ref (He.ga K nm)) = some (.type "type")) &&
  (PySem.W.keepIn K (.ref (He.ga K nm)) && (He.eqO (PySem.W.findIn K (.ref (He.ga K nm)) "__init__") (some (some (.ref (He.ma K (He.ga K nm) "__init__")))) && (decide (PySem.W.typeIn K (.ref (He.ma K (He.ga K nm) "__init__")) = some (.type "function")) && (He.eqO (PySem.W.findIn K (.ref (He.ga K nm)) fl) (some none) && xfB K (He.ga K nm))))))))
structure ErrK (K : PySem.W.Frag) (C fI : Addr) (fl : Str) : Prop where
  oex : OexC K C
  iC : PySem.W.findIn K (.ref C) "__init__" = some (some (.ref fI))
  tI : PySem.W.typeIn K (.ref fI) = some (.type "function")
  no : PySem.W.findIn K (.ref C) fl = some none
  xf : XfC K C
theorem errB_ok {K : PySem.W.Frag} {nm fl : Str} (h : errB K nm fl = true) : ErrK K (He.ga K nm) (He.ma K (He.ga K nm) "__init__") fl := by
  obtain ⟨h1, h⟩ := He.ba h
  obtain ⟨h2, h⟩ := He.ba h
  obtain ⟨h3, h⟩ := He.ba h
  obtain ⟨h4, h⟩ := He.ba h
  obtain ⟨h5, h⟩ := He.ba h
  obtain ⟨h6, h⟩ := He.ba h
  obtain ⟨h7, h⟩ := He.ba h
  obtain ⟨h8, h9⟩ := He.ba h
  exact ⟨⟨oexB_ok h1, He.eqO_ok h2, of_decide_eq_true h3, of_decide_eq_true h4, h5⟩, He.eqO_ok h6, of_decide_eq_true h7, He.eqO_ok h8, xfB_ok h9⟩
/-- the i-th statement of a class -/
def inCls (st : Stmt) (i : Nat) : Stmt := match st with
  | .ClassDef _ _ _ b _ _ _ _ _ _ _ => b.getD i (.Pass ⟨0, 0, 0, 0⟩)
  | _ => .Pass ⟨0, 0, 0, 0⟩
end GT
namespace GT
open PySem PySem.Spec PyProof.Rows L2
section
variable {X : Cx} {σ : L2.St} {H : Hp} {N : List Str} {L Lc : List (Str × KN)} {k : Nat} {pos p0 p1 p2 : Pos} {Q : VK} {D : Ends} {scope : Scope} {x : Str} {elt : Expr} {ifs : List Expr}
/-- [.. for x in z], z a text -/
theorem re_lc_str (c : Ctx X N L k) (Lc : List (Str × KN)) (hok : lcOk N L scope Lc x = true) {l : Expr}
    (q : RE X l σ H fun v H1 => ∃ z, v = .str z ∧ CTurns X N Lc k scope x elt ifs (fun _ => True) z.cps.size (fun i y => ∃ c, z.cps[i]? = some c ∧ y = .str ⟨#[c]⟩) σ H1 Q)
    (hs : ∀ x, foldedSetIterable l X.env x = pure x := by intro _; with_unfolding_all rfl) : RE X (.ListComp elt [⟨.Name x p0, l, ifs, 0⟩] scope pos) σ H Q := by
  obtain ⟨S, hx, hl, ok⟩ := lcOk_of c hok
  obtain ⟨i, hput, bk, g⟩ := blk_at (p0 := p0) c S hx hl ok
  refine re_of (pe_lc c.calm c.nodup (pi_str PE.self) bk g (fun s H C cl fp => PTs.rta c S s H C cl fp) (fun s H C cl fp => PE.rea c S s H C cl fp) hs) ?_
  exact pe_mono q fun v H1 ⟨z, e, q1⟩ => ⟨z, e, lc_go hput walk_str q1⟩
/-- xs.extend(e), e a list -/
theorem re_extend {o e : Expr} {apos : Pos} (q : RE X o σ H fun x H1 => ∃ l xs, x = .ref l ∧ H1 l = some (.lst xs) ∧ RE X e σ H1 fun y H2 => ∃ b xs' zs, y = .ref b ∧ H2 l = some (.lst xs') ∧ H2 b = some (.lst zs) ∧ xs'.length + zs.length ≤ sizeLine ∧ Q .non (upd H2 l (.lst (xs' ++ zs))))
    (hbase : attributeBase o "extend" X.env (eval o X.env) = eval o X.env := by with_unfolding_all rfl)
    (hfew : ((backTo pos (starEach [e] X.env)).all (fun x => !x.1) && (backToKw pos (keywordEach [] X.env)).all (fun x => x.1.isSome) && decide (([e] : List Expr).length + ([] : List Keyword).length + (if ([] : List Keyword).isEmpty then 0 else 1) < 30)) = true := by with_unfolding_all rfl)
    (hline : (apos.endLine == pos.line) = true := by with_unfolding_all rfl) (hs : starEach [e] X.env = (false, eval e X.env) :: starEach [] X.env := by with_unfolding_all rfl) (hplain : (backTo pos (starEach [] X.env)).any (·.1) = false := by with_unfolding_all rfl) :
    RE X (.Call (.Attribute o "extend" apos) [e] [] pos) σ H Q := by
  refine re_of (pe_bm PySem.F.plainAttrs_list PySem.F.slot_list_extend PySem.F.type_list_extend mt_extend PE.self PA.self hbase hfew hline hs hplain) ?_
  refine pe_mono q fun x H1 ⟨l, xs, e1, h1, q1⟩ => ?_
  subst e1
  refine ⟨.inl ⟨rfl, _, SqL.of h1⟩, ra_cons (pe_mono q1 fun y H2 ⟨b, xs', zs, e2, h2, h3, h4, q2⟩ => ra_nil ⟨l, b, xs', zs, rfl, by rw [e2], h2, h3, h4, q2⟩) hs⟩
/-! ### keywords alone -/
structure RK (X : Cx) (kws : List Keyword) (σ : L2.St) (H : Hp) (Q : List V → Hp → Prop) : Prop where
  ex : ∃ t, PK X kws t ∧ t σ H Q
theorem PK.self {kws : List Keyword} : PK X kws (RK X kws) := ⟨fun pos pins s σ H Q I h => by obtain ⟨t, ht, q⟩ := h.ex; exact ht.run pos pins s σ H Q I q⟩
theorem rk_nil {Q : List V → Hp → Prop} (q : Q [] H) : RK X [] σ H Q := ⟨⟨_, pk_nil, q⟩⟩
theorem rk_cons {nm : Option Str} {e : Expr} {kpos : Pos} {kws : List Keyword} {Q : List V → Hp → Prop} (q : RE X e σ H fun x H1 => RK X kws σ H1 fun xs H2 => Q (x :: xs) H2) : RK X (⟨nm, e, kpos⟩ :: kws) σ H Q := ⟨⟨_, pk_cons PE.self PK.self, q⟩⟩
/-- f(k = e, ..) -/
theorem re_callKO (c : Ctx X N L k) {CXs : CXT} {x : Str} {n : Nat} {f : Addr} {fd : FuncData} {ps ks : List Str} {sp : Sp} {g : List Value → List Value → List Value} {gV : List V → List V → List V} {kws : List Keyword} (F : FnOk X.prog X.w X.K X.mg X.base CXs n f fd ps sp) (hn : n ≤ k) (h : (x, KN.glob) ∈ L)
    (hm : X.mg x = some (.ref f)) (hk : PySem.W.keepIn X.K (.ref f) = true) (hb : KBinds X.K fd ps ks g gV) {E : XK} (hx : Passes CXs X E) (q : RK X kws σ H fun zs H1 => sp (gV [] zs) H1 Q E)
    (hall : (backToKw pos (keywordEach kws X.env)).all (·.1.isSome) = true := by with_unfolding_all rfl) (hks : (backToKw pos (keywordEach kws X.env)).filterMap (·.1) = ks := by with_unfolding_all rfl)
    (hpl : ((backTo pos (starEach [] X.env)).any (·.1) || (backToKw pos (keywordEach kws X.env)).any (·.1.isNone)) = false := by with_unfolding_all rfl) : RE X (.Call (.Name x p0) [] kws pos) σ H Q := by
  refine re_of (t := fun σ H Q => RK X kws σ H fun zs H1 => sp (gV [] zs) H1 Q E) ⟨fun pins s σ H Q I h' => ?_⟩ q
  refine wpAny_Call_Name_kw (ld_glob I (c.gl h) hm ?_ (c.d1 h))
  refine PySem.W.callWith_KW0 (h₀ := X.base) I.ok.mod.kin hk hall ?_ hpl
  refine thn (PK.self.run pos pins s σ H _ I h') fun ws s2 ⟨zs, H2, I2, rz, q2⟩ => ⟨I2.kIn, ?_⟩
  rw [hks]
  exact run_fnk (us := []) (vs := []) F (c.room.mono hn) hb hx I2 .nil rz q2
end
end GT
namespace GT
open PySem PySem.Spec PyProof.Rows L2
/-! ### enumerate of a text -/
def IteS (x : Str) : It := ⟨fun i _ => i < x.cps.size, fun i H v H' => ∃ T c, v = .ref T ∧ H T = none ∧ H' = upd H T (.tup [.int (i : Nat), .str ⟨#[c]⟩]) ∧ x.cps[i]? = some c, fun i _ => i = x.cps.size⟩
theorem turn_enumS {P : Program} {w : World} {K : PySem.W.Frag} {elts : List Expr} {kk : Nat} {tpos : Pos} (e it : Addr) (x : Str) (t : Tok) (ty : String) (hty : ty = "str_ascii_iterator" ∨ ty = "str_iterator") :
    Turn P w K (.Tuple elts kk tpos) (IteS x) [e, it] e (fun i h => (∃ old, IsEnum h e it ((i : Nat) : Int) old) ∧ h.IsStrIter it ty x t i ∧ e ≠ it) where
  mem := by simp
  obj := fun i h st b hb => by
    obtain ⟨⟨old, he⟩, ⟨o, ho, hc, hd⟩, _⟩ := st
    have e' : b = e ∨ b = it := by simpa using hb
    rcases e' with z | z
    · rw [z]; exact ⟨_, he, fun v q => nomatch q⟩
    · rw [z]; exact ⟨o, ho, fun v q => by rw [hd] at q; cases q⟩
  keep := fun i h h' st k => let ⟨⟨old, he⟩, hi, hne⟩ := st; ⟨⟨old, k e (by simp) _ he⟩, (by obtain ⟨o, ho, hc, hd⟩ := hi; exact ⟨o, k it (by simp) _ ho, hc, hd⟩), hne⟩
  item := by
    intro X hP hw hK hc i pins s σ H E I hf st hg
    subst hP hw hK
    obtain ⟨⟨old, he⟩, hit, hne⟩ := st
    have hel : e < s.heap.objs.size := Heap.lt_size he
    have hil : it < s.heap.objs.size := by obtain ⟨_, q, _⟩ := hit; exact Heap.lt_size q
    have hh : X.A.in1.handled = none := I.ok.hd hc
    have D : Draws X.prog X.w X.A.in1 it [it] x.cps.size (fun i v => ∃ c u, x.cps[i]? = some c ∧ v = .str ⟨#[c]⟩ u) (fun i h => h.IsStrIter it ty x t i) := by
      rcases hty with e | e
      · rw [e]; exact Draws.strAscii hh it x t
      · rw [e]; exact Draws.strWide hh it x t
    refine wpAny_pyNext_enum_itemD D he hit hg hne (by simpa using hne) fun v h' tk hv ho hit' hT hsz hk => ?_
    obtain ⟨c, u, hcx, rfl⟩ := hv
    refine ⟨_, rfl, wpAny_letOwnedTupleGo_enum (s := { s with heap := h', toks := tk + 1 }) ho fun h'' he' sb => ?_⟩
    have hT2 : h''.get? s.heap.objs.size = some { cls := .type "tuple", data := .seq #[.int i tk, .str ⟨#[c]⟩ u] } := (sb.2 _ (Nat.ne_of_gt hel)).trans hT
    have new : ObjOk X.prog X.w (upd H s.heap.objs.size (.tup [.int (i : Nat), .str ⟨#[c]⟩])) h'' s.heap.objs.size (.tup [.int (i : Nat), .str ⟨#[c]⟩]) :=
      ⟨by show 2 ≤ sizeLine; decide, [.int i tk, .str ⟨#[c]⟩ u], .cons ⟨_, rfl⟩ (.cons ⟨_, rfl⟩ .nil), ⟨_, hT2, rfl, _, rfl⟩⟩
    have I1 : Inv X pins σ (upd H s.heap.objs.size (.tup [.int (i : Nat), .str ⟨#[c]⟩])) { s with heap := h'', toks := tk + 1 } :=
      I.turnedNew (ch := [e, it]) (fun b ob hb q => (sb.2 b (fun z => hb (by simp [z]))).trans (hk b ob (fun z => hb (by simp [z])) (fun z => hb (by simp [z])) q)) hf (Nat.le_refl _) new
    refine ⟨.ref s.heap.objs.size, _, I1, rfl, ⟨_, c, rfl, I.hok.fresh (Nat.le_refl _), rfl, hcx⟩, ⟨⟨.str ⟨#[c]⟩ u, ?_⟩, ?_, hne⟩, fun b hb => ?_⟩
    · have e1 : ((i + 1 : Nat) : Int) = (i : Int) + 1 := by omega
      rw [e1]; exact he'
    · obtain ⟨o, ho2, hc2, hd2⟩ := hit'
      exact ⟨o, (sb.2 it (Ne.symm hne)).trans ho2, hc2, hd2⟩
    · have hb' : b < s.heap.objs.size := by
        have e' : b = e ∨ b = it := by simpa using hb
        rcases e' with z | z
        · rw [z]; exact hel
        · rw [z]; exact hil
      rw [upd_ne (Nat.ne_of_lt hb')]
      exact (hf b hb).1
  done := by
    intro X hP hw hK hc i pins s σ H E I hf st hg
    subst hP hw hK
    obtain ⟨⟨old, he⟩, hit, hne⟩ := st
    obtain ⟨f0, f1, f2, f3, f4, f5⟩ := hf it (by simp)
    have hh : X.A.in1.handled = none := I.ok.hd hc
    have D : Draws X.prog X.w X.A.in1 it [it] x.cps.size (fun i v => ∃ c u, x.cps[i]? = some c ∧ v = .str ⟨#[c]⟩ u) (fun i h => h.IsStrIter it ty x t i) := by
      rcases hty with e | e
      · rw [e]; exact Draws.strAscii hh it x t
      · rw [e]; exact Draws.strWide hh it x t
    have e1 : i = x.cps.size := hg
    rw [e1] at hit
    exact wpAny_pyNext_enum_endD D he hit fun h' eb => ⟨rfl, I.turned (t' := s.toks) (fun b o hb q => eb b o hb q) f0 f1 f3 f4 f5⟩
  self := fun A i s Q E st h => let ⟨⟨_, he⟩, _⟩ := st; wpAny_pyIter_enum he h
theorem iterTy (x : Str) : strIterType x = "str_ascii_iterator" ∨ strIterType x = "str_iterator" := by
  unfold strIterType
  split
  · exact .inl rfl
  · exact .inr rfl
def iEnumS (ta : TA) : TI := fun σ H R => ta σ H fun vs H1 => ∃ x, vs = [.str x] ∧ R (IteS x) H1
theorem pi_enumS {X : Cx} {e : Expr} {ta : TA} {p pos tpos : Pos} {elts : List Expr} {kk : Nat} (hg : Gl X "enumerate") (hm : X.mg "enumerate" = none) (ha : PA X [e] ta) (hs : starEach [e] X.env = [(false, eval e X.env)] := by rfl) :
    PI X (.Tuple elts kk tpos) (.Call (.Name "enumerate" p) [e] [] pos) (iEnumS ta) := by
  refine ⟨fun pins s σ H R I h => ?_⟩
  refine Call_ (ld_blt I hg hm boot_enumerate (PyProof.Rows.callWith_type1 (thn (ha.run pos pins s σ H _ I h) fun us s1 ⟨vs, H1, I1, r1, q1⟩ => ?_) hs rfl))
  obtain ⟨x, ex, q⟩ := q1
  subst ex
  cases r1 with
  | cons r rr =>
    cases rr
    obtain ⟨t, rfl⟩ := r
    refine call_enumerate_str fun h' he hit hsz hk => wpAny_pyIter_enum he ?_
    have I2 : Inv X pins σ H1 { s1 with heap := h' } := I1.kept (t' := s1.toks) hk
    refine ⟨s1.heap.objs.size + 1, [s1.heap.objs.size + 1, s1.heap.objs.size], _, _, H1, rfl, I2, turn_enumS (s1.heap.objs.size + 1) s1.heap.objs.size x t _ (iterTy x), ⟨⟨.none, he⟩, hit, Nat.succ_ne_self _⟩, fun b hb => ?_, q⟩
    have e' : b = s1.heap.objs.size + 1 ∨ b = s1.heap.objs.size := by simpa using hb
    have hle : s1.heap.objs.size ≤ b := by
      rcases e' with z | z
      · rw [z]; exact Nat.le_add_right _ _
      · rw [z]; exact Nat.le_refl _
    exact I1.fpOk hle (I1.hok.fresh hle)
end GT
namespace GT
open PySem
open Sem (wp)
/-! ### enumerate(v), v told by how its iterator begins -/
theorem meets_enum1 {v : Value} {o : Obj} {G : Heap → Prop} (B : Begins v o G) :
    Meets (Builtin.«enumerate.__new__» ⟨[.type "enumerate", v], []⟩) (fun _ R s => G s.heap ∧
      R (.ok (.ret (.ref (s.heap.push o).objs.size))) { s with heap := (s.heap.push o).push { cls := .type "enumerate", data := .fields #[.none, .bool false, .ref s.heap.objs.size, rawInt 0, .none, .none] } }) :=
  .of_wp fun prog w A R s h => by
    obtain ⟨hp, g, d, tk, os⟩ := s
    obtain ⟨h1, h⟩ := h
    have hsub := sub_enumerate
    have q1 : ∀ {A' : Around} {E : Value → Shared → Prop} {Q : Value → Shared → Prop}, Q (.ref hp.objs.size) ⟨hp.push o, g, d, tk, os⟩ → wpAny (model prog w) A' (pyIter v) Q E ⟨hp, g, d, tk, os⟩ :=
      fun q => B.iter prog w _ _ ⟨hp, g, d, tk, os⟩ _ h1 q
    wp_walk using q1
    refine wpAny_stack_any fun st => wpAny_pure ?_
    split
    · rename_i c _ _ _ _ _
      cases (c == Value.type "enumerate") <;> (wp_walk using q1; exact ⟨_, rfl, h⟩)
    · wp_walk using q1
      exact ⟨_, rfl, h⟩
theorem call_enum1 {prog : Program} {w : World} {A : Around} {E : Value → Shared → Prop} {s : Shared} {v : Value} {o : Obj} {G : Heap → Prop} {Q : Value → Shared → Prop} (B : Begins v o G) (h1 : G s.heap)
    (h : ∀ h', IsEnum h' (s.heap.objs.size + 1) s.heap.objs.size 0 .none → h'.get? s.heap.objs.size = some o → (∀ b o, s.heap.get? b = some o → h'.get? b = some o) → Q (.ref (s.heap.objs.size + 1)) { s with heap := h' }) :
    wpAny (model prog w) A (call (.type "enumerate") [v]) Q E s := by
  refine callType_new F.called_enumerate (by decide) (F.typeCall_enumerate_1 _) (F.newCall_enumerate_1 _) (fun obj => F.args_object_init_2 obj _) F.entry_enumerate_new (meets_enum1 B) ⟨h1, ?_⟩
  have hz : (s.heap.push o).objs.size = s.heap.objs.size + 1 := Heap.size_push ..
  show _ ∧ _
  rw [hz]
  have he : IsEnum ((s.heap.push o).push { cls := .type "enumerate", data := .fields #[.none, .bool false, .ref s.heap.objs.size, rawInt 0, .none, .none] }) (s.heap.objs.size + 1) s.heap.objs.size 0 .none := by
    have e := Heap.get?_push_size (s.heap.push o) (o := { cls := .type "enumerate", data := .fields #[.none, .bool false, .ref s.heap.objs.size, rawInt 0, .none, .none] }) rfl
    rw [hz] at e
    exact e
  exact ⟨⟨_, he, rfl⟩, h _ he (Heap.get?_push_of_some _ (Heap.get?_push_size _ B.free)) fun b o x => Heap.get?_push_of_some _ (Heap.get?_push_of_some _ x)⟩
theorem nextEnd_tuple {prog : Program} {w : World} {A : Around} {E : Value → Shared → Prop} {s : Shared} {e it l : Addr} {i : Nat} {n : Int} {items : Array Value} {old : Value} {Q : Option Value → Shared → Prop} (hh : A.in1.handled = none)
    (he : IsEnum s.heap e it n old) (hit : s.heap.IsTupleIter it l i) (hl : s.heap.IsTuple l items) (hx : items[i]? = none)
    (hQ : ∀ h', Heap.ExtBut it s.heap h' → Q none { s with heap := h' }) : wpAny (model prog w) A (pyNext (.ref e)) Q E s := by
  have hT : s.TypeIs (.ref e) "enumerate" := ⟨_, he, rfl⟩
  unfold pyNext
  refine wpAny_bind (wpAny_attempt (wpAny_callSpecial?_slot (name := Str.ofString "__next__") hT F.slot_enumerate_next (wpAny_call_entry F.slot_enumerate_next hT F.entry_enumerate_next ?_ (F.args_enumerate_next_1 _))))
  show wpAny _ _ (field (.ref e) 2 >>= _) _ _ _
  refine wpAny_bind (wpAny_field he rfl (x := .ref it) rfl (wpAny_bind (wpAny_nextOf_tuple_end hh hit hl hx fun h' x he' hx' => ?_)))
  obtain ⟨o, ho, hc⟩ := hx'
  exact wpAny_bind (wpAny_isInstance (T := "StopIteration") (b := true) ⟨o, ho, hc⟩ isSubtype_stop (wpAny_pure (hQ _ he')))
end GT
namespace GT
open PySem PySem.Spec PyProof.Rows L2
/-! ### enumerate of a tuple -/
def IteT (K : PySem.W.Frag) (a : Addr) : It :=
  ⟨fun i H => ∃ (xs : List V) (x : V), SqT K H a xs ∧ xs[i]? = some x, fun i H v H' => ∃ T x, v = .ref T ∧ H T = none ∧ H' = upd H T (.tup [.int (i : Nat), x]) ∧ ∀ xs, SqT K H a xs → xs[i]? = some x, fun i H => ∃ xs : List V, SqT K H a xs ∧ xs.length ≤ i⟩
theorem turn_enumT {P : Program} {w : World} {K : PySem.W.Frag} {elts : List Expr} {kk : Nat} {tpos : Pos} (a e it : Addr) :
    Turn P w K (.Tuple elts kk tpos) (IteT K a) [e, it] e (fun i h => (∃ old, IsEnum h e it ((i : Nat) : Int) old) ∧ h.IsTupleIter it a i ∧ e ≠ it) where
  mem := by simp
  obj := fun i h st b hb => by
    obtain ⟨⟨old, he⟩, ⟨o, ho, hc, hd⟩, _⟩ := st
    have e' : b = e ∨ b = it := by simpa using hb
    rcases e' with z | z <;> subst z
    · exact ⟨_, he, fun v q => nomatch q⟩
    · exact ⟨o, ho, fun v q => by rw [hd] at q; cases q⟩
  keep := fun i h h' st k => by
    obtain ⟨⟨old, he⟩, hi, hne⟩ := st
    exact ⟨⟨old, k e (by simp) _ he⟩, hi.at fun o q => k it (by simp) o q, hne⟩
  item := by
    intro X hP hw hK hc i pins s σ H E I hf st hg
    subst hP hw hK
    obtain ⟨⟨old, he⟩, hit, hne⟩ := st
    obtain ⟨xs, x, hq, hx⟩ := hg
    obtain ⟨its, rv, p, hz⟩ := I.tuple hq
    have p : s.heap.IsTuple a its.toArray := p
    obtain ⟨oa, hoa, hca, _⟩ := id p
    obtain ⟨oi, hoi, hci, _⟩ := id hit
    have n1 : a ≠ it := fun q => by
      rw [q, hoi] at hoa
      cases hoa
      rw [hci] at hca
      exact absurd hca (by decide)
    have n2 : e ≠ a := fun q => by
      rw [← q, he] at hoa
      cases hoa
      exact absurd (show Value.type "enumerate" = Value.type "tuple" from hca) (by decide)
    have hel : e < s.heap.objs.size := Heap.lt_size he
    have hil : it < s.heap.objs.size := Heap.lt_size hoi
    have hh : X.A.in1.handled = none := I.ok.hd hc
    have D := Draws.tuple (prog := X.prog) (w := X.w) (A := X.A.in1) hh it a n1 its.toArray
    have hlt : i < its.toArray.size := by
      obtain ⟨u, hu, _⟩ := rv.get hx
      rcases Nat.lt_or_ge i its.length with z | z
      · simpa using z
      · rw [List.getElem?_eq_none z] at hu; cases hu
    refine wpAny_pyNext_enum_itemD D he ⟨hit, p⟩ hlt hne (by simp [hne, n2]) fun v h' tk hv ho hit' hT hsz hk => ?_
    obtain ⟨u, hu, ru⟩ := rv.get hx
    have ev : v = u := by
      have h2 : its.toArray[i]? = some u := by simpa using hu
      exact Option.some.inj ((show its.toArray[i]? = some v from hv).symm.trans h2)
    subst ev
    refine ⟨_, rfl, wpAny_letOwnedTupleGo_enum (s := { s with heap := h', toks := tk + 1 }) ho fun h'' he' sb => ?_⟩
    have hT2 : h''.get? s.heap.objs.size = some { cls := .type "tuple", data := .seq #[.int i tk, v] } := (sb.2 _ (Nat.ne_of_gt hel)).trans hT
    have new : ObjOk X.prog X.w (upd H s.heap.objs.size (.tup [.int (i : Nat), x])) h'' s.heap.objs.size (.tup [.int (i : Nat), x]) :=
      ⟨by show 2 ≤ sizeLine; decide, [.int i tk, v], .cons ⟨_, rfl⟩ (.cons ru .nil), ⟨_, hT2, rfl, _, rfl⟩⟩
    have I1 : Inv X pins σ (upd H s.heap.objs.size (.tup [.int (i : Nat), x])) { s with heap := h'', toks := tk + 1 } :=
      I.turnedNew (ch := [e, it]) (fun b ob hb q => (sb.2 b (fun z => hb (by simp [z]))).trans (hk b ob (fun z => hb (by simp [z])) (fun z => hb (by simp [z])) q)) hf (Nat.le_refl _) new
    refine ⟨.ref s.heap.objs.size, _, I1, rfl, ⟨_, x, rfl, I.hok.fresh (Nat.le_refl _), rfl, fun ys hy => by rw [I.tuple_inj hy hq]; exact hx⟩, ⟨⟨v, ?_⟩, hit'.1.at fun o q => (sb.2 it (Ne.symm hne)).trans q, hne⟩, fun b hb => ?_⟩
    · have e1 : ((i + 1 : Nat) : Int) = (i : Int) + 1 := by omega
      rw [e1]; exact he'
    · have hb' : b < s.heap.objs.size := by
        have e' : b = e ∨ b = it := by simpa using hb
        rcases e' with z | z <;> subst z <;> assumption
      rw [upd_ne (Nat.ne_of_lt hb')]
      exact (hf b hb).1
  done := by
    intro X hP hw hK hc i pins s σ H E I hf st hg
    subst hP hw hK
    obtain ⟨⟨old, he⟩, hit, hne⟩ := st
    obtain ⟨xs, hq, hx⟩ := hg
    obtain ⟨its, rv, p, hz⟩ := I.tuple hq
    have p : s.heap.IsTuple a its.toArray := p
    obtain ⟨oa, hoa, hca, _⟩ := id p
    obtain ⟨oi, hoi, hci, hdi⟩ := id hit
    have n1 : a ≠ it := fun q => by
      rw [q, hoi] at hoa
      cases hoa
      rw [hci] at hca
      exact absurd hca (by decide)
    obtain ⟨f0, f1, f2, f3, f4, f5⟩ := hf it (by simp)
    have hl := rv.length
    have hh : X.A.in1.handled = none := I.ok.hd hc
    refine nextEnd_tuple hh he hit p (by simp; omega) fun h' eb => ?_
    exact ⟨rfl, I.turned (t' := s.toks) (fun b o hb q => eb b o hb q) f0 f1 f3 f4 f5⟩
  self := fun A i s Q E st h => by
    obtain ⟨⟨_, he⟩, _⟩ := st
    exact wpAny_pyIter_enum he h
def iEnumT (K : PySem.W.Frag) (ta : TA) : TI := fun σ H R => ta σ H fun vs H1 => ∃ a xs, vs = [.ref a] ∧ SqT K H1 a xs ∧ R (IteT K a) H1
theorem pi_enumT {X : Cx} {e : Expr} {ta : TA} {p pos tpos : Pos} {elts : List Expr} {kk : Nat} (hg : Gl X "enumerate") (hm : X.mg "enumerate" = none) (ha : PA X [e] ta) (hs : starEach [e] X.env = [(false, eval e X.env)] := by rfl) :
    PI X (.Tuple elts kk tpos) (.Call (.Name "enumerate" p) [e] [] pos) (iEnumT X.K ta) := by
  refine ⟨fun pins s σ H R I h => ?_⟩
  refine Call_ (ld_blt I hg hm boot_enumerate (PyProof.Rows.callWith_type1 (thn (ha.run pos pins s σ H _ I h) fun us s1 ⟨vs, H1, I1, r1, q1⟩ => ?_) hs rfl))
  obtain ⟨a, xs, ex, hq, q⟩ := q1
  subst ex
  cases r1 with
  | cons r rr =>
    cases rr
    cases r
    obtain ⟨its, rv, p', hz⟩ := I1.tuple hq
    refine call_enum1 (begins_tuple a its.toArray) (show s1.heap.IsTuple a its.toArray from p') fun h' he hit hk => wpAny_pyIter_enum he ?_
    have I2 : Inv X pins σ H1 { s1 with heap := h' } := I1.kept (t' := s1.toks) hk
    refine ⟨s1.heap.objs.size + 1, [s1.heap.objs.size + 1, s1.heap.objs.size], _, _, H1, rfl, I2, turn_enumT a (s1.heap.objs.size + 1) s1.heap.objs.size, ⟨⟨.none, he⟩, ⟨_, hit, rfl, rfl⟩, Nat.succ_ne_self _⟩, fun b hb => ?_, q⟩
    have e' : b = s1.heap.objs.size + 1 ∨ b = s1.heap.objs.size := by simpa using hb
    have hle : s1.heap.objs.size ≤ b := by rcases e' with z | z <;> subst z <;> simp
    exact I1.fpOk hle (I1.hok.fresh hle)
/-! ### walks over them -/
theorem walk_enumS {z : Str} : Walk (IteS z) z.cps.size (fun _ => True) (YPair (fun i => some (.int (i : Nat))) (fun i => z.cps[i]?.map fun c => .str ⟨#[c]⟩)) := by
  refine ⟨fun _ _ hi _ => hi, fun _ _ => rfl, fun i H v H' _ _ y => ?_⟩
  obtain ⟨T, c, h1, h2, h3, h4⟩ := y
  exact ⟨T, .int (i : Nat), .str ⟨#[c]⟩, h1, h2, h3, rfl, by show Option.map _ _ = _; rw [h4]; rfl⟩
theorem walk_enumT {K : PySem.W.Frag} {a : Addr} {xs : List V} : Walk (IteT K a) xs.length (fun H => SqT K H a xs) (YPair (fun i => some (.int (i : Nat))) (fun i => xs[i]?)) := by
  refine ⟨fun i _ hi q => ⟨xs, xs[i], q, by simp [hi]⟩, fun _ q => ⟨xs, q, Nat.le_refl _⟩, fun i H v H' _ q y => ?_⟩
  obtain ⟨T, x, h1, h2, h3, h4⟩ := y
  exact ⟨T, .int (i : Nat), x, h1, h2, h3, rfl, h4 xs q⟩
section
variable {X : Cx} {σ : L2.St} {H : Hp} {N : List Str} {L Lc : List (Str × KN)} {k : Nat} {pos p0 p1 p2 p3 : Pos} {Q : VK} {D : Ends}
/-- what a loop over pairs asks: u i, v i the pair's parts, T its own new tuple -/
def PTurns (X : Cx) (N : List Str) (x y : Str) (body : List Stmt) (D : Ends) (stand : Hp → Prop) (n : Nat) (u v : Nat → Option V) (σ : L2.St) (H : Hp) : Prop :=
  ∃ Pv : Nat → L2.St → Hp → Prop, Pv 0 σ H ∧ (∀ i σ H, i ≤ n → Pv i σ H → stand H) ∧
    (∀ i a b σ H T, i < n → u i = some a → v i = some b → Pv i σ H → H T = none → ∃ σ' σ'', Put N σ x a σ' ∧ Put N σ' y b σ'' ∧ RB X body { D with nx := Pv (i + 1), ct := Pv (i + 1), bk := D.nx } σ'' (upd H T (.tup [a, b]))) ∧ (∀ σ H, Pv n σ H → D.nx σ H)
theorem pturns_go {J : It} {x y : Str} {body : List Stmt} {stand : Hp → Prop} {n : Nat} {u v : Nat → Option V} {i i' : Nat} (W : Walk J n stand (YPair u v)) (h2 : ∀ {σ σ' : L2.St} {v : V}, Put N σ x v σ' → σ' = σ.set i (some v)) (h2' : ∀ {σ σ' : L2.St} {v : V}, Put N σ y v σ' → σ' = σ.set i' (some v))
    (q : PTurns X N x y body D stand n u v σ H) :
    ∃ W : Nat → Nat → L2.St → Hp → Prop, (∃ m, W 0 m σ H) ∧ ∀ j m σ H, W j m σ H → (J.stop j H ∧ D.nx σ H) ∨ (J.go j H ∧ ∃ Nx : L2.St → Hp → Prop, (∀ σ' H', Nx σ' H' → ∃ m', m' < m ∧ W (j + 1) m' σ' H') ∧ ∀ w H', J.yld j H w H' →
      gTup X.K 2 (gCons (gName i) (gCons (gName i') gNil)) w σ H' fun σ2 H2 => RB X body { D with nx := Nx, ct := Nx, bk := D.nx } σ2 H2) := by
  obtain ⟨Pv, a1, a2, a3, a4⟩ := q
  refine for_it W (tb := fun D σ H => RB X body D σ H) (g := gTup X.K 2 (gCons (gName i) (gCons (gName i') gNil))) Pv a1 a2 (fun j w σ H H' hj p yy => ?_) a4
  obtain ⟨T, a, b, rfl, hT, rfl, e1, e2⟩ := yy
  obtain ⟨σ', σ'', b1, b2, r⟩ := a3 j a b σ H T hj e1 e2 p hT
  rw [h2' b2, h2 b1] at r
  exact ⟨T, _, rfl, SqT.of upd_same, rfl, _, _, rfl, _, _, rfl, rfl, r⟩
section
variable {x y : Str} {e : Expr} {body : List Stmt} {j j' : KN} {kt : Nat} {q0 q1 q2 : Pos}
theorem rs_for_enumS (c : Ctx X N L k) (h : (x, j) ∈ L) (m : Own j) (hx : x ∈ N) (h' : (y, j') ∈ L) (m' : Own j') (hy : y ∈ N) (hg : (("enumerate" : Str), KN.glob) ∈ L) (hm : X.mg "enumerate" = none)
    (q : RE X e σ H fun v H1 => ∃ z, v = .str z ∧ PTurns X N x y body D (fun _ => True) z.cps.size (fun i => some (.int (i : Nat))) (fun i => z.cps[i]?.map fun c => .str ⟨#[c]⟩) σ H1)
    (hs : ∀ x, foldedSetIterable (.Call (.Name "enumerate" p1) [e] [] p2) X.env x = pure x := by intro _; with_unfolding_all rfl) (hsE : starEach [e] X.env = [(false, eval e X.env)] := by with_unfolding_all rfl)
    (hn : (assignEach [.Name x q0, .Name y q1] X.env).length = 2 := by with_unfolding_all rfl) (hst : (assignEach [.Name x q0, .Name y q1] X.env).findIdx? (·.1) = none := by with_unfolding_all rfl)
    (ha : (assignEach [.Name x q0, .Name y q1] X.env).map (·.2) = assign (.Name x q0) X.env :: (assignEach [.Name y q1] X.env).map (·.2) := by with_unfolding_all rfl) (hb : (assignEach [.Name y q1] X.env).map (·.2) = assign (.Name y q1) X.env :: (assignEach [] X.env).map (·.2) := by with_unfolding_all rfl) :
    RS X (.For (.Tuple [.Name x q0, .Name y q1] kt q2) (.Call (.Name "enumerate" p1) [e] [] p2) body [] pos) D σ H := by
  obtain ⟨i, g, h2⟩ := c.pg (p0 := q0) h m hx
  obtain ⟨i', g', h2'⟩ := c.pg (p0 := q1) h' m' hy
  refine rs_of (ps_for c.po c.calm (pi_enumS (c.gl hg) hm PA.self hsE) (pg_tup (n := 2) c.calm (pgs_cons g (pgs_cons g' pgs_nil hb) ha) hn hst) PSs.self hs) ?_
  exact ra_cons (pe_mono q fun v H1 ⟨z, e1, t⟩ => ra_nil ⟨z, by rw [e1], pturns_go walk_enumS h2 h2' t⟩) hsE
theorem rs_for_enumT (c : Ctx X N L k) (h : (x, j) ∈ L) (m : Own j) (hx : x ∈ N) (h' : (y, j') ∈ L) (m' : Own j') (hy : y ∈ N) (hg : (("enumerate" : Str), KN.glob) ∈ L) (hm : X.mg "enumerate" = none)
    (q : RE X e σ H fun v H1 => ∃ a xs, v = .ref a ∧ SqT X.K H1 a xs ∧ PTurns X N x y body D (fun H => SqT X.K H a xs) xs.length (fun i => some (.int (i : Nat))) (fun i => xs[i]?) σ H1)
    (hs : ∀ x, foldedSetIterable (.Call (.Name "enumerate" p1) [e] [] p2) X.env x = pure x := by intro _; with_unfolding_all rfl) (hsE : starEach [e] X.env = [(false, eval e X.env)] := by with_unfolding_all rfl)
    (hn : (assignEach [.Name x q0, .Name y q1] X.env).length = 2 := by with_unfolding_all rfl) (hst : (assignEach [.Name x q0, .Name y q1] X.env).findIdx? (·.1) = none := by with_unfolding_all rfl)
    (ha : (assignEach [.Name x q0, .Name y q1] X.env).map (·.2) = assign (.Name x q0) X.env :: (assignEach [.Name y q1] X.env).map (·.2) := by with_unfolding_all rfl) (hb : (assignEach [.Name y q1] X.env).map (·.2) = assign (.Name y q1) X.env :: (assignEach [] X.env).map (·.2) := by with_unfolding_all rfl) :
    RS X (.For (.Tuple [.Name x q0, .Name y q1] kt q2) (.Call (.Name "enumerate" p1) [e] [] p2) body [] pos) D σ H := by
  obtain ⟨i, g, h2⟩ := c.pg (p0 := q0) h m hx
  obtain ⟨i', g', h2'⟩ := c.pg (p0 := q1) h' m' hy
  refine rs_of (ps_for c.po c.calm (pi_enumT (c.gl hg) hm PA.self hsE) (pg_tup (n := 2) c.calm (pgs_cons g (pgs_cons g' pgs_nil hb) ha) hn hst) PSs.self hs) ?_
  exact ra_cons (pe_mono q fun v H1 ⟨a, xs, e1, hq, t⟩ => ra_nil ⟨a, xs, by rw [e1], hq, pturns_go walk_enumT h2 h2' t⟩) hsE
theorem rs_for_enumL (c : Ctx X N L k) (h : (x, j) ∈ L) (m : Own j) (hx : x ∈ N) (h' : (y, j') ∈ L) (m' : Own j') (hy : y ∈ N) (hg : (("enumerate" : Str), KN.glob) ∈ L) (hm : X.mg "enumerate" = none)
    (q : RE X e σ H fun v H1 => ∃ a xs, v = .ref a ∧ SqL X.K H1 a xs ∧ PTurns X N x y body D (fun H => SqL X.K H a xs) xs.length (fun i => some (.int (i : Nat))) (fun i => xs[i]?) σ H1)
    (hs : ∀ x, foldedSetIterable (.Call (.Name "enumerate" p1) [e] [] p2) X.env x = pure x := by intro _; with_unfolding_all rfl) (hsE : starEach [e] X.env = [(false, eval e X.env)] := by with_unfolding_all rfl)
    (hn : (assignEach [.Name x q0, .Name y q1] X.env).length = 2 := by with_unfolding_all rfl) (hst : (assignEach [.Name x q0, .Name y q1] X.env).findIdx? (·.1) = none := by with_unfolding_all rfl)
    (ha : (assignEach [.Name x q0, .Name y q1] X.env).map (·.2) = assign (.Name x q0) X.env :: (assignEach [.Name y q1] X.env).map (·.2) := by with_unfolding_all rfl) (hb : (assignEach [.Name y q1] X.env).map (·.2) = assign (.Name y q1) X.env :: (assignEach [] X.env).map (·.2) := by with_unfolding_all rfl) :
    RS X (.For (.Tuple [.Name x q0, .Name y q1] kt q2) (.Call (.Name "enumerate" p1) [e] [] p2) body [] pos) D σ H := by
  obtain ⟨i, g, h2⟩ := c.pg (p0 := q0) h m hx
  obtain ⟨i', g', h2'⟩ := c.pg (p0 := q1) h' m' hy
  refine rs_of (ps_for c.po c.calm (pi_enum (c.gl hg) hm PA.self hsE) (pg_tup (n := 2) c.calm (pgs_cons g (pgs_cons g' pgs_nil hb) ha) hn hst) PSs.self hs) ?_
  exact ra_cons (pe_mono q fun v H1 ⟨a, xs, e1, hq, t⟩ => ra_nil ⟨a, xs, by rw [e1], hq, pturns_go walk_enum h2 h2' t⟩) hsE
end
/-! ### texts -/
theorem cv_notInC {ch : Nat} {z : Str} (q : Q (.bl (!decide (ch ∈ z.cps.toList))) H) : CpV X .NotIn (.str ⟨#[ch]⟩) (.str z) H Q := ⟨⟨_, op_notIn_sign, ch, z, rfl, rfl, q⟩⟩
theorem cv_inC {ch : Nat} {z : Str} (q : Q (.bl (decide (ch ∈ z.cps.toList))) H) : CpV X .In (.str ⟨#[ch]⟩) (.str z) H Q := ⟨⟨_, op_in_sign, ch, z, rfl, rfl, q⟩⟩
theorem op_mulS : OpR X (binaryOp .Mult) (fun x y H Q => ∃ z n, x = .str z ∧ y = .int n ∧ MulOk z n ∧ Q (.str (Txt.mul z n)) H) := by
  intro pins s σ H x y v u Q I rx ry h
  obtain ⟨z, n, rfl, rfl, hok, q⟩ := h
  obtain ⟨t, rfl⟩ := rx
  obtain ⟨t', rfl⟩ := ry
  exact PySem.SB.mul hok fun t2 k => ⟨.str _, H, I.tok k, ⟨t2, rfl⟩, q⟩
theorem len_rep (a : Array Nat) : ∀ (n : Nat) (b : Array Nat), ((List.replicate n a).foldl (· ++ ·) b).size = b.size + n * a.size
  | 0, b => by simp
  | n + 1, b => by
    rw [List.replicate_succ, List.foldl_cons, len_rep a n (b ++ a), Array.size_append, Nat.succ_mul]
    omega
theorem len_mulS (z : Str) (n : Int) : (Txt.mul z n).length ≤ z.length * n.toNat := by
  unfold Txt.mul
  split
  · show 0 ≤ _
    exact Nat.zero_le _
  · rename_i h
    split
    · rename_i h2
      rcases (by simpa using h2 : n = 1 ∨ z.length = 0) with e | e
      · subst e
        simp
      · rw [e]
        exact Nat.zero_le _
    · show Array.size _ ≤ _
      rw [len_rep]
      show 0 + n.toNat * z.cps.size ≤ z.cps.size * n.toNat
      rw [Nat.mul_comm]
      omega
theorem mulOk_of {z : Str} {n : Int} (h1 : z.length ≤ 1000) (h2 : -1000 ≤ n) (h3 : n ≤ 1000) : MulOk z n := by
  refine ⟨?_, fun hn _ => ?_, fun hn _ => ?_⟩
  · rw [Bool.or_eq_false_iff]
    exact ⟨decide_eq_false (by omega), decide_eq_false (by omega)⟩
  · have h4 : (9223372036854775 : Int) ≤ (2 ^ 63 - 1) / n := by
      rw [Int.le_ediv_iff_mul_le (by omega)]
      omega
    omega
  · refine PyProof.Rows.short24 (Nat.le_trans (Nat.mul_le_mul h1 (show n.toNat ≤ 1000 by omega)) (by decide))
theorem ov_mulS {z : Str} {n : Int} (h1 : z.length ≤ 1000) (h2 : -1000 ≤ n) (h3 : n ≤ 1000) (q : ∀ w : Str, w.length ≤ z.length * n.toNat → Q (.str w) H) : OpV X .Mult (.str z) (.int n) H Q := ⟨⟨_, op_mulS, z, n, rfl, rfl, mulOk_of h1 h2 h3, q _ (len_mulS z n)⟩⟩
theorem re_upper {o : Expr} {apos : Pos} (q : RE X o σ H fun x H1 => ∃ a, x = .str a ∧ a.length ≤ 1000 ∧ ∀ w : Str, w.length ≤ 3 * a.length → Q (.str w) H1)
    (hbase : attributeBase o "upper" X.env (eval o X.env) = eval o X.env := by with_unfolding_all rfl) (hline : (apos.endLine == pos.line) = true := by with_unfolding_all rfl) : RE X (.Call (.Attribute o "upper" apos) [] [] pos) σ H Q :=
  re_of (pe_upper PE.self hbase hline) (pe_mono q fun x H1 ⟨a, e, h, q⟩ => ⟨⟨a, e⟩, a, e, rfl, by omega, q _ (PyProof.Rows.len_upper a)⟩)
/-! ### a number that stands in the module -/
theorem re_gint (c : Ctx X N L k) {x : Str} {i : Int} (h : (x, KN.glob) ∈ L) (hm : ∃ t, X.mg x = some (.int i t)) (q : Q (.int i) H) : RE X (.Name x pos) σ H Q := by
  obtain ⟨t, e⟩ := hm
  exact re_glob (v := .int i) c h e ⟨t, rfl⟩ q
end
/-! ### the first place at fault -/
def ff {α : Type} (p : Nat → α → Bool) : Nat → List α → Option Nat
  | _, [] => none
  | i, x :: r => if p i x = true then some i else ff p (i + 1) r
theorem ff_at {α : Type} {p : Nat → α → Bool} {l : List α} {i : Nat} {x : α} (h : l[i]? = some x) : ff p i (l.drop i) = if p i x = true then some i else ff p (i + 1) (l.drop (i + 1)) := by
  have hi : i < l.length := by
    rcases Nat.lt_or_ge i l.length with z | z
    · exact z
    · rw [List.getElem?_eq_none z] at h; cases h
  rw [List.drop_eq_getElem_cons hi]
  rw [List.getElem?_eq_getElem hi] at h
  rw [Option.some.inj h]
  rfl
theorem ff_end {α : Type} {p : Nat → α → Bool} {l : List α} : ff p l.length (l.drop l.length) = none := by
  rw [List.drop_length]
  rfl
def oI : Option Int → V
  | none => .non
  | some i => .int i
def oN (o : Option Nat) : Option Int := o.map fun n => (n : Int)
end GT
namespace GT
open PySem PySem.Spec PyProof.Rows L2
/-! ### several except clauses, each with the same name -/
abbrev Suite := Addr → Value → Option Addr → TS
/-- the ends of a suite whose name in slot i is gone behind it -/
def Ends.wiped (D : Ends) (i : Nat) : Ends := { nx := fun σ' H' => D.nx (σ'.set i none) H', rt := D.rt, bk := fun σ' H' => D.bk (σ'.set i none) H', ct := fun σ' H' => D.ct (σ'.set i none) H' }
def wManyAs (K : PySem.W.Frag) (i : Nat) (Wout : WX) (D : Ends) : List (Value × Suite) → WX
  | [] => Wout
  | (c, ts) :: r => fun cls d σ H => ∃ b, PySem.W.exmOne K cls c = some b ∧ (b = true → ∀ a, H a = none → ts a cls d (Ends.wiped D i) (σ.set i (some (.ref a))) H) ∧ (b = false → wManyAs K i Wout D r cls d σ H)
inductive HdsAs (X : Cx) (n : Str) : List ExceptHandler → List (Value × Suite) → Prop
  | nil : HdsAs X n [] []
  | cons {x : Str} {c : Value} {ts : Suite} {b₀ : Stmt} {suite : List Stmt} {np pos' : Pos} {hds : List ExceptHandler} {l : List (Value × Suite)} (hc : Names X x c)
      (hsu : ∀ (a : Addr) (oe : Obj) (cls : Value) (d : Option Addr) (pn : List (Addr × Obj)), Zc cls d oe → (∃ vs, oe.data = .fields vs) → PSs (X.suite a ((a, oe) :: pn)) (b₀ :: suite) (ts a cls d)) (r : HdsAs X n hds l) :
      HdsAs X n (.ExceptHandler (some (.Name x np)) (some n) (b₀ :: suite) pos' :: hds) ((c, ts) :: l)
section
variable {X : Cx} {n : Str} {i : Nat} {body : List Stmt} {h₀ : ExceptHandler} {hds : List ExceptHandler} {l : List (Value × Suite)} {pos : Pos} {tb : WX → TS} {Wout : WX}
theorem ps_try_manyAs (hs : X.stack = X.env :: X.outer) (hf : X.env.frame = some X.env.locals) (hN : X.N.Nodup) (hi : X.N[i]? = some n) (hln : X.env.kindOf n = some .local) (tk : Takes X Wout)
    (hb : ∀ (W : WX) (pn : List (Addr × Obj)) (xe : Value → Shared → Prop), Takes (X.tr pn xe) W → PassesOwn (model X.prog X.w) X.A X.env xe → PSs (X.tr pn xe) body (tb W)) (hh : HdsAs X n (h₀ :: hds) l) :
    PS X (.Try body (h₀ :: hds) [] [] pos) (fun D σ H => tb (wManyAs X.K i Wout D l) D σ H) := by
  refine ⟨fun pins s σ H D I h => ?_⟩
  have ok := I.ok
  have hfr : X.A.frames = some (X.env :: X.outer) := by rw [ok.frames, hs]
  have hloc : Loc X.env.scope n := .inl hln
  refine wpAny_Try_except ?_
  refine wpAny_mono ((hb (wManyAs X.K i Wout D l) (X.pn ++ pins) (fun e s₁ => wpAny (model X.prog X.w) X.A (noteFrame e X.env) (fun _ s₂ => wpAny (model X.prog X.w) X.A (setFlight e none) (fun _ s₃ =>
    wpAny (model X.prog X.w) X.A (handleBy e X.env (h₀ :: hds)) (SP X pins D) X.xe s₃) X.xe s₂) X.xe s₁) (fun u s' xx => ?_) PassesOwn.looking).run [] s σ H D (I.toTry _) h) (fun f s1 hsp => ?_) (fun e s1 he => he)
  · obtain ⟨a, B, sI, pins', σ', H', cls, d, rfl, J', nb, up, sky, na, os, ag, w⟩ := xx
    have J : Inv X pins σ' H' sI := J'.ofTry ok
    have sky' : Sky B (X.env :: X.outer) a (Zc cls d) X.env.locals s'.heap := by rw [← hs]; exact sky
    show wpAny (model X.prog X.w) X.A (noteFrame (.ref a) X.env) _ _ _
    refine Sky.land Zc.steady hfr hf sky' fun h3 fl3 up3 => ?_
    have J3 : Inv X pins σ' H' { s' with heap := h3 } := J.landed nb fl3.1 (up.trans up3) os ag
    obtain ⟨oe3, vs3, he3, hz3, hd3⟩ := fl3.there
    have nfr : a ∉ frs (X.env :: X.outer) := fun hm => by
      obtain ⟨_, o', e', hnf⟩ := fl3.2.2.1.mem hm
      rw [he3] at e'
      cases e'
      exact hnf _ hd3
    have nL : a ≠ X.env.locals := fun z => nfr (List.mem_filterMap.mpr ⟨X.env, List.mem_cons_self, by rw [hf, z]⟩)
    have nF : a ∉ X.fs := fun hm => by
      obtain ⟨e, he, q⟩ := List.mem_filterMap.mp hm
      exact nfr (List.mem_filterMap.mpr ⟨e, List.mem_cons_of_mem _ he, q⟩)
    have S3 := J3.suite he3 hd3 na nL nF
    have go : ∀ {hds' : List ExceptHandler} {l' : List (Value × Suite)}, HdsAs X n hds' l' → wManyAs X.K i Wout D l' cls d σ' H' → wpAny (model X.prog X.w) X.A (handleBy (.ref a) X.env hds') (SP X pins D) X.xe { s' with heap := h3 } := by
      intro hds' l' hk
      induction hk with
      | nil =>
        intro w
        refine wpAny_handleBy_nil ?_
        obtain ⟨k1, k2, k3, oe, vs, T, oT, ts', he, hz, hd, h1, hr⟩ := id fl3
        unfold PySem.passOn
        refine wpAny_bind (wpAny_field he hd h1 ?_)
        rw [if_neg (show ¬ ((Value.ref T == Value.none) = true) from by simp)]
        have fin : wpAny (model X.prog X.w) X.A (setFlight (.ref a) X.env.frame) (fun _ s4 => wpAny (model X.prog X.w) X.A (throw (.ref a) : Sem Flow) (SP X pins D) X.xe s4) X.xe { s' with heap := h3 } := by
          rw [hf]
          refine HandSPX.setFlight_upZ fl3 fun h4 hh4 up4 => wpAny_throw (tk _ _ ?_)
          exact ⟨a, B, sI, pins, σ', H', cls, d, rfl, J, nb, (up.trans up3).trans up4, .inr (.inr (by rw [hs]; exact hh4)), na, os, ag, w⟩
        first
          | exact wpAny_bind (wpAny_pure (wpAny_bind fin))
          | exact wpAny_bind fin
      | @cons x c ts b₀ suite np pos' hds2 l2 hc hsu r ih =>
        intro w
        obtain ⟨b, hb1, hyes, hno⟩ := w
        refine wpAny_handleBy_cons (codeAny_handlers_test ?_) (by intro q; cases q)
        have LT : PySem.W.Looks (model X.prog X.w) h3 (typeOf (.ref a)) cls := fun A Q E s k q => wpAny_typeOf_ref (k _ _ he3) (by rw [hz3.1]; exact q)
        have LM := PySem.W.exm_one (M := model X.prog X.w) (J3.kIn) LT hb1
        have test : ∀ {Q : Value → Shared → Prop} {E : Value → Shared → Prop}, Q c { s' with heap := h3 } → wpAny (model X.prog X.w) (X.A.mark (some (.ref a))) (eval (.Name x np) X.env) Q E { s' with heap := h3 } := fun {Q E} q => by
          obtain ⟨hg, hdbg, hm | ⟨hm, hv, hnn⟩⟩ := hc
          · exact ld_glob (X := X.suite a ((a, oe3) :: (X.pn ++ pins))) S3 hg hm q hdbg
          · exact ld_blt (X := X.suite a ((a, oe3) :: (X.pn ++ pins))) S3 hg hm hv q hnn hdbg
        refine test (LM.here ?_)
        cases b with
        | true =>
          refine codeAny_handlers_suite_as ?_
          refine HandSPX.lands_againZ fl3 fun h4 fl4 up4 => ?_
          have J4 : Inv X pins σ' H' { s' with heap := h4 } := J.landed nb fl4.1 ((up.trans up3).trans up4) os ag
          obtain ⟨oe4, vs4, he4, hz4, hd4⟩ := fl4.there
          have S4 := J4.suite he4 hd4 na nL nF
          refine store_ok (X := X.suite a ((a, oe4) :: (X.pn ++ pins))) (v := .ref a) S4 hN hi hloc rfl (fun s5 S5 => ?_) (.inr hln)
          refine wpAny_mono ((hsu a oe4 cls d (X.pn ++ pins) hz4 ⟨_, hd4⟩).run [] s5 _ H' _ S5 (hyes rfl a na)) (fun f s6 hsp => ?_) (fun _ _ z => False.elim z)
          have fin : ∀ {σ6 : L2.St} {H6 : Hp} {Q : Shared → Prop}, Inv (X.suite a ((a, oe4) :: (X.pn ++ pins))) [] σ6 H6 s6 → (∀ s7, Inv X pins (σ6.set i none) H6 s7 → Q s7) →
              wpAny (model X.prog X.w) X.A (do bindName X.env n .none; unbindBehindTheSuite X.env n pos') (fun _ s7 => Q s7) X.xe s6 := fun {σ6 H6 Q} S6 hq => gone_ok (S6.unsuite ok) hN hi hln hq
          cases f with
          | ret u =>
            obtain ⟨v6, σ6, H6, S6, r6, q6⟩ := hsp
            exact fin S6 fun s7 J7 => ⟨_, _, _, J7, r6, q6⟩
          | _ =>
            obtain ⟨σ6, H6, S6, q6⟩ := hsp
            exact fin S6 fun s7 J7 => ⟨_, _, J7, q6⟩
        | false =>
          show wpAny _ X.A (handleBy (.ref a) X.env hds2) _ _ _
          exact ih (hno rfl)
    exact go hh w
  · cases f with
    | next =>
      obtain ⟨σ', H', J', q⟩ := hsp
      exact wpAny_execs_nil ⟨σ', H', J'.ofTry ok, q⟩
    | ret u =>
      obtain ⟨v, σ', H', J', r, q⟩ := hsp
      exact ⟨v, σ', H', J'.ofTry ok, r, q⟩
    | _ =>
      obtain ⟨σ', H', J', q⟩ := hsp
      exact ⟨σ', H', J'.ofTry ok, q⟩
end
section
variable {X : Cx} {σ : L2.St} {H : Hp} {N : List Str} {L Lc : List (Str × KN)} {k : Nat} {pos p0 p1 p2 p3 : Pos} {Q : VK} {D : Ends}
/-- try: body, except x as n: suite, except x' as n: suite' (both end by return); q1, q2 tell what is asked where the one or the other catches -/
theorem rs_try_as2 (c : CtxS X N L) (hs : X.stack = X.env :: X.outer) (hf : X.env.frame = some X.env.locals) {x x' n : Str} {c0 c1 : Value} {b₀ b₁ : Stmt} {body suite suite' : List Stmt} {np np' pos' pos'' : Pos} (hn : (n, KN.loc) ∈ L) (mn : n ∈ N) (hc : Names X x c0) (hc' : Names X x' c1)
    (q : ∀ (pn : List (Addr × Obj)) (xe : Value → Shared → Prop) (W : WX), Takes (X.tr pn xe) W → PassesOwn (model X.prog X.w) X.A X.env xe →
      (∀ (cls : Value) (d : Option Addr) (σ' : L2.St) (H' : Hp) (st : List Stmt), ((PySem.W.exmOne X.K cls c0 = some true ∧ st = b₀ :: suite) ∨ (PySem.W.exmOne X.K cls c0 = some false ∧ PySem.W.exmOne X.K cls c1 = some true ∧ st = b₁ :: suite')) →
        (∀ (a : Addr) (oe : Obj) (pn2 : List (Addr × Obj)) (nx bk ct : L2.St → Hp → Prop) (σa : L2.St), H' a = none → (∀ i : Nat, N[i]? = some n → σa = σ'.set i (some (.ref a))) → σ'.length = N.length → Zc cls d oe → (∃ vs, oe.data = .fields vs) → CtxS (X.suite a ((a, oe) :: pn2)) N L →
          RB (X.suite a ((a, oe) :: pn2)) st { nx := nx, rt := D.rt, bk := bk, ct := ct } σa H') → W cls d σ' H') →
      RB (X.tr pn xe) body D σ H) :
    RS X (.Try body [.ExceptHandler (some (.Name x np)) (some n) (b₀ :: suite) pos', .ExceptHandler (some (.Name x' np')) (some n) (b₁ :: suite') pos''] [] [] pos) D σ H := by
  obtain ⟨i, h1⟩ := List.mem_iff_getElem?.mp mn
  have su : ∀ (bb : Stmt) (ss : List Stmt) (a : Addr) (oe : Obj) (cls : Value) (d : Option Addr) (pn : List (Addr × Obj)), Zc cls d oe → (∃ vs, oe.data = .fields vs) →
      PSs (X.suite a ((a, oe) :: pn)) (bb :: ss) (fun D σ H => ∀ (oe : Obj) (pn2 : List (Addr × Obj)), σ.length = N.length → Zc cls d oe → (∃ vs, oe.data = .fields vs) → RB (X.suite a ((a, oe) :: pn2)) (bb :: ss) D σ H) := fun bb ss a oe cls d pn hz hd =>
    ⟨fun pins s σ H D I h => PSs.self.run pins s σ H D I (h oe pn (by rw [I.len, ← c.n]) hz hd)⟩
  refine rs_of (ps_try_manyAs (i := i) (n := n) (Wout := fun _ _ _ _ => False) (tb := fun W D σ H => ∀ (pn : List (Addr × Obj)) (xe : Value → Shared → Prop), Takes (X.tr pn xe) W → PassesOwn (model X.prog X.w) X.A X.env xe → RB (X.tr pn xe) body D σ H)
    (l := [(c0, fun a cls d D σ H => ∀ (oe : Obj) (pn2 : List (Addr × Obj)), σ.length = N.length → Zc cls d oe → (∃ vs, oe.data = .fields vs) → RB (X.suite a ((a, oe) :: pn2)) (b₀ :: suite) D σ H), (c1, fun a cls d D σ H => ∀ (oe : Obj) (pn2 : List (Addr × Obj)), σ.length = N.length → Zc cls d oe → (∃ vs, oe.data = .fields vs) → RB (X.suite a ((a, oe) :: pn2)) (b₁ :: suite') D σ H)])
    hs hf (by rw [c.n]; exact c.nd) (by rw [c.n]; exact h1) (c.look _ hn) takes0 (fun W pn xe tk po => ?_) (.cons hc (su b₀ suite) (.cons hc' (su b₁ suite') .nil))) ?_
  · exact ⟨fun pins s σ H D I h => PSs.self.run pins s σ H D I (h pn xe tk po)⟩
  · intro pn xe tk po
    refine q pn xe _ tk po fun cls d σ' H' st hst r => ?_
    rcases hst with ⟨e, rfl⟩ | ⟨e, e2, rfl⟩
    · refine ⟨true, e, fun _ a ha oe pn2 hl hz hd => ?_, fun z => nomatch z⟩
      exact r a oe pn2 _ _ _ _ ha (fun j hj => by rw [nodup_ix c.nd hj h1]) (by simpa using hl) hz hd ⟨c.n, c.nd, c.look, c.dbg⟩
    · refine ⟨false, e, (fun z => nomatch z), fun _ => ⟨true, e2, fun _ a ha oe pn2 hl hz hd => ?_, fun z => nomatch z⟩⟩
      exact r a oe pn2 _ _ _ _ ha (fun j hj => by rw [nodup_ix c.nd hj h1]) (by simpa using hl) hz hd ⟨c.n, c.nd, c.look, c.dbg⟩
/-- math.gcd by its name -/
theorem re_gcd (c : Ctx X N L k) {x : Str} {e : Expr} {es : List Expr} (h : (x, KN.glob) ∈ L) (hm : X.mg x = some (.builtin "math.gcd")) (q : RA X (e :: es) σ H fun vs H1 => ∃ a b : Int, vs = [.int a, .int b] ∧ Q (.int ((Nat.gcd a.natAbs b.natAbs : Nat) : Int)) H1)
    (he : starEach (e :: es) X.env = (false, eval e X.env) :: starEach es X.env := by with_unfolding_all rfl) (hpl : (backTo pos (starEach es X.env)).any (·.1) = false := by with_unfolding_all rfl) : RE X (.Call (.Name x p0) (e :: es) [] pos) σ H Q :=
  re_of (pe_callBfun cr_gcd (c.gl h) hm PA.self (c.d1 h) he hpl) q
/-- f() -/
theorem re_call0 (c : Ctx X N L k) {x : Str} {n : Nat} {sp : Sp} (F : DefP X.prog X.w X.K X.mg X.base CX0 x [] n sp) (hn : n ≤ k) (h : (x, KN.glob) ∈ L) (q : sp [] H Q E0) : RE X (.Call (.Name x p0) [] [] pos) σ H Q := by
  obtain ⟨f, fd, F1, m, kp, b⟩ := F.ex
  exact re_of (pe_call0 F1 (c.room.mono hn) (c.gl h) m kp b .nil pass0 (c.d1 h)) q
end
end GT
namespace GT
open PySem PySem.Spec PyProof.Rows L2
/-- what holds something -/
def Old (H : Hp) : Addr → Prop := fun a => H a ≠ none
theorem Fr.sub {B B' : Addr → Prop} {H H' : Hp} (f : Fr B H H') (s : ∀ a, B a → B' a) : Fr B' H H' := fun a o n e => f a o (fun z => n (s a z)) e
theorem Fr.old {H H' : Hp} (f : Fr NoB H H') {a : Addr} (h : Old H a) : Old H' a := fun e => h (f.free e)
theorem old_box {H : Hp} {b : Addr} (h : BoxAt H b) : Old H b := by
  obtain ⟨g, r, h1, _⟩ := h
  intro e
  rw [h1] at e
  cases e
theorem old_at {H : Hp} {b : Addr} {o : HO} (h : H b = some o) : Old H b := fun e => by rw [h] at e; cases e
theorem Dts.mono {K : PySem.W.Frag} {B B' : Addr → Prop} {H : Hp} {vs : List V} {ds : List D} (h : Dts K B H vs ds) (s : ∀ a, B' a → B a) : Dts K B' H vs ds := ⟨h.1, fun i v d a b => (h.2 i v d a b).mono s⟩
theorem dep_up {n : Nat} {d : D} (h : Dep n d) : ∀ m, n ≤ m → Dep m d := by
  induction h with
  | non => exact fun _ _ => .non
  | bl => exact fun _ _ => .bl
  | int => exact fun _ _ => .int
  | str => exact fun _ _ => .str
  | lst _ ih =>
    intro m hm
    obtain ⟨k, rfl⟩ : ∃ k, m = k + 1 := ⟨m - 1, by omega⟩
    exact .lst fun d hd => ih d hd k (by omega)
  | tup _ ih =>
    intro m hm
    obtain ⟨k, rfl⟩ : ∃ k, m = k + 1 := ⟨m - 1, by omega⟩
    exact .tup fun d hd => ih d hd k (by omega)
theorem dts_set {K : PySem.W.Frag} {B : Addr → Prop} {H : Hp} {vs : List V} {ds : List D} {v : V} {d : D} {j : Nat} (h : Dts K B H vs ds) (hv : Dt K B H v d) : Dts K B H (vs.set j v) (ds.set j d) := by
  refine ⟨by rw [List.length_set, List.length_set, h.1], fun i u e h1 h2 => ?_⟩
  rw [List.getElem?_set] at h1 h2
  by_cases z : j = i
  · subst z
    rw [if_pos rfl] at h1 h2
    split at h1
    · split at h2
      · cases h1
        cases h2
        exact hv
      · cases h2
    · cases h1
  · rw [if_neg z] at h1 h2
    exact h.2 i u e h1 h2
theorem dts_app {K : PySem.W.Frag} {B : Addr → Prop} {H : Hp} {vs ws : List V} {ds es : List D} (h : Dts K B H vs ds) (g : Dts K B H ws es) : Dts K B H (vs ++ ws) (ds ++ es) := by
  refine ⟨by rw [List.length_append, List.length_append, h.1, g.1], fun i u e h1 h2 => ?_⟩
  rcases Nat.lt_or_ge i vs.length with z | z
  · rw [List.getElem?_append_left z] at h1
    rw [List.getElem?_append_left (by rw [← h.1]; exact z)] at h2
    exact h.2 i u e h1 h2
  · rw [List.getElem?_append_right z] at h1
    rw [List.getElem?_append_right (by rw [← h.1]; exact z), ← h.1] at h2
    exact g.2 _ u e h1 h2
theorem dts_strs {K : PySem.W.Frag} {B : Addr → Prop} {H : Hp} : ∀ ls : List Str, Dts K B H (ls.map V.str) (ls.map D.str)
  | [] => .nil
  | _ :: r => .cons .str (dts_strs r)
theorem dep_strs {n : Nat} {ls : List Str} : ∀ d ∈ ls.map D.str, Dep n d := fun d hd => by
  obtain ⟨s, _, rfl⟩ := List.mem_map.mp hd
  exact .str
/-! ### displays of constants -/
inductive DE : Expr → D → Prop
  | non {j : Nat} {p : Pos} : DE (.Constant .none j p) .non
  | bl {b : Bool} {j : Nat} {p : Pos} : DE (.Constant (.bool b) j p) (.bl b)
  | int {i : Int} {j : Nat} {p : Pos} : DE (.Constant (.int i) j p) (.int i)
  | str {s : Str} {j : Nat} {p : Pos} : DE (.Constant (.str s) j p) (.str s)
  | neg {i : Int} {j : Nat} {p p' : Pos} : DE (.UnaryOp .USub (.Constant (.int i) j p) p') (.int (-i))
  | sub {a b : Expr} {i j : Int} {p : Pos} (h1 : DE a (.int i)) (h2 : DE b (.int j)) : DE (.BinOp a .Sub b p) (.int (i - j))
  | add {a b : Expr} {i j : Int} {p : Pos} (h1 : DE a (.int i)) (h2 : DE b (.int j)) : DE (.BinOp a .Add b p) (.int (i + j))
  | mul {a : Expr} {i j : Int} {n : Nat} {p p' : Pos} (h1 : DE a (.int i)) (h2 : -(2 ^ 64) < j ∧ j < 2 ^ 64) : DE (.BinOp a .Mult (.Constant (.int j) n p') p) (.int (i * j))
  | pow {a b : Expr} {i j : Int} {p : Pos} (h1 : DE a (.int i)) (h2 : DE b (.int j)) (hc : CPow i j) : DE (.BinOp a .Pow b p) (.int (i ^ j.toNat))
  | tup {es : List Expr} {ds : List D} {k : Nat} {p : Pos} (hl : es.length = ds.length) (h1 : ds.length ≤ 1000) (h : ∀ (i : Nat) e d, es[i]? = some e → ds[i]? = some d → DE e d) : DE (.Tuple es k p) (.tup ds)
  | lst {es : List Expr} {ds : List D} {p : Pos} (hl : es.length = ds.length) (h1 : ds.length ≤ 1000) (h : ∀ (i : Nat) e d, es[i]? = some e → ds[i]? = some d → DE e d) : DE (.List es p) (.lst ds)
inductive DEs : List Expr → List D → Prop
  | nil : DEs [] []
  | cons {e : Expr} {d : D} {es : List Expr} {ds : List D} (h : DE e d) (t : DEs es ds) : DEs (e :: es) (d :: ds)
theorem DEs.len {es : List Expr} {ds : List D} (h : DEs es ds) : es.length = ds.length := by
  induction h with
  | nil => rfl
  | cons _ _ ih => rw [List.length_cons, List.length_cons, ih]
theorem DEs.at_ {es : List Expr} {ds : List D} (h : DEs es ds) : ∀ (i : Nat) e d, es[i]? = some e → ds[i]? = some d → DE e d := by
  induction h with
  | nil => intro i e d h; simp at h
  | cons h0 _ ih =>
    intro i e d h1 h2
    cases i with
    | zero =>
      cases h1
      cases h2
      exact h0
    | succ i => exact ih i e d (by simpa using h1) (by simpa using h2)
theorem DE.tupS {es : List Expr} {ds : List D} {k : Nat} {p : Pos} (h : DEs es ds) (h1 : ds.length ≤ 1000) : DE (.Tuple es k p) (.tup ds) := .tup h.len h1 h.at_
theorem DE.lstS {es : List Expr} {ds : List D} {p : Pos} (h : DEs es ds) (h1 : ds.length ≤ 1000) : DE (.List es p) (.lst ds) := .lst h.len h1 h.at_
theorem DE.star {e : Expr} {d : D} (h : DE e d) (es : List Expr) (env : Env) : starEach (e :: es) env = (false, eval e env) :: starEach es env := by
  cases h <;> rfl
section
variable {X : Cx}
theorem ra_de {es : List Expr} {ds : List D} (hl : es.length = ds.length) (ih : ∀ (i : Nat) e d, es[i]? = some e → ds[i]? = some d → DE e d ∧ ∀ (σ : L2.St) (H : Hp) (Q : VK), (∀ v H', Fr NoB H H' → Dt X.K (Old H) H' v d → Q v H') → RE X e σ H Q) :
    ∀ (σ : L2.St) (H : Hp) (Q : List V → Hp → Prop), (∀ vs H', Fr NoB H H' → Dts X.K (Old H) H' vs ds → Q vs H') → RA X es σ H Q := by
  induction es generalizing ds with
  | nil =>
    intro σ H Q q
    cases ds with
    | nil => exact ra_nil (q [] H Fr.refl .nil)
    | cons d r => cases hl
  | cons e es ihl =>
    intro σ H Q q
    cases ds with
    | nil => cases hl
    | cons d r =>
      obtain ⟨h0, r0⟩ := ih 0 e d rfl rfl
      refine ra_cons (r0 σ H _ fun v H1 f1 d1 => ?_) (h0.star _ _)
      refine ihl (ds := r) (by simpa using hl) (fun i e' d' a b => ih (i + 1) e' d' (by simpa using a) (by simpa using b)) σ H1 _ fun vs H2 f2 d2 => ?_
      exact q _ H2 (f1.trans f2) (.cons (d1.fr f2.any) (d2.mono fun a h => f1.old h))
theorem re_de {e : Expr} {d : D} (h : DE e d) : ∀ (σ : L2.St) (H : Hp) (Q : VK), (∀ v H', Fr NoB H H' → Dt X.K (Old H) H' v d → Q v H') → RE X e σ H Q := by
  induction h with
  | non => exact fun σ H Q q => re_non (q _ H Fr.refl .non)
  | bl => exact fun σ H Q q => re_bl (q _ H Fr.refl .bl)
  | int => exact fun σ H Q q => re_int (q _ H Fr.refl .int)
  | str => exact fun σ H Q q => re_str (q _ H Fr.refl .str)
  | neg => exact fun σ H Q q => re_neg (re_int ⟨_, rfl, q _ H Fr.refl .int⟩)
  | sub _ _ i1 i2 =>
    intro σ H Q q
    refine re_bin (i1 σ H _ fun v H1 f1 d1 => i2 σ H1 _ fun w H2 f2 d2 => ?_)
    cases d1
    cases d2
    exact ov_sub (q _ H2 (f1.trans f2) .int)
  | add _ _ i1 i2 =>
    intro σ H Q q
    refine re_bin (i1 σ H _ fun v H1 f1 d1 => i2 σ H1 _ fun w H2 f2 d2 => ?_)
    cases d1
    cases d2
    exact ov_add (q _ H2 (f1.trans f2) .int)
  | mul _ h2 i1 =>
    intro σ H Q q
    refine re_bin (i1 σ H _ fun v H1 f1 d1 => re_int ?_)
    cases d1
    exact ov_mulR h2 (q _ H1 f1 .int)
  | pow _ _ hc i1 i2 =>
    intro σ H Q q
    refine re_bin (i1 σ H _ fun v H1 f1 d1 => i2 σ H1 _ fun w H2 f2 d2 => ?_)
    cases d1
    cases d2
    exact ov_pow hc (q _ H2 (f1.trans f2) .int)
  | @tup es ds k p hl h1 h ih =>
    intro σ H Q q
    refine re_tup (ra_de hl (fun i e d a b => ⟨h i e d a b, ih i e d a b⟩) σ H _ fun vs H1 f1 d1 => ⟨by rw [d1.1]; exact Nat.le_trans h1 (by decide), fun a ha => ?_⟩)
    exact q _ _ (f1.trans (Fr.new ha)) (Dt.newT ha (fun z => f1.old z ha) d1)
  | @lst es ds p hl h1 h ih =>
    intro σ H Q q
    refine re_lst (ra_de hl (fun i e d a b => ⟨h i e d a b, ih i e d a b⟩) σ H _ fun vs H1 f1 d1 => ⟨by rw [d1.1]; exact Nat.le_trans h1 (by decide), fun a ha => ?_⟩)
    exact q _ _ (f1.trans (Fr.new ha)) (Dt.newL ha (fun z => f1.old z ha) d1)
/-- a list of constants -/
theorem re_dataL {es : List Expr} {ds : List D} {p : Pos} (h : DEs es ds) (h1 : ds.length ≤ 1000) {σ : L2.St} {H : Hp} {Q : VK} (q : ∀ a vs H', H a = none → Fr NoB H H' → H' a = some (.lst vs) → Dts X.K (Old H) H' vs ds → Q (.ref a) H') : RE X (.List es p) σ H Q := by
  refine re_lst (ra_de h.len (fun i e d a b => ⟨h.at_ i e d a b, re_de (h.at_ i e d a b)⟩) σ H _ fun vs H1 f1 d1 => ⟨by rw [d1.1]; exact Nat.le_trans h1 (by decide), fun a ha => ?_⟩)
  exact q a vs _ (f1.free ha) (f1.trans (Fr.new ha)) upd_same (d1.fr (Fr.new ha))
end
/-! ### // by any number but nought -/
section
variable {X : Cx} {H : Hp} {Q : VK}
theorem op_fdivX : OpR X (binaryOp .FloorDiv) (rI (fun _ j => j ≠ 0 ∧ j.natAbs.log2 < 9000) fun i j => .int (i.fdiv j)) := opI fun _ _ _ _ _ _ _ hc q => floordiv_int hc.1 q (.inl (PyProof.noPylong_of_log2 hc.2))
theorem ov_fdivX {i j : Int} {b : Nat} (h : j ≠ 0) (hb : j.natAbs < 2 ^ b) (h0 : 0 < b) (h9 : b ≤ 9000) (q : Q (.int (i.fdiv j)) H) : OpV X .FloorDiv (.int i) (.int j) H Q :=
  ⟨⟨_, op_fdivX, i, j, rfl, rfl, ⟨h, Nat.lt_of_lt_of_le (PySem.Flt.log2_lt_of h0 hb) h9⟩, q⟩⟩
end
end GT
namespace GT
open PySem PySem.Spec PyProof.Rows L2
section
variable {X : Cx} {σ : L2.St} {H H1 : Hp} {N : List Str} {L Lc : List (Str × KN)} {k : Nat} {pos p0 p1 p2 p3 pe : Pos} {Q : VK} {D : Ends} {scope : Scope} {x : Str} {elt t : Expr} {ifs : List Expr} {a p : Addr} {xs : List V}
/-- e[::-1], e a list -/
theorem re_revL {e : Expr} {k : Nat} (q : RE X e σ H fun x H1 => ∃ a xs, x = .ref a ∧ SqL X.K H1 a xs ∧ ∀ p, H1 p = none → Q (.ref p) (upd H1 p (.lst xs.reverse))) :
    RE X (.Subscript e (.Slice none none (some (.UnaryOp .USub (.Constant (.int 1) k p1) p2)) p3) pos) σ H Q := re_of (pe_revL PE.self) q
/-- t[lo:] of a tuple -/
theorem sv_tupD (h : SqT X.K H p xs) {lo : Nat} (h2 : lo ≤ xs.length) (q1 : lo = 0 → Q (.ref p) H) (q : lo ≠ 0 → ∀ l, H l = none → Q (.ref l) (upd H l (.tup (xs.drop lo)))) : SlV X (.ref p) (some (lo : Int)) none H Q := by
  refine ⟨⟨_, sl_tupA, p, xs, rfl, h, fun z => ?_, fun z l hl => ?_⟩⟩
  · have := z.1
    rw [HT.sIx_nat] at this
    exact q1 (by omega)
  · have z2 : lo ≠ 0 := fun e => z ⟨by rw [HT.sIx_nat, e]; simp, HT.sIx_none _ _⟩
    have e : cutV xs (some (lo : Int)) none = xs.drop lo := by
      show (xs.drop (HT.sIx xs.length 0 (some (lo : Int)))).take (HT.sIx xs.length xs.length none - HT.sIx xs.length 0 (some (lo : Int))) = _
      rw [HT.sIx_nat, HT.sIx_none, Nat.min_eq_left h2]
      exact List.take_of_length_le (by rw [List.length_drop]; exact Nat.le_refl _)
    rw [e]
    exact q z2 l hl
/-- [.. for x in z], z a tuple -/
theorem re_lc_tup (c : Ctx X N L k) (Lc : List (Str × KN)) (hok : lcOk N L scope Lc x = true) {l : Expr}
    (q : RE X l σ H fun v H1 => ∃ a xs, v = .ref a ∧ SqT X.K H1 a xs ∧ CTurns X N Lc k scope x elt ifs (fun H => SqT X.K H a xs) xs.length (fun i y => xs[i]? = some y) σ H1 Q)
    (hs : ∀ x, foldedSetIterable l X.env x = pure x := by intro _; with_unfolding_all rfl) : RE X (.ListComp elt [⟨.Name x p0, l, ifs, 0⟩] scope pos) σ H Q := by
  obtain ⟨S, hx, hl, ok⟩ := lcOk_of c hok
  obtain ⟨i, hput, bk, g⟩ := blk_at (p0 := p0) c S hx hl ok
  refine re_of (pe_lc c.calm c.nodup (pi_tup PE.self) bk g (fun s H C cl fp => PTs.rta c S s H C cl fp) (fun s H C cl fp => PE.rea c S s H C cl fp) hs) ?_
  refine pe_mono q fun v H1 ⟨a, xs, e, h1, q1⟩ => ⟨a, e, ⟨xs, h1⟩, lc_go hput walk_tup q1⟩
/-- y = [.. for x in z] on one line, z a tuple -/
theorem rs_lc_tup (c : Ctx X N L k) (Lc : List (Str × KN)) (hok : lcOk N L scope Lc x = true) {l : Expr} {y : Str} {py cp : Pos} (hy : (y, KN.loc) ∈ L) (my : y ∈ N)
    (q : RE X l σ H fun v H1 => ∃ a xs, v = .ref a ∧ SqT X.K H1 a xs ∧ CTurns X N Lc k scope x elt ifs (fun H => SqT X.K H a xs) xs.length (fun i y => xs[i]? = some y) σ H1 fun v H2 => ∃ σ', Put N σ y v σ' ∧ D.nx σ' H2)
    (hln : (py.line == cp.line) = true := by with_unfolding_all rfl) (ha : (scope.names.any fun (n, k) => n == y && (k == .local || k == .cell)) = false := by decide +kernel)
    (hs : ∀ x, foldedSetIterable l X.env x = pure x := by intro _; with_unfolding_all rfl) : RS X (.Assign [.Name y py] (.ListComp elt [⟨.Name x p0, l, ifs, 0⟩] scope cp) pos) D σ H := by
  obtain ⟨S, hx, hl, ok⟩ := lcOk_of c hok
  obtain ⟨i, hput, bk, g⟩ := blk_at (p0 := p0) c S hx hl ok
  obtain ⟨i2, h1, h2⟩ := c.put my
  refine rs_of (ps_setLc (i := i2) c.calm c.nodup h1 (c.lcl hy) (sw_true c.kind (c.lcl hy) hln ha) (pi_tup PE.self) bk g (fun s H C cl fp => PTs.rta c S s H C cl fp) (fun s H C cl fp => PE.rea c S s H C cl fp) hs) ?_
  refine pe_mono q fun v H1 ⟨a, xs, e, h1, q1⟩ => ⟨a, e, ⟨xs, h1⟩, lc_go hput (walk_tup (xs := xs)) (Q := fun v H1 => D.nx (σ.set i2 (some v)) H1) (fun Dn hD => ?_ : CTurns X N Lc k scope x elt ifs (fun H => SqT X.K H a xs) xs.length (fun i y => xs[i]? = some y) σ H1 fun v H1 => D.nx (σ.set i2 (some v)) H1)⟩
  obtain ⟨Pv, a1, a2, a3, a4⟩ := q1 Dn hD
  refine ⟨Pv, a1, a2, a3, fun H2 hp => ?_⟩
  obtain ⟨σ', p, d⟩ := a4 H2 hp
  rw [h2 p] at d
  exact d
/-- [x for x in xs if t], told by how the walked thing stands -/
theorem cturns_filterS {stand : Hp → Prop} {f : V → Bool} (hl : xs.length < sizeLine) (hs : ∀ H', Fr NoB H1 H' → stand H') (hx : (x, KN.loc) ∈ Lc) {σf : V → L2.St} (hp : ∀ y, Put N σ x y (σf y))
    (ht : ∀ (y : V) (H' : Hp), y ∈ xs → Fr NoB H1 H' → ∀ (s : Shared) (Hb : Hp) (C : Addr) (cl : List (Str × Addr)) (fp : List Addr), Ctx (X.blk s Hb scope (compEnvC scope cl C X.env) fp) N Lc k →
      RT (X.blk s Hb scope (compEnvC scope cl C X.env) fp) t (σf y) H' fun b H'' => b = f y ∧ Fr NoB H' H'')
    (q : ∀ (Dn : Addr) (H' : Hp), H1 Dn = none → Fr NoB H1 H' → H' Dn = some (.lst (xs.filter f)) → Q (.ref Dn) H') :
    CTurns X N Lc k scope x (.Name x pe) [t] stand xs.length (fun i y => xs[i]? = some y) σ H1 Q := by
  intro Dn hD
  refine ⟨fun i H' => H' Dn = some (.lst ((xs.take i).filter f)) ∧ Fr NoB H1 H', ⟨upd_same, Fr.new hD⟩, fun i H _ h => hs H h.2, ?_, ?_⟩
  · rintro i y H' hi hy ⟨h1, h2⟩
    refine ⟨σf y, hp y, fun s Hb C cl fp cb => rts_one (rt_mono (ht y H' (List.mem_of_getElem? hy) h2 s Hb C cl fp cb) ?_)⟩
    rintro b H'' ⟨e, f2⟩
    have e2 := f2 Dn _ (fun z => z) h1
    cases hb : f y with
    | false =>
      rw [e, hb]
      refine iteF ⟨?_, h2.trans f2⟩
      rw [filter_succ hy, hb, e2]
      simp
    | true =>
      rw [e, hb]
      refine iteT fun s Hb C cl fp cb => re_name cb (hp y).slot hx .loc ?_
      have hlen : ((xs.take i).filter f).length < sizeLine := Nat.lt_of_le_of_lt (Nat.le_trans (List.length_filter_le _ _) (by rw [List.length_take]; omega)) hl
      refine ⟨_, e2, hlen, ?_, (h2.trans f2).put hD⟩
      rw [upd_same, filter_succ hy, hb]
      rfl
  · rintro H' ⟨h1, h2⟩
    rw [List.take_length] at h1
    exact q Dn H' hD h2 h1
/-- [c for x in xs], c a constant that changes nothing -/
theorem cturns_const {stand : Hp → Prop} {n : Nat} {it : Nat → V → Prop} {w : V} (hl : n < sizeLine) (hs : ∀ H', Fr NoB H1 H' → stand H') {σf : V → L2.St} (hp : ∀ y, Put N σ x y (σf y))
    (he : ∀ (Y : Cx) (σ : L2.St) (H : Hp) (Q : VK), Q w H → RE Y elt σ H Q) (q : ∀ (Dn : Addr) (H' : Hp), H1 Dn = none → Fr NoB H1 H' → H' Dn = some (.lst (List.replicate n w)) → Q (.ref Dn) H') :
    CTurns X N Lc k scope x elt [] stand n it σ H1 Q := by
  intro Dn hD
  refine ⟨fun i H' => H' Dn = some (.lst (List.replicate i w)) ∧ Fr NoB H1 H', ⟨upd_same, Fr.new hD⟩, fun i H _ h => hs H h.2, ?_, fun H' h => q Dn H' hD h.2 h.1⟩
  rintro i y H' hi hy ⟨h1, h2⟩
  refine ⟨σf y, hp y, fun s Hb C cl fp cb => rts_nil (iteT fun s Hb C cl fp cb => he _ _ _ _ ?_)⟩
  refine ⟨_, h1, by rw [List.length_replicate]; omega, ?_, h2.put hD⟩
  rw [upd_same, List.replicate_succ']
theorem swapped_folded3 {x y z : Expr} {a b d : Expr} {kt k2 : Nat} {q1 q2 : Pos} {env : Env} (h : [a, b, d].all (foldedForSure 8) = true) : swappedStores [.Tuple [x, y, z] kt q1] (.Tuple [a, b, d] k2 q2) env = pure none := by
  unfold swappedStores
  dsimp only
  rw [h]
  repeat' first
    | rfl
    | (rename_i hh _; exact absurd rfl hh)
    | split
/-- x, y, z = e, e of three -/
theorem rs_tup3 (c : Ctx X N L k) {x y z : Str} {e : Expr} {j j' j2 : KN} {kt : Nat} {q0 q1 q2 q3 : Pos} (h : (x, j) ∈ L) (m : Own j) (hx : x ∈ N) (h' : (y, j') ∈ L) (m' : Own j') (hy : y ∈ N) (h2 : (z, j2) ∈ L) (m2 : Own j2) (hz : z ∈ N) {D : Ends}
    (q : RE X e σ H fun w H1 => ∃ t u v r, w = .ref t ∧ SqT X.K H1 t [u, v, r] ∧ ∃ σ' σ'' σ3, Put N σ x u σ' ∧ Put N σ' y v σ'' ∧ Put N σ'' z r σ3 ∧ D.nx σ3 H1)
    (hw : swappedStores [.Tuple [.Name x q0, .Name y q1, .Name z q2] kt q3] e X.env = pure none) (hs : swapsWithSole [.Tuple [.Name x q0, .Name y q1, .Name z q2] kt q3] e pos.line X.env = pure false := by with_unfolding_all rfl)
    (h1 : (assignEach [.Tuple [.Name x q0, .Name y q1, .Name z q2] kt q3] X.env).map (·.2) = [assign (.Tuple [.Name x q0, .Name y q1, .Name z q2] kt q3) X.env] := by with_unfolding_all rfl)
    (hn : (assignEach [.Name x q0, .Name y q1, .Name z q2] X.env).length = 3 := by with_unfolding_all rfl) (hst : (assignEach [.Name x q0, .Name y q1, .Name z q2] X.env).findIdx? (·.1) = none := by with_unfolding_all rfl)
    (ha : (assignEach [.Name x q0, .Name y q1, .Name z q2] X.env).map (·.2) = assign (.Name x q0) X.env :: (assignEach [.Name y q1, .Name z q2] X.env).map (·.2) := by with_unfolding_all rfl) (hb : (assignEach [.Name y q1, .Name z q2] X.env).map (·.2) = assign (.Name y q1) X.env :: (assignEach [.Name z q2] X.env).map (·.2) := by with_unfolding_all rfl)
    (hd : (assignEach [.Name z q2] X.env).map (·.2) = assign (.Name z q2) X.env :: (assignEach [] X.env).map (·.2) := by with_unfolding_all rfl) :
    RS X (.Assign [.Tuple [.Name x q0, .Name y q1, .Name z q2] kt q3] e pos) D σ H := by
  obtain ⟨i, g, e2⟩ := c.pg (p0 := q0) h m hx
  obtain ⟨i', g', e2'⟩ := c.pg (p0 := q1) h' m' hy
  obtain ⟨i2, g2, e3⟩ := c.pg (p0 := q2) h2 m2 hz
  refine rs_of (ps_asg PE.self (pg_tup (n := 3) c.calm (pgs_cons g (pgs_cons g' (pgs_cons g2 pgs_nil hd) hb) ha) hn hst) hs hw h1) (pe_mono q fun w H1 ⟨t, u, v, r, e1, hT, σ', σ'', σ3, a1, a2, a3, rr⟩ => ?_)
  subst e1
  rw [e3 a3, e2' a2, e2 a1] at rr
  exact ⟨t, _, rfl, hT, rfl, _, _, rfl, _, _, rfl, _, _, rfl, rfl, rr⟩
end
end GT
namespace GT
open PySem PySem.Spec PyProof.Rows L2
section
variable {X : Cx} {σ : L2.St} {H : Hp} {N : List Str} {L : List (Str × KN)} {k : Nat} {pos p0 p1 p2 p3 : Pos} {Q : VK} {D : Ends} {p : Addr} {z : Str} {v x : V} {xs : List V}
/-- d[k], d a dict of the module -/
theorem iv_kd (h : KDct X.K X.w p z v) (q : Q v H) : IxV X (.ref p) (.str z) H Q := ⟨⟨_, ix_kdict, p, z, v, rfl, rfl, h, q⟩⟩
/-- x in l of flat items -/
theorem cv_inV (h : SqL X.K H p xs ∨ SqT X.K H p xs) (f : flatV x = true) (fs : xs.all flatV = true) (q : Q (.bl (inV x xs)) H) : CpV X .In x (.ref p) H Q := ⟨⟨_, op_in_seq, p, xs, rfl, h, f, fs, q⟩⟩
theorem lv_intS {n : Int} (h : PySem.intText? z = some n) (hl : z.length ≤ 640) (q : Q (.int n) H) : ClV X (.type "int") [.str z] H Q := ⟨⟨_, call_int_str, z, n, rfl, h, hl, q⟩⟩
theorem lv_strI {i : Int} (h : i.natAbs.log2 < 1920) (q : Q (.str (toString i)) H) : ClV X (.type "str") [.int i] H Q := ⟨⟨_, call_str_int, i, rfl, h, q⟩⟩
/-- a.find(b) -/
theorem re_find {o e : Expr} {apos : Pos} (q : RE X o σ H fun x H1 => ∃ a, x = .str a ∧ RE X e σ H1 fun y H2 => ∃ b, y = .str b ∧ Q (.int (Txt.find a b)) H2)
    (hs : starEach [e] X.env = [(false, eval e X.env)] := by with_unfolding_all rfl) (hbase : attributeBase o "find" X.env (eval o X.env) = eval o X.env := by with_unfolding_all rfl) (hline : (apos.endLine == pos.line) = true := by with_unfolding_all rfl) :
    RE X (.Call (.Attribute o "find" apos) [e] [] pos) σ H Q :=
  re_of (pe_m1 PySem.F.slot_str_find PySem.F.type_str_find mt_find PE.self PE.self hs hbase hline) (pe_mono q fun x H1 ⟨a, e1, q1⟩ => ⟨⟨a, e1⟩, pe_mono q1 fun y H2 ⟨b, e2, q2⟩ => ⟨a, b, e1, by rw [e2], q2⟩⟩)
/-- for x in z, z a text -/
theorem rs_for_str (c : Ctx X N L k) {x : Str} {l : Expr} {body : List Stmt} {j : KN} (h : (x, j) ∈ L) (m : Own j) (hx : x ∈ N)
    (q : RE X l σ H fun v H1 => ∃ z, v = .str z ∧ Turns X N x body D (fun _ => True) z.cps.size (fun i y => ∃ c, z.cps[i]? = some c ∧ y = .str ⟨#[c]⟩) σ H1)
    (hs : ∀ x, foldedSetIterable l X.env x = pure x := by intro _; with_unfolding_all rfl) : RS X (.For (.Name x p0) l body [] pos) D σ H := by
  obtain ⟨i, g, h2⟩ := c.pg (p0 := p0) h m hx
  refine rs_of (ps_for c.po c.calm (pi_str PE.self) g PSs.self hs) (pe_mono q fun v H1 ⟨z, e, Pv, p1, p2, p3, p4⟩ => ⟨z, e, ?_⟩)
  refine for_it walk_str (tb := fun D σ H => RB X body D σ H) (g := gName i) Pv p1 p2 (fun j y σ H H' hj p yy => ?_) p4
  obtain ⟨rfl, yy⟩ := yy
  obtain ⟨σ', hp, r⟩ := p3 j y σ H' hj yy p
  rw [h2 hp] at r
  exact r
/-- for x, y in t, t a tuple of pairs -/
theorem rs_for_tup2 (c : Ctx X N L k) {x y : Str} {l : Expr} {body : List Stmt} {j j' : KN} {kt : Nat} {q0 q1 q2 : Pos} (h : (x, j) ∈ L) (m : Own j) (hx : x ∈ N) (h' : (y, j') ∈ L) (m' : Own j') (hy : y ∈ N)
    (q : RE X l σ H fun v H1 => ∃ a xs, v = .ref a ∧ SqT X.K H1 a xs ∧ ∃ Pv : Nat → L2.St → Hp → Prop, Pv 0 σ H1 ∧ (∀ i σ H, Pv i σ H → SqT X.K H a xs) ∧
      (∀ i w σ H, xs[i]? = some w → Pv i σ H → ∃ t u v, w = .ref t ∧ SqT X.K H t [u, v] ∧ ∃ σ' σ'', Put N σ x u σ' ∧ Put N σ' y v σ'' ∧ RB X body { D with nx := Pv (i + 1), ct := Pv (i + 1), bk := D.nx } σ'' H) ∧ (∀ σ H, Pv xs.length σ H → D.nx σ H))
    (hs : ∀ x, foldedSetIterable l X.env x = pure x := by intro _; with_unfolding_all rfl)
    (hn : (assignEach [.Name x q0, .Name y q1] X.env).length = 2 := by with_unfolding_all rfl) (hst : (assignEach [.Name x q0, .Name y q1] X.env).findIdx? (·.1) = none := by with_unfolding_all rfl)
    (ha : (assignEach [.Name x q0, .Name y q1] X.env).map (·.2) = assign (.Name x q0) X.env :: (assignEach [.Name y q1] X.env).map (·.2) := by with_unfolding_all rfl) (hb : (assignEach [.Name y q1] X.env).map (·.2) = assign (.Name y q1) X.env :: (assignEach [] X.env).map (·.2) := by with_unfolding_all rfl) :
    RS X (.For (.Tuple [.Name x q0, .Name y q1] kt q2) l body [] pos) D σ H := by
  obtain ⟨i, g, h2⟩ := c.pg (p0 := q0) h m hx
  obtain ⟨i', g', h2'⟩ := c.pg (p0 := q1) h' m' hy
  refine rs_of (ps_for c.po c.calm (pi_tup PE.self) (pg_tup (n := 2) c.calm (pgs_cons g (pgs_cons g' pgs_nil hb) ha) hn hst) PSs.self hs) (pe_mono q fun v H1 ⟨a, xs, e, hq, Pv, p1, p2, p3, p4⟩ => ⟨a, e, ⟨xs, hq⟩, ?_⟩)
  refine for_tup (K := X.K) (a := a) (xs := xs) Pv p1 (fun i σ H _ p => p2 i σ H p) (fun i w σ H e p => ?_) p4
  obtain ⟨t, u, v, rfl, hT, σ', σ'', a1, a2, r⟩ := p3 i w σ H e p
  rw [h2' a2, h2 a1] at r
  exact ⟨t, _, rfl, hT, rfl, _, _, rfl, _, _, rfl, rfl, r⟩
/-- f'{a}..{b}', a and b whole numbers -/
theorem re_fstr3 {e1 e2 : Expr} {j : Nat} (hz : z.length ≤ 1000) (q : RE X e1 σ H fun x H1 => ∃ i : Int, x = .int i ∧ i.natAbs.log2 < 1920 ∧ ((toString i : Str)).length ≤ 1000 ∧ RE X e2 σ H1 fun y H2 => ∃ k : Int, y = .int k ∧ k.natAbs.log2 < 1920 ∧ ((toString k : Str)).length ≤ 1000 ∧
      Q (.str ((Str.empty ++ (toString i : Str)) ++ z ++ (toString k : Str))) H2) :
    RE X (.JoinedStr [.FormattedValue e1 (-1) none p1, .Constant (.str z) j p2, .FormattedValue e2 (-1) none p3] pos) σ H Q := by
  have len : ∀ a b : Str, (a ++ b).length = a.length + b.length := fun a b => by
    show (a ++ b).cps.size = a.cps.size + b.cps.size
    have := congrArg List.length (TL.tl_append a b)
    simpa [TL.tl] using this
  have big : ∀ n : Nat, n ≤ 100000 → n ≤ sizeLine := fun n h => Nat.le_trans h (by decide)
  have e0 : Str.empty.length = 0 := rfl
  refine re_of (pe_joined (.cons (pe_fmt PE.self) (.cons pe_str (.cons (pe_fmt PE.self) .nil)))) ?_
  refine pe_mono q fun x H1 ⟨i, e1, hi, li, q1⟩ => .inr ⟨i, e1, hi, ?_⟩
  refine ⟨_, rfl, big _ (by rw [len, e0]; omega), ?_⟩
  refine ⟨z, rfl, big _ (by rw [len, len, e0]; omega), ?_⟩
  refine pe_mono q1 fun y H2 ⟨k, e2, hk, lk, q2⟩ => .inr ⟨k, e2, hk, ?_⟩
  exact ⟨_, rfl, big _ (by rw [len, len, len, e0]; omega), q2⟩
end
end GT
namespace GT
open PySem PySem.Spec PyProof.Rows L2
/-! ### tuples and tables of the top, told by Bools -/
def tupAB (K : PySem.W.Frag) (a : Addr) (vs : List V) : Bool := match K.lookup a with
  | none => false
  | some o => match o.cls, o.data with
    | .type c, .seq its _ => (c == "tuple" && Nat.ble its.size sizeLine) && He.relAll vs its.toList
    | _, _ => false
theorem tupAB_ok {K : PySem.W.Frag} {a : Addr} {vs : List V} (h : tupAB K a vs = true) (H : Hp) : SqT K H a vs := by
  unfold tupAB at h
  split at h
  · cases h
  · rename_i o ho
    split at h
    · rename_i c its n hc hd
      simp only [Bool.and_eq_true, beq_iff_eq] at h
      obtain ⟨⟨h1, h2⟩, h3⟩ := h
      exact .inr ⟨o, its, n, ho, by rw [hc, h1], hd, Nat.le_of_ble_eq_true h2, He.relAll_ok h3⟩
    · cases h
/-- the addresses that a tuple of the top holds -/
def itsOf (K : PySem.W.Frag) (a : Addr) : List Addr := match K.lookup a with
  | none => []
  | some o => match o.data with
    | .seq its _ => its.toList.filterMap fun v => match v with
      | .ref p => some p
      | _ => none
    | _ => []
/-- what a table holds at a key, where it is an object -/
def atK (K : PySem.W.Frag) (d : Addr) (x : Str) : Addr := match PySem.W.nsIn K d x with
  | some (some (.ref p)) => p
  | _ => 0
theorem kdct_of {K : PySem.W.Frag} {w : World} {d : Addr} {x : Str} {es : Array DictEntry} {n : Nat} (D : KDict K w d es n) (h : He.eqO (PySem.W.nsIn K d x) (some (some (.ref (atK K d x)))) = true) : KDct K w d x (.ref (atK K d x)) :=
  ⟨es, n, _, D.at_, D.lit, He.eqO_ok h, rfl⟩
end GT
namespace GT
open PySem PySem.Spec PyProof.Rows L2
section
variable {X : Cx} {σ : L2.St} {H : Hp} {N : List Str} {L : List (Str × KN)} {k : Nat} {pos p0 p1 p2 p3 : Pos} {Q : VK} {D : Ends} {p : Addr} {z : Str} {v x : V} {xs : List V}
/-- the tuple of the top at a -/
def tupDB (K : PySem.W.Frag) (a : Addr) : Bool := match K.lookup a with
  | none => false
  | some o => match o.cls, o.dict with
    | .type c, none => c == "tuple"
    | _, _ => false
theorem tupDB_ok {K : PySem.W.Frag} {a : Addr} (h : tupDB K a = true) : ∃ ob : Obj, K.lookup a = some ob ∧ ob.cls = .type "tuple" ∧ ob.dict = none := by
  unfold tupDB at h
  split at h
  · cases h
  · rename_i o ho
    split at h
    · rename_i c hc hd
      rw [beq_iff_eq] at h
      exact ⟨o, ho, by rw [hc, h], hd⟩
    · cases h
/-- while c: body, by a word and a measure -/
theorem rs_while (c : Ctx X N L k) {e : Expr} {body : List Stmt} (Pv : L2.St → Hp → Prop) (μ : L2.St → Hp → Nat) (h0 : Pv σ H)
    (hs : ∀ σ H, Pv σ H → RT X e σ H fun b H1 => if b = true then RB X body { D with nx := fun σ' H' => Pv σ' H' ∧ μ σ' H' < μ σ H, ct := fun σ' H' => Pv σ' H' ∧ μ σ' H' < μ σ H, bk := D.nx } σ H1 else D.nx σ H1) :
    RS X (.While e body [] pos) D σ H :=
  rs_of (ps_while c.po PT.self PSs.self) (while_by Pv μ h0 hs fun σ H Q Q' m q => rt_mono q m)
/-- x.append(e), x a name -/
theorem rs_app (c : Ctx X N L k) {x : Str} {j : KN} {l : Addr} {e : Expr} {apos : Pos} (h : (x, j) ∈ L) (m : Mine j) (s : Slot N σ x (.ref l)) (h0 : H l = some (.lst xs)) (q : RE X e σ H fun y H2 => ∃ xs', H2 l = some (.lst xs') ∧ xs'.length < sizeLine ∧ D.nx σ (upd H2 l (.lst (xs' ++ [y]))))
    (hbase : attributeBase (.Name x p0) "append" X.env (eval (.Name x p0) X.env) = eval (.Name x p0) X.env := by with_unfolding_all rfl)
    (hfew : ((backTo p1 (starEach [e] X.env)).all (fun x => !x.1) && (backToKw p1 (keywordEach [] X.env)).all (fun x => x.1.isSome) && decide (([e] : List Expr).length + ([] : List Keyword).length + (if ([] : List Keyword).isEmpty then 0 else 1) < 30)) = true := by with_unfolding_all rfl)
    (hline : (apos.endLine == p1.line) = true := by with_unfolding_all rfl) (hs : starEach [e] X.env = (false, eval e X.env) :: starEach [] X.env := by with_unfolding_all rfl) (hplain : (backTo p1 (starEach [] X.env)).any (·.1) = false := by with_unfolding_all rfl)
    (hsw : swapsWith (.Call (.Attribute (.Name x p0) "append" apos) [e] [] p1) none pos.line X.env = pure false := by with_unfolding_all rfl) :
    RS X (.Expr (.Call (.Attribute (.Name x p0) "append" apos) [e] [] p1) pos) D σ H :=
  rs_expr (re_append (re_name c s h m ⟨l, xs, rfl, h0, q⟩) hbase hfew hline hs hplain) hsw
theorem lv_ord {z : Str} (h : z.length = 1) (q : Q (.int (z.cps.getD 0 0 : Nat)) H) : ClV X (.builtin "ord") [.str z] H Q := ⟨⟨_, call_ord, z, rfl, h, q⟩⟩
/-- t.index(e), t a tuple of texts -/
theorem re_tindex {o e : Expr} {apos : Pos} (q : RE X o σ H fun x H1 => ∃ (l : Addr) (ys : List Str), x = .ref l ∧ (∃ ob : Obj, X.K.lookup l = some ob ∧ ob.cls = .type "tuple" ∧ ob.dict = none) ∧ RE X e σ H1 fun y H2 => ∃ (z : Str) (j : Nat), y = .str z ∧ SqT X.K H2 l (ys.map V.str) ∧ ys[j]? = some z ∧ (∀ m, m < j → ys[m]? ≠ some z) ∧ Q (.int (j : Nat)) H2)
    (hbase : attributeBase o "index" X.env (eval o X.env) = eval o X.env := by with_unfolding_all rfl)
    (hfew : ((backTo pos (starEach [e] X.env)).all (fun x => !x.1) && (backToKw pos (keywordEach [] X.env)).all (fun x => x.1.isSome) && decide (([e] : List Expr).length + ([] : List Keyword).length + (if ([] : List Keyword).isEmpty then 0 else 1) < 30)) = true := by with_unfolding_all rfl)
    (hline : (apos.endLine == pos.line) = true := by with_unfolding_all rfl) (hs : starEach [e] X.env = (false, eval e X.env) :: starEach [] X.env := by with_unfolding_all rfl) (hplain : (backTo pos (starEach [] X.env)).any (·.1) = false := by with_unfolding_all rfl) :
    RE X (.Call (.Attribute o "index" apos) [e] [] pos) σ H Q := by
  refine re_of (pe_bm PySem.F.plainAttrs_tuple PySem.F.slot_tuple_index PySem.F.type_tuple_index mt_tup_index PE.self PA.self hbase hfew hline hs hplain) ?_
  refine pe_mono q fun x H1 ⟨l, ys, e1, h1, q1⟩ => ?_
  subst e1
  obtain ⟨ob, k1, k2, k3⟩ := h1
  refine ⟨?_, ra_cons (pe_mono q1 fun y H2 ⟨z, j, e2, h2, h3, h4, q2⟩ => ra_nil ⟨l, ys, z, j, rfl, by rw [e2], h2, h3, h4, q2⟩) hs⟩
  exact .inr (.inl ⟨rfl, ob, k1, k2, k3⟩)
/-- l.index(e), l a list of texts -/
theorem re_lindex {o e : Expr} {apos : Pos} (q : RE X o σ H fun x H1 => ∃ (l : Addr) (ys : List Str), x = .ref l ∧ SqL X.K H1 l (ys.map V.str) ∧ RE X e σ H1 fun y H2 => ∃ (z : Str) (j : Nat), y = .str z ∧ SqL X.K H2 l (ys.map V.str) ∧ ys[j]? = some z ∧ (∀ m, m < j → ys[m]? ≠ some z) ∧ Q (.int (j : Nat)) H2)
    (hbase : attributeBase o "index" X.env (eval o X.env) = eval o X.env := by with_unfolding_all rfl)
    (hfew : ((backTo pos (starEach [e] X.env)).all (fun x => !x.1) && (backToKw pos (keywordEach [] X.env)).all (fun x => x.1.isSome) && decide (([e] : List Expr).length + ([] : List Keyword).length + (if ([] : List Keyword).isEmpty then 0 else 1) < 30)) = true := by with_unfolding_all rfl)
    (hline : (apos.endLine == pos.line) = true := by with_unfolding_all rfl) (hs : starEach [e] X.env = (false, eval e X.env) :: starEach [] X.env := by with_unfolding_all rfl) (hplain : (backTo pos (starEach [] X.env)).any (·.1) = false := by with_unfolding_all rfl) :
    RE X (.Call (.Attribute o "index" apos) [e] [] pos) σ H Q := by
  refine re_of (pe_bm PySem.F.plainAttrs_list PySem.F.slot_list_index PySem.F.type_list_index mt_index PE.self PA.self hbase hfew hline hs hplain) ?_
  refine pe_mono q fun x H1 ⟨l, ys, e1, h1, q1⟩ => ?_
  subst e1
  have flat : (ys.map V.str).all flatV = true := by
    rw [List.all_map]
    exact List.all_eq_true.mpr fun _ _ => rfl
  have eqS : ∀ a b : Str, eqV (.str a) (.str b) = (a == b) := fun _ _ => rfl
  refine ⟨.inl ⟨rfl, _, h1⟩, ra_cons (pe_mono q1 fun y H2 ⟨z, j, e2, h2, h3, h4, q2⟩ => ra_nil ⟨l, ys.map V.str, .str z, j, .str z, rfl, by rw [e2], h2, rfl, flat, by rw [List.getElem?_map, h3]; rfl, by rw [eqS]; exact beq_self_eq_true z, fun m z' hm hz' => ?_, q2⟩) hs⟩
  rw [List.getElem?_map] at hz'
  obtain ⟨w, hw, rfl⟩ := Option.map_eq_some_iff.mp hz'
  rw [eqS, beq_eq_false_iff_ne]
  exact fun e => h4 m hm (by rw [hw, e])
/-- sorted(l), l a list of texts -/
theorem lv_sortedS {ys : List Str} (h : SqL X.K H p (ys.map V.str)) (hl : ys.length < 64) (q : ∀ (zs : List Str) (l : Addr), zs.Perm ys → H l = none → Q (.ref l) (upd H l (.lst (zs.map V.str)))) : ClV X (.builtin "sorted") [.ref p] H Q :=
  ⟨⟨_, cr_sortedS, p, ys, rfl, h, hl, fun zs l hp _ hn => q zs l hp hn⟩⟩
/-- f(..), f a local name that holds a def -/
theorem re_callL (c : Ctx X N L k) {x : Str} {j : KN} {f : Addr} {fd : FuncData} {ps : List Str} {sp : Sp} {n : Nat} {e : Expr} {es : List Expr} (F : FnOk X.prog X.w X.K X.mg X.base CX0 n f fd ps sp) (hn : n ≤ k) (kp : PySem.W.keepIn X.K (.ref f) = true) (b : Binds X.K fd ps []) (h : (x, j) ∈ L) (m : Mine j) (s : Slot N σ x (.ref f))
    (q : RA X (e :: es) σ H fun vs H1 => sp vs H1 Q E0)
    (he : starEach (e :: es) X.env = (false, eval e X.env) :: starEach es X.env := by with_unfolding_all rfl) (hpl : (backTo pos (starEach es X.env)).any (·.1) = false := by with_unfolding_all rfl) : RE X (.Call (.Name x p0) (e :: es) [] pos) σ H Q := by
  obtain ⟨i, h1, h2⟩ := s.ix
  rw [← c.n] at h1
  refine re_of (pe_callL F (c.room.mono hn) h1 (c.vis h m) kp b .nil pass0 PA.self (c.d1 h) (c.d2 h) he hpl) ⟨h2, ?_⟩
  exact ra_mono q fun vs H1 d => by rw [List.append_nil]; exact d
end
end GT
namespace GT
open PySem PySem.Spec PyProof.Rows L2
/-! ### zip of a list and a tuple -/
def IteM (K : PySem.W.Frag) (a b : Addr) : It where
  go := fun i H => ∃ xs ys : List V, (SqL K H a xs ∧ SqT K H b ys) ∧ (∃ x, xs[i]? = some x) ∧ ∃ y, ys[i]? = some y
  yld := fun i H v H' => ∃ T x y, v = .ref T ∧ H T = none ∧ H' = upd H T (.tup [x, y]) ∧ ∀ xs ys, SqL K H a xs → SqT K H b ys → xs[i]? = some x ∧ ys[i]? = some y
  stop := fun i H => ∃ xs ys : List V, (SqL K H a xs ∧ SqT K H b ys) ∧ xs.length = i ∧ ys.length = i
theorem turn_zipM {P : Program} {w : World} {K : PySem.W.Frag} {elts : List Expr} {kk : Nat} {tpos : Pos} {a b z TI TO i1 i2 : Addr} (S : ZipSep2 z TI TO i1 i2 [i1, a] [i2, b]) (na : a ≠ i1) (nb : b ≠ i2) :
    Turn P w K (.Tuple elts kk tpos) (IteM K a b) [z, TI, TO, i1, i2] z (fun i h => IsZip h z TI TO .none ∧ IsTupOf2 h TI (.ref i1) (.ref i2) ∧ (∃ x y, IsTupOf2 h TO x y) ∧ h.IsListIter i1 a i ∧ h.IsTupleIter i2 b i) where
  mem := List.mem_cons_self
  obj := by
    intro i h ⟨hz, ht, ⟨x, y, ho⟩, ⟨o1, g1, _, d1⟩, ⟨o2, g2, _, d2⟩⟩ c hc
    simp only [List.mem_cons, List.not_mem_nil, or_false] at hc
    rcases hc with rfl | rfl | rfl | rfl | rfl
    · exact ⟨_, hz, fun v q => nomatch q⟩
    · exact ⟨_, ht, fun v q => nomatch q⟩
    · exact ⟨_, ho, fun v q => nomatch q⟩
    · exact ⟨o1, g1, fun v q => by rw [d1] at q; cases q⟩
    · exact ⟨o2, g2, fun v q => by rw [d2] at q; cases q⟩
  keep := by
    intro i h h' ⟨hz, ht, ⟨x, y, ho⟩, g1, g2⟩ k
    exact ⟨k z (by simp) _ hz, k TI (by simp) _ ht, ⟨x, y, k TO (by simp) _ ho⟩, g1.at fun o q => k i1 (by simp) o q, g2.at fun o q => k i2 (by simp) o q⟩
  item := by
    intro X hP hw hK hc i pins s σ H E I hf st hg
    subst hP hw hK
    obtain ⟨hz, ht, ⟨x0, y0, ho⟩, g1, g2⟩ := st
    obtain ⟨xs, ys, ⟨qx, qy⟩, ⟨x, hx⟩, ⟨y, hy⟩⟩ := hg
    obtain ⟨its, rv, p, _⟩ := I.list qx
    obtain ⟨jts, rw2, r, _⟩ := I.tuple qy
    obtain ⟨u, hu, ru⟩ := rv.get hx
    obtain ⟨v, hv, rv2⟩ := rw2.get hy
    have hh : X.A.in1.handled = none := I.ok.hd hc
    have hzl : z < s.heap.objs.size := Heap.lt_size hz
    have htl : TI < s.heap.objs.size := Heap.lt_size ht
    have hol : TO < s.heap.objs.size := Heap.lt_size ho
    have l1 : i1 < s.heap.objs.size := by obtain ⟨_, e, _⟩ := g1; exact Heap.lt_size e
    have l2 : i2 < s.heap.objs.size := by obtain ⟨_, e, _⟩ := g2; exact Heap.lt_size e
    have lt1 : i < its.toArray.size := by
      rcases Nat.lt_or_ge i its.length with q | q
      · simpa using q
      · rw [List.getElem?_eq_none q] at hu; cases hu
    have lt2 : i < jts.toArray.size := by
      rcases Nat.lt_or_ge i jts.length with q | q
      · simpa using q
      · rw [List.getElem?_eq_none q] at hv; cases hv
    refine wpAny_pyNext_zipD2_item S (Draws.list (prog := X.prog) (w := X.w) (A := X.A.in1) hh i1 a na its.toArray) (Draws.tuple (prog := X.prog) (w := X.w) (A := X.A.in1) hh i2 b nb jts.toArray) hz ht ho ⟨g1, p.isList⟩ ⟨g2, r⟩ lt1 lt2 fun v1 v2 h' tk e1 e2 z' o' k1 k2 hT hsz hk => ?_
    have ev1 : v1 = u := Option.some.inj ((show its.toArray[i]? = some v1 from e1).symm.trans (by simpa using hu))
    have ev2 : v2 = v := Option.some.inj ((show jts.toArray[i]? = some v2 from e2).symm.trans (by simpa using hv))
    subst ev1 ev2
    refine ⟨_, rfl, wpAny_letOwnedTupleGo_zip (s := { s with heap := h', toks := tk }) z' fun h'' z'' sb => ?_⟩
    have hT2 := (sb.2 _ (Nat.ne_of_gt hzl)).trans hT
    have new : ObjOk X.prog X.w (upd H s.heap.objs.size (.tup [x, y])) h'' s.heap.objs.size (.tup [x, y]) := ⟨by show 2 ≤ sizeLine; decide, [v1, v2], .cons ru (.cons rv2 .nil), ⟨_, hT2, rfl, _, rfl⟩⟩
    have I1 : Inv X pins σ (upd H s.heap.objs.size (.tup [x, y])) { s with heap := h'', toks := tk } :=
      I.turnedNew (ch := [z, TI, TO, i1, i2]) (fun c o hb q => (sb.2 c fun e => hb (by simp [e])).trans (hk c o (fun e => hb (by simp [e])) (fun e => hb (by simp [e])) (fun e => hb (by simp [e])) (fun e => hb (by simp [e])) q)) hf (Nat.le_refl _) new
    refine ⟨.ref s.heap.objs.size, _, I1, rfl, ⟨_, x, y, rfl, I.hok.fresh (Nat.le_refl _), rfl, fun xs' ys' a1 a2 => ⟨by rw [I.list_inj a1 qx]; exact hx, by rw [I.tuple_inj a2 qy]; exact hy⟩⟩, ⟨z'', ?_, ⟨v1, v2, (sb.2 _ S.TOz).trans o'⟩, k1.1.at fun o q => (sb.2 _ S.zi1.symm).trans q, k2.1.at fun o q => (sb.2 _ S.zi2.symm).trans q⟩, fun c hcm => ?_⟩
    · exact (sb.2 _ S.TIz).trans (hk _ _ S.TIz S.TITO S.TIi1 S.TIi2 ht)
    · have hlt : c < s.heap.objs.size := by
        simp only [List.mem_cons, List.not_mem_nil, or_false] at hcm
        rcases hcm with rfl | rfl | rfl | rfl | rfl <;> assumption
      rw [upd_ne (Nat.ne_of_lt hlt)]
      exact (hf c hcm).1
  done := by
    intro X hP hw hK hc i pins s σ H E I hf st hg
    subst hP hw hK
    obtain ⟨hz, ht, ⟨x0, y0, ho⟩, g1, g2⟩ := st
    obtain ⟨xs, ys, ⟨qx, qy⟩, e1, e2⟩ := hg
    obtain ⟨its, rv, p, _⟩ := I.list qx
    obtain ⟨jts, rw2, r, _⟩ := I.tuple qy
    have hh : X.A.in1.handled = none := I.ok.hd hc
    have n1 : i = its.toArray.size := by have := rv.length; simp; omega
    have n2 : i = jts.toArray.size := by have := rw2.length; simp; omega
    exact wpAny_pyNext_zipD2_end S (Draws.list (prog := X.prog) (w := X.w) (A := X.A.in1) hh i1 a na its.toArray) (Draws.tuple (prog := X.prog) (w := X.w) (A := X.A.in1) hh i2 b nb jts.toArray) hz ht ho ⟨g1, p.isList⟩ ⟨g2, r⟩ (Nat.le_of_eq n1) (Nat.le_of_eq n2) (.inl n1) fun h' tk hk =>
      ⟨rfl, I.turnedL (t' := tk) (ch := [z, TI, TO, i1, i2]) (fun c o hb q => hk c o (fun e => hb (by simp [e])) (fun e => hb (by simp [e])) (fun e => hb (by simp [e])) (fun e => hb (by simp [e])) q) hf⟩
  self := fun A i s Q E st h => wpAny_pyIter_zip st.1 h
def iZipM (K : PySem.W.Frag) (ta : TA) : TI := fun σ H R => ta σ H fun vs H1 => ∃ a b xs ys, vs = [.ref a, .ref b] ∧ (SqL K H1 a xs ∧ SqT K H1 b ys) ∧ R (IteM K a b) H1
theorem pi_zipM {X : Cx} {e e2 : Expr} {ta : TA} {p pos tpos : Pos} {elts : List Expr} {kk : Nat} (hg : Gl X "zip") (hm : X.mg "zip" = none) (ha : PA X [e, e2] ta)
    (he : starEach [e, e2] X.env = (false, eval e X.env) :: starEach [e2] X.env) (hb : (backTo pos (starEach [e2] X.env)).any (·.1) = false) : PI X (.Tuple elts kk tpos) (.Call (.Name "zip" p) [e, e2] [] pos) (iZipM X.K ta) := by
  refine ⟨fun pins s σ H R I h => Call_ (ld_blt I hg hm PyProof.Rows.boot_zip (PyProof.Rows.callWith_type1 (thn (ha.run pos pins s σ H _ I h) fun us s1 ⟨vs, H1, I1, r1, a, b, xs, ys, ex, ⟨qx, qy⟩, q⟩ => ?_) he hb))⟩
  subst ex
  cases r1 with
  | cons r rr =>
    cases rr with
    | cons r' rr =>
      cases rr
      cases r
      cases r'
      obtain ⟨its, rv, p1, _⟩ := I1.list qx
      obtain ⟨jts, rw2, p2, _⟩ := I1.tuple qy
      have la : a < s1.heap.objs.size := p1.lt
      have lb : b < s1.heap.objs.size := p2.lt
      refine zip_begins2 (begins_list a its.toArray) (begins_tuple b jts.toArray) p1.isList p2 fun h' hz ht ho o1 o2 hsz hk => wpAny_pyIter_zip hz ?_
      have I2 : Inv X pins σ H1 { s1 with heap := h' } := I1.kept (t' := s1.toks) hk
      have sep := zip_sep2 (N := s1.heap.objs.size) (fp1 := [a]) (fp2 := [b]) (fun c hc => by rw [List.mem_singleton.mp hc]; exact la) (fun c hc => by rw [List.mem_singleton.mp hc]; exact lb)
      refine ⟨s1.heap.objs.size + 4, [s1.heap.objs.size + 4, s1.heap.objs.size + 2, s1.heap.objs.size + 3, s1.heap.objs.size, s1.heap.objs.size + 1], _, _, H1, rfl, I2, turn_zipM sep (Nat.ne_of_lt la) (Nat.ne_of_lt (Nat.lt_succ_of_lt lb)), ⟨hz, ht, ⟨_, _, ho⟩, ⟨_, o1, rfl, rfl⟩, ⟨_, o2, rfl, rfl⟩⟩, fun c hcm => ?_, q⟩
      have hle : s1.heap.objs.size ≤ c := by
        simp only [List.mem_cons, List.not_mem_nil, or_false] at hcm
        rcases hcm with rfl | rfl | rfl | rfl | rfl
        · exact Nat.le_add_right _ _
        · exact Nat.le_add_right _ _
        · exact Nat.le_add_right _ _
        · exact Nat.le_refl _
        · exact Nat.le_add_right _ _
      exact I1.fpOk hle (I1.hok.fresh hle)
theorem walk_zipM {K : PySem.W.Frag} {a b : Addr} {xs ys : List V} (hl : xs.length = ys.length) : Walk (IteM K a b) xs.length (fun H => SqL K H a xs ∧ SqT K H b ys) (YPair (fun i => xs[i]?) (fun i => ys[i]?)) := by
  refine ⟨fun i _ hi q => ⟨xs, ys, q, ⟨xs[i], by simp [hi]⟩, ⟨ys[i]'(by omega), List.getElem?_eq_getElem (by omega)⟩⟩, fun _ q => ⟨xs, ys, q, rfl, hl.symm⟩, fun i H v H' _ q y => ?_⟩
  obtain ⟨T, x, z, h1, h2, h3, h4⟩ := y
  exact ⟨T, x, z, h1, h2, h3, (h4 xs ys q.1 q.2).1, (h4 xs ys q.1 q.2).2⟩
section
variable {X : Cx} {σ : L2.St} {H : Hp} {N : List Str} {L Lc : List (Str × KN)} {k : Nat} {pos p0 p1 p2 p3 : Pos} {Q : VK} {D : Ends} {scope : Scope} {x y : Str} {e elt e1 e2 : Expr} {ifs : List Expr} {body : List Stmt} {j j' : KN} {kt : Nat} {q0 q1 q2 : Pos}
/-- for x, y in zip(a, b): a list, b tuple, of one length -/
theorem rs_for_zipM (c : Ctx X N L k) (h : (x, j) ∈ L) (m : Own j) (hx : x ∈ N) (h' : (y, j') ∈ L) (m' : Own j') (hy : y ∈ N) (hg : (("zip" : Str), KN.glob) ∈ L) (hm : X.mg "zip" = none)
    (q : RA X [e1, e2] σ H fun vs H1 => ∃ a b xs ys, vs = [.ref a, .ref b] ∧ xs.length = ys.length ∧ SqL X.K H1 a xs ∧ SqT X.K H1 b ys ∧ PTurns X N x y body D (fun H => SqL X.K H a xs ∧ SqT X.K H b ys) xs.length (fun i => xs[i]?) (fun i => ys[i]?) σ H1)
    (hs : ∀ x, foldedSetIterable (.Call (.Name "zip" p1) [e1, e2] [] p2) X.env x = pure x := by intro _; with_unfolding_all rfl) (he : starEach [e1, e2] X.env = (false, eval e1 X.env) :: starEach [e2] X.env := by with_unfolding_all rfl) (hpl : (backTo p2 (starEach [e2] X.env)).any (·.1) = false := by with_unfolding_all rfl)
    (hn : (assignEach [.Name x q0, .Name y q1] X.env).length = 2 := by with_unfolding_all rfl) (hst : (assignEach [.Name x q0, .Name y q1] X.env).findIdx? (·.1) = none := by with_unfolding_all rfl)
    (ha : (assignEach [.Name x q0, .Name y q1] X.env).map (·.2) = assign (.Name x q0) X.env :: (assignEach [.Name y q1] X.env).map (·.2) := by with_unfolding_all rfl) (hb : (assignEach [.Name y q1] X.env).map (·.2) = assign (.Name y q1) X.env :: (assignEach [] X.env).map (·.2) := by with_unfolding_all rfl) :
    RS X (.For (.Tuple [.Name x q0, .Name y q1] kt q2) (.Call (.Name "zip" p1) [e1, e2] [] p2) body [] pos) D σ H := by
  obtain ⟨i, g, h2⟩ := c.pg (p0 := q0) h m hx
  obtain ⟨i', g', h2'⟩ := c.pg (p0 := q1) h' m' hy
  refine rs_of (ps_for c.po c.calm (pi_zipM (c.gl hg) hm PA.self he hpl) (pg_tup (n := 2) c.calm (pgs_cons g (pgs_cons g' pgs_nil hb) ha) hn hst) PSs.self hs) ?_
  exact ra_mono q fun vs H1 ⟨a, b, xs, ys, e, hl, s1, s2, t⟩ => ⟨a, b, xs, ys, e, ⟨s1, s2⟩, pturns_go (walk_zipM hl) h2 h2' t⟩
/-- y = [.. for x in range(e)] on one line -/
theorem rs_lc_range (c : Ctx X N L k) (Lc : List (Str × KN)) (hok : lcOk N L scope Lc x = true) {py cp : Pos} (hg : (("range" : Str), KN.glob) ∈ L) (hm : X.mg "range" = none) (hy : (y, KN.loc) ∈ L) (my : y ∈ N)
    (q : RE X e σ H fun v H1 => ∃ n : Int, v = .int n ∧ -(2 ^ 62) ≤ n ∧ n < 2 ^ 62 ∧ CTurns X N Lc k scope x elt ifs (fun _ => True) n.toNat (fun i y => y = .int i) σ H1 fun v H2 => ∃ σ', Put N σ y v σ' ∧ D.nx σ' H2)
    (hln : (py.line == cp.line) = true := by with_unfolding_all rfl) (ha : (scope.names.any fun (n, k) => n == y && (k == .local || k == .cell)) = false := by decide +kernel)
    (hs : ∀ x, foldedSetIterable (.Call (.Name "range" p1) [e] [] p2) X.env x = pure x := by intro _; with_unfolding_all rfl) (hsE : starEach [e] X.env = [(false, eval e X.env)] := by with_unfolding_all rfl) :
    RS X (.Assign [.Name y py] (.ListComp elt [⟨.Name x p0, .Call (.Name "range" p1) [e] [] p2, ifs, 0⟩] scope cp) pos) D σ H := by
  obtain ⟨S, hx, hl, ok⟩ := lcOk_of c hok
  obtain ⟨i, hput, bk, g⟩ := blk_at (p0 := p0) c S hx hl ok
  obtain ⟨i2, h1, h2⟩ := c.put my
  refine rs_of (ps_setLc (i := i2) c.calm c.nodup h1 (c.lcl hy) (sw_true c.kind (c.lcl hy) hln ha) (pi_range1 (c.gl hg) hm PA.self hsE) bk g (fun s H C cl fp => PTs.rta c S s H C cl fp) (fun s H C cl fp => PE.rea c S s H C cl fp) hs) ?_
  refine ra_cons (pe_mono q fun v H1 ⟨n, e, n1, n2, q1⟩ => ra_nil ⟨n, by rw [e], n1, n2, ?_⟩) hsE
  refine lc_go (it := fun (i : Nat) y => y = V.int (i : Int)) hput (walk_range.mono (fun _ h => h) fun j H y H' hj _ hy => ?_) (Q := fun v H1 => D.nx (σ.set i2 (some v)) H1) (fun Dn hD => ?_)
  · obtain ⟨h1, h2⟩ := hy
    exact ⟨h1, by rw [h2]; simp⟩
  · obtain ⟨Pv, a1, a2, a3, a4⟩ := q1 Dn hD
    refine ⟨Pv, a1, a2, a3, fun H2 hp => ?_⟩
    obtain ⟨σ', p, d⟩ := a4 H2 hp
    rw [h2 p] at d
    exact d
end
end GT
namespace K07
open PySem PySem.Spec PyProof.Rows L2 GT
def top (i : Nat) : Stmt := PySem.Challenge.pw_goodtill_k07_events_as_octets.main.body.getD i (.Pass ⟨0, 0, 0, 0⟩)
/-! write_groups -/
abbrev sq_write_groups : Stmt := top 4
abbrev nq_write_groups : List Str := ["out", "number"]
abbrev lq_write_groups : List (Str × KN) := [("out", .loc), ("number", .loc)]
theorem mq_write_groups : Nms sq_write_groups nq_write_groups ["out", "number"] lq_write_groups := ⟨⟨rfl, rfl, rfl, by decide +kernel, rfl, by decide +kernel, by decide +kernel⟩, by decide +kernel, by decide +kernel, by decide +kernel⟩
/-! write_octet -/
abbrev sq_write_octet : Stmt := top 5
abbrev nq_write_octet : List Str := ["out", "number"]
abbrev lq_write_octet : List (Str × KN) := [("out", .loc), ("number", .loc)]
theorem mq_write_octet : Nms sq_write_octet nq_write_octet ["out", "number"] lq_write_octet := ⟨⟨rfl, rfl, rfl, by decide +kernel, rfl, by decide +kernel, by decide +kernel⟩, by decide +kernel, by decide +kernel, by decide +kernel⟩
/-! write_id -/
abbrev sq_write_id : Stmt := top 6
abbrev nq_write_id : List Str := ["out", "event_id"]
abbrev lq_write_id : List (Str × KN) := [("out", .loc), ("event_id", .loc), ("write_groups", .glob)]
theorem mq_write_id : Nms sq_write_id nq_write_id ["out", "event_id"] lq_write_id := ⟨⟨rfl, rfl, rfl, by decide +kernel, rfl, by decide +kernel, by decide +kernel⟩, by decide +kernel, by decide +kernel, by decide +kernel⟩
/-! write_term -/
abbrev sq_write_term : Stmt := top 7
abbrev nq_write_term : List Str := ["out", "term"]
abbrev lq_write_term : List (Str × KN) := [("out", .loc), ("term", .loc), ("write_id", .glob)]
theorem mq_write_term : Nms sq_write_term nq_write_term ["out", "term"] lq_write_term := ⟨⟨rfl, rfl, rfl, by decide +kernel, rfl, by decide +kernel, by decide +kernel⟩, by decide +kernel, by decide +kernel, by decide +kernel⟩
/-! write_fraction -/
abbrev sq_write_fraction : Stmt := top 8
abbrev nq_write_fraction : List Str := ["out", "one", "n", "d"]
abbrev lq_write_fraction : List (Str × KN) := [("out", .loc), ("one", .loc), ("n", .loc), ("d", .loc), ("write_groups", .glob)]
theorem mq_write_fraction : Nms sq_write_fraction nq_write_fraction ["out", "one"] lq_write_fraction := ⟨⟨rfl, rfl, rfl, by decide +kernel, rfl, by decide +kernel, by decide +kernel⟩, by decide +kernel, by decide +kernel, by decide +kernel⟩
/-! write_label -/
abbrev sq_write_label : Stmt := top 9
abbrev nq_write_label : List Str := ["out", "label", "letter"]
abbrev lq_write_label : List (Str × KN) := [("out", .loc), ("label", .loc), ("len", .glob), ("letter", .loc), ("ord", .glob)]
theorem mq_write_label : Nms sq_write_label nq_write_label ["out", "label"] lq_write_label := ⟨⟨rfl, rfl, rfl, by decide +kernel, rfl, by decide +kernel, by decide +kernel⟩, by decide +kernel, by decide +kernel, by decide +kernel⟩
/-! write_name -/
abbrev sq_write_name : Stmt := top 10
abbrev nq_write_name : List Str := ["out", "name", "label"]
abbrev lq_write_name : List (Str × KN) := [("out", .loc), ("name", .loc), ("len", .glob), ("label", .loc), ("write_label", .glob)]
theorem mq_write_name : Nms sq_write_name nq_write_name ["out", "name"] lq_write_name := ⟨⟨rfl, rfl, rfl, by decide +kernel, rfl, by decide +kernel, by decide +kernel⟩, by decide +kernel, by decide +kernel, by decide +kernel⟩
/-! write_entry -/
abbrev sq_write_entry : Stmt := top 11
abbrev nq_write_entry : List Str := ["out", "entry", "label", "first"]
abbrev lq_write_entry : List (Str × KN) := [("out", .loc), ("entry", .loc), ("write_groups", .glob), ("write_name", .glob), ("label", .loc), ("first", .loc), ("write_label", .glob), ("write_entry", .glob)]
theorem mq_write_entry : Nms sq_write_entry nq_write_entry ["out", "entry"] lq_write_entry := ⟨⟨rfl, rfl, rfl, by decide +kernel, rfl, by decide +kernel, by decide +kernel⟩, by decide +kernel, by decide +kernel, by decide +kernel⟩
/-! write_answer -/
abbrev sq_write_answer : Stmt := top 12
abbrev nq_write_answer : List Str := ["out", "answer", "found", "names", "name"]
abbrev lq_write_answer : List (Str × KN) := [("out", .loc), ("answer", .loc), ("found", .loc), ("names", .loc), ("FOUND", .glob), ("write_groups", .glob), ("write_term", .glob), ("len", .glob), ("name", .loc), ("write_name", .glob)]
theorem mq_write_answer : Nms sq_write_answer nq_write_answer ["out", "answer"] lq_write_answer := ⟨⟨rfl, rfl, rfl, by decide +kernel, rfl, by decide +kernel, by decide +kernel⟩, by decide +kernel, by decide +kernel, by decide +kernel⟩
/-! write_event -/
abbrev sq_write_event : Stmt := top 14
abbrev nq_write_event : List Str := ["out", "event", "event_id", "reading", "deed", "part", "entry", "write"]
abbrev lq_write_event : List (Str × KN) := [("out", .loc), ("event", .loc), ("event_id", .loc), ("reading", .loc), ("deed", .loc), ("write_id", .glob), ("write_fraction", .glob), ("KINDS", .glob), ("part", .loc), ("entry", .loc), ("zip", .glob), ("PARTS", .glob), ("write", .loc), ("WRITERS", .glob)]
theorem mq_write_event : Nms sq_write_event nq_write_event ["out", "event"] lq_write_event := ⟨⟨rfl, rfl, rfl, by decide +kernel, rfl, by decide +kernel, by decide +kernel⟩, by decide +kernel, by decide +kernel, by decide +kernel⟩
/-! encode_event -/
abbrev sq_encode_event : Stmt := top 16
abbrev nq_encode_event : List Str := ["event", "out"]
abbrev lq_encode_event : List (Str × KN) := [("event", .loc), ("out", .loc), ("write_event", .glob), ("tuple", .glob)]
theorem mq_encode_event : Nms sq_encode_event nq_encode_event ["event"] lq_encode_event := ⟨⟨rfl, rfl, rfl, by decide +kernel, rfl, by decide +kernel, by decide +kernel⟩, by decide +kernel, by decide +kernel, by decide +kernel⟩
/-! _law_box -/
abbrev sq_box : Stmt := top 18
abbrev nq_box : List Str := ["script", "k", "cell", "great"]
abbrev lq_box : List (Str × KN) := [("script", .loc), ("k", .loc), ("cell", .loc), ("len", .glob), ("abs", .glob), ("int", .glob), ("great", .loc)]
theorem mq_box : Nms sq_box nq_box ["script", "k"] lq_box := ⟨⟨rfl, rfl, rfl, by decide +kernel, rfl, by decide +kernel, by decide +kernel⟩, by decide +kernel, by decide +kernel, by decide +kernel⟩
/-! _law_take -/
abbrev sq_take : Stmt := top 19
abbrev nq_take : List Str := ["box", "many", "digit", "raw"]
abbrev lq_take : List (Str × KN) := [("box", .loc), ("many", .loc), ("digit", .loc), ("int", .glob), ("raw", .loc)]
theorem mq_take : Nms sq_take nq_take ["box", "many"] lq_take := ⟨⟨rfl, rfl, rfl, by decide +kernel, rfl, by decide +kernel, by decide +kernel⟩, by decide +kernel, by decide +kernel, by decide +kernel⟩
/-! _law_pick -/
abbrev sq_pick : Stmt := top 20
abbrev nq_pick : List Str := ["box", "some"]
abbrev lq_pick : List (Str × KN) := [("box", .loc), ("some", .loc), ("_law_take", .glob), ("len", .glob)]
theorem mq_pick : Nms sq_pick nq_pick ["box", "some"] lq_pick := ⟨⟨rfl, rfl, rfl, by decide +kernel, rfl, by decide +kernel, by decide +kernel⟩, by decide +kernel, by decide +kernel, by decide +kernel⟩
/-! _law_number -/
abbrev sq_number : Stmt := top 21
abbrev nq_number : List Str := ["box", "way"]
abbrev lq_number : List (Str × KN) := [("box", .loc), ("way", .loc), ("_law_take", .glob), ("_law_pick", .glob)]
theorem mq_number : Nms sq_number nq_number ["box"] lq_number := ⟨⟨rfl, rfl, rfl, by decide +kernel, rfl, by decide +kernel, by decide +kernel⟩, by decide +kernel, by decide +kernel, by decide +kernel⟩
/-! _law_part -/
abbrev sq_part : Stmt := top 22
abbrev nq_part : List Str := ["one", "two", "turn"]
abbrev lq_part : List (Str × KN) := [("one", .loc), ("two", .loc), ("abs", .glob), ("turn", .loc), ("range", .glob), ("int", .glob)]
theorem mq_part : Nms sq_part nq_part ["one", "two"] lq_part := ⟨⟨rfl, rfl, rfl, by decide +kernel, rfl, by decide +kernel, by decide +kernel⟩, by decide +kernel, by decide +kernel, by decide +kernel⟩
/-! _law_fraction -/
abbrev sq_fraction : Stmt := top 23
abbrev nq_fraction : List Str := ["box", "way", "top", "low", "turn", "part"]
abbrev lq_fraction : List (Str × KN) := [("box", .loc), ("way", .loc), ("_law_take", .glob), ("top", .loc), ("low", .loc), ("_law_pick", .glob), ("turn", .loc), ("range", .glob), ("part", .loc), ("_law_part", .glob)]
theorem mq_fraction : Nms sq_fraction nq_fraction ["box"] lq_fraction := ⟨⟨rfl, rfl, rfl, by decide +kernel, rfl, by decide +kernel, by decide +kernel⟩, by decide +kernel, by decide +kernel, by decide +kernel⟩
/-! _law_label -/
abbrev sq_label : Stmt := top 24
abbrev nq_label : List Str := ["box", "many", "some", "turn"]
abbrev lq_label : List (Str × KN) := [("box", .cell), ("many", .loc), ("_law_pick", .glob), ("some", .cell), ("range", .glob)]
theorem mq_label : Nms sq_label nq_label ["box"] lq_label := ⟨⟨rfl, rfl, rfl, by decide +kernel, rfl, by decide +kernel, by decide +kernel⟩, by decide +kernel, by decide +kernel, by decide +kernel⟩
abbrev lq_label_c0 : List (Str × KN) := [("turn", .loc), ("some", .cap), ("_law_take", .glob), ("box", .cap), ("len", .glob)]
/-! _law_name -/
abbrev sq_name : Stmt := top 25
abbrev nq_name : List Str := ["box", "most", "turn"]
abbrev lq_name : List (Str × KN) := [("box", .cell), ("most", .loc), ("tuple", .glob), ("range", .glob), ("_law_take", .glob)]
theorem mq_name : Nms sq_name nq_name ["box", "most"] lq_name := ⟨⟨rfl, rfl, rfl, by decide +kernel, rfl, by decide +kernel, by decide +kernel⟩, by decide +kernel, by decide +kernel, by decide +kernel⟩
abbrev lq_name_c0 : List (Str × KN) := [("turn", .loc), ("_law_label", .glob), ("box", .cap)]
/-! _law_id -/
abbrev sq_id : Stmt := top 26
abbrev nq_id : List Str := ["box", "node"]
abbrev lq_id : List (Str × KN) := [("box", .loc), ("node", .loc), ("_law_pick", .glob), ("_law_take", .glob), ("_law_number", .glob)]
theorem mq_id : Nms sq_id nq_id ["box"] lq_id := ⟨⟨rfl, rfl, rfl, by decide +kernel, rfl, by decide +kernel, by decide +kernel⟩, by decide +kernel, by decide +kernel, by decide +kernel⟩
/-! _law_rows -/
abbrev sq_rows : Stmt := top 27
abbrev nq_rows : List Str := ["box", "most", "labels", "last", "turn", "way", "found", "label", "one"]
abbrev lq_rows : List (Str × KN) := [("box", .loc), ("most", .loc), ("labels", .loc), ("last", .cell), ("_law_label", .glob), ("turn", .loc), ("range", .glob), ("_law_take", .glob), ("way", .loc), ("len", .glob), ("_law_pick", .glob), ("found", .loc), ("label", .loc), ("sorted", .glob), ("_law_number", .glob), ("_law_name", .glob), ("tuple", .glob)]
theorem mq_rows : Nms sq_rows nq_rows ["box", "most"] lq_rows := ⟨⟨rfl, rfl, rfl, by decide +kernel, rfl, by decide +kernel, by decide +kernel⟩, by decide +kernel, by decide +kernel, by decide +kernel⟩
abbrev lq_rows_c0 : List (Str × KN) := [("one", .loc), ("last", .cap)]
/-! _law_entry -/
abbrev sq_entry : Stmt := top 28
abbrev nq_entry : List Str := ["box", "most", "way"]
abbrev lq_entry : List (Str × KN) := [("box", .loc), ("most", .loc), ("way", .loc), ("_law_take", .glob), ("_law_pick", .glob), ("_law_number", .glob), ("_law_name", .glob), ("_law_rows", .glob)]
theorem mq_entry : Nms sq_entry nq_entry ["box", "most"] lq_entry := ⟨⟨rfl, rfl, rfl, by decide +kernel, rfl, by decide +kernel, by decide +kernel⟩, by decide +kernel, by decide +kernel, by decide +kernel⟩
/-! _law_answer -/
abbrev sq_answer : Stmt := top 29
abbrev nq_answer : List Str := ["box", "most", "what", "turn"]
abbrev lq_answer : List (Str × KN) := [("box", .cell), ("most", .loc), ("what", .loc), ("_law_pick", .glob), ("_law_number", .glob), ("_law_take", .glob), ("_law_id", .glob), ("tuple", .glob), ("range", .glob)]
theorem mq_answer : Nms sq_answer nq_answer ["box", "most"] lq_answer := ⟨⟨rfl, rfl, rfl, by decide +kernel, rfl, by decide +kernel, by decide +kernel⟩, by decide +kernel, by decide +kernel, by decide +kernel⟩
abbrev lq_answer_c0 : List (Str × KN) := [("turn", .loc), ("_law_name", .glob), ("box", .cap)]
/-! _law_words -/
abbrev sq_words : Stmt := top 30
abbrev nq_words : List Str := ["kind", "two", "words"]
abbrev lq_words : List (Str × KN) := [("kind", .loc), ("two", .loc), ("words", .loc)]
theorem mq_words : Nms sq_words nq_words ["kind"] lq_words := ⟨⟨rfl, rfl, rfl, by decide +kernel, rfl, by decide +kernel, by decide +kernel⟩, by decide +kernel, by decide +kernel, by decide +kernel⟩
/-! _law_kinds -/
abbrev sq_kinds : Stmt := top 31
abbrev nq_kinds : List Str := []
abbrev lq_kinds : List (Str × KN) := []
theorem mq_kinds : Nms sq_kinds nq_kinds [] lq_kinds := ⟨⟨rfl, rfl, rfl, by decide +kernel, rfl, by decide +kernel, by decide +kernel⟩, by decide +kernel, by decide +kernel, by decide +kernel⟩
/-! _law_piece -/
abbrev sq_piece : Stmt := top 32
abbrev nq_piece : List Str := ["box", "word", "most"]
abbrev lq_piece : List (Str × KN) := [("box", .loc), ("word", .loc), ("most", .loc), ("_law_pick", .glob), ("_law_id", .glob), ("_law_take", .glob), ("_law_label", .glob), ("_law_fraction", .glob), ("_law_name", .glob), ("_law_entry", .glob), ("_law_answer", .glob)]
theorem mq_piece : Nms sq_piece nq_piece ["box", "word", "most"] lq_piece := ⟨⟨rfl, rfl, rfl, by decide +kernel, rfl, by decide +kernel, by decide +kernel⟩, by decide +kernel, by decide +kernel, by decide +kernel⟩
/-! _law_event -/
abbrev sq_event : Stmt := top 33
abbrev nq_event : List Str := ["box", "kind", "most", "parts", "word"]
abbrev lq_event : List (Str × KN) := [("box", .cell), ("kind", .loc), ("most", .cell), ("parts", .loc), ("_law_words", .glob), ("_law_id", .glob), ("_law_fraction", .glob), ("tuple", .glob), ("_law_kinds", .glob)]
theorem mq_event : Nms sq_event nq_event ["box", "kind", "most"] lq_event := ⟨⟨rfl, rfl, rfl, by decide +kernel, rfl, by decide +kernel, by decide +kernel⟩, by decide +kernel, by decide +kernel, by decide +kernel⟩
abbrev lq_event_c0 : List (Str × KN) := [("word", .loc), ("_law_piece", .glob), ("box", .cap), ("most", .cap)]
/-! _law_groups -/
abbrev sq_groups : Stmt := top 34
abbrev nq_groups : List Str := ["worth", "found", "turn"]
abbrev lq_groups : List (Str × KN) := [("worth", .loc), ("found", .loc), ("turn", .loc), ("range", .glob), ("int", .glob)]
theorem mq_groups : Nms sq_groups nq_groups ["worth"] lq_groups := ⟨⟨rfl, rfl, rfl, by decide +kernel, rfl, by decide +kernel, by decide +kernel⟩, by decide +kernel, by decide +kernel, by decide +kernel⟩
/-! _law_form_label -/
abbrev sq_form_label : Stmt := top 35
abbrev nq_form_label : List Str := ["label", "sign"]
abbrev lq_form_label : List (Str × KN) := [("label", .loc), ("len", .glob)]
theorem mq_form_label : Nms sq_form_label nq_form_label ["label"] lq_form_label := ⟨⟨rfl, rfl, rfl, by decide +kernel, rfl, by decide +kernel, by decide +kernel⟩, by decide +kernel, by decide +kernel, by decide +kernel⟩
abbrev lq_form_label_c0 : List (Str × KN) := [("sign", .loc)]
/-! _law_form_name -/
abbrev sq_form_name : Stmt := top 36
abbrev nq_form_name : List Str := ["name", "found", "label"]
abbrev lq_form_name : List (Str × KN) := [("name", .loc), ("found", .loc), ("len", .glob), ("label", .loc), ("_law_form_label", .glob)]
theorem mq_form_name : Nms sq_form_name nq_form_name ["name"] lq_form_name := ⟨⟨rfl, rfl, rfl, by decide +kernel, rfl, by decide +kernel, by decide +kernel⟩, by decide +kernel, by decide +kernel, by decide +kernel⟩
/-! _law_form_fraction -/
abbrev sq_form_fraction : Stmt := top 37
abbrev nq_form_fraction : List Str := ["one", "top"]
abbrev lq_form_fraction : List (Str × KN) := [("one", .loc), ("top", .loc), ("_law_groups", .glob)]
theorem mq_form_fraction : Nms sq_form_fraction nq_form_fraction ["one"] lq_form_fraction := ⟨⟨rfl, rfl, rfl, by decide +kernel, rfl, by decide +kernel, by decide +kernel⟩, by decide +kernel, by decide +kernel, by decide +kernel⟩
/-! _law_form_id -/
abbrev sq_form_id : Stmt := top 38
abbrev nq_form_id : List Str := ["one", "more"]
abbrev lq_form_id : List (Str × KN) := [("one", .loc), ("more", .loc), ("_law_groups", .glob)]
theorem mq_form_id : Nms sq_form_id nq_form_id ["one", "more"] lq_form_id := ⟨⟨rfl, rfl, rfl, by decide +kernel, rfl, by decide +kernel, by decide +kernel⟩, by decide +kernel, by decide +kernel, by decide +kernel⟩
/-! _law_form_entry -/
abbrev sq_form_entry : Stmt := top 39
abbrev nq_form_entry : List Str := ["entry", "found", "label", "one"]
abbrev lq_form_entry : List (Str × KN) := [("entry", .loc), ("_law_groups", .glob), ("_law_form_name", .glob), ("found", .loc), ("label", .loc), ("one", .loc), ("_law_form_label", .glob), ("_law_form_entry", .glob)]
theorem mq_form_entry : Nms sq_form_entry nq_form_entry ["entry"] lq_form_entry := ⟨⟨rfl, rfl, rfl, by decide +kernel, rfl, by decide +kernel, by decide +kernel⟩, by decide +kernel, by decide +kernel, by decide +kernel⟩
/-! _law_form_answer -/
abbrev sq_form_answer : Stmt := top 40
abbrev nq_form_answer : List Str := ["answer", "what", "names", "found", "name"]
abbrev lq_form_answer : List (Str × KN) := [("answer", .loc), ("what", .loc), ("names", .loc), ("found", .loc), ("_law_groups", .glob), ("_law_form_id", .glob), ("len", .glob), ("name", .loc), ("_law_form_name", .glob)]
theorem mq_form_answer : Nms sq_form_answer nq_form_answer ["answer"] lq_form_answer := ⟨⟨rfl, rfl, rfl, by decide +kernel, rfl, by decide +kernel, by decide +kernel⟩, by decide +kernel, by decide +kernel, by decide +kernel⟩
/-! _law_form_part -/
abbrev sq_form_part : Stmt := top 41
abbrev nq_form_part : List Str := ["word", "part"]
abbrev lq_form_part : List (Str × KN) := [("word", .loc), ("part", .loc), ("_law_form_id", .glob), ("_law_form_label", .glob), ("_law_form_fraction", .glob), ("_law_form_name", .glob), ("_law_form_entry", .glob), ("_law_form_answer", .glob)]
theorem mq_form_part : Nms sq_form_part nq_form_part ["word", "part"] lq_form_part := ⟨⟨rfl, rfl, rfl, by decide +kernel, rfl, by decide +kernel, by decide +kernel⟩, by decide +kernel, by decide +kernel, by decide +kernel⟩
/-! _law_form -/
abbrev sq_form : Stmt := top 42
abbrev nq_form : List Str := ["event", "kind", "found", "word", "part"]
abbrev lq_form : List (Str × KN) := [("event", .loc), ("kind", .loc), ("_law_kinds", .glob), ("found", .loc), ("_law_form_id", .glob), ("_law_form_fraction", .glob), ("word", .loc), ("part", .loc), ("zip", .glob), ("_law_words", .glob), ("_law_form_part", .glob)]
theorem mq_form : Nms sq_form nq_form ["event"] lq_form := ⟨⟨rfl, rfl, rfl, by decide +kernel, rfl, by decide +kernel, by decide +kernel⟩, by decide +kernel, by decide +kernel, by decide +kernel⟩
/-! _law_same -/
abbrev sq_same : Stmt := top 43
abbrev nq_same : List Str := ["told", "due", "is_kind", "one", "other"]
abbrev lq_same : List (Str × KN) := [("told", .loc), ("due", .loc), ("isinstance", .glob), ("tuple", .glob), ("list", .glob), ("is_kind", .loc), ("len", .glob), ("one", .loc), ("other", .loc), ("zip", .glob), ("_law_same", .glob), ("bool", .glob), ("int", .glob), ("str", .glob)]
theorem mq_same : Nms sq_same nq_same ["told", "due"] lq_same := ⟨⟨rfl, rfl, rfl, by decide +kernel, rfl, by decide +kernel, by decide +kernel⟩, by decide +kernel, by decide +kernel, by decide +kernel⟩
/-! _law_edges -/
abbrev sq_edges : Stmt := top 44
abbrev nq_edges : List Str := ["found", "turn"]
abbrev lq_edges : List (Str × KN) := [("found", .loc), ("tuple", .glob), ("range", .glob)]
theorem mq_edges : Nms sq_edges nq_edges [] lq_edges := ⟨⟨rfl, rfl, rfl, by decide +kernel, rfl, by decide +kernel, by decide +kernel⟩, by decide +kernel, by decide +kernel, by decide +kernel⟩
abbrev lq_edges_c0 : List (Str × KN) := [("turn", .loc)]
abbrev lq_edges_c1 : List (Str × KN) := [("turn", .loc)]
/-! law -/
abbrev sq_law : Stmt := top 45
abbrev nq_law : List Str := ["script", "event", "k", "box", "events", "kind", "turn"]
abbrev lq_law : List (Str × KN) := [("script", .loc), ("event", .loc), ("_law_edges", .glob), ("_law_same", .glob), ("encode_event", .glob), ("tuple", .glob), ("_law_form", .glob), ("k", .loc), ("range", .glob), ("max", .glob), ("min", .glob), ("len", .glob), ("box", .cell), ("_law_box", .glob), ("events", .loc), ("kind", .loc), ("_law_event", .glob)]
theorem mq_law : Nms sq_law nq_law ["script"] lq_law := ⟨⟨rfl, rfl, rfl, by decide +kernel, rfl, by decide +kernel, by decide +kernel⟩, by decide +kernel, by decide +kernel, by decide +kernel⟩
abbrev lq_law_c0 : List (Str × KN) := [("turn", .loc), ("_law_event", .glob), ("box", .cap), ("_law_take", .glob), ("_law_pick", .glob)]
end K07
namespace K07
open PySem PySem.Spec PyProof.Rows L2 GT
local macro_rules | `(tactic| walk_at "gm") => `(tactic| with_reducible (repeat (first | exact List.mem_cons_self | apply List.mem_cons_of_mem)))
local macro_rules | `(tactic| walk_at "gs") => `(tactic| with_reducible (repeat (first | exact Slot.here | exact Put.here | apply Slot.there | apply Put.there)))
local macro_rules | `(tactic| walk_at "gCall") => `(tactic| first
  | (show RE _ (.Call (.Name "len" _) _ _ _) _ _ _; refine re_c_len (by assumption) (by walk_at "gm") (by assumption) ?_)
  | (show RE _ (.Call (.Name "isinstance" _) _ _ _) _ _ _; refine re_c_isinstance (by assumption) (by walk_at "gm") (by assumption) ?_)
  | (show RE _ (.Call (.Name "int" _) _ _ _) _ _ _; refine re_c_int (by assumption) (by walk_at "gm") (by assumption) ?_)
  | (show RE _ (.Call (.Name "abs" _) _ _ _) _ _ _; refine re_c_abs (by assumption) (by walk_at "gm") (by assumption) ?_)
  | (show RE _ (.Call (.Name "min" _) _ _ _) _ _ _; refine re_c_min (by assumption) (by walk_at "gm") (by assumption) ?_)
  | (show RE _ (.Call (.Name "max" _) _ _ _) _ _ _; refine re_c_max (by assumption) (by walk_at "gm") (by assumption) ?_)
  | (show RE _ (.Call (.Name "tuple" _) _ _ _) _ _ _; refine re_c_tuple (by assumption) (by walk_at "gm") (by assumption) ?_)
  | (show RE _ (.Call (.Name "list" _) _ _ _) _ _ _; refine re_c_list (by assumption) (by walk_at "gm") (by assumption) ?_))
local macro_rules | `(tactic| walk_at "gName") => `(tactic| first
  | refine re_name (by assumption) (by walk_at "gs") (by walk_at "gm") (by constructor) ?_
  | (show RE _ (.Name "int" _) _ _ _; refine re_ty_int (by assumption) (by walk_at "gm") (by assumption) ?_)
  | (show RE _ (.Name "bool" _) _ _ _; refine re_ty_bool (by assumption) (by walk_at "gm") (by assumption) ?_)
  | (show RE _ (.Name "str" _) _ _ _; refine re_ty_str (by assumption) (by walk_at "gm") (by assumption) ?_)
  | (show RE _ (.Name "tuple" _) _ _ _; refine re_ty_tuple (by assumption) (by walk_at "gm") (by assumption) ?_)
  | (show RE _ (.Name "list" _) _ _ _; refine re_ty_list (by assumption) (by walk_at "gm") (by assumption) ?_)
  | (show RE _ (.Name "ValueError" _) _ _ _; refine re_ty_ValueError (by assumption) (by walk_at "gm") (by assumption) ?_))
local macro_rules | `(tactic| walk_at "gRE") => `(tactic| first
  | (show RE _ (.Name _ _) _ _ _; walk_at "gName")
  | (show RE _ (.Constant _ _ _) _ _ _; first | refine re_int ?_ | refine re_str ?_ | refine re_non ?_ | refine re_bl ?_)
  | (show RE _ (.BinOp _ _ _ _) _ _ _; refine re_bin ?_)
  | (show RE _ (.Compare _ [_] [_] _) _ _ _; refine re_cmp ?_)
  | (show RE _ (.Subscript _ (.Slice _ _ _ _) _) _ _ _; refine re_slice ?_)
  | (show RE _ (.Subscript _ _ _) _ _ _; refine re_ix ?_)
  | (show RE _ (.Call (.Name _ _) _ _ _) _ _ _; walk_at "gCall")
  | (show RE _ (.Tuple _ _ _) _ _ _; refine re_tup ?_)
  | (show RE _ (.List _ _) _ _ _; refine re_lst ?_)
  | (show RE _ (.IfExp _ _ _ _) _ _ _; refine re_if ?_)
  | (show RE _ (.BoolOp _ _ _) _ _ _; first | refine re_one ?_ | refine re_and ?_ | refine re_or ?_)
  | (show RE _ (.UnaryOp _ _ _) _ _ _; first | refine re_not ?_ | refine re_neg ?_))
local macro_rules | `(tactic| walk_at "gRT") => `(tactic| first
  | (show RT _ (.Compare _ [_] [_] _) _ _ _; refine rt_cmp ?_)
  | (show RT _ (.BoolOp _ _ _) _ _ _; refine rt_bool ?_)
  | (show RT _ (.UnaryOp .Not _ _) _ _ _; refine rt_not ?_)
  | (show RT _ (.Call _ _ _ _) _ _ _; refine rt_val ?_)
  | (show RT _ (.Name _ _) _ _ _; refine rt_val ?_))
local macro_rules | `(tactic| walk_at "gRS") => `(tactic| first
  | (show RS _ (.Return (some _) _) _ _ _; refine rs_ret ?_)
  | (show RS _ (.If _ _ _ _) _ _ _; refine rs_if ?_)
  | (show RS _ (.Assign [.Subscript _ _ _] _ _) _ _ _; refine rs_sub ?_)
  | (show RS _ (.Assign [.Name _ _] (.ListComp _ _ _ _) _) _ _ _; fail)
  | (show RS _ (.Assign [.Name _ _] _ _) _ _ _; refine rs_set (by assumption) (by walk_at "gm") (by constructor) (by walk_at "gm") ?_)
  | (show RS _ (.Expr _ _) _ _ _; refine rs_expr ?_)
  | (show RS _ (.Pass _) _ _ _; refine rs_pass ?_)
  | (show RS _ (.Break _) _ _ _; refine rs_break ?_)
  | (show RS _ (.Continue _) _ _ _; refine rs_continue ?_))
local macro_rules | `(tactic| walk_at "gV") => `(tactic| first
  | (show OpV _ _ _ _ _ _; first | refine ov_add ?_ | refine ov_sub ?_ | refine ov_mulR (by decide) ?_ | refine ov_mulL (by decide) ?_ | refine ov_mod (by first | decide | assumption) ?_)
  | (show CpV _ _ _ _ _ _; first | refine cv_lt ?_ | refine cv_le ?_ | refine cv_gt ?_ | refine cv_ge ?_ | refine cv_eqI ?_ | refine cv_neI ?_ | refine cv_eqS ?_ | refine cv_neS ?_ | refine cv_isN_n ?_ | refine cv_isN_s ?_ | refine cv_isN_i ?_ | refine cv_isN_b ?_ | refine cv_isN_r ?_ | refine cv_notN_n ?_ | refine cv_notN_s ?_ | refine cv_notN_i ?_ | refine cv_notN_b ?_ | refine cv_notN_r ?_ | refine cv_ltS ?_ | refine cv_gtS ?_ | refine cv_isB_b ?_ | refine cv_isB_i ?_ | refine cv_isB_s ?_ | refine cv_isB_n ?_)
  | (show IxV _ _ _ _ _; first | refine iv_list (by assumption) (by with_unfolding_all exact rfl) ?_ | refine iv_list (SqL.of (by assumption)) (by with_unfolding_all exact rfl) ?_ | refine iv_tup (SqT.of (by assumption)) (by with_unfolding_all exact rfl) ?_)
  | (show ClV _ _ _ _ _; first | refine lv_isT_n (b := false) (by decide +kernel) ?_ | refine lv_isT_n (b := true) (by decide +kernel) ?_ | refine lv_isT_b (b := false) (by decide +kernel) ?_ | refine lv_isT_b (b := true) (by decide +kernel) ?_ | refine lv_isT_i (b := false) (by decide +kernel) ?_ | refine lv_isT_i (b := true) (by decide +kernel) ?_ | refine lv_isT_s (b := false) (by decide +kernel) ?_ | refine lv_isT_s (b := true) (by decide +kernel) ?_ | refine lv_isT_l (b := false) (by assumption) (by decide +kernel) ?_ | refine lv_isT_l (b := true) (by assumption) (by decide +kernel) ?_ | refine lv_isT_t (b := false) (by assumption) (by decide +kernel) ?_ | refine lv_isT_t (b := true) (by assumption) (by decide +kernel) ?_ | refine lv_int ?_ | refine lv_abs ?_ | refine lv_max (Ctx.calm (by assumption)) ?_ | refine lv_min (Ctx.calm (by assumption)) ?_))
local macro_rules | `(tactic| walk_at "e1") => `(tactic| with_reducible first
  | (show RE _ _ _ _ _; walk_at "gRE")
  | (show RA _ _ _ _ _; first | refine ra_cons ?_ | refine ra_nil ?_)
  | (show RT _ _ _ _ _; walk_at "gRT")
  | (show RW _ _ _ _ _; first | refine rw_and1 ?_ | refine rw_or1 ?_ | refine rw_and ?_ | refine rw_or ?_)
  | (show RS _ _ _ _ _; walk_at "gRS")
  | refine rb_nil ?_
  | (show RO _ _ _ _ _; first | refine ro_none ?_ | refine ro_some ?_)
  | (show if true = true then _ else _; refine iteT ?_)
  | (show if false = true then _ else _; refine iteF ?_)
  | (show if (!true) = true then _ else _; refine iteNT ?_)
  | (show if (!false) = true then _ else _; refine iteNF ?_)
  | walk_at "gV"
  | refine ⟨_, rfl, ?_⟩
  | refine ⟨_, by walk_at "gs", ?_⟩)
local macro_rules | `(tactic| walk_at "e") => `(tactic| repeat walk_at "e1")
local macro_rules | `(tactic| walk_at "g1") => `(tactic| first | walk_at "e1" | with_reducible refine rb_cons ?_)
local macro_rules | `(tactic| walk_at "g") => `(tactic| repeat walk_at "g1")
local macro_rules | `(tactic| walk_at "g0") => `(tactic| (refine rb_cons ?_; walk_at "g"))
local macro_rules | `(tactic| walk_at "e0") => `(tactic| (refine rb_cons ?_; walk_at "e"))
local macro_rules | `(tactic| walk_at "de") => `(tactic| repeat (first | exact DEs.nil | apply DEs.cons | exact DE.non | exact DE.bl | exact DE.int | exact DE.str | exact DE.neg | apply DE.tupS | apply DE.lstS | apply DE.sub | apply DE.add | apply DE.mul | apply DE.pow | exact ⟨by decide, by decide, by decide⟩ | (show List.length _ ≤ 1000; decide) | decide))
/-- a draw: below many -/
def spTake : Sp := fun vs H Q _ => ∃ (b : Addr) (n : Int), vs = [.ref b, .int n] ∧ BoxAt H b ∧ 0 < n ∧ n < 2 ^ 31 ∧
  ∀ (d : Int) (H' : Hp), 0 ≤ d → d < n → Fr (· = b) H H' → BoxAt H' b → Q (.int d) H'
theorem fr_box {H : Hp} {b : Addr} {o : HO} : Fr (· = b) H (upd H b o) := fun a u n e => by
  rw [upd_ne n]
  exact e
theorem body_take {X : Cx} (c : Ctx X nq_take lq_take 0) (zi : X.mg "int" = none) {vs : List V} {H : Hp} {Q : VK} {E : XK} (h : spTake vs H Q E) : RB X (defBody sq_take) { nx := fun _ H' => Q .non H', rt := Q } (start nq_take vs) H := by
  obtain ⟨b, n, rfl, hB, h0, h1, q⟩ := h
  obtain ⟨g, r, hb, g0, r0, r1⟩ := id hB
  show RB X (defBody sq_take) _ [some (.ref b), some (.int n), none, none] H
  walk_at "g0"
  refine ite2 (fun e => ?_) (fun e => ?_)
  · walk_at "g"
    refine ov_fdiv (wide_div (b := 32) h0 (by omega) (by decide) (by decide)) ?_
    walk_at "g"
    refine ⟨b, [.int g, .int r], 0, 0, rfl, rfl, hb, rfl, ?_⟩
    walk_at "g"
    exact q _ _ (Int.emod_nonneg _ (by omega)) (Int.emod_lt_of_pos _ h0) fr_box ⟨g / n, r, upd_same, Int.ediv_nonneg g0 (by omega), r0, r1⟩
  · walk_at "g"
    refine ⟨b, [.int g, .int r], 1, 1, rfl, rfl, hb, rfl, ?_⟩
    walk_at "g"
    refine iv_list (SqL.of upd_same) (by exact rfl) ?_
    walk_at "g"
    refine ov_fdiv (wide_div (b := 32) (by decide) (by decide) (by decide) (by decide)) ?_
    walk_at "g"
    have m1 : ∀ z : Int, 0 ≤ z % 2147483563 + 1 ∧ z % 2147483563 + 1 < 2 ^ 32 := fun z => by omega
    exact q _ _ (Int.emod_nonneg _ (by omega)) (Int.emod_lt_of_pos _ h0) fr_box ⟨g, _, upd_same, g0, (m1 _).1, (m1 _).2⟩
/-- an item of a list, or a sign of a text, by a draw -/
def spPick (K : PySem.W.Frag) : Sp := fun vs H Q _ => ∃ (b : Addr), BoxAt H b ∧
  ((∃ p xs, vs = [.ref b, .ref p] ∧ H p = some (.lst xs) ∧ p ≠ b ∧ 0 < xs.length ∧ xs.length < 2 ^ 31 ∧ ∀ v H', v ∈ xs → Fr (· = b) H H' → BoxAt H' b → Q v H'))
theorem mem_at {α : Type} {xs : List α} {d : Int} (h0 : 0 ≤ d) (h1 : d < (xs.length : Int)) : ∃ v, atI xs d = some v ∧ v ∈ xs := by
  have h2 : d.toNat < xs.length := by omega
  refine ⟨xs[d.toNat], ?_, List.getElem_mem h2⟩
  unfold atI ixN
  rw [if_pos h0, if_pos h1]
  show xs[d.toNat]? = _
  rw [List.getElem?_eq_getElem h2]
theorem body_pick {X : Cx} (c : Ctx X nq_pick lq_pick 1) (zl : X.mg "len" = none) (dT : DefP X.prog X.w X.K X.mg X.base CX0 "_law_take" ["box", "many"] 1 spTake) {vs : List V} {H : Hp} {Q : VK} {E : XK} (h : spPick X.K vs H Q E) :
    RB X (defBody sq_pick) { nx := fun _ H' => Q .non H', rt := Q } (start nq_pick vs) H := by
  obtain ⟨b, hB, p, xs, rfl, hp, hpb, h0, h1, q⟩ := h
  show RB X (defBody sq_pick) _ [some (.ref b), some (.ref p)] H
  walk_at "g0"
  refine re_call c dT (by decide) (by walk_at "gm") ?_
  walk_at "g"
  refine lv_lenL (SqL.of hp) ?_
  walk_at "g"
  refine ⟨b, _, rfl, hB, by omega, by omega, fun d H' d0 d1 f hB' => ?_⟩
  obtain ⟨v, hv, hm⟩ := mem_at (xs := xs) d0 d1
  exact iv_list (SqL.of (f _ _ hpb hp)) hv (q v H' hm f hB')
/-- the box of a draw -/
def spBox (K : PySem.W.Frag) : Sp := fun vs H Q _ => ∃ (a : Addr) (ns : List Int) (k : Int), vs = [.ref a, .int k] ∧ SqL K H a (ns.map V.int) ∧ ns.length ≤ 63 ∧ 0 ≤ k ∧ k < 1000 ∧
  ∀ p H', H p = none → Fr NoB H H' → BoxAt H' p → Q (.ref p) H'
theorem body_box {X : Cx} (c : Ctx X nq_box lq_box 0) (zl : X.mg "len" = none) (zi : X.mg "int" = none) (za : X.mg "abs" = none) {vs : List V} {H : Hp} {Q : VK} {E : XK} (h : spBox X.K vs H Q E) :
    RB X (defBody sq_box) { nx := fun _ H' => Q .non H', rt := Q } (start nq_box vs) H := by
  obtain ⟨a, ns, k, rfl, hS, h63, k0, k1, q⟩ := h
  have lm : (ns.map V.int).length = ns.length := List.length_map _
  have item : ∀ i : Int, 0 ≤ i → i < (ns.length : Int) → ∃ v, atI (ns.map V.int) i = some (.int v) := fun i h0 h1 => by
    obtain ⟨v, h2, h3⟩ := mem_at (xs := ns.map V.int) h0 (by rw [lm]; exact h1)
    obtain ⟨w, _, e⟩ := List.mem_map.mp h3
    exact ⟨w, by rw [h2, e]⟩
  have fin : ∀ g z : Int, 0 ≤ g → ∀ p, H p = none → Q (.ref p) (upd H p (.lst [.int g, .int (z % 2147483563 + 1)])) := fun g z hg p hp =>
    q p _ hp (Fr.new hp) ⟨g, _, upd_same, hg, by omega, by omega⟩
  -- behind the choice of the cell
  have rest : ∀ cell : Int, 0 ≤ cell → RB X (List.drop 2 (defBody sq_box)) { nx := fun _ H' => Q .non H', rt := Q } [some (.ref a), some (.int k), some (.int cell), none] H := fun cell hc => by
    walk_at "g0"
    refine ov_pow ⟨by decide, by decide, by decide⟩ ?_
    walk_at "g"
    refine ite2 (fun e => ?_) (fun e => ?_)
    · walk_at "g"
      exact ⟨by show 2 ≤ sizeLine; decide, fun p hp => fin _ _ hc p hp⟩
    · walk_at "g"
      exact ⟨by show 2 ≤ sizeLine; decide, fun p hp => fin _ _ (by decide) p hp⟩
  show RB X (defBody sq_box) _ [some (.ref a), some (.int k), none, none] H
  walk_at "g0"
  refine lv_lenL hS ?_
  walk_at "g"
  refine ite2 (fun e => ?_) (fun e => ?_)
  · obtain ⟨v, hv⟩ := item k k0 (by rw [lm] at e; exact of_decide_eq_true e)
    walk_at "g"
    refine iv_list hS hv ?_
    walk_at "e"
    exact rest _ (by split <;> omega)
  · walk_at "g"
    refine lv_lenL hS ?_
    walk_at "g"
    refine ite2 (fun e => ?_) (fun e => ?_)
    · rw [lm] at e
      have hn : (0 : Int) < ns.length := of_decide_eq_true e
      obtain ⟨v, hv⟩ := item (k % ns.length) (Int.emod_nonneg _ (by omega)) (Int.emod_lt_of_pos _ hn)
      walk_at "g"
      refine lv_lenL hS ?_
      rw [lm]
      walk_at "g"
      refine iv_list hS hv ?_
      walk_at "e"
      exact rest _ (by omega)
    · walk_at "e"
      exact rest _ (by omega)
def isIn (lo hi : Int) : V → Bool
  | .int i => decide (lo ≤ i) && decide (i ≤ hi)
  | _ => false
def isLow : V → Bool
  | .str s => s.cps.toList.all (fun c => decide (97 ≤ c) && decide (c ≤ 122)) && decide (0 < s.length) && decide (s.length ≤ 30)
  | _ => false
theorem isIn_of {lo hi : Int} {v : V} (h : isIn lo hi v = true) : ∃ i, v = .int i ∧ lo ≤ i ∧ i ≤ hi := by
  cases v <;> simp [isIn] at h
  exact ⟨_, rfl, h.1, h.2⟩
theorem isLow_of {v : V} (h : isLow v = true) : ∃ s, v = .str s ∧ Low s ∧ 0 < s.length ∧ s.length ≤ 30 := by
  cases v with
  | str s =>
    unfold isLow at h
    rw [Bool.and_eq_true, Bool.and_eq_true] at h
    obtain ⟨⟨h1, h2⟩, h3⟩ := h
    refine ⟨s, rfl, fun c hc => ?_, of_decide_eq_true h2, of_decide_eq_true h3⟩
    have := List.all_eq_true.mp h1 c hc
    simpa using this
  | _ => cases h
theorem sz30 {n : Nat} (h : n ≤ 100000) : n ≤ sizeLine := Nat.le_trans h (by decide)

/-! ### fractions -/
def gi (a b : Int) : Int := ((Nat.gcd a.natAbs b.natAbs : Nat) : Int)
def fc (n d : Int) : Int := if d < 0 then -(gi n d) else gi n d
def fN (n d : Int) : Int := n.fdiv (fc n d)
def fM (n d : Int) : Int := d.fdiv (fc n d)
def isI : D → Bool
  | .int _ => true
  | _ => false
def fp (n m : Int) : Option Int := if m < 1 then some 1 else if gi n m = 1 then none else some 2
def fd2 : D → D → Option Int
  | .int n, .int m => fp n m
  | .int _, _ => some 1
  | _, _ => some 0
def fdl : List D → Option Int
  | [a, b] => fd2 a b
  | _ => some (-1)
def fd : D → Option Int
  | .tup ds => fdl ds
  | _ => some (-1)
def W3 (n : Int) : Prop := n.natAbs < 2 ^ 300
theorem gi_pos {n d : Int} (h : d ≠ 0) : 0 < gi n d := by
  unfold gi
  have := Nat.gcd_pos_of_pos_right n.natAbs (Int.natAbs_pos.mpr h)
  omega
theorem gi_w {n d : Int} (h : d ≠ 0) (w : W3 d) : (gi n d).natAbs < 2 ^ 300 := by
  unfold gi
  have h1 : Nat.gcd n.natAbs d.natAbs ≤ d.natAbs := Nat.gcd_le_right _ (Int.natAbs_pos.mpr h)
  rw [Int.natAbs_natCast]
  exact Nat.lt_of_le_of_lt h1 w
theorem two_of {α : Type} {l : List α} (h : l.length = 2) : ∃ a b, l = [a, b] := by
  match l, h with
  | [a, b], _ => exact ⟨a, b, rfl⟩
theorem dt_int {K : PySem.W.Frag} {B : Addr → Prop} {H : Hp} {v : V} {d : D} (h : Dt K B H v d) (e : isI d = true) : ∃ n, d = .int n ∧ v = .int n := by
  cases h <;> first | exact ⟨_, rfl, rfl⟩ | cases e
def eB (i a b : Nat) : Prop := (i % 2 = 0 ∧ b < 2 ^ (1000 - i / 2)) ∨ (i % 2 = 1 ∧ a < 2 ^ (1000 - i / 2) ∧ b < a)
theorem eB_step {i a b : Nat} (hi : i < 2000) (h : eB i a b) (hb : 0 < b) : eB (i + 1) b (a % b) := by
  have h1 := Nat.mod_lt a hb
  rcases h with ⟨p, h⟩ | ⟨p, h, hba⟩
  · refine .inr ⟨by omega, ?_, h1⟩
    have e : (i + 1) / 2 = i / 2 := by omega
    rw [e]
    exact h
  · refine .inl ⟨by omega, ?_⟩
    have e : (i + 1) / 2 = i / 2 + 1 := by omega
    rw [e]
    obtain ⟨k, hk⟩ : ∃ k, 1000 - i / 2 = k + 1 := ⟨999 - i / 2, by omega⟩
    have e2 : 1000 - (i / 2 + 1) = k := by omega
    rw [hk] at h
    rw [e2]
    rw [Nat.pow_succ] at h
    have h2 : a % b + b ≤ a := by
      have h3 := Nat.div_add_mod a b
      have h4 : 1 ≤ a / b := (Nat.one_le_div_iff hb).mpr (by omega)
      have h5 : b * 1 ≤ b * (a / b) := Nat.mul_le_mul_left b h4
      omega
    omega
def spPart : Sp := fun vs H Q _ => ∃ a b : Int, vs = [.int a, .int b] ∧ W3 a ∧ W3 b ∧ Q (.int (gi a b)) H
theorem abs_nat (a : Int) : (if a < 0 then -a else a) = ((a.natAbs : Nat) : Int) := by split <;> omega
theorem body_part {X : Cx} (c : Ctx X nq_part lq_part 0) (za : X.mg "abs" = none) (zr : X.mg "range" = none) (zi : X.mg "int" = none) {vs : List V} {H : Hp} {Q : VK} {E : XK} (h : spPart vs H Q E) :
    RB X (defBody sq_part) { nx := fun _ H' => Q .non H', rt := Q } (start nq_part vs) H := by
  obtain ⟨a, b, rfl, wa, wb, q⟩ := h
  show RB X (defBody sq_part) _ [some (.int a), some (.int b), none] H
  refine rb_cons ?_
  refine rs_par2 c (by walk_at "gm") (by walk_at "gm") (by walk_at "gm") (by walk_at "gm") (by decide) ?_
  walk_at "e"
  rw [abs_nat, abs_nat]
  refine ⟨.int ((a.natAbs : Nat) : Int), .int ((b.natAbs : Nat) : Int), _, _, rfl, by walk_at "gs", by walk_at "gs", ?_⟩
  have q1 : Q (.int ((Nat.gcd a.natAbs b.natAbs : Nat) : Int)) H := q
  generalize a.natAbs = m at *
  have wb' : b.natAbs < 2 ^ 300 := wb
  generalize b.natAbs = n at *
  have done : ∀ (x : Nat) (s y : Option V), x = Nat.gcd m n → RB X (List.drop 2 (defBody sq_part)) { nx := fun _ H' => Q .non H', rt := Q } [some (.int (x : Int)), y, s] H := by
    rintro x s y rfl
    walk_at "g0"
    exact q1
  refine rb_cons ?_
  refine rs_for_range c (by walk_at "gm") .loc (by walk_at "gm") (by walk_at "gm") zr ?_
  walk_at "e"
  refine ⟨by decide, by decide, ?_⟩
  refine ⟨fun i σ H' => H' = H ∧ ∃ (x y : Nat) (s : Option V), Nat.gcd x y = Nat.gcd m n ∧ eB i x y ∧ σ = [some (.int (x : Int)), some (.int (y : Int)), s], ⟨rfl, m, n, none, rfl, .inl ⟨rfl, Nat.lt_trans wb' (by decide +kernel)⟩, rfl⟩, fun _ _ _ _ _ => trivial, ?_, ?_⟩
  · rintro i u σ H' hi rfl ⟨rfl, x, y, s, hg, hb, rfl⟩
    have hi : i < 2000 := hi
    refine ⟨_, by walk_at "gs", ?_⟩
    walk_at "e0"
    refine ite2 (fun e => ?_) (fun e => ?_)
    · have y0 : y = 0 := by have := of_decide_eq_true e; omega
      subst y0
      walk_at "e0"
      exact done x _ _ (by rw [← hg, Nat.gcd_zero_right])
    · walk_at "e"
      have y0 : 0 < y := by
        rcases Nat.eq_zero_or_pos y with z | z
        · exact absurd (decide_eq_true (by omega)) e
        · exact z
      refine rb_cons ?_
      refine rs_par2 c (by walk_at "gm") (by walk_at "gm") (by walk_at "gm") (by walk_at "gm") (by decide) ?_
      walk_at "e"
      refine ov_mod (by omega) ?_
      walk_at "e"
      refine ⟨_, _, _, _, rfl, by walk_at "gs", by walk_at "gs", ?_⟩
      walk_at "g"
      rw [← Int.natCast_emod]
      exact ⟨rfl, y, x % y, _, by rw [← hg, Nat.gcd_comm y (x % y), ← Nat.gcd_rec, Nat.gcd_comm], eB_step hi hb y0, rfl⟩
  · rintro σ H' ⟨rfl, x, y, s, hg, hb, rfl⟩
    have y0 : y = 0 := by
      rcases hb with ⟨_, h⟩ | ⟨h, _⟩
      · have h2 : y < 2 ^ 0 := h
        omega
      · exact absurd (show (2000 : Nat) % 2 = 1 from h) (by decide)
    subst y0
    exact done x _ _ (by rw [← hg, Nat.gcd_zero_right])
theorem w3_small {n : Int} (h : -(2 ^ 64) < n ∧ n < 2 ^ 64) : W3 n := by
  unfold W3
  have h1 : n.natAbs < 2 ^ 64 := by omega
  exact Nat.lt_trans h1 (by decide +kernel)
theorem fc_dvd_left {n d : Int} : fc n d ∣ n := by
  have h : gi n d ∣ n := Int.natAbs_dvd_natAbs.mp (by unfold gi; rw [Int.natAbs_natCast]; exact Nat.gcd_dvd_left _ _)
  unfold fc
  split
  · exact (Int.neg_dvd).mpr h
  · exact h
theorem fc_dvd_right {n d : Int} : fc n d ∣ d := by
  have h : gi n d ∣ d := Int.natAbs_dvd_natAbs.mp (by unfold gi; rw [Int.natAbs_natCast]; exact Nat.gcd_dvd_right _ _)
  unfold fc
  split
  · exact (Int.neg_dvd).mpr h
  · exact h
theorem fc_abs {n d : Int} : (fc n d).natAbs = Nat.gcd n.natAbs d.natAbs := by
  unfold fc gi
  split
  · rw [Int.natAbs_neg, Int.natAbs_natCast]
  · rw [Int.natAbs_natCast]
theorem frac_ok {n d : Int} (d0 : d ≠ 0) : fd (.tup [.int (fN n d), .int (fM n d)]) = none ∧ (fN n d).natAbs ≤ n.natAbs ∧ (fM n d).natAbs ≤ d.natAbs := by
  have c0 : fc n d ≠ 0 := by
    have := gi_pos (n := n) d0
    unfold fc
    split <;> omega
  obtain ⟨a, ha⟩ := fc_dvd_left (n := n) (d := d)
  obtain ⟨e, he⟩ := fc_dvd_right (n := n) (d := d)
  have hN : fN n d = a := by
    unfold fN
    have := Int.mul_fdiv_cancel_left a c0
    rwa [← ha] at this
  have hM : fM n d = e := by
    unfold fM
    have := Int.mul_fdiv_cancel_left e c0
    rwa [← he] at this
  have na : n.natAbs = (fc n d).natAbs * a.natAbs := by rw [← Int.natAbs_mul, ← ha]
  have de : d.natAbs = (fc n d).natAbs * e.natAbs := by rw [← Int.natAbs_mul, ← he]
  have cp : 0 < (fc n d).natAbs := Int.natAbs_pos.mpr c0
  have g1 : Nat.gcd a.natAbs e.natAbs = 1 := by
    have h1 : (fc n d).natAbs = (fc n d).natAbs * Nat.gcd a.natAbs e.natAbs := by
      have h2 := Nat.gcd_mul_left (fc n d).natAbs a.natAbs e.natAbs
      rw [← na, ← de, ← fc_abs] at h2
      exact h2
    have h3 : (fc n d).natAbs * Nat.gcd a.natAbs e.natAbs = (fc n d).natAbs * 1 := by rw [Nat.mul_one]; exact h1.symm
    exact Nat.eq_of_mul_eq_mul_left cp h3
  have ep : ¬ e < 1 := by
    intro z
    have z2 : e ≤ 0 := by omega
    have c1 : (d < 0 → fc n d < 0) ∧ (0 < d → 0 < fc n d) := by
      have := gi_pos (n := n) d0
      unfold fc
      constructor
      · intro h
        rw [if_pos h]
        omega
      · intro h
        rw [if_neg (by omega)]
        omega
    rcases Int.lt_or_gt_of_ne d0 with h | h
    · have h1 := Int.mul_nonneg_of_nonpos_of_nonpos (Int.le_of_lt (c1.1 h)) z2
      rw [← he] at h1
      omega
    · have h1 := Int.mul_nonpos_of_nonneg_of_nonpos (Int.le_of_lt (c1.2 h)) z2
      rw [← he] at h1
      omega
  rw [hN, hM]
  refine ⟨?_, ?_, ?_⟩
  · show fp a e = none
    unfold fp gi
    rw [if_neg ep, g1]
    rfl
  · rw [na]
    exact Nat.le_mul_of_pos_left _ cp
  · rw [de]
    exact Nat.le_mul_of_pos_left _ cp
def Nt (H0 : Hp) (b : Addr) : Prop := ∀ o, (∀ ps, o ≠ .tbl ps) → H0 b ≠ some o
theorem Fx.nt {H0 H : Hp} {b : Addr} (f : Fx NoB H0 H) (h : H b = none) : Nt H0 b := fun o t e => by
  have := f b o (fun z => z) t e
  rw [h] at this
  cases this
theorem fx_boxX {H0 H H' : Hp} {b : Addr} (f : Fx NoB H0 H) (hb : Nt H0 b) (g : Fx (· = b) H H') : Fx NoB H0 H' := fun a o n t e => g a o (fun q => hb o t (by rw [← q]; exact e)) t (f a o n t e)
/-- the same data, of so many levels -/
def spSame (K : PySem.W.Frag) (n : Nat) : Sp := fun vs H Q _ => ∃ (d : D) (u v : V) (B B' : Addr → Prop), vs = [u, v] ∧ Dt K B H u d ∧ Dt K B' H v d ∧ Dep n d ∧ ∀ H', Fr NoB H H' → Q (.bl true) H'
theorem body_same {X : Cx} {n : Nat} (c : Ctx X nq_same lq_same n) (zl : X.mg "len" = none) (zi : X.mg "isinstance" = none) (zt : X.mg "tuple" = none) (zL : X.mg "list" = none) (zz : X.mg "zip" = none) (zb : X.mg "bool" = none) (zI : X.mg "int" = none) (zs : X.mg "str" = none)
    (rec : ∀ m, n = m + 1 → DefP X.prog X.w X.K X.mg X.base CX0 "_law_same" ["told", "due"] (m + 1) (spSame X.K m)) {vs : List V} {H : Hp} {Q : VK} {E : XK} (h : spSame X.K n vs H Q E) :
    RB X (defBody sq_same) { nx := fun _ H' => Q .non H', rt := Q } (start nq_same vs) H := by
  obtain ⟨d, u, v, B, B', rfl, hu, hv, hd, q⟩ := h
  have q0 := q H Fr.refl
  -- behind the kinds: row by row
  have rest : ∀ (a b : Addr) (xs ys : List V) (ds : List D) (m : Nat), n = m + 1 → (∃ Sq : Hp → Addr → List V → Prop, (Sq = (fun H => SqL X.K H) ∨ Sq = fun H => SqT X.K H) ∧ ∀ H', Fr NoB H H' → Sq H' a xs ∧ Sq H' b ys) → Dts X.K B H xs ds → Dts X.K B' H ys ds → (∀ d ∈ ds, Dep m d) →
      ∀ (nx : L2.St → Hp → Prop) (tl : List Stmt), tl = List.drop 1 ((fun s => match s with | Stmt.If _ x _ _ => x | _ => []) ((defBody sq_same).headD (.Pass ⟨0, 0, 0, 0⟩))) →
      RB X tl { nx := nx, rt := Q } [some (.ref a), some (.ref b), some (.bl true), none, none] H := by
    rintro a b xs ys ds m hm ⟨Sq, hSq, sq⟩ hx hy hds nx tl rfl
    have lenQ : ∀ (a : Addr) (xs : List V) (H' : Hp) (Q' : VK), Sq H' a xs → Q' (.int xs.length) H' → ClV X (.builtin "len") [.ref a] H' Q' := fun a xs H' Q' hs hq => by
      rcases hSq with rfl | rfl
      · exact lv_lenL hs hq
      · exact lv_lenT hs hq
    have el : xs.length = ys.length := hx.1.trans hy.1.symm
    walk_at "e0"
    refine lenQ _ _ _ _ (sq H Fr.refl).1 ?_
    walk_at "e"
    refine lenQ _ _ _ _ (sq H Fr.refl).2 ?_
    walk_at "e"
    rw [el]
    simp only [decide_true]
    walk_at "e"
    refine rb_cons ?_
    refine rs_for_zip c (by walk_at "gm") .loc (by walk_at "gm") (by walk_at "gm") .loc (by walk_at "gm") (by walk_at "gm") zz ?_
    walk_at "e"
    refine ⟨a, b, xs, ys, rfl, el, Sq, hSq, (sq H Fr.refl).1, (sq H Fr.refl).2, fun i σ H' => Fr NoB H H' ∧ ∃ s1 s2 : Option V, σ = [some (.ref a), some (.ref b), some (.bl true), s1, s2], ⟨Fr.refl, none, none, rfl⟩, fun i σ H' h => sq H' h.1, ?_, ?_⟩
    · rintro i u v σ H' T hu hv ⟨f, s1, s2, rfl⟩ hT
      refine ⟨_, _, by walk_at "gs", by walk_at "gs", ?_⟩
      walk_at "e0"
      refine re_call c (rec m hm) (by omega) (by walk_at "gm") ?_
      walk_at "e"
      have hi : i < ds.length := by
        rw [← hx.1]
        rcases Nat.lt_or_ge i xs.length with z | z
        · exact z
        · rw [List.getElem?_eq_none z] at hu; cases hu
      have hdi : ds[i]? = some ds[i] := List.getElem?_eq_getElem hi
      have f2 := f.trans (Fr.new (o := .tup [u, v]) hT)
      refine ⟨ds[i], u, v, B, B', rfl, (hx.2 i u _ hu hdi).fr f2.any, (hy.2 i v _ hv hdi).fr f2.any, hds _ (List.getElem_mem hi), fun H'' f3 => ?_⟩
      walk_at "e"
      exact ⟨f2.trans f3, _, _, rfl⟩
    · rintro σ H' ⟨f, s1, s2, rfl⟩
      walk_at "g"
      exact q H' f
  cases hu with
  | non =>
    cases hv
    show RB X (defBody sq_same) _ [some .non, some .non, none, none, none] H
    walk_at "g0"
    exact q0
  | bl =>
    cases hv
    rename_i bb
    show RB X (defBody sq_same) _ [some (.bl bb), some (.bl bb), none, none, none] H
    cases bb
    · walk_at "g0"
      refine iteDN (by decide) ?_
      walk_at "g"
      refine iteD rfl ?_
      walk_at "g"
      refine cv_eq (by rfl) ?_
      rw [decide_eq_true rfl]
      exact q0
    · walk_at "g0"
      refine iteD rfl ?_
      walk_at "g"
      refine cv_eq (by rfl) ?_
      rw [decide_eq_true rfl]
      exact q0
  | int =>
    cases hv
    rename_i ii
    show RB X (defBody sq_same) _ [some (.int ii), some (.int ii), none, none, none] H
    walk_at "g0"
    rw [decide_eq_true rfl]
    exact q0
  | str =>
    cases hv
    rename_i ss
    show RB X (defBody sq_same) _ [some (.str ss), some (.str ss), none, none, none] H
    walk_at "g0"
    rw [decide_eq_true rfl]
    exact q0
  | @lst a xs ds nb ta la ha =>
    cases hv with
    | @lst b ys _ nb' tb lb hb =>
      cases hd with
      | @lst m _ hds =>
        show RB X (defBody sq_same) _ [some (.ref a), some (.ref b), none, none, none] H
        walk_at "e0"
        walk_at "e0"
        refine rest a b xs ys ds m rfl ⟨fun H => SqL X.K H, .inl rfl, fun H' f => ⟨SqL.of (f _ _ (fun z => z) ta), SqL.of (f _ _ (fun z => z) tb)⟩⟩ ⟨la, ha⟩ ⟨lb, hb⟩ hds _ _ rfl
  | @tup a xs ds nb ta la ha =>
    cases hv with
    | @tup b ys _ nb' tb lb hb =>
      cases hd with
      | @tup m _ hds =>
        show RB X (defBody sq_same) _ [some (.ref a), some (.ref b), none, none, none] H
        walk_at "e0"
        walk_at "e0"
        refine rest a b xs ys ds m rfl ⟨fun H => SqT X.K H, .inr rfl, fun H' f => ⟨SqT.of (f _ _ (fun z => z) ta), SqT.of (f _ _ (fun z => z) tb)⟩⟩ ⟨la, ha⟩ ⟨lb, hb⟩ hds _ _ rfl
/-! ### a draw from a display -/
/-- what stands for e draws at the box alone and gives data for which P holds -/
def It (X : Cx) (b : Addr) (σ : L2.St) (H0 : Hp) (P : D → Prop) (e : Expr) : Prop :=
  ∀ (H1 : Hp) (Q : VK), Fr (· = b) H0 H1 → BoxAt H1 b → (∀ v d H2, P d → Fr (· = b) H1 H2 → BoxAt H2 b → Dt X.K (· = b) H2 v d → Q v H2) → RE X e σ H1 Q
def NoStar (e : Expr) : Prop := ∀ es env, starEach (e :: es) env = (false, eval e env) :: starEach es env
inductive ItL (X : Cx) (b : Addr) (σ : L2.St) (H0 : Hp) (P : D → Prop) : List Expr → Prop
  | nil : ItL X b σ H0 P []
  | cons {e : Expr} {es : List Expr} (s : NoStar e) (h : It X b σ H0 P e) (t : ItL X b σ H0 P es) : ItL X b σ H0 P (e :: es)
section
variable {X : Cx} {b : Addr} {σ : L2.St} {H0 : Hp} {P : D → Prop}
theorem it_de {e : Expr} {d : D} (h : DE e d) (hp : P d) : It X b σ H0 P e := fun H1 Q _ hB k => re_de h σ H1 Q fun v H2 f hd => k v d H2 hp f.any (hB.fr f) (hd.mono fun a e => by subst e; exact old_box hB)
theorem ra_its {es : List Expr} (h : ItL X b σ H0 P es) : ∀ (H1 : Hp) (Q : List V → Hp → Prop), Fr (· = b) H0 H1 → BoxAt H1 b →
    (∀ vs H2, vs.length = es.length → (∀ v ∈ vs, ∃ d, P d ∧ Dt X.K (· = b) H2 v d) → Fr (· = b) H1 H2 → BoxAt H2 b → Q vs H2) → RA X es σ H1 Q := by
  induction h with
  | nil => exact fun H1 Q f hB q => ra_nil (q [] H1 rfl (fun v hv => by cases hv) Fr.refl hB)
  | cons s h t ih =>
    intro H1 Q f hB q
    refine ra_cons (h H1 _ f hB fun v d H2 hp f2 hB2 hd => ih H2 _ (f.trans f2) hB2 fun vs H3 hl hv f3 hB3 => ?_) (s _ _)
    refine q _ H3 (by rw [List.length_cons, List.length_cons, hl]) (fun u hu => ?_) (f2.trans f3) hB3
    rcases List.mem_cons.mp hu with rfl | hu
    · exact ⟨d, hp, hd.fr f3⟩
    · exact hv u hu
theorem re_pickI {N : List Str} {L : List (Str × KN)} {k : Nat} (c : Ctx X N L k) (hk : 2 ≤ k) (dP : DefP X.prog X.w X.K X.mg X.base CX0 "_law_pick" ["box", "some"] 2 (spPick X.K)) {es : List Expr} {p0 p1 p2 p3 : Pos} {j : KN} (hg : (("_law_pick" : Str), KN.glob) ∈ L) (hb : (("box" : Str), j) ∈ L) (mb : Mine j) (sb : Slot N σ "box" (.ref b))
    (hB : BoxAt H0 b) (h : ItL X b σ H0 P es) (h0 : 0 < es.length) (h1 : es.length ≤ 1000) {Q : VK} (q : ∀ v d H2, P d → Dt X.K (· = b) H2 v d → Fr (· = b) H0 H2 → BoxAt H2 b → Q v H2) :
    RE X (.Call (.Name "_law_pick" p0) [.Name "box" p1, .List es p2] [] p3) σ H0 Q := by
  refine re_call c dP hk hg (ra_cons (re_name c sb hb mb ?_))
  refine ra_cons (re_lst (ra_its h H0 _ Fr.refl hB fun vs H1 hl hv f1 hB1 => ⟨by rw [hl]; exact Nat.le_trans h1 (by decide), fun a ha => ?_⟩))
  have g : Fr NoB H1 (upd H1 a (.lst vs)) := Fr.new ha
  refine ra_nil ⟨b, hB1.fr g, a, vs, rfl, upd_same, hB1.ne ha, by omega, by omega, fun v H2 hm f2 hB2 => ?_⟩
  obtain ⟨d, hp, hd⟩ := hv v hm
  exact q v d H2 hp ((hd.fr g.any).fr f2) (f1.trans (g.any.trans f2)) hB2
end
theorem gi_eq (a b : Int) : gi a b = ((Int.gcd a b : Nat) : Int) := rfl
def Lw (n m : Int) : Prop := 0 < m ∧ gi n m = 1
theorem Lw.g {n m : Int} (h : Lw n m) : Int.gcd n m = 1 := by
  have h2 := h.2
  rw [gi_eq] at h2
  omega
theorem lw_mk {n m : Int} (h : 0 < m) (g : Int.gcd n m = 1) : Lw n m := ⟨h, by rw [gi_eq, g]; rfl⟩
theorem dep_ints {n : Nat} {l : List Int} : ∀ d ∈ l.map D.int, Dep n d := fun d hd => by
  obtain ⟨i, _, rfl⟩ := List.mem_map.mp hd
  exact .int
/-! ### pairs of whole numbers -/
theorem lw_of_fd {n m : Int} (h : fd (.tup [.int n, .int m]) = none) : Lw n m := by
  have h1 : fp n m = none := h
  unfold fp at h1
  split at h1
  · cases h1
  · split at h1
    · exact ⟨by omega, by assumption⟩
    · cases h1
theorem lw_frac {n d : Int} (d0 : d ≠ 0) : Lw (fN n d) (fM n d) := lw_of_fd (frac_ok d0).1
theorem frac_eq {n d : Int} (d0 : d ≠ 0) : fN n d * d = n * fM n d := by
  have c0 : fc n d ≠ 0 := by
    have := gi_pos (n := n) d0
    unfold fc
    split <;> omega
  obtain ⟨a, ha⟩ := fc_dvd_left (n := n) (d := d)
  obtain ⟨e, he⟩ := fc_dvd_right (n := n) (d := d)
  have hN : fN n d = a := by
    unfold fN
    have := Int.mul_fdiv_cancel_left a c0
    rwa [← ha] at this
  have hM : fM n d = e := by
    unfold fM
    have := Int.mul_fdiv_cancel_left e c0
    rwa [← he] at this
  rw [hN, hM]
  generalize fc n d = c at *
  rw [he, ha]
  simp only [Int.mul_assoc, Int.mul_comm, Int.mul_left_comm]
def dF (n m : Int) : D := .tup [.int n, .int m]
theorem dep_F {k : Nat} (n m : Int) : Dep (k + 1) (dF n m) := .tup fun d hd => dep_ints (l := [n, m]) d hd
/-- v is a pair of these whole numbers -/
def At2 (H : Hp) (v : V) (n m : Int) : Prop := ∃ a, v = .ref a ∧ H a = some (.tup [.int n, .int m])
section
variable {H H' : Hp} {v : V} {n m : Int} {b p : Addr} {K : PySem.W.Frag} {B : Addr → Prop}
theorem At2.fr (h : At2 H v n m) (f : Fr NoB H H') : At2 H' v n m := by
  obtain ⟨a, e, h⟩ := h
  exact ⟨a, e, f _ _ (fun z => z) h⟩
theorem At2.fx (h : At2 H v n m) (f : Fx NoB H H') : At2 H' v n m := by
  obtain ⟨a, e, h⟩ := h
  exact ⟨a, e, f.tup (fun z => z) h⟩
theorem At2.ne {xs : List V} (h : At2 H v n m) (hb : H b = some (.lst xs)) : ∃ a, v = .ref a ∧ ¬ a = b ∧ H a = some (.tup [.int n, .int m]) := by
  obtain ⟨a, e, h⟩ := h
  exact ⟨a, e, (fun z => by rw [z, hb] at h; cases h), h⟩
theorem At2.draw (h : At2 H v n m) (hB : BoxAt H b) (f : Fr (· = b) H H') : At2 H' v n m := by
  obtain ⟨g, r, hb, _⟩ := hB
  obtain ⟨a, e, ne, h⟩ := h.ne hb
  exact ⟨a, e, f _ _ ne h⟩
theorem At2.put {xs : List V} {o : HO} (h : At2 H v n m) (hb : H b = some (.lst xs)) : At2 (upd H b o) v n m := by
  obtain ⟨a, e, ne, h⟩ := h.ne hb
  exact ⟨a, e, by rw [upd_ne ne]; exact h⟩
theorem At2.dt (h : At2 H v n m) : Dt K NoB H v (dF n m) := by
  obtain ⟨a, rfl, h⟩ := h
  exact Dt.ofT (fun z => z) h (.cons .int (.cons .int .nil))
theorem At2.dtb (h : At2 H v n m) (hB : BoxAt H b) : Dt K (· = b) H v (dF n m) := by
  obtain ⟨g, r, hb, _⟩ := hB
  obtain ⟨a, rfl, ne, h⟩ := h.ne hb
  exact Dt.ofT ne h (.cons .int (.cons .int .nil))
theorem At2.of_dt (h : Dt K B H v (dF n m)) : At2 H v n m := by
  unfold dF at h
  cases h with
  | @tup a us _ _ ha hl hh =>
    obtain ⟨u1, u2, rfl⟩ := two_of hl
    have e1 := hh 0 u1 _ rfl rfl
    have e2 := hh 1 u2 _ rfl rfl
    cases e1
    cases e2
    exact ⟨a, rfl, ha⟩
theorem At2.new (hp : H p = none) : At2 (upd H p (.tup [.int n, .int m])) (.ref p) n m := ⟨p, rfl, upd_same⟩
end
theorem at_nat {α : Type} {xs : List α} {i : Nat} {v : α} (h : xs[i]? = some v) : atI xs (i : Int) = some v := by
  have h2 : i < xs.length := by
    rcases Nat.lt_or_ge i xs.length with z | z
    · exact z
    · rw [List.getElem?_eq_none z] at h; cases h
  unfold atI ixN
  rw [if_pos (Int.natCast_nonneg i), if_pos (by omega)]
  exact h
theorem str_len (z : Str) : z.length = z.cps.toList.length := by show z.cps.size = _; simp
theorem tl_app (a b : Str) : (a ++ b).cps.toList = a.cps.toList ++ b.cps.toList := TL.tl_append a b
theorem str_ext {a b : Str} (h : a.cps.toList = b.cps.toList) : a = b := TL.ext_tl h
theorem joined_signs (cs : List Nat) : Txt.join "" (cs.map fun c => (⟨#[c]⟩ : Str)) = ⟨cs.toArray⟩ := by
  have e := TL.tl_join "" (cs.map fun c => (⟨#[c]⟩ : Str))
  have h : ∀ l : List (List Nat), TL.joinL (TL.tl "") l = l.flatten := fun l => by
    have e0 : TL.tl ("" : Str) = [] := by decide +kernel
    rw [e0]
    induction l with
    | nil => rfl
    | cons p r ih =>
      cases r with
      | nil => simp [TL.joinL]
      | cons q r =>
        show p ++ ([] ++ TL.joinL [] (q :: r)) = _
        rw [ih, List.nil_append]
        rfl
  rw [h, List.map_map] at e
  have e2 : ∀ l : List Nat, (List.map (TL.tl ∘ fun c => (⟨#[c]⟩ : Str)) l).flatten = l := fun l => by
    have e3 : (TL.tl ∘ fun c => (⟨#[c]⟩ : Str)) = fun c => [c] := by funext c; rfl
    rw [e3]
    induction l with
    | nil => rfl
    | cons c r ih => simpa using ih
  rw [e2] at e
  refine TL.ext_tl ?_
  rw [TL.join_eq]
  exact e
theorem dts_strs_inv {K : PySem.W.Frag} {B : Addr → Prop} {H : Hp} : ∀ {ls : List Str} {vs : List V}, Dts K B H vs (ls.map D.str) → vs = ls.map V.str
  | [], vs, h => List.eq_nil_of_length_eq_zero h.1
  | s :: r, [], h => by cases h.1
  | s :: r, v :: t, h => by
    have hv : Dt K B H v (.str s) := h.2 0 v _ rfl rfl
    have ht := dts_strs_inv (ls := r) (vs := t) ⟨by have := h.1; simpa using this, fun i u y a b => h.2 (i + 1) u y a b⟩
    rw [ht]
    cases hv
    rfl
abbrev DT (X : Cx) := DefP X.prog X.w X.K X.mg X.base CX0
/-! ### octets -/
def grp (n : Nat) : List Int := if h : n < 128 then [(n : Int)] else ((128 + n % 128 : Nat) : Int) :: grp (n / 128)
termination_by n
decreasing_by omega
theorem grp_lt {n : Nat} (h : n < 128) : grp n = [(n : Int)] := by rw [grp, dif_pos h]
theorem grp_ge {n : Nat} (h : ¬ n < 128) : grp n = ((128 + n % 128 : Nat) : Int) :: grp (n / 128) := by rw [grp, dif_neg h]
theorem grp_len : ∀ (k n : Nat), n < 128 ^ k → (grp n).length ≤ k + 1
  | 0, n, h => by
    have : n = 0 := by
      have h2 : n < 1 := h
      omega
    subst this
    rw [grp_lt (by decide)]
    exact Nat.le_refl _
  | k + 1, n, h => by
    by_cases z : n < 128
    · rw [grp_lt z]
      show 1 ≤ _
      omega
    · rw [grp_ge z, List.length_cons]
      have := grp_len k (n / 128) (by rw [Nat.pow_succ] at h; omega)
      omega
def WN (n : Nat) : Prop := n < 2 ^ 140
theorem grp_21 {n : Nat} (h : WN n) : (grp n).length ≤ 21 := grp_len 20 n (Nat.lt_of_lt_of_le h (by decide +kernel))
def LowL (z : Str) : Prop := Low z ∧ z.length ≤ 30
def encL (z : Str) : List Int := (z.length : Int) :: z.cps.toList.map fun c : Nat => (c : Int) - 97
theorem encL_len {z : Str} (h : LowL z) : (encL z).length ≤ 31 := by
  unfold encL
  rw [List.length_cons, List.length_map, ← str_len]
  have := h.2
  omega
inductive EncI (more : Int) : D → List Int → Prop
  | mk (a : Int) (b c : Nat) (hb : WN b) (hc : WN c) : EncI more (.tup [.int a, .int b, .int c]) ((a + more) :: (grp b ++ grp c))
inductive EncT : D → List Int → Prop
  | non : EncT .non [0]
  | emp : EncT (.tup []) [0]
  | id {d : D} {bs : List Int} (h : EncI 1 d bs) : EncT d bs
def zig (n : Int) : Nat := (if 0 ≤ n then 2 * n else -2 * n - 1).toNat
inductive EncF : D → List Int → Prop
  | mk (n : Int) (d : Nat) (hn : n.natAbs < 2 ^ 138) (hd : WN d) : EncF (.tup [.int n, .int d]) (grp (zig n) ++ grp d)
inductive EncN : D → List Int → Prop
  | mk (zs : List Str) (h : ∀ z ∈ zs, LowL z) (l : zs.length ≤ 20) : EncN (.tup (zs.map D.str)) ((zs.length : Int) :: (zs.map encL).flatten)
inductive Ent1 : D → List Int → Prop
  | val (k : Nat) (h : WN k) : Ent1 (.tup [.str "value", .int k]) (1 :: grp k)
  | nm {d : D} {bs : List Int} (h : EncN d bs) : Ent1 (.tup [.str "name", d]) (2 :: bs)
abbrev Row := Str × D × List Int
def rowD (r : Row) : D := .tup [.str r.1, r.2.1]
def rowB (r : Row) : List Int := 1 :: (encL r.1 ++ r.2.2)
def RowOk (r : Row) : Prop := LowL r.1 ∧ Ent1 r.2.1 r.2.2
inductive EncE : D → List Int → Prop
  | non : EncE .non [0]
  | one {d : D} {bs : List Int} (h : Ent1 d bs) : EncE d bs
  | page (i : Int) (rs : List Row) (h : ∀ r ∈ rs, RowOk r) (l : rs.length ≤ 20) : EncE (.tup [.str "page", .int i, .tup (rs.map rowD)]) (3 :: i :: ((rs.map rowB).flatten ++ [0]))
inductive EncH : D → List Int → Prop
  | value (k : Nat) (h : WN k) : EncH (.tup [.str "value", .int k]) (0 :: grp k)
  | page (i : Int) {t : D} {bs : List Int} (h : EncT t bs) (n : t ≠ .non) : EncH (.tup [.str "page", .int i, t]) (1 :: i :: bs)
  | nothing : EncH (.tup [.str "nothing"]) [2]
  | long : EncH (.tup [.str "long"]) [3]
  | far : EncH (.tup [.str "far"]) [4]
inductive EncA : D → List Int → Prop
  | mk {w : D} {bs : List Int} (ns : List (D × List Int)) (h : EncH w bs) (g : ∀ n ∈ ns, EncN n.1 n.2) (l : ns.length ≤ 20) : EncA (.tup [w, .tup (ns.map (·.1))]) (bs ++ (ns.length : Int) :: (ns.map (·.2)).flatten)
/-! ### data, taken apart -/
section
variable {K : PySem.W.Frag} {B : Addr → Prop} {H H' : Hp} {v : V} {d : D} {ds : List D} {us : List V}
theorem dt_tup_inv (h : Dt K B H v (.tup ds)) : ∃ p us, v = .ref p ∧ ¬ B p ∧ H p = some (.tup us) ∧ Dts K B H us ds := by
  cases h with
  | @tup p us _ n t l hh => exact ⟨p, us, rfl, n, t, l, hh⟩
theorem dts_nil_inv (h : Dts K B H us []) : us = [] := List.eq_nil_of_length_eq_zero h.1
theorem dts_cons_inv (h : Dts K B H us (d :: ds)) : ∃ u ur, us = u :: ur ∧ Dt K B H u d ∧ Dts K B H ur ds := by
  cases us with
  | nil => cases h.1
  | cons u ur => exact ⟨u, ur, rfl, h.2 0 u d rfl rfl, by have := h.1; simpa using this, fun i x y a b => h.2 (i + 1) x y a b⟩
theorem dt_int_inv {i : Int} (h : Dt K B H v (.int i)) : v = .int i := by cases h; rfl
theorem dt_str_inv {s : Str} (h : Dt K B H v (.str s)) : v = .str s := by cases h; rfl
theorem dt_ids (h : Dt K B H v (.tup [.int i, .int j, .int k])) : ∃ p, v = .ref p ∧ ¬ B p ∧ H p = some (.tup [.int i, .int j, .int k]) := by
  obtain ⟨p, us, rfl, n, t, g⟩ := dt_tup_inv h
  obtain ⟨a, _, rfl, ha, g⟩ := dts_cons_inv g
  obtain ⟨b, _, rfl, hb, g⟩ := dts_cons_inv g
  obtain ⟨c, _, rfl, hc, g⟩ := dts_cons_inv g
  obtain rfl := dts_nil_inv g
  rw [dt_int_inv ha, dt_int_inv hb, dt_int_inv hc] at t
  exact ⟨p, rfl, n, t⟩
theorem dt_two {x y : D} (h : Dt K B H v (.tup [x, y])) : ∃ p u w, v = .ref p ∧ ¬ B p ∧ H p = some (.tup [u, w]) ∧ Dt K B H u x ∧ Dt K B H w y := by
  obtain ⟨p, us, rfl, n, t, g⟩ := dt_tup_inv h
  obtain ⟨a, _, rfl, ha, g⟩ := dts_cons_inv g
  obtain ⟨b, _, rfl, hb, g⟩ := dts_cons_inv g
  obtain rfl := dts_nil_inv g
  exact ⟨p, a, b, rfl, n, t, ha, hb⟩
theorem dt_three {x y z : D} (h : Dt K B H v (.tup [x, y, z])) : ∃ p u w r, v = .ref p ∧ ¬ B p ∧ H p = some (.tup [u, w, r]) ∧ Dt K B H u x ∧ Dt K B H w y ∧ Dt K B H r z := by
  obtain ⟨p, us, rfl, n, t, g⟩ := dt_tup_inv h
  obtain ⟨a, _, rfl, ha, g⟩ := dts_cons_inv g
  obtain ⟨b, _, rfl, hb, g⟩ := dts_cons_inv g
  obtain ⟨c, _, rfl, hc, g⟩ := dts_cons_inv g
  obtain rfl := dts_nil_inv g
  exact ⟨p, a, b, c, rfl, n, t, ha, hb, hc⟩
theorem dt_one {x : D} (h : Dt K B H v (.tup [x])) : ∃ p u, v = .ref p ∧ ¬ B p ∧ H p = some (.tup [u]) ∧ Dt K B H u x := by
  obtain ⟨p, us, rfl, n, t, g⟩ := dt_tup_inv h
  obtain ⟨a, _, rfl, ha, g⟩ := dts_cons_inv g
  obtain rfl := dts_nil_inv g
  exact ⟨p, a, rfl, n, t, ha⟩
end
theorem dt_strs {K : PySem.W.Frag} {B : Addr → Prop} {H : Hp} {v : V} {zs : List Str} (h : Dt K B H v (.tup (zs.map D.str))) : ∃ p, v = .ref p ∧ ¬ B p ∧ H p = some (.tup (zs.map V.str)) := by
  obtain ⟨p, us, rfl, n, t, g⟩ := dt_tup_inv h
  rw [dts_strs_inv g] at t
  exact ⟨p, rfl, n, t⟩
/-- == with (): of a tuple of whole numbers -/
theorem cv_eqEmp {X : Cx} {N : List Str} {L : List (Str × KN)} {k : Nat} (c : Ctx X N L k) {H : Hp} {Q : VK} {p r : Addr} {a b d : Int} (e : Bool) (h : H p = some (.tup (if e then [] else [.int a, .int b, .int d]))) (hr : H r = some (.tup [])) (q : Q (.bl e) H) : CpV X .Eq (.ref p) (.ref r) H Q := by
  have hu := c.room.units
  refine ⟨⟨_, op_eqD hu, .tuple (if e then [] else [.int a, .int b, .int d]), .tuple [], .tup (SqT.of h) ?_, .tup (SqT.of hr) .nil, ?_, rfl, ?_⟩⟩
  · cases e
    · exact .cons (.int a) (.cons (.int b) (.cons (.int d) .nil))
    · exact .nil
  · cases e <;> rfl
  · cases e <;> exact q
/-! ### the program's writers -/
def spWG : Sp := fun vs H Q _ => ∃ (o : Addr) (n : Nat) (xs : List V), vs = [.ref o, .int (n : Int)] ∧ H o = some (.lst xs) ∧ WN n ∧ xs.length ≤ 99000 ∧ ∀ H', Fr (· = o) H H' → H' o = some (.lst (xs ++ (grp n).map V.int)) → Q .non H'
def spW (R : D → List Int → Prop) (K : PySem.W.Frag) : Sp := fun vs H Q _ => ∃ (o : Addr) (v : V) (d : D) (xs : List V) (bs : List Int), vs = [.ref o, v] ∧ H o = some (.lst xs) ∧ Dt K (· = o) H v d ∧ R d bs ∧ xs.length + bs.length ≤ 90000 ∧ ∀ H', Fr (· = o) H H' → H' o = some (.lst (xs ++ bs.map V.int)) → Q .non H'
theorem big9 {n : Nat} (h : n ≤ 99900) : n < sizeLine := Nat.lt_of_le_of_lt h (by decide)
def EncO (d : D) (bs : List Int) : Prop := ∃ i, d = .int i ∧ bs = [i]
def EncB (d : D) (bs : List Int) : Prop := ∃ z, d = .str z ∧ LowL z ∧ bs = encL z
section
variable {X : Cx} {vs : List V} {H : Hp} {Q : VK} {E : XK}
theorem body_write_groups (c : Ctx X nq_write_groups lq_write_groups 0) (h : spWG vs H Q E) : RB X (defBody sq_write_groups) { nx := fun _ H' => Q .non H', rt := Q } (start nq_write_groups vs) H := by
  obtain ⟨o, n, xs, rfl, ho, wn, lx, q⟩ := h
  have gl := grp_21 wn
  show RB X (defBody sq_write_groups) _ [some (.ref o), some (.int (n : Int))] H
  refine rb_cons ?_
  refine rs_while c (fun σ H' => ∃ (m : Nat) (ys : List V), Fr (· = o) H H' ∧ H' o = some (.lst ys) ∧ ys ++ (grp m).map V.int = xs ++ (grp n).map V.int ∧ WN m ∧ σ = [some (.ref o), some (.int (m : Int))]) (fun σ _ => match σ with
    | [_, some (.int i)] => i.toNat
    | _ => 0) ⟨n, xs, Fr.refl, ho, rfl, wn, rfl⟩ ?_
  rintro σ H1 ⟨m, ys, f1, h1, e1, wm, rfl⟩
  have ly : ys.length ≤ 99021 := by
    have := congrArg List.length e1
    rw [List.length_append, List.length_append, List.length_map, List.length_map] at this
    omega
  walk_at "e"
  refine ite2 (fun e => ?_) (fun e => ?_)
  · have m0 : ¬ m < 128 := by have := of_decide_eq_true e; omega
    refine rb_cons (rs_app c (by walk_at "gm") .loc (by walk_at "gs") h1 ?_)
    walk_at "e"
    refine ⟨ys, h1, big9 (by omega), ?_⟩
    walk_at "e0"
    refine ov_fdiv (wide_div (b := 32) (by decide) (by decide) (by decide) (by decide)) ?_
    walk_at "e"
    refine ⟨⟨m / 128, ys ++ [.int ((128 + m % 128 : Nat) : Int)], f1.trans fr_box, ?_, ?_, Nat.lt_of_le_of_lt (Nat.div_le_self _ _) wm, ?_⟩, ?_⟩
    · rw [upd_same]
      have e3 : (128 : Int) + (m : Int) % 128 = ((128 + m % 128 : Nat) : Int) := by omega
      rw [e3]
    · rw [← e1, grp_ge m0, List.map_cons, List.append_assoc]
      rfl
    · rw [Int.natCast_ediv]
      rfl
    · show ((m : Int) / 128).toNat < ((m : Int)).toNat
      omega
  · have m0 : m < 128 := by
      have : ¬ (127 : Int) < (m : Int) := fun z => e (decide_eq_true z)
      omega
    walk_at "e"
    refine rb_cons (rs_app c (by walk_at "gm") .loc (by walk_at "gs") h1 ?_)
    walk_at "e"
    refine ⟨ys, h1, big9 (by omega), ?_⟩
    walk_at "e"
    refine q _ (f1.trans fr_box) ?_
    rw [upd_same, ← e1, grp_lt m0]
    rfl
theorem body_write_octet (c : Ctx X nq_write_octet lq_write_octet 0) (h : spW EncO X.K vs H Q E) : RB X (defBody sq_write_octet) { nx := fun _ H' => Q .non H', rt := Q } (start nq_write_octet vs) H := by
  obtain ⟨o, v, d, xs, bs, rfl, ho, hv, ⟨i, rfl, rfl⟩, lx, q⟩ := h
  obtain rfl := dt_int_inv hv
  show RB X (defBody sq_write_octet) _ [some (.ref o), some (.int i)] H
  refine rb_cons (rs_app c (by walk_at "gm") .loc (by walk_at "gs") ho ?_)
  walk_at "e"
  refine ⟨xs, ho, big9 (by omega), ?_⟩
  walk_at "e"
  exact q _ fr_box upd_same
theorem body_write_id (c : Ctx X nq_write_id lq_write_id 1) (dG : DT X "write_groups" ["out", "number"] 1 spWG) (h : spW (EncI 0) X.K vs H Q E) : RB X (defBody sq_write_id) { nx := fun _ H' => Q .non H', rt := Q } (start nq_write_id vs) H := by
  obtain ⟨o, v, d, xs, bs, rfl, ho, hv, hR, lx, q⟩ := h
  cases hR with
  | mk a b e hb he =>
    obtain ⟨p, rfl, np, hp⟩ := dt_ids hv
    show RB X (defBody sq_write_id) _ [some (.ref o), some (.ref p)] H
    refine rb_cons (rs_app c (by walk_at "gm") .loc (by walk_at "gs") ho ?_)
    walk_at "e"
    refine ⟨xs, ho, big9 (by omega), ?_⟩
    have f1 : Fr (· = o) H (upd H o (.lst (xs ++ [.int a]))) := fr_box
    have h1 : upd H o (.lst (xs ++ [.int a])) o = some (.lst (xs ++ [.int a])) := upd_same
    have hp1 := f1 _ _ np hp
    generalize upd H o (.lst (xs ++ [.int a])) = H1 at f1 h1 hp1 ⊢
    walk_at "e0"
    refine re_call c dG (by decide) (by walk_at "gm") ?_
    walk_at "e"
    refine ⟨o, b, _, rfl, h1, hb, by rw [List.length_append, List.length_singleton]; omega, fun H2 f2 h2 => ?_⟩
    have hp2 := f2 _ _ np hp1
    walk_at "e"
    walk_at "e0"
    refine re_call c dG (by decide) (by walk_at "gm") ?_
    walk_at "e"
    have g1 := grp_21 hb
    refine ⟨o, e, _, rfl, h2, he, by simp only [List.length_append, List.length_singleton, List.length_map]; omega, fun H3 f3 h3 => ?_⟩
    walk_at "e"
    refine q H3 ((f1.trans f2).trans f3) ?_
    rw [h3]
    simp
theorem body_write_term (c : Ctx X nq_write_term lq_write_term 2) (dI : DT X "write_id" ["out", "event_id"] 2 (spW (EncI 0) X.K)) (h : spW EncT X.K vs H Q E) : RB X (defBody sq_write_term) { nx := fun _ H' => Q .non H', rt := Q } (start nq_write_term vs) H := by
  obtain ⟨o, v, d, xs, bs, rfl, ho, hv, hR, lx, q⟩ := h
  cases hR with
  | non =>
    cases hv
    show RB X (defBody sq_write_term) _ [some (.ref o), some .non] H
    walk_at "e0"
    refine rb_cons (rs_app c (by walk_at "gm") .loc (by walk_at "gs") ho ?_)
    walk_at "e"
    refine ⟨xs, ho, big9 (by omega), ?_⟩
    walk_at "e"
    exact q _ fr_box upd_same
  | emp =>
    obtain ⟨p, us, rfl, np, hp, g⟩ := dt_tup_inv hv
    obtain rfl := dts_nil_inv g
    show RB X (defBody sq_write_term) _ [some (.ref o), some (.ref p)] H
    walk_at "e0"
    refine ⟨by show 0 ≤ sizeLine; decide, fun r hr => ?_⟩
    have f1 : Fr NoB H (upd H r (.tup [])) := Fr.new hr
    have h1 := f1 _ _ (fun z => z) ho
    refine cv_eqEmp c (a := 0) (b := 0) (d := 0) true (f1 _ _ (fun z => z) hp) upd_same ?_
    walk_at "e"
    refine rb_cons (rs_app c (by walk_at "gm") .loc (by walk_at "gs") h1 ?_)
    walk_at "e"
    refine ⟨xs, h1, big9 (by omega), ?_⟩
    walk_at "e"
    exact q _ (f1.any.trans fr_box) upd_same
  | id hI =>
    cases hI with
    | mk a b e hb he =>
      obtain ⟨p, rfl, np, hp⟩ := dt_ids hv
      show RB X (defBody sq_write_term) _ [some (.ref o), some (.ref p)] H
      walk_at "e0"
      refine ⟨by show 0 ≤ sizeLine; decide, fun r hr => ?_⟩
      have f1 : Fr NoB H (upd H r (.tup [])) := Fr.new hr
      have h1 := f1 _ _ (fun z => z) ho
      have hp1 := f1 _ _ (fun z => z) hp
      refine cv_eqEmp c (a := a) (b := b) (d := e) false hp1 upd_same ?_
      generalize upd H r (.tup []) = H1 at f1 h1 hp1 ⊢
      walk_at "e"
      walk_at "e0"
      refine re_call c dI (by decide) (by walk_at "gm") ?_
      walk_at "e"
      refine ⟨by show 3 ≤ sizeLine; decide, fun t ht => ?_⟩
      have f2 : Fr NoB H1 (upd H1 t (.tup [.int (a + 1), .int b, .int e])) := Fr.new ht
      have nt : ¬ t = o := fun z => by rw [z, h1] at ht; cases ht
      walk_at "e"
      refine ⟨o, _, .tup [.int (a + 1), .int b, .int e], xs, _, rfl, f2 _ _ (fun z => z) h1, Dt.newT ht nt (.cons .int (.cons .int (.cons .int .nil))), .mk (a + 1) b e hb he, by simpa using lx, fun H3 f3 h3 => ?_⟩
      walk_at "e"
      refine q H3 ((f1.any.trans f2.any).trans f3) ?_
      rw [h3]
      simp
theorem body_write_fraction (c : Ctx X nq_write_fraction lq_write_fraction 1) (dG : DT X "write_groups" ["out", "number"] 1 spWG) (h : spW EncF X.K vs H Q E) : RB X (defBody sq_write_fraction) { nx := fun _ H' => Q .non H', rt := Q } (start nq_write_fraction vs) H := by
  obtain ⟨o, v, d, xs, bs, rfl, ho, hv, hR, lx, q⟩ := h
  cases hR with
  | mk n e hn he =>
    obtain ⟨p, us, rfl, np, hp, g⟩ := dt_tup_inv hv
    obtain ⟨a, _, rfl, ha, g⟩ := dts_cons_inv g
    obtain ⟨b, _, rfl, hb, g⟩ := dts_cons_inv g
    obtain rfl := dts_nil_inv g
    rw [dt_int_inv ha, dt_int_inv hb] at hp
    have wz : WN (zig n) := by
      unfold WN zig
      have h2 : 2 ^ 138 * 4 = 2 ^ 140 := by decide +kernel
      split <;> omega
    have g1 := grp_21 wz
    show RB X (defBody sq_write_fraction) _ [some (.ref o), some (.ref p), none, none] H
    refine rb_cons ?_
    refine rs_tup2 c (by walk_at "gm") .loc (by walk_at "gm") (by walk_at "gm") .loc (by walk_at "gm") ?_ (by with_unfolding_all rfl)
    walk_at "e"
    refine ⟨p, _, _, rfl, SqT.of hp, _, _, by walk_at "gs", by walk_at "gs", ?_⟩
    have rest : ∀ (H1 : Hp), Fr (· = o) H H1 → H1 o = some (.lst (xs ++ (grp (zig n)).map V.int)) → RB X (List.drop 2 (defBody sq_write_fraction)) { nx := fun _ H' => Q .non H', rt := Q } [some (.ref o), some (.ref p), some (.int n), some (.int (e : Int))] H1 := by
      intro H1 f1 h1
      walk_at "e0"
      refine re_call c dG (by decide) (by walk_at "gm") ?_
      walk_at "e"
      refine ⟨o, e, _, rfl, h1, he, by simp only [List.length_append, List.length_map]; omega, fun H3 f3 h3 => ?_⟩
      walk_at "e"
      refine q H3 (f1.trans f3) ?_
      rw [h3]
      simp
    walk_at "e0"
    refine re_call c dG (by decide) (by walk_at "gm") ?_
    walk_at "e"
    refine ite2 (fun e1 => ?_) (fun e1 => ?_)
    · have n0 : 0 ≤ n := of_decide_eq_true e1
      walk_at "e"
      refine ⟨o, zig n, xs, by unfold zig; rw [if_pos n0]; congr 3; omega, ho, wz, by omega, fun H1 f1 h1 => ?_⟩
      walk_at "e"
      exact rest H1 f1 h1
    · have n0 : ¬ 0 ≤ n := fun z => e1 (decide_eq_true z)
      walk_at "e"
      refine ⟨o, zig n, xs, by unfold zig; rw [if_neg n0]; congr 3; omega, ho, wz, by omega, fun H1 f1 h1 => ?_⟩
      walk_at "e"
      exact rest H1 f1 h1
theorem body_write_label (c : Ctx X nq_write_label lq_write_label 0) (zl : X.mg "len" = none) (zo : X.mg "ord" = none) (h : spW EncB X.K vs H Q E) : RB X (defBody sq_write_label) { nx := fun _ H' => Q .non H', rt := Q } (start nq_write_label vs) H := by
  obtain ⟨o, v, d, xs, bs, rfl, ho, hv, ⟨z, rfl, hz, rfl⟩, lx, q⟩ := h
  obtain rfl := dt_str_inv hv
  have lz := hz.2
  have e1 := str_len z
  show RB X (defBody sq_write_label) _ [some (.ref o), some (.str z), none] H
  have lx2 : xs.length ≤ 90000 := by omega
  refine rb_cons (rs_app c (by walk_at "gm") .loc (by walk_at "gs") ho ?_)
  walk_at "e"
  refine lv_lenS (sz30 (by omega)) ?_
  walk_at "e"
  refine ⟨xs, ho, big9 (by omega), ?_⟩
  refine rb_cons ?_
  refine rs_for_str c (by walk_at "gm") .loc (by walk_at "gm") ?_
  walk_at "e"
  refine ⟨fun i σ H' => Fr (· = o) H H' ∧ H' o = some (.lst (xs ++ (V.int (z.length : Int)) :: (z.cps.toList.take i).map (fun c : Nat => V.int ((c : Int) - 97)))) ∧ ∃ s3 : Option V, σ = [some (.ref o), some (.str z), s3], ⟨fr_box, by rw [upd_same]; rfl, none, rfl⟩, fun _ _ _ _ _ => trivial, ?_, ?_⟩
  · rintro i y σ H1 hi ⟨ch, hch, rfl⟩ ⟨f1, h1, s3, rfl⟩
    have hl : z.cps.toList[i]? = some ch := by rw [Array.getElem?_toList]; exact hch
    have hi2 : i < z.length := hi
    refine ⟨_, by walk_at "gs", ?_⟩
    refine rb_cons (rs_app c (by walk_at "gm") .loc (by walk_at "gs") h1 ?_)
    refine re_bin ?_
    refine re_callB (id := "ord") c (by walk_at "gm") zo (by decide +kernel) ?_
    walk_at "e"
    refine lv_ord rfl ?_
    refine re_callB (id := "ord") c (by walk_at "gm") zo (by decide +kernel) ?_
    walk_at "e"
    refine lv_ord (by decide +kernel) ?_
    walk_at "e"
    refine ⟨_, h1, big9 (by simp only [List.length_append, List.length_cons, List.length_map, List.length_take]; omega), ?_⟩
    walk_at "e"
    refine ⟨f1.trans fr_box, ?_, _, rfl⟩
    rw [upd_same, List.take_succ, hl]
    have e5 : (((⟨#[ch]⟩ : Str).cps.getD 0 0 : Nat) : Int) - ((("a" : Str).cps.getD 0 0 : Nat) : Int) = (ch : Int) - 97 := by
      have : ("a" : Str).cps.getD 0 0 = 97 := by decide +kernel
      rw [this]
      rfl
    rw [e5]
    simp
  · rintro σ H1 ⟨f1, h1, s3, rfl⟩
    walk_at "e"
    refine q H1 f1 ?_
    have e6 : z.cps.size = z.cps.toList.length := by simp
    rw [h1, e6, List.take_length]
    unfold encL
    rw [List.map_cons, List.map_map]
    rfl
end
local macro_rules | `(tactic| walk_at "sq") => `(tactic| first | refine iteD rfl ?_ | refine iteDN (by decide +kernel) ?_)
theorem flat_le {α : Type} (f : α → List Int) {l : List α} {i : Nat} {x : α} (h : l[i]? = some x) : ((l.take i).map f).flatten.length + (f x).length ≤ (l.map f).flatten.length := by
  induction l generalizing i with
  | nil => cases h
  | cons y t ih =>
    cases i with
    | zero =>
      cases h
      simp
    | succ j =>
      have := ih (i := j) h
      simp only [List.take_succ_cons, List.map_cons, List.flatten_cons, List.length_append]
      omega
theorem flat_succ {α : Type} (f : α → List Int) {l : List α} {i : Nat} {x : α} (h : l[i]? = some x) : ((l.take (i + 1)).map f).flatten = ((l.take i).map f).flatten ++ f x := by
  rw [List.take_succ, h]
  simp
theorem flat_bd {α : Type} (f : α → List Int) {m : Nat} : ∀ {l : List α}, (∀ x ∈ l, (f x).length ≤ m) → (l.map f).flatten.length ≤ l.length * m
  | [], _ => by simp
  | y :: t, h => by
    have h1 := h y List.mem_cons_self
    have h2 := flat_bd f (l := t) fun x hx => h x (List.mem_cons_of_mem _ hx)
    rw [List.map_cons, List.flatten_cons, List.length_append, List.length_cons, Nat.add_mul]
    omega
theorem encI_bd {m : Int} {d : D} {bs : List Int} (h : EncI m d bs) : bs.length ≤ 43 := by
  cases h with
  | mk a b c hb hc =>
    have := grp_21 hb
    have := grp_21 hc
    simp only [List.length_cons, List.length_append]
    omega
theorem encT_bd {d : D} {bs : List Int} (h : EncT d bs) : bs.length ≤ 43 := by
  cases h with
  | non => decide
  | emp => decide
  | id h => exact encI_bd h
theorem encF_bd {d : D} {bs : List Int} (h : EncF d bs) : bs.length ≤ 42 := by
  cases h with
  | mk n e hn he =>
    have wz : WN (zig n) := by
      unfold WN zig
      have h2 : 2 ^ 138 * 4 = 2 ^ 140 := by decide +kernel
      split <;> omega
    have := grp_21 wz
    have := grp_21 he
    simp only [List.length_append]
    omega
theorem encN_bd {d : D} {bs : List Int} (h : EncN d bs) : bs.length ≤ 621 := by
  cases h with
  | mk zs h l =>
    have := flat_bd encL (m := 31) fun z hz => encL_len (h z hz)
    rw [List.length_cons]
    omega
theorem ent1_bd {d : D} {bs : List Int} (h : Ent1 d bs) : bs.length ≤ 622 := by
  cases h with
  | val k h =>
    have := grp_21 h
    rw [List.length_cons]
    omega
  | nm h =>
    have := encN_bd h
    rw [List.length_cons]
    omega
theorem row_bd {r : Row} (h : RowOk r) : (rowB r).length ≤ 654 := by
  have := encL_len h.1
  have := ent1_bd h.2
  unfold rowB
  simp only [List.length_cons, List.length_append]
  omega
theorem encE_bd {d : D} {bs : List Int} (h : EncE d bs) : bs.length ≤ 13100 := by
  cases h with
  | non => decide
  | one h =>
    have := ent1_bd h
    omega
  | page i rs h l =>
    have := flat_bd rowB (m := 654) fun r hr => row_bd (h r hr)
    simp only [List.length_cons, List.length_append, List.length_nil]
    omega
theorem encA_bd {d : D} {bs : List Int} (h : EncA d bs) : bs.length ≤ 13100 := by
  cases h with
  | mk ns h g l =>
    have := flat_bd (fun x : D × List Int => x.2) (m := 621) (l := ns) fun n hn => encN_bd (g n hn)
    have hb : ∀ {w : D} {bs : List Int}, EncH w bs → bs.length ≤ 45 := by
      intro w bs h
      cases h with
      | value k h =>
        have := grp_21 h
        rw [List.length_cons]
        omega
      | page i h n =>
        have := encT_bd h
        simp only [List.length_cons]
        omega
      | nothing => decide
      | long => decide
      | far => decide
    have := hb h
    simp only [List.length_cons, List.length_append]
    omega
section
variable {X : Cx} {vs : List V} {H : Hp} {Q : VK} {E : XK}
theorem body_write_name (c : Ctx X nq_write_name lq_write_name 1) (zl : X.mg "len" = none) (dL : DT X "write_label" ["out", "label"] 1 (spW EncB X.K)) (h : spW EncN X.K vs H Q E) : RB X (defBody sq_write_name) { nx := fun _ H' => Q .non H', rt := Q } (start nq_write_name vs) H := by
  obtain ⟨o, v, d, xs, bs, rfl, ho, hv, hR, lx, q⟩ := h
  cases hR with
  | mk zs hz lz =>
    obtain ⟨p, rfl, np, hp⟩ := dt_strs hv
    show RB X (defBody sq_write_name) _ [some (.ref o), some (.ref p), none] H
    rw [List.length_cons] at lx
    refine rb_cons (rs_app c (by walk_at "gm") .loc (by walk_at "gs") ho ?_)
    walk_at "e"
    refine lv_lenT (SqT.of hp) ?_
    walk_at "e"
    refine ⟨xs, ho, big9 (by omega), ?_⟩
    refine rb_cons ?_
    refine rs_for_tup c (by walk_at "gm") .loc (by walk_at "gm") ?_
    walk_at "e"
    refine ⟨p, zs.map V.str, rfl, SqT.of (fr_box _ _ np hp), fun i σ H' => Fr (· = o) H H' ∧ H' o = some (.lst (xs ++ V.int (zs.length : Int) :: ((zs.take i).map encL).flatten.map V.int)) ∧ ∃ s3 : Option V, σ = [some (.ref o), some (.ref p), s3], ⟨fr_box, by rw [upd_same, List.length_map]; rfl, none, rfl⟩, fun i σ H' _ h => SqT.of (h.1 _ _ np hp), ?_, ?_⟩
    · rintro i y σ H1 hi hy ⟨f1, h1, s3, rfl⟩
      obtain ⟨z, e1, rfl⟩ : ∃ z, zs[i]? = some z ∧ y = .str z := by
        rw [List.getElem?_map] at hy
        cases e : zs[i]? with
        | none => rw [e] at hy; cases hy
        | some z => rw [e] at hy; exact ⟨z, rfl, (Option.some.inj hy).symm⟩
      have lowz := hz z (List.mem_of_getElem? e1)
      have l5 := flat_le encL e1
      refine ⟨_, by walk_at "gs", ?_⟩
      walk_at "e0"
      refine re_call c dL (by decide) (by walk_at "gm") ?_
      walk_at "e"
      refine ⟨o, .str z, .str z, _, _, rfl, h1, .str, ⟨z, rfl, lowz, rfl⟩, by simp only [List.length_append, List.length_cons, List.length_map]; omega, fun H2 f2 h2 => ?_⟩
      walk_at "e"
      refine ⟨f1.trans f2, ?_, _, rfl⟩
      rw [h2, flat_succ encL e1]
      simp
    · rintro σ H1 ⟨f1, h1, s3, rfl⟩
      walk_at "e"
      refine q H1 f1 ?_
      rw [List.length_map] at h1
      rw [h1, List.take_length]
      simp
theorem body_write_entry1 (c : Ctx X nq_write_entry lq_write_entry 2) (dG : DT X "write_groups" ["out", "number"] 1 spWG) (dN : DT X "write_name" ["out", "name"] 2 (spW EncN X.K)) (h : spW Ent1 X.K vs H Q E) :
    RB X (defBody sq_write_entry) { nx := fun _ H' => Q .non H', rt := Q } (start nq_write_entry vs) H := by
  obtain ⟨o, v, d, xs, bs, rfl, ho, hv, hR, lx, q⟩ := h
  cases hR with
  | val k hk =>
    obtain ⟨p, u, w, rfl, np, hp, hu, hw⟩ := dt_two hv
    obtain rfl := dt_str_inv hu
    obtain rfl := dt_int_inv hw
    rw [List.length_cons] at lx
    show RB X (defBody sq_write_entry) _ [some (.ref o), some (.ref p), none, none] H
    walk_at "e0"
    walk_at "e0"
    walk_at "sq"
    refine rb_cons (rs_app c (by walk_at "gm") .loc (by walk_at "gs") ho ?_)
    walk_at "e"
    refine ⟨xs, ho, big9 (by omega), ?_⟩
    have f1 : Fr (· = o) H (upd H o (.lst (xs ++ [.int 1]))) := fr_box
    have hp1 := f1 _ _ np hp
    have h1 : upd H o (.lst (xs ++ [.int 1])) o = some (.lst (xs ++ [.int 1])) := upd_same
    generalize upd H o (.lst (xs ++ [.int 1])) = H1 at f1 h1 hp1 ⊢
    walk_at "e0"
    refine re_call c dG (by decide) (by walk_at "gm") ?_
    walk_at "e"
    refine ⟨o, k, _, rfl, h1, hk, by rw [List.length_append, List.length_singleton]; omega, fun H2 f2 h2 => ?_⟩
    walk_at "e"
    refine q H2 (f1.trans f2) ?_
    rw [h2]
    simp
  | nm hN =>
    obtain ⟨p, u, w, rfl, np, hp, hu, hw⟩ := dt_two hv
    obtain rfl := dt_str_inv hu
    rw [List.length_cons] at lx
    show RB X (defBody sq_write_entry) _ [some (.ref o), some (.ref p), none, none] H
    walk_at "e0"
    walk_at "e0"
    walk_at "sq"
    walk_at "e0"
    walk_at "sq"
    refine rb_cons (rs_app c (by walk_at "gm") .loc (by walk_at "gs") ho ?_)
    walk_at "e"
    refine ⟨xs, ho, big9 (by omega), ?_⟩
    have f1 : Fr (· = o) H (upd H o (.lst (xs ++ [.int 2]))) := fr_box
    have hp1 := f1 _ _ np hp
    have hw1 := hw.fr f1
    have h1 : upd H o (.lst (xs ++ [.int 2])) o = some (.lst (xs ++ [.int 2])) := upd_same
    generalize upd H o (.lst (xs ++ [.int 2])) = H1 at f1 h1 hp1 hw1 ⊢
    walk_at "e0"
    refine re_call c dN (by decide) (by walk_at "gm") ?_
    walk_at "e"
    refine ⟨o, w, _, _, _, rfl, h1, hw1, hN, by rw [List.length_append, List.length_singleton]; omega, fun H2 f2 h2 => ?_⟩
    walk_at "e"
    refine q H2 (f1.trans f2) ?_
    rw [h2]
    simp
theorem body_write_entry (c : Ctx X nq_write_entry lq_write_entry 3) (dG : DT X "write_groups" ["out", "number"] 1 spWG) (dN : DT X "write_name" ["out", "name"] 2 (spW EncN X.K)) (dL : DT X "write_label" ["out", "label"] 1 (spW EncB X.K))
    (d1 : DT X "write_entry" ["out", "entry"] 3 (spW Ent1 X.K)) (c1 : Ctx X nq_write_entry lq_write_entry 2) (h : spW EncE X.K vs H Q E) :
    RB X (defBody sq_write_entry) { nx := fun _ H' => Q .non H', rt := Q } (start nq_write_entry vs) H := by
  obtain ⟨o, v, d, xs, bs, rfl, ho, hv, hR, lx, q⟩ := h
  cases hR with
  | non =>
    cases hv
    show RB X (defBody sq_write_entry) _ [some (.ref o), some .non, none, none] H
    walk_at "e0"
    refine rb_cons (rs_app c (by walk_at "gm") .loc (by walk_at "gs") ho ?_)
    walk_at "e"
    refine ⟨xs, ho, big9 (by omega), ?_⟩
    walk_at "e"
    exact q _ fr_box upd_same
  | one hE => exact body_write_entry1 (E := E) c1 dG dN ⟨o, v, d, xs, bs, rfl, ho, hv, hE, lx, q⟩
  | page i rs hr lr =>
    obtain ⟨p, u, w, r, rfl, np, hp, hu, hw, hrs⟩ := dt_three hv
    obtain rfl := dt_str_inv hu
    obtain rfl := dt_int_inv hw
    obtain ⟨t, us, rfl, nt, ht, hus⟩ := dt_tup_inv hrs
    have hlen : us.length = rs.length := by rw [hus.1, List.length_map]
    simp only [List.length_cons, List.length_append, List.length_nil] at lx
    show RB X (defBody sq_write_entry) _ [some (.ref o), some (.ref p), none, none] H
    walk_at "e0"
    walk_at "e0"
    walk_at "sq"
    walk_at "e0"
    walk_at "sq"
    refine rb_cons (rs_app c (by walk_at "gm") .loc (by walk_at "gs") ho ?_)
    walk_at "e"
    refine ⟨xs, ho, big9 (by omega), ?_⟩
    have f1 : Fr (· = o) H (upd H o (.lst (xs ++ [.int 3]))) := fr_box
    have hp1 := f1 _ _ np hp
    have h1 : upd H o (.lst (xs ++ [.int 3])) o = some (.lst (xs ++ [.int 3])) := upd_same
    generalize upd H o (.lst (xs ++ [.int 3])) = H1 at f1 h1 hp1 ⊢
    refine rb_cons (rs_app c (by walk_at "gm") .loc (by walk_at "gs") h1 ?_)
    walk_at "e"
    refine ⟨_, h1, big9 (by rw [List.length_append, List.length_singleton]; omega), ?_⟩
    have f2 : Fr (· = o) H (upd H1 o (.lst (xs ++ [.int 3] ++ [.int i]))) := f1.trans fr_box
    have hp2 := f2 _ _ np hp
    have ht2 := f2 _ _ nt ht
    have h2 : upd H1 o (.lst (xs ++ [.int 3] ++ [.int i])) o = some (.lst (xs ++ [.int 3] ++ [.int i])) := upd_same
    generalize upd H1 o (.lst (xs ++ [.int 3] ++ [.int i])) = H2 at f2 h2 hp2 ht2 ⊢
    refine rb_cons ?_
    refine rs_for_tup2 c (by walk_at "gm") .loc (by walk_at "gm") (by walk_at "gm") .loc (by walk_at "gm") ?_
    walk_at "e"
    refine ⟨t, us, rfl, SqT.of ht2, fun j σ H' => Fr (· = o) H H' ∧ H' o = some (.lst (xs ++ V.int 3 :: V.int i :: ((rs.take j).map rowB).flatten.map V.int)) ∧ ∃ s3 s4 : Option V, σ = [some (.ref o), some (.ref p), s3, s4], ⟨f2, by rw [h2]; simp, none, none, rfl⟩, fun j σ H' h => SqT.of (h.1 _ _ nt ht), ?_, ?_⟩
    · rintro j w σ H3 hj ⟨f3, h3, s3, s4, rfl⟩
      obtain ⟨rw1, e1⟩ : ∃ r, rs[j]? = some r := by
        rcases Nat.lt_or_ge j us.length with z | z
        · exact ⟨_, List.getElem?_eq_getElem (by omega)⟩
        · rw [List.getElem?_eq_none z] at hj; cases hj
      have hw := hus.2 j w (rowD rw1) hj (by rw [List.getElem?_map, e1]; rfl)
      obtain ⟨a, u, b, rfl, na, ha, hu, hb⟩ := dt_two hw
      obtain rfl := dt_str_inv hu
      have ok := hr rw1 (List.mem_of_getElem? e1)
      have l5 := flat_le rowB e1
      have l6 : (rowB rw1).length = 1 + ((encL rw1.1).length + rw1.2.2.length) := by unfold rowB; rw [List.length_cons, List.length_append]; omega
      refine ⟨a, _, _, rfl, SqT.of (f3 _ _ na ha), _, _, by walk_at "gs", by walk_at "gs", ?_⟩
      refine rb_cons (rs_app c (by walk_at "gm") .loc (by walk_at "gs") h3 ?_)
      walk_at "e"
      refine ⟨_, h3, big9 (by simp only [List.length_append, List.length_cons, List.length_map]; omega), ?_⟩
      walk_at "e0"
      refine re_call c dL (by decide) (by walk_at "gm") ?_
      walk_at "e"
      refine ⟨o, .str rw1.1, .str rw1.1, _, _, rfl, upd_same, .str, ⟨_, rfl, ok.1, rfl⟩, by simp only [List.length_append, List.length_cons, List.length_map, List.length_nil]; omega, fun H4 f4 h4 => ?_⟩
      have f5 : Fr (· = o) H H4 := (f3.trans fr_box).trans f4
      walk_at "e"
      walk_at "e0"
      refine re_call c d1 (by decide) (by walk_at "gm") ?_
      walk_at "e"
      refine ⟨o, b, _, _, _, rfl, h4, hb.fr f5, ok.2, by simp only [List.length_append, List.length_cons, List.length_map, List.length_nil]; omega, fun H5 f6 h5 => ?_⟩
      walk_at "e"
      refine ⟨f5.trans f6, ?_, _, _, rfl⟩
      rw [h5, flat_succ rowB e1]
      unfold rowB
      simp
    · rintro σ H3 ⟨f3, h3, s3, s4, rfl⟩
      rw [hlen, List.take_length] at h3
      refine rb_cons (rs_app c (by walk_at "gm") .loc (by walk_at "gs") h3 ?_)
      walk_at "e"
      refine ⟨_, h3, big9 (by simp only [List.length_append, List.length_cons, List.length_map]; omega), ?_⟩
      walk_at "e"
      refine q _ (f3.trans fr_box) ?_
      rw [upd_same]
      simp
end
local macro_rules | `(tactic| walk_at "sq") => `(tactic| first | refine iteD rfl ?_ | refine iteDN (by decide +kernel) ?_)
abbrev FOUNDS : List Str := ["value", "page", "nothing", "long", "far"]
abbrev KINDSL : List Str := ["start", "tick", "send", "hear", "put", "give", "pass", "swear", "hand", "tell", "ask"]
abbrev kindTab : List (Str × List Str) := [("start", ["kept"]), ("tick", []), ("send", ["node"]), ("hear", ["id"]), ("put", ["term", "label", "entry"]), ("give", ["term", "label", "fraction", "node"]), ("pass", ["id", "node"]), ("swear", ["id"]), ("hand", ["term", "node"]), ("tell", ["name", "most", "answer"]), ("ask", ["name", "most"])]
abbrev WORDS : List Str := ["kept", "node", "id", "term", "label", "entry", "fraction", "name", "most", "answer"]
def TabT (X : Cx) (x : Str) (ys : List Str) : Prop := ∃ a, X.mg x = some (.ref a) ∧ (∀ H, SqT X.K H a (ys.map V.str)) ∧ (∃ ob : Obj, X.K.lookup a = some ob ∧ ob.cls = .type "tuple" ∧ ob.dict = none)
inductive EncP : Str → D → List Int → Prop
  | kept {d bs} (h : EncT d bs) : EncP "kept" d bs
  | term {d bs} (h : EncT d bs) : EncP "term" d bs
  | node {d bs} (h : EncO d bs) : EncP "node" d bs
  | most {d bs} (h : EncO d bs) : EncP "most" d bs
  | id {d bs} (h : EncI 0 d bs) : EncP "id" d bs
  | label {d bs} (h : EncB d bs) : EncP "label" d bs
  | entry {d bs} (h : EncE d bs) : EncP "entry" d bs
  | fraction {d bs} (h : EncF d bs) : EncP "fraction" d bs
  | name {d bs} (h : EncN d bs) : EncP "name" d bs
  | answer {d bs} (h : EncA d bs) : EncP "answer" d bs
theorem encP_bd {w : Str} {d : D} {bs : List Int} (h : EncP w d bs) : bs.length ≤ 13100 ∧ w ∈ WORDS := by
  cases h with
  | kept h => exact ⟨by have := encT_bd h; omega, by decide⟩
  | term h => exact ⟨by have := encT_bd h; omega, by decide⟩
  | node h => obtain ⟨i, rfl, rfl⟩ := h; exact ⟨by show 1 ≤ 13100; decide, by decide⟩
  | most h => obtain ⟨i, rfl, rfl⟩ := h; exact ⟨by show 1 ≤ 13100; decide, by decide⟩
  | id h => exact ⟨by have := encI_bd h; omega, by decide⟩
  | label h => obtain ⟨z, rfl, h, rfl⟩ := h; exact ⟨by have := encL_len h; omega, by decide⟩
  | entry h => exact ⟨encE_bd h, by decide⟩
  | fraction h => exact ⟨by have := encF_bd h; omega, by decide⟩
  | name h => exact ⟨by have := encN_bd h; omega, by decide⟩
  | answer h => exact ⟨encA_bd h, by decide⟩
inductive EncV : D → List Int → Prop
  | mk {i f : D} {ib fb : List Int} (j : Nat) (k : Str) (ws : List Str) (ps : List (D × List Int)) (hi : EncI 0 i ib) (hf : EncF f fb) (hj : kindTab[j]? = some (k, ws)) (l : ps.length = ws.length)
      (hp : ∀ (m : Nat) w x, ws[m]? = some w → ps[m]? = some x → EncP w x.1 x.2) : EncV (.tup [i, f, .tup (.str k :: ps.map (·.1))]) (ib ++ (fb ++ (j : Int) :: (ps.map (·.2)).flatten))
theorem kind_bd {j : Nat} {k : Str} {ws : List Str} (h : kindTab[j]? = some (k, ws)) : ws.length ≤ 4 ∧ KINDSL[j]? = some k ∧ ∀ m, m < j → KINDSL[m]? ≠ some k := by
  have key : ∀ j : _root_.Fin 11, ((kindTab[j.val]?).map fun x => decide (x.2.length ≤ 4) && (decide (KINDSL[j.val]? = some x.1) && (List.range j.val).all fun m => decide (KINDSL[m]? ≠ some x.1))) = some true := by decide +kernel
  have hj : j < 11 := by
    rcases Nat.lt_or_ge j 11 with z | z
    · exact z
    · rw [List.getElem?_eq_none z] at h; cases h
  have kk := key ⟨j, hj⟩
  rw [show kindTab[(⟨j, hj⟩ : _root_.Fin 11).val]? = some (k, ws) from h] at kk
  have k2 := Option.some.inj kk
  rw [Bool.and_eq_true, Bool.and_eq_true, List.all_eq_true] at k2
  exact ⟨of_decide_eq_true k2.1, of_decide_eq_true k2.2.1, fun m hm => of_decide_eq_true (k2.2.2 m (List.mem_range.mpr hm))⟩
theorem encV_bd {d : D} {bs : List Int} (h : EncV d bs) : bs.length ≤ 60000 := by
  cases h with
  | mk j k ws ps hi hf hj l hp =>
    have a := encI_bd hi
    have b := encF_bd hf
    have e := (kind_bd hj).1
    have g := flat_bd (fun x : D × List Int => x.2) (m := 13100) (l := ps) fun x hx => by
      obtain ⟨m, hm⟩ := List.mem_iff_getElem?.mp hx
      have hm2 : m < ws.length := by
        rcases Nat.lt_or_ge m ps.length with z | z
        · omega
        · rw [List.getElem?_eq_none z] at hm; cases hm
      exact (encP_bd (hp m _ x (List.getElem?_eq_getElem hm2) hm)).1
    simp only [List.length_append, List.length_cons]
    omega
def WrT (X : Cx) : Prop := ∃ a, X.mg "WRITERS" = some (.ref a) ∧ ∀ w ∈ WORDS, ∃ (R : D → List Int → Prop) (f : Addr) (fd : FuncData) (ps : List Str) (n : Nat), n ≤ 4 ∧ (∀ d bs, EncP w d bs → R d bs) ∧ KDct X.K X.w a w (.ref f) ∧ FnOk X.prog X.w X.K X.mg X.base CX0 n f fd ps (spW R X.K) ∧ PySem.W.keepIn X.K (.ref f) = true ∧ Binds X.K fd ps []
def PaT (X : Cx) : Prop := ∃ a, X.mg "PARTS" = some (.ref a) ∧ ∀ (j : Nat) k ws, kindTab[j]? = some (k, ws) → ∃ t, KDct X.K X.w a k (.ref t) ∧ ∀ H, SqT X.K H t (ws.map V.str)
theorem dt_sep {K : PySem.W.Frag} {B B' : Addr → Prop} {H : Hp} {v : V} {d : D} (h : Dt K B H v d) (s : ∀ a, B' a → H a = none) : Dt K B' H v d := by
  induction h with
  | non => exact .non
  | bl => exact .bl
  | int => exact .int
  | str => exact .str
  | lst n t l _ ih => exact .lst (fun z => by rw [s _ z] at t; cases t) t l ih
  | tup n t l _ ih => exact .tup (fun z => by rw [s _ z] at t; cases t) t l ih
theorem dts_ints {K : PySem.W.Frag} {B : Addr → Prop} {H : Hp} : ∀ (bs : List Int), Dts K B H (bs.map V.int) (bs.map D.int)
  | [] => Dts.nil
  | _ :: t => Dts.cons .int (dts_ints t)
def spEnc (K : PySem.W.Frag) : Sp := fun vs H Q _ => ∃ (v : V) (d : D) (bs : List Int), vs = [v] ∧ Dt K NoB H v d ∧ EncV d bs ∧ ∀ H' r, Fr NoB H H' → Dt K NoB H' r (.tup (bs.map D.int)) → Q r H'
section
variable {X : Cx} {vs : List V} {H : Hp} {Q : VK} {E : XK}
theorem body_write_answer (c : Ctx X nq_write_answer lq_write_answer 3) (zl : X.mg "len" = none) (dG : DT X "write_groups" ["out", "number"] 1 spWG) (dT : DT X "write_term" ["out", "term"] 3 (spW EncT X.K)) (dN : DT X "write_name" ["out", "name"] 2 (spW EncN X.K))
    (T : TabT X "FOUND" FOUNDS) (h : spW EncA X.K vs H Q E) : RB X (defBody sq_write_answer) { nx := fun _ H' => Q .non H', rt := Q } (start nq_write_answer vs) H := by
  obtain ⟨o, v, d, xs, bs, rfl, ho, hv, hR, lx, q⟩ := h
  obtain ⟨aF, gF, sF, oF⟩ := T
  cases hR with
  | @mk w hb ns hH hN ln =>
    obtain ⟨p, u, y, rfl, np, hp, hu, hy⟩ := dt_two hv
    obtain ⟨pn, us, rfl, nn, hpn, hus⟩ := dt_tup_inv hy
    have lus : us.length = ns.length := by rw [hus.1, List.length_map]
    simp only [List.length_cons, List.length_append] at lx
    show RB X (defBody sq_write_answer) _ [some (.ref o), some (.ref p), none, none, none] H
    refine rb_cons ?_
    refine rs_tup2 c (by walk_at "gm") .loc (by walk_at "gm") (by walk_at "gm") .loc (by walk_at "gm") ?_ (by with_unfolding_all rfl)
    walk_at "e"
    refine ⟨p, _, _, rfl, SqT.of hp, _, _, by walk_at "gs", by walk_at "gs", ?_⟩
    have tail : ∀ (H1 : Hp), Fr (· = o) H H1 → H1 o = some (.lst (xs ++ hb.map V.int)) → RB X (List.drop 3 (defBody sq_write_answer)) { nx := fun _ H' => Q .non H', rt := Q } [some (.ref o), some (.ref p), some u, some (.ref pn), none] H1 := by
      intro H1 f1 h1
      have hpn1 := f1 _ _ nn hpn
      refine rb_cons (rs_app c (by walk_at "gm") .loc (by walk_at "gs") h1 ?_)
      walk_at "e"
      refine lv_lenT (SqT.of hpn1) ?_
      walk_at "e"
      refine ⟨_, h1, big9 (by simp only [List.length_append, List.length_map]; omega), ?_⟩
      refine rb_cons ?_
      refine rs_for_tup c (by walk_at "gm") .loc (by walk_at "gm") ?_
      walk_at "e"
      refine ⟨pn, us, rfl, SqT.of (fr_box _ _ nn hpn1), fun i σ H' => Fr (· = o) H H' ∧ H' o = some (.lst (xs ++ (hb ++ (ns.length : Int) :: ((ns.take i).map (·.2)).flatten).map V.int)) ∧ ∃ s3 : Option V, σ = [some (.ref o), some (.ref p), some u, some (.ref pn), s3], ⟨f1.trans fr_box, by rw [upd_same, lus]; simp, none, rfl⟩, fun i σ H' _ h => SqT.of (h.1 _ _ nn hpn), ?_, ?_⟩
      · rintro i y σ H2 hi hy ⟨f2, h2, s3, rfl⟩
        obtain ⟨n, e1⟩ : ∃ n, ns[i]? = some n := ⟨_, List.getElem?_eq_getElem (by omega)⟩
        have hy1 := hus.2 i y n.1 hy (by rw [List.getElem?_map, e1]; rfl)
        have l5 := flat_le (fun x : D × List Int => x.2) e1
        refine ⟨_, by walk_at "gs", ?_⟩
        walk_at "e0"
        refine re_call c dN (by decide) (by walk_at "gm") ?_
        walk_at "e"
        refine ⟨o, y, n.1, _, n.2, rfl, h2, hy1.fr f2, hN n (List.mem_of_getElem? e1), by simp only [List.length_append, List.length_cons, List.length_map]; omega, fun H3 f3 h3 => ?_⟩
        walk_at "e"
        refine ⟨f2.trans f3, ?_, _, rfl⟩
        rw [h3, flat_succ (fun x : D × List Int => x.2) e1]
        simp
      · rintro σ H2 ⟨f2, h2, s3, rfl⟩
        walk_at "e"
        refine q H2 f2 ?_
        rw [h2, lus, List.take_length]
    have ap : ∀ (j : Nat) (k : Str) (pf : Addr) (ys : List V), H pf = some (.tup (.str k :: ys)) → u = .ref pf → FOUNDS[j]? = some k → (∀ m, m < j → FOUNDS[m]? ≠ some k) →
        (∀ H1, Fr (· = o) H H1 → H1 o = some (.lst (xs ++ [.int (j : Int)])) → RB X (List.drop 2 (defBody sq_write_answer)) { nx := fun _ H' => Q .non H', rt := Q } [some (.ref o), some (.ref p), some u, some (.ref pn), none] H1) →
        RB X (List.drop 1 (defBody sq_write_answer)) { nx := fun _ H' => Q .non H', rt := Q } [some (.ref o), some (.ref p), some u, some (.ref pn), none] H := by
      rintro j k pf ys hpf rfl e1 e2 go
      refine rb_cons (rs_app c (by walk_at "gm") .loc (by walk_at "gs") ho ?_)
      refine re_tindex ?_
      refine re_glob (v := .ref aF) c (by walk_at "gm") gF rfl ?_
      refine ⟨aF, FOUNDS, rfl, oF, ?_⟩
      walk_at "e"
      refine iv_tup (SqT.of hpf) (at_nat (i := 0) rfl) ?_
      refine ⟨k, j, rfl, sF _, e1, e2, ?_⟩
      refine ⟨xs, ho, big9 (by omega), ?_⟩
      exact go _ fr_box upd_same
    cases hH with
    | value k hk =>
      obtain ⟨pf, u1, u2, rfl, nf, hf, hu1, hu2⟩ := dt_two hu
      obtain rfl := dt_str_inv hu1
      obtain rfl := dt_int_inv hu2
      rw [List.length_cons] at lx
      refine ap 0 "value" pf _ hf rfl rfl (fun m hm => by omega) fun H1 f1 h1 => ?_
      have hf1 := f1 _ _ nf hf
      walk_at "e0"
      walk_at "sq"
      walk_at "e0"
      refine re_call c dG (by decide) (by walk_at "gm") ?_
      walk_at "e"
      refine ⟨o, k, _, rfl, h1, hk, by rw [List.length_append, List.length_singleton]; omega, fun H2 f2 h2 => ?_⟩
      walk_at "e"
      exact tail H2 (f1.trans f2) (by rw [h2]; simp)
    | page i hT hn =>
      obtain ⟨pf, u1, u2, u3, rfl, nf, hf, hu1, hu2, hu3⟩ := dt_three hu
      obtain rfl := dt_str_inv hu1
      obtain rfl := dt_int_inv hu2
      simp only [List.length_cons] at lx
      refine ap 1 "page" pf _ hf rfl rfl (by decide +kernel) fun H1 f1 h1 => ?_
      have hf1 := f1 _ _ nf hf
      walk_at "e0"
      walk_at "sq"
      walk_at "e0"
      walk_at "sq"
      refine rb_cons (rs_app c (by walk_at "gm") .loc (by walk_at "gs") h1 ?_)
      walk_at "e"
      refine ⟨_, h1, big9 (by rw [List.length_append, List.length_singleton]; omega), ?_⟩
      have f2 : Fr (· = o) H (upd H1 o (.lst (xs ++ [.int ((1 : Nat) : Int)] ++ [.int i]))) := f1.trans fr_box
      have hf2 := f2 _ _ nf hf
      have h2 : upd H1 o (.lst (xs ++ [.int ((1 : Nat) : Int)] ++ [.int i])) o = some (.lst (xs ++ [.int ((1 : Nat) : Int)] ++ [.int i])) := upd_same
      generalize upd H1 o (.lst (xs ++ [.int ((1 : Nat) : Int)] ++ [.int i])) = H2 at f2 h2 hf2 ⊢
      walk_at "e0"
      refine re_call c dT (by decide) (by walk_at "gm") ?_
      walk_at "e"
      refine ⟨o, u3, _, _, _, rfl, h2, hu3.fr f2, hT, by simp only [List.length_append, List.length_singleton]; omega, fun H3 f3 h3 => ?_⟩
      walk_at "e"
      exact tail H3 (f2.trans f3) (by rw [h3]; simp)
    | nothing =>
      obtain ⟨pf, u1, rfl, nf, hf, hu1⟩ := dt_one hu
      obtain rfl := dt_str_inv hu1
      refine ap 2 "nothing" pf _ hf rfl rfl (by decide +kernel) fun H1 f1 h1 => ?_
      have hf1 := f1 _ _ nf hf
      walk_at "e0"
      walk_at "sq"
      walk_at "e0"
      walk_at "sq"
      walk_at "e"
      exact tail H1 f1 h1
    | long =>
      obtain ⟨pf, u1, rfl, nf, hf, hu1⟩ := dt_one hu
      obtain rfl := dt_str_inv hu1
      refine ap 3 "long" pf _ hf rfl rfl (by decide +kernel) fun H1 f1 h1 => ?_
      have hf1 := f1 _ _ nf hf
      walk_at "e0"
      walk_at "sq"
      walk_at "e0"
      walk_at "sq"
      walk_at "e"
      exact tail H1 f1 h1
    | far =>
      obtain ⟨pf, u1, rfl, nf, hf, hu1⟩ := dt_one hu
      obtain rfl := dt_str_inv hu1
      refine ap 4 "far" pf _ hf rfl rfl (by decide +kernel) fun H1 f1 h1 => ?_
      have hf1 := f1 _ _ nf hf
      walk_at "e0"
      walk_at "sq"
      walk_at "e0"
      walk_at "sq"
      walk_at "e"
      exact tail H1 f1 h1
theorem body_write_event (c : Ctx X nq_write_event lq_write_event 4) (zz : X.mg "zip" = none) (dI : DT X "write_id" ["out", "event_id"] 2 (spW (EncI 0) X.K)) (dF : DT X "write_fraction" ["out", "one"] 2 (spW EncF X.K))
    (T : TabT X "KINDS" KINDSL) (TP : PaT X) (TW : WrT X) (h : spW EncV X.K vs H Q E) : RB X (defBody sq_write_event) { nx := fun _ H' => Q .non H', rt := Q } (start nq_write_event vs) H := by
  obtain ⟨o, v, d, xs, bs, rfl, ho, hv, hR, lx, q⟩ := h
  obtain ⟨aK, gK, sK, oK⟩ := T
  obtain ⟨aP, gP, kP⟩ := TP
  obtain ⟨aW, gW, kW⟩ := TW
  cases hR with
  | @mk di df ib fb j k ws ps hi hf hj lp hpp =>
    obtain ⟨p, ui, uf, ud, rfl, np, hp, hui, huf, hud⟩ := dt_three hv
    obtain ⟨pd, us0, rfl, nd, hpd, hus0⟩ := dt_tup_inv hud
    obtain ⟨uk, us, rfl, huk, hus⟩ := dts_cons_inv hus0
    obtain rfl := dt_str_inv huk
    obtain ⟨wl, ek, ekn⟩ := kind_bd hj
    obtain ⟨t, kt, st⟩ := kP j k ws hj
    have lus : us.length = ws.length := by rw [hus.1, List.length_map, lp]
    simp only [List.length_cons, List.length_append] at lx
    show RB X (defBody sq_write_event) _ [some (.ref o), some (.ref p), none, none, none, none, none, none] H
    refine rb_cons ?_
    refine rs_tup3 c (by walk_at "gm") .loc (by walk_at "gm") (by walk_at "gm") .loc (by walk_at "gm") (by walk_at "gm") .loc (by walk_at "gm") ?_ (by with_unfolding_all rfl)
    walk_at "e"
    refine ⟨p, _, _, _, rfl, SqT.of hp, _, _, _, by walk_at "gs", by walk_at "gs", by walk_at "gs", ?_⟩
    walk_at "e0"
    refine re_call c dI (by decide) (by walk_at "gm") ?_
    walk_at "e"
    refine ⟨o, ui, _, _, _, rfl, ho, hui, hi, by omega, fun H1 f1 h1 => ?_⟩
    walk_at "e"
    walk_at "e0"
    refine re_call c dF (by decide) (by walk_at "gm") ?_
    walk_at "e"
    refine ⟨o, uf, _, _, _, rfl, h1, huf.fr f1, hf, by simp only [List.length_append, List.length_map]; omega, fun H2 f2 h2 => ?_⟩
    have f3 := f1.trans f2
    have hpd2 := f3 _ _ nd hpd
    walk_at "e"
    refine rb_cons (rs_app c (by walk_at "gm") .loc (by walk_at "gs") h2 ?_)
    refine re_tindex ?_
    refine re_glob (v := .ref aK) c (by walk_at "gm") gK rfl ?_
    refine ⟨aK, KINDSL, rfl, oK, ?_⟩
    walk_at "e"
    refine iv_tup (SqT.of hpd2) (at_nat (i := 0) rfl) ?_
    refine ⟨k, j, rfl, sK _, ek, ekn, ?_⟩
    refine ⟨_, h2, big9 (by simp only [List.length_append, List.length_map]; omega), ?_⟩
    have f4 : Fr (· = o) H (upd H2 o (.lst (xs ++ ib.map V.int ++ fb.map V.int ++ [.int (j : Int)]))) := f3.trans fr_box
    have h4 : upd H2 o (.lst (xs ++ ib.map V.int ++ fb.map V.int ++ [.int (j : Int)])) o = some (.lst (xs ++ ib.map V.int ++ fb.map V.int ++ [.int (j : Int)])) := upd_same
    generalize upd H2 o (.lst (xs ++ ib.map V.int ++ fb.map V.int ++ [.int (j : Int)])) = H4 at f4 h4 ⊢
    have hpd4 := f4 _ _ nd hpd
    refine rb_cons ?_
    refine rs_for_zip c (by walk_at "gm") .loc (by walk_at "gm") (by walk_at "gm") .loc (by walk_at "gm") (by walk_at "gm") zz ?_
    refine ra_cons (re_ix (re_glob (v := .ref aP) c (by walk_at "gm") gP rfl ?_))
    walk_at "e"
    refine iv_tup (SqT.of hpd4) (at_nat (i := 0) rfl) ?_
    refine iv_kd kt ?_
    walk_at "e"
    refine sv_tupD (lo := 1) (SqT.of hpd4) (by simp) (fun z => nomatch z) fun _ l hl => ?_
    walk_at "e"
    have nl : ¬ l = o := fun z => by rw [z, h4] at hl; cases hl
    have f5 : Fr (· = o) H (upd H4 l (.tup us)) := f4.trans (Fr.new hl)
    refine ⟨t, l, ws.map V.str, us, rfl, by rw [List.length_map, lus], fun H => SqT X.K H, .inr rfl, st _, SqT.of upd_same,
      fun i σ H' => Fr (· = o) H H' ∧ H' l = some (.tup us) ∧ H' o = some (.lst (xs ++ (ib ++ (fb ++ (j : Int) :: ((ps.take i).map (·.2)).flatten)).map V.int)) ∧ ∃ s5 s6 s7 : Option V, σ = [some (.ref o), some (.ref p), some ui, some uf, some (.ref pd), s5, s6, s7],
      ⟨f5, upd_same, by rw [upd_ne (fun z => nl z.symm), h4]; simp, none, none, none, rfl⟩, fun i σ H h => ⟨st _, SqT.of h.2.1⟩, ?_, ?_⟩
    · rintro i y z σ H5 T hy hz ⟨g5, gl, go, s5, s6, s7, rfl⟩ hT
      obtain ⟨w, ew, rfl⟩ : ∃ w, ws[i]? = some w ∧ y = .str w := by
        rw [List.getElem?_map] at hy
        cases e : ws[i]? with
        | none => rw [e] at hy; cases hy
        | some w => rw [e] at hy; exact ⟨w, rfl, (Option.some.inj hy).symm⟩
      have hi2 : i < ws.length := by
        rcases Nat.lt_or_ge i ws.length with z | z
        · exact z
        · rw [List.getElem?_eq_none z] at ew; cases ew
      obtain ⟨x, ex⟩ : ∃ x, ps[i]? = some x := ⟨_, List.getElem?_eq_getElem (by omega)⟩
      have hx := hpp i w x ew ex
      have hz1 := hus.2 i z x.1 hz (by rw [List.getElem?_map, ex]; rfl)
      have l5 := flat_le (fun x : D × List Int => x.2) ex
      obtain ⟨R, f, fd, pms, n, hn, hRR, hk, hF, kp, hb⟩ := kW w (encP_bd hx).2
      refine ⟨_, _, by walk_at "gs", by walk_at "gs", ?_⟩
      have nT : ¬ T = o := fun z => by rw [z, go] at hT; cases hT
      have nTl : ¬ T = l := fun z => by rw [z, gl] at hT; cases hT
      have g6 : Fr (· = o) H (upd H5 T (.tup [.str w, z])) := g5.trans (Fr.new hT)
      have go6 : upd H5 T (.tup [.str w, z]) o = some (.lst (xs ++ (ib ++ (fb ++ (j : Int) :: ((ps.take i).map (·.2)).flatten)).map V.int)) := by rw [upd_ne (fun z => nT z.symm)]; exact go
      have gl6 : upd H5 T (.tup [.str w, z]) l = some (.tup us) := by rw [upd_ne (fun z => nTl z.symm)]; exact gl
      generalize upd H5 T (.tup [.str w, z]) = H6 at g6 go6 gl6 ⊢
      refine rb_cons (rs_set c (by walk_at "gm") .loc (by walk_at "gm") ?_)
      refine re_ix (re_glob (v := .ref aW) c (by walk_at "gm") gW rfl ?_)
      walk_at "e"
      refine iv_kd hk ?_
      refine ⟨_, by walk_at "gs", ?_⟩
      walk_at "e0"
      refine re_callL c hF hn kp hb (by walk_at "gm") .loc (by walk_at "gs") ?_
      walk_at "e"
      refine ⟨o, z, x.1, _, x.2, rfl, go6, hz1.fr g6, hRR _ _ hx, by simp only [List.length_append, List.length_cons, List.length_map]; omega, fun H7 f7 h7 => ?_⟩
      walk_at "e"
      refine ⟨g6.trans f7, f7 _ _ nl gl6, ?_, _, _, _, rfl⟩
      rw [h7, flat_succ (fun x : D × List Int => x.2) ex]
      simp
    · rintro σ H5 ⟨g5, gl, go, s5, s6, s7, rfl⟩
      walk_at "e"
      refine q H5 g5 ?_
      rw [List.length_map, ← lp, List.take_length] at go
      exact go
theorem body_encode_event (c : Ctx X nq_encode_event lq_encode_event 5) (zt : X.mg "tuple" = none) (dV : DT X "write_event" ["out", "event"] 5 (spW EncV X.K)) (h : spEnc X.K vs H Q E) : RB X (defBody sq_encode_event) { nx := fun _ H' => Q .non H', rt := Q } (start nq_encode_event vs) H := by
  obtain ⟨v, d, bs, rfl, hv, hR, q⟩ := h
  have bd := encV_bd hR
  show RB X (defBody sq_encode_event) _ [some v, none] H
  walk_at "e0"
  refine ⟨by show 0 ≤ sizeLine; decide, fun o ho => ?_⟩
  walk_at "e"
  walk_at "e0"
  refine re_call c dV (by decide) (by walk_at "gm") ?_
  walk_at "e"
  have f1 : Fr NoB H (upd H o (.lst [])) := Fr.new ho
  refine ⟨o, v, d, [], bs, rfl, upd_same, (dt_sep hv (B' := (· = o)) fun a e => by rw [e]; exact ho).fr f1.any, hR, by simp only [List.length_nil]; omega, fun H2 f2 h2 => ?_⟩
  have f3 : Fr NoB H H2 := fun a u _ e => f2 a u (fun z => by rw [z, ho] at e; cases e) (f1 a u (fun z => z) e)
  walk_at "e"
  walk_at "e0"
  refine lv_tupL (SqL.of h2) fun l hl => ?_
  walk_at "e"
  refine q _ _ (f3.trans (Fr.new hl)) ?_
  exact Dt.newT hl (fun z => z) (dts_ints bs)
end
def PZ (lo hi : Int) (d : D) : Prop := ∃ i, d = .int i ∧ lo ≤ i ∧ i ≤ hi
theorem pz {lo hi i : Int} (h : lo ≤ i ∧ i ≤ hi) : PZ lo hi (.int i) := ⟨i, rfl, h⟩
local macro_rules | `(tactic| walk_at "its") => `(tactic| repeat (first | exact ItL.nil | refine ItL.cons (fun _ _ => rfl) (it_de (by walk_at "de") (pz (by decide))) ?_))
def spNum : Sp := fun vs H Q _ => ∃ b, vs = [.ref b] ∧ BoxAt H b ∧ ∀ (i : Int) H', 0 ≤ i → i < 2 ^ 31 → Fr (· = b) H H' → BoxAt H' b → Q (.int i) H'
def spDr (P : D → Prop) (K : PySem.W.Frag) : Sp := fun vs H Q _ => ∃ b, vs = [.ref b] ∧ BoxAt H b ∧ ∀ v d H', P d → Dt K (· = b) H' v d → Fr (· = b) H H' → BoxAt H' b → Q v H'
def spDrM (P : D → Prop) (K : PySem.W.Frag) : Sp := fun vs H Q _ => ∃ (b : Addr) (m : Int), vs = [.ref b, .int m] ∧ 0 < m ∧ m ≤ 12 ∧ BoxAt H b ∧ ∀ v d H', P d → Dt K (· = b) H' v d → Fr (· = b) H H' → BoxAt H' b → Q v H'
def ER (R : D → List Int → Prop) (d : D) : Prop := ∃ bs, R d bs
def Low8 (z : Str) : Prop := Low z ∧ z.length ≤ 8
theorem Low8.l {z : Str} (h : Low8 z) : LowL z := ⟨h.1, by have := h.2; omega⟩
def PL (d : D) : Prop := ∃ z, d = .str z ∧ Low8 z
theorem low_at {z : Str} (h : Low z) {i : Int} {n : Nat} (e : n ∈ z.cps.toList) : 97 ≤ n ∧ n ≤ 122 := h n e
theorem nat_of {i : Int} (h0 : 0 ≤ i) (h1 : i < 2 ^ 31) : ∃ k : Nat, i = (k : Int) ∧ WN k := ⟨i.toNat, by omega, by
  have h2 : i.toNat < 2 ^ 31 := by omega
  exact Nat.lt_trans h2 (by decide +kernel)⟩
section
variable {X : Cx} {vs : List V} {H : Hp} {Q : VK} {E : XK}
theorem it_num {b : Addr} {σ : L2.St} {H0 : Hp} {N : List Str} {L : List (Str × KN)} {k : Nat} {lo hi : Int} (h0 : lo ≤ 0) (h1 : 2 ^ 31 - 1 ≤ hi) (c : Ctx X N L k) (hk : 3 ≤ k) (dN : DT X "_law_number" ["box"] 3 spNum) {p0 p1 p2 : Pos} {j : KN} (hg : (("_law_number" : Str), KN.glob) ∈ L) (hb : (("box" : Str), j) ∈ L) (mb : Mine j) (sb : Slot N σ "box" (.ref b)) :
    It X b σ H0 (PZ lo hi) (.Call (.Name "_law_number" p0) [.Name "box" p1] [] p2) := fun H1 Q _ hB k => by
  refine re_call c dN hk hg (ra_cons (re_name c sb hb mb (ra_nil ?_)))
  exact ⟨b, rfl, hB, fun i H2 i0 i1 f hB2 => k _ (.int i) H2 (pz (by omega)) f hB2 .int⟩
theorem it_take {b : Addr} {σ : L2.St} {H0 : Hp} {N : List Str} {L : List (Str × KN)} {k : Nat} {lo hi n : Int} (n0 : 0 < n) (n1 : n < 2 ^ 31) (h0 : lo ≤ 0) (h1 : n - 1 ≤ hi) (c : Ctx X N L k) (hk : 1 ≤ k) (dT : DT X "_law_take" ["box", "many"] 1 spTake) {p0 p1 p2 p3 : Pos} {j : KN} {j2 : Nat} (hg : (("_law_take" : Str), KN.glob) ∈ L) (hb : (("box" : Str), j) ∈ L) (mb : Mine j) (sb : Slot N σ "box" (.ref b)) :
    It X b σ H0 (PZ lo hi) (.Call (.Name "_law_take" p0) [.Name "box" p1, .Constant (.int n) j2 p3] [] p2) := fun H1 Q _ hB k => by
  refine re_call c dT hk hg (ra_cons (re_name c sb hb mb (ra_cons (re_int (ra_nil ?_)))))
  exact ⟨b, n, rfl, hB, n0, n1, fun i H2 i0 i1 f hB2 => k _ (.int i) H2 (pz (by omega)) f hB2 .int⟩
theorem body_number (c : Ctx X nq_number lq_number 2) (dT : DT X "_law_take" ["box", "many"] 1 spTake) (dP : DT X "_law_pick" ["box", "some"] 2 (spPick X.K)) (h : spNum vs H Q E) :
    RB X (defBody sq_number) { nx := fun _ H' => Q .non H', rt := Q } (start nq_number vs) H := by
  obtain ⟨b, rfl, hB, q⟩ := h
  show RB X (defBody sq_number) _ [some (.ref b), none] H
  walk_at "e0"
  refine re_call c dT (by decide) (by walk_at "gm") ?_
  walk_at "e"
  refine ⟨b, 6, rfl, hB, by decide, by decide, fun w H1 w0 w1 f1 hB1 => ?_⟩
  walk_at "e"
  walk_at "e0"
  refine ite2 (fun e => ?_) (fun e => ?_)
  · walk_at "e0"
    refine re_call c dT (by decide) (by walk_at "gm") ?_
    walk_at "e"
    exact ⟨b, 9, rfl, hB1, by decide, by decide, fun x H2 x0 x1 f2 hB2 => q x H2 x0 (by omega) (f1.trans f2) hB2⟩
  walk_at "e"
  walk_at "e0"
  refine ite2 (fun e => ?_) (fun e => ?_)
  · walk_at "e0"
    refine re_pickI (P := PZ 0 (2 ^ 31 - 1)) c (by decide) dP (by walk_at "gm") (by walk_at "gm") .loc (by walk_at "gs") hB1 (by walk_at "its") (by decide) (by decide) fun v d H2 hd dv f2 hB2 => ?_
    obtain ⟨i, rfl, i0, i1⟩ := hd
    obtain rfl := dt_int_inv dv
    exact q i H2 i0 (by omega) (f1.trans f2) hB2
  walk_at "e"
  walk_at "e0"
  refine ite2 (fun e => ?_) (fun e => ?_)
  · refine re_call c dT (by decide) (by walk_at "gm") ?_
    walk_at "e"
    exact ⟨b, 300, rfl, hB1, by decide, by decide, fun x H2 x0 x1 f2 hB2 => q x H2 x0 (by omega) (f1.trans f2) hB2⟩
  · refine re_call c dT (by decide) (by walk_at "gm") ?_
    walk_at "e"
    refine ov_pow ⟨by decide, by decide, by decide⟩ ?_
    walk_at "e"
    refine ⟨b, _, rfl, hB1, by decide, by decide, fun x H2 x0 x1 f2 hB2 => q x H2 x0 (Int.lt_trans x1 (by decide)) (f1.trans f2) hB2⟩
theorem body_id (c : Ctx X nq_id lq_id 3) (dT : DT X "_law_take" ["box", "many"] 1 spTake) (dP : DT X "_law_pick" ["box", "some"] 2 (spPick X.K)) (dN : DT X "_law_number" ["box"] 3 spNum) (h : spDr (ER (EncI 0)) X.K vs H Q E) :
    RB X (defBody sq_id) { nx := fun _ H' => Q .non H', rt := Q } (start nq_id vs) H := by
  obtain ⟨b, rfl, hB, q⟩ := h
  show RB X (defBody sq_id) _ [some (.ref b), none] H
  refine rb_cons (rs_set c (by walk_at "gm") .loc (by walk_at "gm") ?_)
  refine re_pickI (P := PZ 0 31) c (by decide) dP (by walk_at "gm") (by walk_at "gm") .loc (by walk_at "gs") hB (by
    walk_at "its"
    exact .cons (fun _ _ => rfl) (it_take (by decide) (by decide) (by decide) (by decide) c (by decide) dT (by walk_at "gm") (by walk_at "gm") .loc (by walk_at "gs")) .nil) (by decide) (by decide) fun v d H1 hd dv f1 hB1 => ?_
  obtain ⟨a, rfl, a0, a1⟩ := hd
  obtain rfl := dt_int_inv dv
  refine ⟨_, by walk_at "gs", ?_⟩
  walk_at "e0"
  refine re_pickI (P := PZ 0 (2 ^ 31 - 1)) c (by decide) dP (by walk_at "gm") (by walk_at "gm") .loc (by walk_at "gs") hB1 (by
    walk_at "its"
    exact .cons (fun _ _ => rfl) (it_num (by decide) (by decide) c (by decide) dN (by walk_at "gm") (by walk_at "gm") .loc (by walk_at "gs")) .nil) (by decide) (by decide) fun v d H2 hd dv f2 hB2 => ?_
  obtain ⟨i, rfl, i0, i1⟩ := hd
  obtain rfl := dt_int_inv dv
  walk_at "e"
  refine re_call c dN (by decide) (by walk_at "gm") ?_
  walk_at "e"
  refine ⟨b, rfl, hB2, fun y H3 y0 y1 f3 hB3 => ?_⟩
  walk_at "e"
  refine ⟨by show 3 ≤ sizeLine; decide, fun p hp => ?_⟩
  obtain ⟨k, rfl, wk⟩ := nat_of i0 (by omega)
  obtain ⟨l, rfl, wl⟩ := nat_of y0 y1
  exact q _ (.tup [.int a, .int k, .int l]) _ ⟨_, .mk a k l wk wl⟩ (Dt.newT hp (hB3.ne hp) (.cons .int (.cons .int (.cons .int .nil)))) (((f1.trans f2).trans f3).trans (Fr.new hp)) (hB3.fr (Fr.new hp))
theorem body_label (c : Ctx X nq_label lq_label 2) (zl : X.mg "len" = none) (zr : X.mg "range" = none) (dT : DT X "_law_take" ["box", "many"] 1 spTake) (dP : DT X "_law_pick" ["box", "some"] 2 (spPick X.K)) (h : spDr PL X.K vs H Q E) :
    RB X (defBody sq_label) { nx := fun _ H' => Q .non H', rt := Q } (start nq_label vs) H := by
  obtain ⟨b, rfl, hB, q⟩ := h
  show RB X (defBody sq_label) _ [some (.ref b), none, none, none] H
  refine rb_cons (rs_set c (by walk_at "gm") .loc (by walk_at "gm") ?_)
  refine re_pickI (P := PZ 1 8) c (by decide) dP (by walk_at "gm") (by walk_at "gm") .cell (by walk_at "gs") hB (by walk_at "its") (by decide) (by decide) fun v d H1 hd dv f1 hB1 => ?_
  obtain ⟨m, rfl, m0, m1⟩ := hd
  obtain rfl := dt_int_inv dv
  refine ⟨_, by walk_at "gs", ?_⟩
  refine rb_cons (rs_set c (by walk_at "gm") .cell (by walk_at "gm") ?_)
  have ps : ∀ {s : Str}, (s.cps.toList.all (fun c => decide (97 ≤ c) && decide (c ≤ 122)) && (decide (0 < s.length) && decide (s.length ≤ 26))) = true → ∃ z, D.str s = .str z ∧ Low z ∧ 0 < z.length ∧ z.length ≤ 26 := fun {s} h => by
    rw [Bool.and_eq_true, Bool.and_eq_true] at h
    refine ⟨s, rfl, fun c hc => ?_, of_decide_eq_true h.2.1, of_decide_eq_true h.2.2⟩
    have := List.all_eq_true.mp h.1 c hc
    rw [Bool.and_eq_true] at this
    exact ⟨of_decide_eq_true this.1, of_decide_eq_true this.2⟩
  refine re_pickI (P := fun d => ∃ z, d = .str z ∧ Low z ∧ 0 < z.length ∧ z.length ≤ 26) c (by decide) dP (by walk_at "gm") (by walk_at "gm") .cell (by walk_at "gs") hB1
    (.cons (fun _ _ => rfl) (it_de .str (ps (by decide +kernel))) (.cons (fun _ _ => rfl) (it_de .str (ps (by decide +kernel))) (.cons (fun _ _ => rfl) (it_de .str (ps (by decide +kernel))) (.cons (fun _ _ => rfl) (it_de .str (ps (by decide +kernel))) .nil)))) (by decide) (by decide) fun v d H2 hd dv f2 hB2 => ?_
  obtain ⟨z, rfl, hz, z0, z26⟩ := hd
  obtain rfl := dt_str_inv dv
  refine ⟨_, by walk_at "gs", ?_⟩
  have ff : Fr (· = b) H H2 := f1.trans f2
  refine rb_cons (rs_ret ?_)
  refine re_join ?_
  walk_at "e"
  refine re_lc_range c lq_label_c0 (by decide +kernel) (by walk_at "gm") zr ?_
  walk_at "e"
  refine ⟨by omega, by omega, fun Dn hD => ?_⟩
  refine ⟨fun i H' => ∃ cs : List Nat, cs.length = i ∧ (∀ c ∈ cs, 97 ≤ c ∧ c ≤ 122) ∧ H' Dn = some (.lst (cs.map fun c => V.str ⟨#[c]⟩)) ∧ BoxAt H' b ∧ Fr (· = b) H H', ⟨[], rfl, (fun _ h => by cases h), upd_same, hB2.fr (Fr.new hD), ff.trans (Fr.new hD)⟩, fun _ _ _ _ => trivial, ?_, ?_⟩
  · rintro i y H' hi rfl ⟨cs, h1, h2, h3, h4, h5⟩
    refine ⟨_, by walk_at "gs", fun s Hb C cl fp cb => rts_nil (iteT fun s Hb C cl fp cb => ?_)⟩
    walk_at "e"
    refine re_call cb dT (by decide) (by walk_at "gm") ?_
    walk_at "e"
    refine lv_lenS (sz30 (by omega)) ?_
    walk_at "e"
    refine ⟨b, _, rfl, h4, by omega, by omega, fun d H'' d0 d1 f5 hB5 => ?_⟩
    obtain ⟨n, hn, hn2⟩ := mem_at (xs := z.cps.toList) d0 (by rw [← str_len]; exact d1)
    refine iv_str (sz30 (by omega)) hn ?_
    have e : Dn ≠ b := hB2.ne hD
    refine ⟨_, f5 _ _ e h3, by rw [List.length_map]; exact Nat.lt_of_le_of_lt (by omega : cs.length ≤ 8) (by decide), cs ++ [n], by simp [h1], ?_, ?_, hB5.put e, (h5.trans f5).put (ff.gone e hD)⟩
    · intro c hc
      rcases List.mem_append.mp hc with hc | hc
      · exact h2 c hc
      · rw [List.mem_singleton.mp hc]
        exact hz n hn2
    rw [upd_same, List.map_append]
    rfl
  · rintro H' ⟨cs, h1, h2, h3, h4, h5⟩
    have h8 : cs.length ≤ 8 := by omega
    refine ⟨Dn, cs.map fun c => ⟨#[c]⟩, rfl, .inl (SqL.of ?_), ?_, ?_⟩
    · rw [h3, List.map_map]
      rfl
    · have e1 : (List.map (fun x : Str => x.length) (List.map (fun c => (⟨#[c]⟩ : Str)) cs)).sum = cs.length := by
        rw [List.map_map]
        clear h1 h2 h3 h8
        induction cs with
        | nil => rfl
        | cons c r ih =>
          rw [List.map_cons, List.sum_cons, ih, List.length_cons]
          show 1 + r.length = r.length + 1
          omega
      rw [e1, List.length_map]
      have e2 : ("" : Str).length = 0 := by decide +kernel
      show cs.length + cs.length * ("" : Str).length ≤ 16777216
      rw [e2]
      omega
    · rw [joined_signs]
      refine q _ (.str ⟨cs.toArray⟩) H' ⟨_, rfl, fun c hc => h2 c (by simpa using hc), by show cs.toArray.size ≤ 8; simpa using h8⟩ .str h5 h4
end
local macro_rules | `(tactic| walk_at "its") => `(tactic| repeat (first | exact ItL.nil | refine ItL.cons (fun _ _ => rfl) (it_de (by walk_at "de") (pz (by decide))) ?_))
theorem rs_cut {X : Cx} {st : Stmt} {D : Ends} {σ : L2.St} {H : Hp} (P : L2.St → Hp → Prop) (h : ∀ σ H, P σ H → D.nx σ H) (q : (∀ σ H, P σ H → D.nx σ H) → RS X st D σ H) : RS X st D σ H := q h
theorem swapped_cell {x y : Str} {a b : Expr} {px py q1 q2 : Pos} {kt k2 : Nat} {env : Env} (hy : (env.kindOf y == some .local) = false) : swappedStores [.Tuple [.Name x px, .Name y py] kt q1] (.Tuple [a, b] k2 q2) env = pure none := by
  unfold swappedStores
  dsimp only
  have e : (List.filterMap (fun t : Expr => match t with
    | .Name id pos => if (env.kindOf id == some .local && pos.line == ((([Expr.Name x px, Expr.Name y py].head?).map (·.pos.line)).getD 0)) = true then some id else none
    | _ => none) [.Name x px, .Name y py]).length ≤ 1 := by
    simp only [List.filterMap_cons, List.filterMap_nil, hy, Bool.false_and, Bool.false_eq_true, if_false]
    split <;> simp
  split
  · rfl
  · split
    · rfl
    · split
      · rfl
      · rename_i h
        exfalso
        apply h
        rw [Bool.or_eq_true]
        left
        rw [bne_iff_ne]
        intro z
        have z2 : _ = 2 := z
        exact absurd z2 (Nat.ne_of_lt (Nat.lt_of_le_of_lt e (by decide)))
theorem nine (t m : Nat) {u : Int} (h : 0 ≤ u) : ((t * m + u.toNat : Nat) : Int) = (t : Int) * (m : Int) + u := by
  rw [Int.natCast_add, Int.natCast_mul, Int.toNat_of_nonneg h]
theorem len_app (a b : Str) : (a ++ b).length = a.length + b.length := by rw [str_len, tl_app, List.length_append, ← str_len, ← str_len]
section
variable {X : Cx} {vs : List V} {H : Hp} {Q : VK} {E : XK}
theorem body_fraction (c : Ctx X nq_fraction lq_fraction 2) (zr : X.mg "range" = none) (dT : DT X "_law_take" ["box", "many"] 1 spTake) (dP : DT X "_law_pick" ["box", "some"] 2 (spPick X.K)) (dG : DT X "_law_part" ["one", "two"] 1 spPart) (h : spDr (ER EncF) X.K vs H Q E) :
    RB X (defBody sq_fraction) { nx := fun _ H' => Q .non H', rt := Q } (start nq_fraction vs) H := by
  obtain ⟨b, rfl, hB, q⟩ := h
  show RB X (defBody sq_fraction) _ [some (.ref b), none, none, none, none, none] H
  walk_at "e0"
  refine re_call c dT (by decide) (by walk_at "gm") ?_
  walk_at "e"
  refine ⟨b, 6, rfl, hB, by decide, by decide, fun w H1 w0 w1 f1 hB1 => ?_⟩
  walk_at "e"
  refine rb_cons ?_
  refine rs_cut (fun σ H2 => ∃ (top low : Int) (s5 : Option V), Fr (· = b) H H2 ∧ BoxAt H2 b ∧ 0 < low ∧ low.natAbs < 2 ^ 130 ∧ top.natAbs < 2 ^ 130 ∧ σ = [some (.ref b), some (.int w), some (.int top), some (.int low), s5, none]) ?_ fun go => ?_
  · rintro σ H2 ⟨top, low, s5, f2, hB2, l0, wl, wt, rfl⟩
    have wt3 : W3 top := Nat.lt_trans wt (by decide +kernel)
    have wl3 : W3 low := Nat.lt_trans wl (by decide +kernel)
    walk_at "e0"
    refine re_call c dG (by decide) (by walk_at "gm") ?_
    walk_at "e"
    refine ⟨top, low, rfl, wt3, wl3, ?_⟩
    walk_at "e"
    walk_at "e0"
    have d0 : low ≠ 0 := by omega
    have gp := gi_pos (n := top) d0
    have gw := gi_w (n := top) d0 wl3
    have ef : fc top low = gi top low := by unfold fc; rw [if_neg (by omega)]
    refine ov_fdivX (by omega) gw (by decide) (by decide) ?_
    walk_at "e"
    refine ov_fdivX (by omega) gw (by decide) (by decide) ?_
    walk_at "e"
    refine ⟨by show 2 ≤ sizeLine; decide, fun p hp => ?_⟩
    obtain ⟨fok, wn, wm⟩ := frac_ok (n := top) d0
    have lw := lw_of_fd fok
    unfold fN at lw wn
    unfold fM at lw wm
    rw [ef] at lw wn wm
    obtain ⟨dd, e1⟩ : ∃ k : Nat, low.fdiv (gi top low) = (k : Int) := ⟨(low.fdiv (gi top low)).toNat, by have := lw.1; omega⟩
    rw [e1] at wm ⊢
    refine q _ (.tup [.int (top.fdiv (gi top low)), .int (dd : Int)]) _ ⟨_, .mk _ _ ?_ ?_⟩ (Dt.newT hp (hB2.ne hp) (.cons .int (.cons .int .nil))) (f2.trans (Fr.new hp)) (hB2.fr (Fr.new hp))
    · exact Nat.lt_of_le_of_lt wn (Nat.lt_trans wt (by decide +kernel))
    · have : dd ≤ low.natAbs := by simpa using wm
      exact Nat.lt_of_le_of_lt this (Nat.lt_trans wl (by decide +kernel))
  have sm : ∀ {i : Int}, -(2 ^ 64) ≤ i ∧ i ≤ 2 ^ 64 → i.natAbs < 2 ^ 130 := fun h => Nat.lt_of_le_of_lt (by omega : _ ≤ 2 ^ 64) (by decide +kernel)
  walk_at "e"
  refine ite2 (fun e => ?_) (fun e => ?_)
  · refine rb_cons ?_
    refine rs_par2 c (by walk_at "gm") (by walk_at "gm") (by walk_at "gm") (by walk_at "gm") (by decide) ?_
    refine ra_cons ?_
    walk_at "e"
    refine re_call c dT (by decide) (by walk_at "gm") ?_
    walk_at "e"
    refine ⟨b, 9, rfl, hB1, by decide, by decide, fun x H2 x0 x1 f2 hB2 => ?_⟩
    walk_at "e"
    refine re_pickI (P := PZ 1 6) c (by decide) dP (by walk_at "gm") (by walk_at "gm") .loc (by walk_at "gs") hB2 (by walk_at "its") (by decide) (by decide) fun v d H3 hd dv f3 hB3 => ?_
    obtain ⟨low, rfl, l0, l1⟩ := hd
    obtain rfl := dt_int_inv dv
    walk_at "e"
    refine ⟨_, _, _, _, rfl, by walk_at "gs", by walk_at "gs", ?_⟩
    walk_at "e"
    exact go _ _ ⟨x - 2, low, none, (f1.trans f2).trans f3, hB3, by omega, sm (by omega), sm (by omega), rfl⟩
  walk_at "e"
  walk_at "e0"
  refine ite2 (fun e => ?_) (fun e => ?_)
  · refine rb_cons (rs_set c (by walk_at "gm") .loc (by walk_at "gm") ?_)
    refine re_bin ?_
    refine re_pickI (P := PZ 0 (2 ^ 31)) c (by decide) dP (by walk_at "gm") (by walk_at "gm") .loc (by walk_at "gs") hB1 (by
      walk_at "its"
      refine .cons (fun _ _ => rfl) ?_ .nil
      intro H3 K f hB3 k
      walk_at "e"
      refine re_call c dT (by decide) (by walk_at "gm") ?_
      walk_at "e"
      refine ov_pow ⟨by decide, by decide, by decide⟩ ?_
      walk_at "e"
      exact ⟨b, _, rfl, hB3, by decide, by decide, fun x H4 x0 x1 f4 hB4 => k _ (.int x) H4 (pz ⟨x0, Int.le_of_lt (Int.lt_trans x1 (by decide))⟩) f4 hB4 .int⟩) (by decide) (by decide) fun v d H2 hd dv f2 hB2 => ?_
    obtain ⟨t1, rfl, t0, t2⟩ := hd
    obtain rfl := dt_int_inv dv
    refine re_pickI (P := PZ (-1) 1) c (by decide) dP (by walk_at "gm") (by walk_at "gm") .loc (by walk_at "gs") hB2 (by walk_at "its") (by decide) (by decide) fun v d H3 hd dv f3 hB3 => ?_
    obtain ⟨sg, rfl, s0, s1⟩ := hd
    obtain rfl := dt_int_inv dv
    refine ov_mulR (by omega) ?_
    refine ⟨_, by walk_at "gs", ?_⟩
    refine rb_cons (rs_set c (by walk_at "gm") .loc (by walk_at "gm") ?_)
    refine re_pickI (P := PZ 1 (2 ^ 31)) c (by decide) dP (by walk_at "gm") (by walk_at "gm") .loc (by walk_at "gs") hB3 (by
      walk_at "its"
      refine .cons (fun _ _ => rfl) ?_ .nil
      intro H3 K f hB3 k
      walk_at "e"
      refine re_call c dT (by decide) (by walk_at "gm") ?_
      walk_at "e"
      refine ov_pow ⟨by decide, by decide, by decide⟩ ?_
      walk_at "e"
      refine ⟨b, _, rfl, hB3, by decide, by decide, fun x H4 x0 x1 f4 hB4 => ?_⟩
      have x2 : x < 10000 := x1
      walk_at "e"
      exact k _ (.int (1 + x)) H4 (pz (by omega)) f4 hB4 .int) (by decide) (by decide) fun v d H4 hd dv f4 hB4 => ?_
    obtain ⟨low, rfl, l0, l1⟩ := hd
    obtain rfl := dt_int_inv dv
    refine ⟨_, by walk_at "gs", ?_⟩
    walk_at "e"
    have st : (t1 * sg).natAbs ≤ 2 ^ 31 := by
      have : sg = -1 ∨ sg = 0 ∨ sg = 1 := by omega
      rcases this with rfl | rfl | rfl <;> omega
    exact go _ _ ⟨t1 * sg, low, none, ((f1.trans f2).trans f3).trans f4, hB4, by omega, sm (by omega), Nat.lt_of_le_of_lt st (by decide +kernel), rfl⟩
  walk_at "e"
  have p9 : ((10 : Int) ^ (9 : Int).toNat) = 1000000000 := by decide
  refine rb_cons ?_
  refine rs_tup2 c (by walk_at "gm") .loc (by walk_at "gm") (by walk_at "gm") .loc (by walk_at "gm") ?_ (swapped_folded (by decide +kernel))
  walk_at "e"
  refine ⟨by show 2 ≤ sizeLine; decide, fun T hT => ?_⟩
  refine ⟨T, .int 0, .int 0, rfl, SqT.of upd_same, _, _, by walk_at "gs", by walk_at "gs", ?_⟩
  have f2 : Fr (· = b) H (upd H1 T (.tup [.int 0, .int 0])) := f1.trans (Fr.new hT)
  have hB2 : BoxAt (upd H1 T (.tup [.int 0, .int 0])) b := hB1.fr (Fr.new hT)
  generalize upd H1 T (.tup [.int 0, .int 0]) = H2 at f2 hB2 ⊢
  refine rb_cons ?_
  refine rs_for_range c (by walk_at "gm") .loc (by walk_at "gm") (by walk_at "gm") zr ?_
  walk_at "e"
  refine re_call c dT (by decide) (by walk_at "gm") ?_
  walk_at "e"
  refine ⟨b, 4, rfl, hB2, by decide, by decide, fun x H3 x0 x1 f3 hB3 => ?_⟩
  walk_at "e"
  refine ⟨by omega, by omega, ?_⟩
  refine ⟨fun i σ H' => Fr (· = b) H H' ∧ BoxAt H' b ∧ ∃ (t l : Nat) (s5 : Option V), t < 1000000000 ^ i ∧ l < 1000000000 ^ i ∧ σ = [some (.ref b), some (.int w), some (.int (t : Int)), some (.int (l : Int)), s5, none], ⟨f2.trans f3, hB3, 0, 0, none, by decide, by decide, rfl⟩, fun _ _ _ _ _ => trivial, ?_, ?_⟩
  · rintro i y σ H4 hi rfl ⟨f4, hB4, t, l, s5, ht, hl, rfl⟩
    refine ⟨_, by walk_at "gs", ?_⟩
    refine rb_cons ?_
    refine rs_par2 c (by walk_at "gm") (by walk_at "gm") (by walk_at "gm") (by walk_at "gm") (by decide) ?_
    refine ra_cons ?_
    walk_at "e"
    refine ov_pow ⟨by decide, by decide, by decide⟩ ?_
    walk_at "e"
    refine re_call c dT (by decide) (by walk_at "gm") ?_
    walk_at "e"
    refine ov_pow ⟨by decide, by decide, by decide⟩ ?_
    walk_at "e"
    refine ⟨b, _, rfl, hB4, by decide, by decide, fun u H5 u0 u1 f5 hB5 => ?_⟩
    walk_at "e"
    refine ov_pow ⟨by decide, by decide, by decide⟩ ?_
    walk_at "e"
    refine re_call c dT (by decide) (by walk_at "gm") ?_
    walk_at "e"
    refine ov_pow ⟨by decide, by decide, by decide⟩ ?_
    walk_at "e"
    refine ⟨b, _, rfl, hB5, by decide, by decide, fun r H6 r0 r1 f6 hB6 => ?_⟩
    walk_at "e"
    refine ⟨_, _, _, _, rfl, by walk_at "gs", by walk_at "gs", ?_⟩
    walk_at "e"
    rw [p9] at u1 r1 ⊢
    clear p9
    refine ⟨(f4.trans f5).trans f6, hB6, t * 1000000000 + u.toNat, l * 1000000000 + r.toNat, some (.int (i : Int)), ?_, ?_, ?_⟩
    · rw [Nat.pow_succ]; omega
    · rw [Nat.pow_succ]; omega
    · have e1 := nine t 1000000000 u0
      have e2 := nine l 1000000000 r0
      have e3 : ((1000000000 : Nat) : Int) = 1000000000 := by decide
      rw [e3] at e1 e2
      rw [e1, e2]
  · rintro σ H4 ⟨f4, hB4, t, l, s5, ht, hl, rfl⟩
    have h36 : (1000000000 : Nat) ^ (1 + x).toNat ≤ 1000000000 ^ 4 := Nat.pow_le_pow_right (by decide) (by omega)
    have c36 : (1000000000 : Nat) ^ 4 + 1 < 2 ^ 130 := by decide +kernel
    refine rb_cons ?_
    refine rs_par2 c (by walk_at "gm") (by walk_at "gm") (by walk_at "gm") (by walk_at "gm") (by decide) ?_
    refine ra_cons ?_
    walk_at "e"
    refine re_pickI (P := PZ (-1) 1) c (by decide) dP (by walk_at "gm") (by walk_at "gm") .loc (by walk_at "gs") hB4 (by walk_at "its") (by decide) (by decide) fun v d H5 hd dv f5 hB5 => ?_
    obtain ⟨sg, rfl, s0, s1⟩ := hd
    obtain rfl := dt_int_inv dv
    refine ov_mulR (by omega) ?_
    walk_at "e"
    refine ⟨_, _, _, _, rfl, by walk_at "gs", by walk_at "gs", ?_⟩
    walk_at "e"
    have st : ((t : Int) * sg).natAbs ≤ t := by
      have : sg = -1 ∨ sg = 0 ∨ sg = 1 := by omega
      rcases this with rfl | rfl | rfl <;> omega
    exact go _ _ ⟨(t : Int) * sg, (l : Int) + 1, s5, f4.trans f5, hB5, by omega, by omega, by omega, rfl⟩
theorem body_name (c : Ctx X nq_name lq_name 3) (zr : X.mg "range" = none) (zt : X.mg "tuple" = none) (dT : DT X "_law_take" ["box", "many"] 1 spTake) (dL : DT X "_law_label" ["box"] 3 (spDr PL X.K)) (h : spDrM (ER EncN) X.K vs H Q E) :
    RB X (defBody sq_name) { nx := fun _ H' => Q .non H', rt := Q } (start nq_name vs) H := by
  obtain ⟨b, m, rfl, m0, m12, hB, q⟩ := h
  show RB X (defBody sq_name) _ [some (.ref b), some (.int m), none] H
  walk_at "e0"
  refine re_lc_range c lq_name_c0 (by decide +kernel) (by walk_at "gm") zr ?_
  walk_at "e"
  refine re_call c dT (by decide) (by walk_at "gm") ?_
  walk_at "e"
  refine ⟨b, m, rfl, hB, m0, by omega, fun x H2 x0 x1 ff hB2 => ?_⟩
  walk_at "e"
  refine ⟨by omega, by omega, fun Dn hD => ?_⟩
  refine ⟨fun i H' => ∃ zs : List Str, zs.length = i ∧ (∀ z ∈ zs, LowL z) ∧ H' Dn = some (.lst (zs.map V.str)) ∧ BoxAt H' b ∧ Fr (· = b) H H', ⟨[], rfl, (fun _ h => by cases h), upd_same, hB2.fr (Fr.new hD), ff.trans (Fr.new hD)⟩, fun _ _ _ _ => trivial, ?_, ?_⟩
  · rintro i y H' hi rfl ⟨zs, h1, h2, h3, h4, h5⟩
    refine ⟨_, by walk_at "gs", fun s Hb C cl fp cb => rts_nil (iteT fun s Hb C cl fp cb => ?_)⟩
    refine re_call cb dL (by decide) (by walk_at "gm") ?_
    walk_at "e"
    refine ⟨b, rfl, h4, fun v d H'' hd dv f5 hB5 => ?_⟩
    obtain ⟨z, rfl, hz⟩ := hd
    obtain rfl := dt_str_inv dv
    have e : Dn ≠ b := hB2.ne hD
    refine ⟨_, f5 _ _ e h3, by rw [List.length_map]; exact Nat.lt_of_le_of_lt (by omega : zs.length ≤ 20) (by decide), zs ++ [z], by simp [h1], ?_, ?_, hB5.put e, (h5.trans f5).put (ff.gone e hD)⟩
    · intro c hc
      rcases List.mem_append.mp hc with hc | hc
      · exact h2 c hc
      · rw [List.mem_singleton.mp hc]
        exact hz.l
    rw [upd_same, List.map_append]
    rfl
  · rintro H' ⟨zs, h1, h2, h3, h4, h5⟩
    walk_at "e"
    refine lv_tupL (SqL.of h3) fun l hl => ?_
    exact q _ (.tup (zs.map D.str)) _ ⟨_, .mk zs h2 (by omega)⟩ (Dt.newT hl (h4.ne hl) (dts_strs zs)) (h5.trans (Fr.new hl)) (h4.fr (Fr.new hl))
end
theorem filter_str (f : Str → Bool) (g : V → Bool) (h : ∀ s, g (.str s) = f s) : ∀ ls : List Str, (ls.map V.str).filter g = (ls.filter f).map V.str
  | [] => rfl
  | s :: r => by
    rw [List.map_cons, List.filter_cons, List.filter_cons, h, filter_str f g h r]
    split <;> simp
def onS (f : Str → Bool) : V → Bool
  | .str s => f s
  | _ => false
theorem cut_to (z : Str) (k : Nat) : (cutS z none (some (k : Int))).cps.toList = z.cps.toList.take k := by
  have e : z.length = z.cps.toList.length := by show z.cps.size = _; simp
  show ((z.cps.toList.drop (HT.sIx z.length 0 none)).take (HT.sIx z.length z.length (some (k : Int)) - HT.sIx z.length 0 none)) = _
  rw [HT.sIx_nat, HT.sIx_none, List.drop_zero, Nat.sub_zero, e]
  rcases Nat.le_total k z.cps.toList.length with h | h
  · rw [Nat.min_eq_left h]
  · rw [Nat.min_eq_right h, List.take_length, List.take_of_length_le h]
def spRows (K : PySem.W.Frag) : Sp := fun vs H Q _ => ∃ (b : Addr) (m : Int), vs = [.ref b, .int m] ∧ 0 < m ∧ m ≤ 12 ∧ BoxAt H b ∧ ∀ v (rs : List Row) H', (∀ r ∈ rs, RowOk r) → rs.length ≤ 20 → Dt K (· = b) H' v (.tup (rs.map rowD)) → Fr (· = b) H H' → BoxAt H' b → Q v H'
section
variable {X : Cx} {vs : List V} {H : Hp} {Q : VK} {E : XK}
theorem body_rows (c : Ctx X nq_rows lq_rows 4) (zl : X.mg "len" = none) (zr : X.mg "range" = none) (zt : X.mg "tuple" = none) (zs : X.mg "sorted" = none) (dT : DT X "_law_take" ["box", "many"] 1 spTake) (dP : DT X "_law_pick" ["box", "some"] 2 (spPick X.K)) (dL : DT X "_law_label" ["box"] 3 (spDr PL X.K))
    (dN : DT X "_law_number" ["box"] 3 spNum) (dM : DT X "_law_name" ["box", "most"] 4 (spDrM (ER EncN) X.K)) (h : spRows X.K vs H Q E) : RB X (defBody sq_rows) { nx := fun _ H' => Q .non H', rt := Q } (start nq_rows vs) H := by
  obtain ⟨b, m, rfl, m0, m12, hB, q⟩ := h
  show RB X (defBody sq_rows) _ [some (.ref b), some (.int m), none, none, none, none, none, none, none] H
  refine rb_cons ?_
  refine rs_tup2 c (by walk_at "gm") .loc (by walk_at "gm") (by walk_at "gm") .cell (by walk_at "gm") ?_ (swapped_cell (by
    show (X.env.kindOf "last" == some .local) = false
    have hk := (c.look (("last" : Str), KN.cell) (by walk_at "gm")).1
    have hk2 : X.env.kindOf "last" = some .cell := hk
    rw [hk2]
    rfl))
  walk_at "e"
  refine ⟨by show 0 ≤ sizeLine; decide, fun L hL => ?_⟩
  have f0 : Fr (· = b) H (upd H L (.lst [])) := Fr.new hL
  have hB0 : BoxAt (upd H L (.lst [])) b := hB.fr (Fr.new hL)
  have hL0 : upd H L (.lst []) L = some (.lst []) := upd_same
  have nL : ¬ L = b := hB.ne hL
  generalize upd H L (.lst []) = H0 at f0 hB0 hL0 ⊢
  walk_at "e"
  refine re_call c dL (by decide) (by walk_at "gm") ?_
  walk_at "e"
  refine ⟨b, rfl, hB0, fun v d H1 hd dv f1 hB1 => ?_⟩
  obtain ⟨z, rfl, hz⟩ := hd
  obtain rfl := dt_str_inv dv
  walk_at "e"
  refine ⟨by show 2 ≤ sizeLine; decide, fun T hT => ?_⟩
  refine ⟨T, .ref L, .str z, rfl, SqT.of upd_same, _, _, by walk_at "gs", by walk_at "gs", ?_⟩
  have fT : Fr (· = b) H (upd H1 T (.tup [.ref L, .str z])) := (f0.trans f1).trans (Fr.new hT)
  have hBT : BoxAt (upd H1 T (.tup [.ref L, .str z])) b := hB1.fr (Fr.new hT)
  have hLT : upd H1 T (.tup [.ref L, .str z]) L = some (.lst []) := (f1.trans (Fr.new hT)) _ _ nL hL0
  generalize upd H1 T (.tup [.ref L, .str z]) = H2 at fT hBT hLT ⊢
  refine rb_cons ?_
  refine rs_for_range c (by walk_at "gm") .loc (by walk_at "gm") (by walk_at "gm") zr ?_
  walk_at "e"
  refine re_call c dT (by decide) (by walk_at "gm") ?_
  walk_at "e"
  refine ⟨b, m + 1, rfl, hBT, by omega, by omega, fun n H3 n0 n1 f3 hB3 => ?_⟩
  walk_at "e"
  refine ⟨by omega, by omega, ?_⟩
  refine ⟨fun i σ H' => Fr (· = b) H H' ∧ BoxAt H' b ∧ ∃ (ls : List Str) (z : Str) (s5 s6 : Option V), ls.length ≤ i ∧ (∀ l ∈ ls, Low8 l) ∧ Low8 z ∧ H' L = some (.lst (ls.map V.str)) ∧ σ = [some (.ref b), some (.int m), some (.ref L), some (.str z), s5, s6, none, none, none],
    ⟨fT.trans f3, hB3, [], z, none, none, Nat.le_refl _, (fun _ h => by cases h), hz, f3 _ _ nL hLT, rfl⟩, fun _ _ _ _ _ => trivial, ?_, ?_⟩
  · rintro i y σ H4 hi rfl ⟨f4, hB4, ls, z, s5, s6, hll, hls, hz, hL4, rfl⟩
    refine ⟨_, by walk_at "gs", ?_⟩
    walk_at "e0"
    refine re_call c dT (by decide) (by walk_at "gm") ?_
    walk_at "e"
    refine ⟨b, 4, rfl, hB4, by decide, by decide, fun w H5 w0 w1 f5 hB5 => ?_⟩
    walk_at "e"
    refine rb_cons ?_
    refine rs_cut (fun σ H2 => ∃ (z : Str), Low8 z ∧ Fr (· = b) H5 H2 ∧ BoxAt H2 b ∧ σ = [some (.ref b), some (.int m), some (.ref L), some (.str z), some (.int (i : Int)), some (.int w), none, none, none]) ?_ fun go => ?_
    · rintro σ H6 ⟨z2, hz2, f6, hB6, rfl⟩
      have hL6 : H6 L = some (.lst (ls.map V.str)) := (f5.trans f6) _ _ nL hL4
      have hl64 : (ls.map V.str).length < sizeLine := by rw [List.length_map]; exact Nat.lt_of_le_of_lt (show ls.length ≤ 64 by omega) (by decide)
      walk_at "e0"
      refine re_lc_list c lq_rows_c0 (by decide +kernel) ?_
      walk_at "e"
      refine ⟨_, _, rfl, SqL.of hL6, cturns_filter (f := onS fun a => decide (a = z2)) hl64 (SqL.of hL6) (by walk_at "gm") (fun y => by walk_at "gs") ?_ ?_⟩
      · rintro y H' hy hf s Hb C cl fp cb
        obtain ⟨a, ha, rfl⟩ := List.mem_map.mp hy
        walk_at "g"
        exact ⟨rfl, Fr.refl⟩
      · rintro Dn H7 hD f7 hd
        have hB7 := hB6.fr f7
        have hL7 := f7 _ _ (fun z => z) hL6
        walk_at "e"
        refine lv_lenL (SqL.of hd) ?_
        walk_at "e"
        refine ite2 (fun e => ?_) (fun e => ?_)
        · refine rb_cons (rs_app c (by walk_at "gm") .loc (by walk_at "gs") hL7 ?_)
          walk_at "e"
          refine ⟨_, hL7, by rw [List.length_map]; exact Nat.lt_of_le_of_lt (show ls.length ≤ 64 by omega) (by decide), ?_⟩
          walk_at "e"
          refine ⟨fun a u na ea => ?_, hB7.put nL, ls ++ [z2], z2, _, _, by rw [List.length_append, List.length_singleton]; omega, ?_, hz2, ?_, rfl⟩
          · by_cases e2 : a = L
            · rw [e2, hL] at ea
              cases ea
            · rw [upd_ne e2]
              exact (((f4.trans f5).trans f6).trans f7.any) a u na ea
          · intro l hl
            rcases List.mem_append.mp hl with hl | hl
            · exact hls l hl
            · rw [List.mem_singleton.mp hl]
              exact hz2
          · rw [upd_same, List.map_append]
            rfl
        · walk_at "e"
          exact ⟨((f4.trans f5).trans f6).trans f7.any, hB7, ls, z2, _, _, by omega, hls, hz2, hL7, rfl⟩
    have zl8 := hz.2
    have oz : ("z" : Str).length = 1 := by decide +kernel
    have lz : Low ("z" : Str) := fun c hc => by
      have : ("z" : Str).cps.toList = [122] := by decide +kernel
      rw [this] at hc
      rw [List.mem_singleton.mp hc]
      exact ⟨by decide, by decide⟩
    have ps : ∀ {s : Str}, (s.cps.toList.all (fun c => decide (97 ≤ c) && decide (c ≤ 122)) && decide (s.length = 1)) = true → ∃ z, D.str s = .str z ∧ Low z ∧ z.length = 1 := fun {s} h => by
      rw [Bool.and_eq_true] at h
      refine ⟨s, rfl, fun c hc => ?_, of_decide_eq_true h.2⟩
      have := List.all_eq_true.mp h.1 c hc
      rw [Bool.and_eq_true] at this
      exact ⟨of_decide_eq_true this.1, of_decide_eq_true this.2⟩
    have lowa : ∀ {u v : Str}, Low u → Low v → Low (u ++ v) := fun {u v} hu hv ch hc => by
      rw [tl_app] at hc
      rcases List.mem_append.mp hc with hc | hc
      · exact hu ch hc
      · exact hv ch hc
    have lowt : ∀ {u : Str} (k : Nat), Low u → Low (cutS u none (some (k : Int))) ∧ (cutS u none (some (k : Int))).length ≤ k := fun {u} k hu => by
      refine ⟨fun ch hc => ?_, ?_⟩
      · rw [cut_to] at hc
        exact hu ch (List.mem_of_mem_take hc)
      · rw [str_len, cut_to, List.length_take]
        omega
    refine rs_if (rt_mono (Q := fun cc H1 => H1 = H5 ∧ (cc = true → z.length < 8)) ?_ ?_)
    · refine rt_bool (rw_and ?_)
      walk_at "e"
      refine ite2 (fun e => ?_) (fun e => ?_)
      · walk_at "e"
        refine lv_lenS (sz30 (by omega)) ?_
        walk_at "e"
        exact ⟨rfl, fun e => by have := of_decide_eq_true e; omega⟩
      · exact ⟨rfl, fun z => nomatch z⟩
    · rintro cc H6 ⟨rfl, hc⟩
      refine ite2 (fun e => ?_) (fun e => ?_)
      · have h8 := hc e
        refine rb_cons (rs_set c (by walk_at "gm") .cell (by walk_at "gm") ?_)
        refine re_bin ?_
        walk_at "e"
        refine re_pickI (P := fun d => ∃ z, d = .str z ∧ Low z ∧ z.length = 1) c (by decide) dP (by walk_at "gm") (by walk_at "gm") .loc (by walk_at "gs") hB5 (.cons (fun _ _ => rfl) (it_de .str (ps (by decide +kernel))) (.cons (fun _ _ => rfl) (it_de .str (ps (by decide +kernel))) .nil)) (by decide) (by decide) fun v d H7 hd dv f7 hB7 => ?_
        obtain ⟨s, rfl, hs, s1⟩ := hd
        obtain rfl := dt_str_inv dv
        refine ov_adds (sz30 (by omega)) ?_
        refine ⟨_, by walk_at "gs", ?_⟩
        walk_at "e"
        exact go _ _ ⟨z ++ s, ⟨lowa hz.1 hs, by rw [len_app]; omega⟩, f7, hB7, rfl⟩
      walk_at "e"
      walk_at "e0"
      refine ite2 (fun e => ?_) (fun e => ?_)
      · walk_at "e0"
        refine lv_lenS (sz30 (by omega)) ?_
        walk_at "e"
        by_cases z0 : z.length = 0
        · refine sv_str (sz30 (by omega)) ?_
          have hcut : Low (cutS z none (some ((z.length : Int) - 1))) ∧ (cutS z none (some ((z.length : Int) - 1))).length ≤ 0 := by
            have zn : z.cps.toList = [] := List.eq_nil_of_length_eq_zero (by rw [← str_len]; exact z0)
            have e9 : (cutS z none (some ((z.length : Int) - 1))).cps.toList = [] := by
              show ((z.cps.toList.drop _).take _) = _
              rw [zn]
              simp
            refine ⟨fun ch hc => ?_, by rw [str_len, e9]; exact Nat.le_refl _⟩
            rw [e9] at hc
            cases hc
          generalize cutS z none (some ((z.length : Int) - 1)) = y at hcut ⊢
          walk_at "e"
          refine ov_adds (sz30 (by omega)) ?_
          walk_at "e"
          exact go _ _ ⟨y ++ "z", ⟨lowa hcut.1 lz, by rw [len_app]; omega⟩, Fr.refl, hB5, rfl⟩
        · obtain ⟨k, e9⟩ : ∃ k : Nat, (z.length : Int) - 1 = (k : Int) := ⟨z.length - 1, by omega⟩
          rw [e9]
          refine sv_str (sz30 (by omega)) ?_
          have hcut := lowt k hz.1
          generalize cutS z none (some (k : Int)) = y at hcut ⊢
          walk_at "e"
          refine ov_adds (sz30 (by omega)) ?_
          walk_at "e"
          exact go _ _ ⟨y ++ "z", ⟨lowa hcut.1 lz, by rw [len_app]; omega⟩, Fr.refl, hB5, rfl⟩
      walk_at "e"
      walk_at "e0"
      refine ite2 (fun e => ?_) (fun e => ?_)
      · walk_at "e0"
        refine re_call c dT (by decide) (by walk_at "gm") ?_
        walk_at "e"
        refine ⟨b, 8, rfl, hB5, by decide, by decide, fun x H7 x0 x1 f7 hB7 => ?_⟩
        walk_at "e"
        obtain ⟨k, e9⟩ : ∃ k : Nat, 1 + x = (k : Int) := ⟨(1 + x).toNat, by omega⟩
        rw [e9]
        have l8 : Low ("zzzzzzzz" : Str) := fun ch hc => by
          have : ("zzzzzzzz" : Str).cps.toList = [122, 122, 122, 122, 122, 122, 122, 122] := by decide +kernel
          rw [this] at hc
          simp only [List.mem_cons, List.not_mem_nil, or_false, or_self] at hc
          rw [hc]
          exact ⟨by decide, by decide⟩
        refine sv_str (by decide) ?_
        have hcut := lowt k l8
        generalize cutS "zzzzzzzz" none (some (k : Int)) = y at hcut ⊢
        walk_at "e"
        exact go _ _ ⟨y, ⟨hcut.1, by omega⟩, f7, hB7, rfl⟩
      · walk_at "e0"
        refine re_call c dL (by decide) (by walk_at "gm") ?_
        walk_at "e"
        refine ⟨b, rfl, hB5, fun v d H7 hd dv f7 hB7 => ?_⟩
        obtain ⟨y, rfl, hy⟩ := hd
        obtain rfl := dt_str_inv dv
        walk_at "e"
        exact go _ _ ⟨y, hy, f7, hB7, rfl⟩
  · rintro σ H4 ⟨f4, hB4, ls, z, s5, s6, hll, hls, hz, hL4, rfl⟩
    walk_at "e0"
    refine ⟨by show 0 ≤ sizeLine; decide, fun F hF => ?_⟩
    have nF : ¬ F = b := hB4.ne hF
    have nFL : ¬ F = L := fun z => by rw [z, hL4] at hF; cases hF
    walk_at "e"
    have f5 : Fr (· = b) H (upd H4 F (.lst [])) := f4.trans (Fr.new hF)
    have hL5 : upd H4 F (.lst []) L = some (.lst (ls.map V.str)) := by rw [upd_ne (fun z => nFL z.symm)]; exact hL4
    have hF5 : upd H4 F (.lst []) F = some (.lst []) := upd_same
    have hB5 : BoxAt (upd H4 F (.lst [])) b := hB4.fr (Fr.new hF)
    generalize upd H4 F (.lst []) = H5 at f5 hL5 hF5 hB5 ⊢
    refine rb_cons ?_
    refine rs_for_list c (by walk_at "gm") .loc (by walk_at "gm") ?_
    refine re_c_sorted c (by walk_at "gm") zs ?_
    walk_at "e"
    refine lv_sortedS (SqL.of hL5) (by omega) fun ss S hp hS => ?_
    have nS : ¬ S = b := hB5.ne hS
    have nSF : ¬ S = F := fun z => by rw [z, hF5] at hS; cases hS
    have f6 : Fr (· = b) H (upd H5 S (.lst (ss.map V.str))) := f5.trans (Fr.new hS)
    have hB6 : BoxAt (upd H5 S (.lst (ss.map V.str))) b := hB5.fr (Fr.new hS)
    have hF6 : upd H5 S (.lst (ss.map V.str)) F = some (.lst []) := by rw [upd_ne (fun z => nSF z.symm)]; exact hF5
    have hS6 : upd H5 S (.lst (ss.map V.str)) S = some (.lst (ss.map V.str)) := upd_same
    generalize upd H5 S (.lst (ss.map V.str)) = H6 at f6 hB6 hF6 hS6 ⊢
    have hss : ∀ l ∈ ss, Low8 l := fun l hl => hls l (hp.mem_iff.mp hl)
    have lss : ss.length = ls.length := hp.length_eq
    have HFr : ∀ {H' : Hp}, H' F = some (.lst []) → True := fun _ => trivial
    refine ⟨S, _, rfl, SqL.of hS6, fun j σ H' => Fr (fun a => a = b ∨ a = F) H6 H' ∧ BoxAt H' b ∧ ∃ (us : List V) (rs : List Row) (s5 s6 s8 : Option V), rs.length = j ∧ (∀ r ∈ rs, RowOk r) ∧ H' F = some (.lst us) ∧ Dts X.K (fun a => a = b ∨ a = F) H' us (rs.map rowD) ∧ σ = [some (.ref b), some (.int m), some (.ref L), some (.str z), s5, s6, some (.ref F), s8, none],
      ⟨Fr.refl, hB6, [], [], s5, s6, none, rfl, (fun _ h => by cases h), hF6, Dts.nil, rfl⟩, fun j σ H' _ h => SqL.of (h.1 _ _ (fun z => by rcases z with z | z; exact nS z; exact nSF z) hS6), ?_, ?_⟩
    · rintro j y σ H7 hj hy ⟨f7, hB7, us, rs, s5, s6, s8, hrl, hrs, hF7, hus, rfl⟩
      obtain ⟨l, e1, rfl⟩ : ∃ z, ss[j]? = some z ∧ y = .str z := by
        rw [List.getElem?_map] at hy
        cases e : ss[j]? with
        | none => rw [e] at hy; cases hy
        | some z => rw [e] at hy; exact ⟨z, rfl, (Option.some.inj hy).symm⟩
      have hl := hss l (List.mem_of_getElem? e1)
      have hj2 : j < ss.length := by simpa using hj
      have lus : us.length = j := by rw [hus.1, List.length_map, hrl]
      refine ⟨_, by walk_at "gs", ?_⟩
      refine rb_cons (rs_app c (by walk_at "gm") .loc (by walk_at "gs") hF7 ?_)
      have fin : ∀ (u : V) (d : D) (bs : List Int) H8, Ent1 d bs → Dt X.K (fun a => a = b ∨ a = F) H8 u d → Fr (fun a => a = b ∨ a = F) H7 H8 → H8 F = some (.lst us) → BoxAt H8 b → ∀ p, H8 p = none → ∃ xs', upd H8 p (.tup [.str l, u]) F = some (.lst xs') ∧ xs'.length < sizeLine ∧
          (Fr (fun a => a = b ∨ a = F) H6 (upd (upd H8 p (.tup [.str l, u])) F (.lst (xs' ++ [.ref p]))) ∧ BoxAt (upd (upd H8 p (.tup [.str l, u])) F (.lst (xs' ++ [.ref p]))) b ∧ ∃ (us : List V) (rs : List Row) (s5' s6' s8' : Option V), rs.length = j + 1 ∧ (∀ r ∈ rs, RowOk r) ∧ upd (upd H8 p (.tup [.str l, u])) F (.lst (xs' ++ [.ref p])) F = some (.lst us) ∧
            Dts X.K (fun a => a = b ∨ a = F) (upd (upd H8 p (.tup [.str l, u])) F (.lst (xs' ++ [.ref p]))) us (rs.map rowD) ∧ [some (.ref b), some (.int m), some (.ref L), some (.str z), s5, s6, some (.ref F), some (V.str l), none] = [some (.ref b), some (.int m), some (.ref L), some (.str z), s5', s6', some (.ref F), s8', none]) := by
        intro u d bs H8 hE hu f8 hF8 hB8 p hp
        have np : ¬ p = F := fun z => by rw [z, hF8] at hp; cases hp
        have npb : ¬ p = b := hB8.ne hp
        have g : Fr (fun a => a = b ∨ a = F) H8 (upd H8 p (.tup [.str l, u])) := Fr.new hp
        have g2 : Fr (fun a => a = b ∨ a = F) (upd H8 p (.tup [.str l, u])) (upd (upd H8 p (.tup [.str l, u])) F (.lst (us ++ [.ref p]))) := fun a o n e => by rw [upd_ne (fun z => n (.inr z))]; exact e
        have nb : ¬ p = b ∧ ¬ p = F := ⟨npb, np⟩
        refine ⟨us, by rw [upd_ne (fun z => np z.symm)]; exact hF8, by rw [lus]; exact Nat.lt_of_le_of_lt (show j ≤ 64 by omega) (by decide), (f7.trans f8).trans (g.trans g2), ?_, us ++ [.ref p], rs ++ [(l, d, bs)], s5, s6, some (V.str l), by rw [List.length_append, List.length_singleton, hrl], ?_, upd_same, ?_, rfl⟩
        · exact (hB8.put npb).put (fun z => nF z)
        · intro r hr
          rcases List.mem_append.mp hr with hr | hr
          · exact hrs r hr
          · rw [List.mem_singleton.mp hr]
            exact ⟨hl.l, hE⟩
        · rw [List.map_append]
          refine dts_app (hus.fr (f8.trans (g.trans g2))) (.cons ?_ .nil)
          exact (Dt.newT hp (fun z => by rcases z with z | z; exact npb z; exact np z) (.cons .str (.cons hu .nil))).fr g2
      have ob : ∀ {H1 H2 : Hp}, Fr (· = b) H1 H2 → Fr (fun a => a = b ∨ a = F) H1 H2 := fun f => f.sub fun a h => .inl h
      walk_at "e"
      refine re_call c dT (by decide) (by walk_at "gm") ?_
      walk_at "e"
      refine ⟨b, 2, rfl, hB7, by decide, by decide, fun w H8 w0 w1 f8 hB8 => ?_⟩
      have hF8 := f8 _ _ nF hF7
      walk_at "e"
      refine ite2 (fun e => ?_) (fun e => ?_)
      · walk_at "e"
        refine re_call c dN (by decide) (by walk_at "gm") ?_
        walk_at "e"
        refine ⟨b, rfl, hB8, fun k H9 k0 k1 f9 hB9 => ?_⟩
        obtain ⟨k, rfl, wk⟩ := nat_of k0 k1
        have hF9 := f9 _ _ nF hF8
        walk_at "e"
        refine ⟨by show 2 ≤ sizeLine; decide, fun p hp => ?_⟩
        have np : ¬ p = F := fun z => by rw [z, hF9] at hp; cases hp
        have npb : ¬ p = b := hB9.ne hp
        walk_at "e"
        refine ⟨by show 2 ≤ sizeLine; decide, fun p2 hp2 => ?_⟩
        obtain ⟨xs', a1, a2, a3⟩ := fin (.ref p) _ _ (upd H9 p (.tup [.str "value", .int (k : Int)])) (.val k wk) (Dt.newT hp (fun z => by rcases z with z | z; exact npb z; exact np z) (.cons .str (.cons .int .nil))) ((ob (f8.trans f9)).trans (Fr.new hp)) (by rw [upd_ne (fun z => np z.symm)]; exact hF9) (hB9.fr (Fr.new hp)) p2 hp2
        refine ⟨xs', a1, a2, ?_⟩
        walk_at "e"
        exact a3
      · walk_at "e"
        refine re_call c dM (by decide) (by walk_at "gm") ?_
        walk_at "e"
        refine ⟨b, 2, rfl, by decide, by decide, hB8, fun v d H9 hd dv f9 hB9 => ?_⟩
        obtain ⟨bs, hN⟩ := hd
        have hF9 := f9 _ _ nF hF8
        walk_at "e"
        refine ⟨by show 2 ≤ sizeLine; decide, fun p hp => ?_⟩
        have np : ¬ p = F := fun z => by rw [z, hF9] at hp; cases hp
        have npb : ¬ p = b := hB9.ne hp
        walk_at "e"
        refine ⟨by show 2 ≤ sizeLine; decide, fun p2 hp2 => ?_⟩
        have dv2 : Dt X.K (fun a => a = b ∨ a = F) H9 v d := by
          cases hN with
          | mk zs hz lz =>
            obtain ⟨t, rfl, nt, ht⟩ := dt_strs dv
            exact Dt.ofT (fun z => by rcases z with z | z; exact nt z; (rw [z, hF9] at ht; cases ht)) ht (dts_strs zs)
        obtain ⟨xs', a1, a2, a3⟩ := fin (.ref p) _ _ (upd H9 p (.tup [.str "name", v])) (.nm hN) (Dt.newT hp (fun z => by rcases z with z | z; exact npb z; exact np z) (.cons .str (.cons dv2 .nil))) ((ob (f8.trans f9)).trans (Fr.new hp)) (by rw [upd_ne (fun z => np z.symm)]; exact hF9) (hB9.fr (Fr.new hp)) p2 hp2
        refine ⟨xs', a1, a2, ?_⟩
        walk_at "e"
        exact a3
    · rintro σ H7 ⟨f7, hB7, us, rs, s5, s6, s8, hrl, hrs, hF7, hus, rfl⟩
      rw [List.length_map] at hrl
      have f8 : Fr (· = b) H H7 := fun a u na ea => by
        refine f7 a u (fun z => ?_) (f6 a u na ea)
        rcases z with z | z
        · exact na z
        · subst z
          have := f4 _ _ na ea
          rw [hF] at this
          cases this
      walk_at "e0"
      refine lv_tupL (SqL.of hF7) fun l hl => ?_
      have nl : ¬ l = F := fun z => by rw [z, hF7] at hl; cases hl
      refine q _ rs _ hrs (by omega) ((Dt.newT hl (fun z => by rcases z with z | z; exact hB7.ne hl z; exact nl z) hus).mono fun a h => .inl h) (f8.trans (Fr.new hl)) (hB7.fr (Fr.new hl))
end
local macro_rules | `(tactic| walk_at "its") => `(tactic| repeat (first | exact ItL.nil | refine ItL.cons (fun _ _ => rfl) (it_de (by walk_at "de") (pz (by decide))) ?_))
local macro_rules | `(tactic| walk_at "gg") => `(tactic| repeat (first | walk_at "g1" | refine iteD rfl ?_ | refine iteDN (by decide +kernel) ?_))
theorem enc_01 {d : D} (h : ER (EncI 0) d) : ER (EncI 1) d := by
  obtain ⟨bs, h⟩ := h
  cases h with
  | mk a b c hb hc => exact ⟨_, .mk a b c hb hc⟩
theorem enc_0n {d : D} (h : ER (EncI 0) d) : d ≠ .non := by
  obtain ⟨bs, h⟩ := h
  cases h with
  | mk a b c hb hc => exact fun z => nomatch z
def spWords : Sp := fun vs H Q _ => ∃ (j : Nat) (k : Str) (ws : List Str), vs = [.int (j : Int)] ∧ kindTab[j]? = some (k, ws) ∧ ∀ l H', Fr NoB H H' → H' l = some (.lst (ws.map V.str)) → Q (.ref l) H'
def spKinds : Sp := fun vs H Q _ => vs = [] ∧ ∀ l, H l = none → Q (.ref l) (upd H l (.lst (KINDSL.map V.str)))
def spPiece (K : PySem.W.Frag) : Sp := fun vs H Q _ => ∃ (b : Addr) (w : Str) (m : Int), vs = [.ref b, .str w, .int m] ∧ w ∈ WORDS ∧ 0 < m ∧ m ≤ 6 ∧ BoxAt H b ∧ ∀ v d H', ER (EncP w) d → Dt K (· = b) H' v d → Fr (· = b) H H' → BoxAt H' b → Q v H'
def spEvent (K : PySem.W.Frag) : Sp := fun vs H Q _ => ∃ (b : Addr) (j : Nat) (m : Int), vs = [.ref b, .int (j : Int), .int m] ∧ j < 11 ∧ 0 < m ∧ m ≤ 6 ∧ BoxAt H b ∧ ∀ v d H', ER EncV d → Dt K (· = b) H' v d → Fr (· = b) H H' → BoxAt H' b → Q v H'
section
variable {X : Cx} {vs : List V} {H : Hp} {Q : VK} {E : XK}
theorem body_entry (c : Ctx X nq_entry lq_entry 5) (dT : DT X "_law_take" ["box", "many"] 1 spTake) (dP : DT X "_law_pick" ["box", "some"] 2 (spPick X.K)) (dN : DT X "_law_number" ["box"] 3 spNum) (dM : DT X "_law_name" ["box", "most"] 4 (spDrM (ER EncN) X.K))
    (dR : DT X "_law_rows" ["box", "most"] 5 (spRows X.K)) (h : spDrM (ER EncE) X.K vs H Q E) : RB X (defBody sq_entry) { nx := fun _ H' => Q .non H', rt := Q } (start nq_entry vs) H := by
  obtain ⟨b, m, rfl, m0, m12, hB, q⟩ := h
  show RB X (defBody sq_entry) _ [some (.ref b), some (.int m), none] H
  walk_at "e0"
  refine re_call c dT (by decide) (by walk_at "gm") ?_
  walk_at "e"
  refine ⟨b, 4, rfl, hB, by decide, by decide, fun w H1 w0 w1 f1 hB1 => ?_⟩
  walk_at "e"
  walk_at "e0"
  refine ite2 (fun e => ?_) (fun e => ?_)
  · walk_at "e0"
    exact q _ .non _ ⟨_, .non⟩ .non f1 hB1
  walk_at "e"
  walk_at "e0"
  refine ite2 (fun e => ?_) (fun e => ?_)
  · walk_at "e0"
    refine re_pickI (P := PZ 0 (2 ^ 31 - 1)) c (by decide) dP (by walk_at "gm") (by walk_at "gm") .loc (by walk_at "gs") hB1 (by
      walk_at "its"
      exact .cons (fun _ _ => rfl) (it_num (by decide) (by decide) c (by decide) dN (by walk_at "gm") (by walk_at "gm") .loc (by walk_at "gs")) .nil) (by decide) (by decide) fun v d H2 hd dv f2 hB2 => ?_
    obtain ⟨i, rfl, i0, i1⟩ := hd
    obtain rfl := dt_int_inv dv
    obtain ⟨k, rfl, wk⟩ := nat_of i0 (by omega)
    walk_at "e"
    refine ⟨by show 2 ≤ sizeLine; decide, fun p hp => ?_⟩
    exact q _ _ _ ⟨_, .one (.val k wk)⟩ (Dt.newT hp (hB2.ne hp) (.cons .str (.cons .int .nil))) ((f1.trans f2).trans (Fr.new hp)) (hB2.fr (Fr.new hp))
  walk_at "e"
  walk_at "e0"
  refine ite2 (fun e => ?_) (fun e => ?_)
  · walk_at "e0"
    refine re_call c dM (by decide) (by walk_at "gm") ?_
    walk_at "e"
    refine ⟨b, m, rfl, m0, m12, hB1, fun v d H2 hd dv f2 hB2 => ?_⟩
    obtain ⟨bs, hN⟩ := hd
    walk_at "e"
    refine ⟨by show 2 ≤ sizeLine; decide, fun p hp => ?_⟩
    exact q _ _ _ ⟨_, .one (.nm hN)⟩ (Dt.newT hp (hB2.ne hp) (.cons .str (.cons dv .nil))) ((f1.trans f2).trans (Fr.new hp)) (hB2.fr (Fr.new hp))
  walk_at "e"
  walk_at "e0"
  refine re_call c dT (by decide) (by walk_at "gm") ?_
  walk_at "e"
  refine ⟨b, 32, rfl, hB1, by decide, by decide, fun i H2 i0 i1 f2 hB2 => ?_⟩
  walk_at "e"
  refine re_call c dR (by decide) (by walk_at "gm") ?_
  walk_at "e"
  refine ⟨b, m, rfl, m0, m12, hB2, fun v rs H3 hrs lrs dv f3 hB3 => ?_⟩
  walk_at "e"
  refine ⟨by show 3 ≤ sizeLine; decide, fun p hp => ?_⟩
  exact q _ _ _ ⟨_, .page i rs hrs lrs⟩ (Dt.newT hp (hB3.ne hp) (.cons .str (.cons .int (.cons dv .nil)))) (((f1.trans f2).trans f3).trans (Fr.new hp)) (hB3.fr (Fr.new hp))
theorem body_answer (c : Ctx X nq_answer lq_answer 5) (zr : X.mg "range" = none) (zt : X.mg "tuple" = none) (dT : DT X "_law_take" ["box", "many"] 1 spTake) (dP : DT X "_law_pick" ["box", "some"] 2 (spPick X.K)) (dN : DT X "_law_number" ["box"] 3 spNum) (dI : DT X "_law_id" ["box"] 4 (spDr (ER (EncI 0)) X.K)) (dM : DT X "_law_name" ["box", "most"] 4 (spDrM (ER EncN) X.K))
    (h : spDrM (ER EncA) X.K vs H Q E) : RB X (defBody sq_answer) { nx := fun _ H' => Q .non H', rt := Q } (start nq_answer vs) H := by
  obtain ⟨b, m, rfl, m0, m12, hB, q⟩ := h
  show RB X (defBody sq_answer) _ [some (.ref b), some (.int m), none, none] H
  refine rb_cons (rs_set c (by walk_at "gm") .loc (by walk_at "gm") ?_)
  refine re_pickI (P := ER EncH) c (by decide) dP (by walk_at "gm") (by walk_at "gm") .cell (by walk_at "gs") hB
    (.cons (fun _ _ => rfl) ?_ (.cons (fun _ _ => rfl) (it_de (d := .tup [.str "nothing"]) (by walk_at "de") ⟨_, .nothing⟩) (.cons (fun _ _ => rfl) (it_de (d := .tup [.str "long"]) (by walk_at "de") ⟨_, .long⟩) (.cons (fun _ _ => rfl) (it_de (d := .tup [.str "far"]) (by walk_at "de") ⟨_, .far⟩) (.cons (fun _ _ => rfl) ?_ (.cons (fun _ _ => rfl) (it_de (d := .tup [.str "page", .int 31, .tup []]) (by walk_at "de") ⟨_, .page 31 .emp (fun z => nomatch z)⟩) .nil)))))) (by decide) (by decide) fun v d H1 hd dv f1 hB1 => ?_
  · intro H3 K f hB3 k
    walk_at "e"
    refine re_call c dN (by decide) (by walk_at "gm") ?_
    walk_at "e"
    refine ⟨b, rfl, hB3, fun i H4 i0 i1 f4 hB4 => ?_⟩
    obtain ⟨n, rfl, wn⟩ := nat_of i0 i1
    walk_at "e"
    exact ⟨by show 2 ≤ sizeLine; decide, fun p hp => k _ (.tup [.str "value", .int (n : Int)]) _ ⟨_, .value n wn⟩ (f4.trans (Fr.new hp)) (hB4.fr (Fr.new hp)) (Dt.newT hp (hB4.ne hp) (.cons .str (.cons .int .nil)))⟩
  · intro H3 K f hB3 k
    walk_at "e"
    refine re_call c dT (by decide) (by walk_at "gm") ?_
    walk_at "e"
    refine ⟨b, 32, rfl, hB3, by decide, by decide, fun i H4 i0 i1 f4 hB4 => ?_⟩
    walk_at "e"
    refine re_call c dI (by decide) (by walk_at "gm") ?_
    walk_at "e"
    refine ⟨b, rfl, hB4, fun v d H5 hd dv f5 hB5 => ?_⟩
    obtain ⟨bs, h1⟩ := enc_01 hd
    walk_at "e"
    exact ⟨by show 3 ≤ sizeLine; decide, fun p hp => k _ (.tup [.str "page", .int i, d]) _ ⟨_, .page i (.id h1) (enc_0n hd)⟩ ((f4.trans f5).trans (Fr.new hp)) (hB5.fr (Fr.new hp)) (Dt.newT hp (hB5.ne hp) (.cons .str (.cons .int (.cons dv .nil))))⟩
  obtain ⟨hb, hH⟩ := hd
  refine ⟨_, by walk_at "gs", ?_⟩
  walk_at "e0"
  refine re_lc_range c lq_answer_c0 (by decide +kernel) (by walk_at "gm") zr ?_
  refine re_call c dT (by decide) (by walk_at "gm") ?_
  walk_at "e"
  refine ⟨b, m + 1, rfl, hB1, by omega, by omega, fun x H2 x0 x1 f2 hB2 => ?_⟩
  have ff := f1.trans f2
  refine ⟨x, rfl, by omega, by omega, fun Dn hD => ?_⟩
  refine ⟨fun i H' => ∃ (us : List V) (ns : List (D × List Int)), ns.length = i ∧ (∀ n ∈ ns, EncN n.1 n.2) ∧ H' Dn = some (.lst us) ∧ Dts X.K (fun a => a = b ∨ a = Dn) H' us (ns.map (·.1)) ∧ BoxAt H' b ∧ Fr (· = b) H2 H', ⟨[], [], rfl, (fun _ h => by cases h), upd_same, Dts.nil, hB2.fr (Fr.new hD), Fr.new hD⟩, fun _ _ _ _ => trivial, ?_, ?_⟩
  · rintro i y H' hi rfl ⟨us, ns, h1, h2, h3, hus, h4, h5⟩
    refine ⟨_, by walk_at "gs", fun s Hb C cl fp cb => rts_nil (iteT fun s Hb C cl fp cb => ?_)⟩
    refine re_call cb dM (by decide) (by walk_at "gm") ?_
    walk_at "e"
    refine ⟨b, 2, rfl, by decide, by decide, h4, fun v d H'' hd dv f5 hB5 => ?_⟩
    obtain ⟨bs, hN⟩ := hd
    have e : Dn ≠ b := hB2.ne hD
    have lus : us.length = i := by rw [hus.1, List.length_map, h1]
    have hD5 := f5 _ _ e h3
    have dv2 : Dt X.K (fun a => a = b ∨ a = Dn) H'' v d := by
      cases hN with
      | mk zs hz lz =>
        obtain ⟨t, rfl, nt, ht⟩ := dt_strs dv
        exact Dt.ofT (fun z => by rcases z with z | z; exact nt z; (rw [z, hD5] at ht; cases ht)) ht (dts_strs zs)
    refine ⟨_, hD5, by rw [lus]; exact Nat.lt_of_le_of_lt (by omega : i ≤ 20) (by decide), us ++ [v], ns ++ [(d, bs)], by simp [h1], ?_, upd_same, ?_, hB5.put e, ?_⟩
    · intro c hc
      rcases List.mem_append.mp hc with hc | hc
      · exact h2 c hc
      · rw [List.mem_singleton.mp hc]
        exact hN
    · rw [List.map_append]
      have g2 : Fr (fun a => a = b ∨ a = Dn) H'' (upd H'' Dn (.lst (us ++ [v]))) := fun a o n e => by rw [upd_ne (fun z => n (.inr z))]; exact e
      exact dts_app (hus.fr ((f5.sub fun a h => .inl h).trans g2)) (.cons (dv2.fr g2) .nil)
    · exact fun a u na ea => by
        rw [upd_ne (fun z => by rw [z, hD] at ea; cases ea)]
        exact (h5.trans f5) a u na ea
  · rintro H' ⟨us, ns, h1, h2, h3, hus, h4, h5⟩
    walk_at "e"
    refine lv_tupL (SqL.of h3) fun l hl => ?_
    have nl := h4.ne hl
    have hl2 := Dt.newT (B := (· = b)) hl nl (hus.mono fun a h => .inl h)
    have g1 : Fr NoB H' (upd H' l (.tup us)) := Fr.new hl
    have hB9 := h4.fr g1
    generalize upd H' l (.tup us) = H9 at g1 hl2 hB9 ⊢
    walk_at "e"
    refine ⟨by show 2 ≤ sizeLine; decide, fun p hp => ?_⟩
    have dv9 : Dt X.K (· = b) H9 v d := ((dv.fr f2).fr h5).fr g1.any
    exact q _ (.tup [d, .tup (ns.map (·.1))]) _ ⟨_, .mk ns hH h2 (by omega)⟩ (Dt.newT hp (hB9.ne hp) (.cons dv9 (.cons hl2 .nil))) (((ff.trans h5).trans g1.any).trans (Fr.new hp)) (hB9.fr (Fr.new hp))
theorem body_kinds (c : Ctx X nq_kinds lq_kinds 0) (h : spKinds vs H Q E) : RB X (defBody sq_kinds) { nx := fun _ H' => Q .non H', rt := Q } (start nq_kinds vs) H := by
  obtain ⟨rfl, q⟩ := h
  show RB X (defBody sq_kinds) _ [] H
  walk_at "e0"
  exact ⟨by show 11 ≤ sizeLine; decide, fun p hp => q p hp⟩
theorem body_words (c : Ctx X nq_words lq_words 0) (h : spWords vs H Q E) : RB X (defBody sq_words) { nx := fun _ H' => Q .non H', rt := Q } (start nq_words vs) H := by
  obtain ⟨j, k, ws, rfl, hj, q⟩ := h
  show RB X (defBody sq_words) _ [some (.int (j : Int)), none, none] H
  refine rb_cons (rs_set c (by walk_at "gm") .loc (by walk_at "gm") ?_)
  refine re_de (d := .lst [.str "term", .str "node"]) (by walk_at "de") _ _ _ fun v1 H1 f1 hv1 => ?_
  refine ⟨_, by walk_at "gs", ?_⟩
  refine rb_cons (rs_set c (by walk_at "gm") .loc (by walk_at "gm") ?_)
  refine re_de (d := .lst [.lst [.str "kept"], .lst [], .lst [.str "node"], .lst [.str "id"], .lst [.str "term", .str "label", .str "entry"], .lst [.str "term", .str "label", .str "fraction", .str "node"], .lst [.str "id", .str "node"], .lst [.str "id"]]) (by walk_at "de") _ _ _ fun v2 H2 f2 hv2 => ?_
  refine ⟨_, by walk_at "gs", ?_⟩
  have hv1' := (hv1.mono (B' := NoB) fun a e => e.elim).fr f2
  have hv2' := hv2.mono (B' := NoB) fun a e => e.elim
  cases hv2' with
  | @lst a2 us2 _ n2 t2 l2 h2 =>
  walk_at "e0"
  refine ⟨by show 3 ≤ sizeLine; decide, fun p3 hp3 => ?_⟩
  have f3 : Fr NoB H2 (upd H2 p3 (.lst [.str "name", .str "most", .str "answer"])) := Fr.new hp3
  have hv3 : Dt X.K NoB (upd H2 p3 (.lst [.str "name", .str "most", .str "answer"])) (.ref p3) (.lst [.str "name", .str "most", .str "answer"]) := Dt.newL hp3 (fun z => z) (.cons .str (.cons .str (.cons .str .nil)))
  generalize upd H2 p3 (.lst [.str "name", .str "most", .str "answer"]) = H3 at f3 hv3 ⊢
  walk_at "e"
  refine ⟨by show 2 ≤ sizeLine; decide, fun p4 hp4 => ?_⟩
  have f4 : Fr NoB H3 (upd H3 p4 (.lst [.str "name", .str "most"])) := Fr.new hp4
  have hv4 : Dt X.K NoB (upd H3 p4 (.lst [.str "name", .str "most"])) (.ref p4) (.lst [.str "name", .str "most"]) := Dt.newL hp4 (fun z => z) (.cons .str (.cons .str .nil))
  generalize upd H3 p4 (.lst [.str "name", .str "most"]) = H4 at f4 hv4 ⊢
  walk_at "e"
  refine ⟨by show 3 ≤ sizeLine; decide, fun p hp => ?_⟩
  have f5 : Fr NoB H4 (upd H4 p (.lst [v1, .ref p3, .ref p4])) := Fr.new hp
  have h24 : upd H4 p (.lst [v1, .ref p3, .ref p4]) a2 = some (.lst us2) := (f3.trans (f4.trans f5)) _ _ (fun z => z) t2
  have lu : us2.length = 8 := l2
  refine ov_cat h24 upd_same (by rw [lu]; show 8 + 3 ≤ sizeLine; decide) fun l hl => ?_
  have all : Dts X.K NoB (upd H4 p (.lst [v1, .ref p3, .ref p4])) (us2 ++ [v1, .ref p3, .ref p4]) (kindTab.map fun x => .lst (x.2.map D.str)) := by
    refine dts_app (ds := [.lst [.str "kept"], .lst [], .lst [.str "node"], .lst [.str "id"], .lst [.str "term", .str "label", .str "entry"], .lst [.str "term", .str "label", .str "fraction", .str "node"], .lst [.str "id", .str "node"], .lst [.str "id"]]) (es := [.lst [.str "term", .str "node"], .lst [.str "name", .str "most", .str "answer"], .lst [.str "name", .str "most"]]) ?_ ?_
    · exact Dts.fr ⟨l2, h2⟩ (f3.trans (f4.trans f5))
    · exact .cons (hv1'.fr (f3.trans (f4.trans f5))) (.cons ((hv3.mono (B' := NoB) fun a e => e.elim).fr (f4.trans f5)) (.cons ((hv4.mono (B' := NoB) fun a e => e.elim).fr f5) .nil))
  have f6 : Fr NoB (upd H4 p (.lst [v1, .ref p3, .ref p4])) (upd (upd H4 p (.lst [v1, .ref p3, .ref p4])) l (.lst (us2 ++ [v1, .ref p3, .ref p4]))) := Fr.new hl
  have la : (us2 ++ [v1, .ref p3, .ref p4]).length = 11 := by rw [List.length_append, lu]; rfl
  have hj2 : j < 11 := by
    rcases Nat.lt_or_ge j 11 with z | z
    · exact z
    · rw [List.getElem?_eq_none z] at hj; cases hj
  obtain ⟨u, eu⟩ : ∃ u, (us2 ++ [v1, .ref p3, .ref p4])[j]? = some u := ⟨_, List.getElem?_eq_getElem (by omega)⟩
  have hu := all.2 j u (.lst (ws.map D.str)) eu (by rw [List.getElem?_map, hj]; rfl)
  walk_at "e"
  refine iv_list (SqL.of upd_same) (at_nat eu) ?_
  cases hu with
  | @lst a vs' _ nn tt ll hh =>
    have e9 := dts_strs_inv (ls := ws) ⟨ll, hh⟩
    subst e9
    refine q a _ ?_ ?_
    · exact (((f1.trans f2).trans f3).trans (f4.trans f5)).trans f6
    · exact f6 _ _ (fun z => z) tt
end
local macro_rules | `(tactic| walk_at "its") => `(tactic| repeat (first | exact ItL.nil | refine ItL.cons (fun _ _ => rfl) (it_de (by walk_at "de") (pz (by decide))) ?_))
local macro_rules | `(tactic| walk_at "gg") => `(tactic| repeat (first | walk_at "g1" | refine iteD rfl ?_ | refine iteDN (by decide +kernel) ?_))
inductive NoL : D → Prop
  | non : NoL .non
  | int {i : Int} : NoL (.int i)
  | str {z : Str} : NoL (.str z)
  | tup {ds : List D} (h : ∀ d ∈ ds, NoL d) : NoL (.tup ds)
theorem nl_nil : ∀ d ∈ ([] : List D), NoL d := fun d h => by cases h
theorem nl_cons {x : D} {ds : List D} (h : NoL x) (t : ∀ d ∈ ds, NoL d) : ∀ d ∈ x :: ds, NoL d := fun d hd => by
  rcases List.mem_cons.mp hd with rfl | hd
  · exact h
  · exact t d hd
theorem dt_noL {K : PySem.W.Frag} {B : Addr → Prop} {H : Hp} {v : V} {d : D} {q : Addr} (h : Dt K B H v d) (n : NoL d) (hq : ∃ xs, H q = some (.lst xs)) : Dt K (fun a => B a ∨ a = q) H v d := by
  induction h with
  | non => exact .non
  | bl => exact .bl
  | int => exact .int
  | str => exact .str
  | lst n t l _ ih => cases n
  | tup nb t l _ ih =>
    cases n with
    | tup all =>
      refine .tup (fun z => ?_) t l fun i v d a b => ih i v d a b (all d (List.mem_of_getElem? b))
      rcases z with z | z
      · exact nb z
      · subst z
        obtain ⟨xs, hq⟩ := hq
        rw [hq] at t
        cases t
theorem nl_I {m : Int} {d : D} {bs : List Int} (h : EncI m d bs) : NoL d := by
  cases h with
  | mk a b c hb hc => exact .tup (nl_cons .int (nl_cons .int (nl_cons .int nl_nil)))
theorem nl_T {d : D} {bs : List Int} (h : EncT d bs) : NoL d := by
  cases h with
  | non => exact .non
  | emp => exact .tup nl_nil
  | id h => exact nl_I h
theorem nl_N {d : D} {bs : List Int} (h : EncN d bs) : NoL d := by
  cases h with
  | mk zs h l =>
    refine .tup fun d hd => ?_
    obtain ⟨z, _, rfl⟩ := List.mem_map.mp hd
    exact .str
theorem nl_F {d : D} {bs : List Int} (h : EncF d bs) : NoL d := by
  cases h with
  | mk n e hn he => exact .tup (nl_cons .int (nl_cons .int nl_nil))
theorem nl_1 {d : D} {bs : List Int} (h : Ent1 d bs) : NoL d := by
  cases h with
  | val k h => exact .tup (nl_cons .str (nl_cons .int nl_nil))
  | nm h => exact .tup (nl_cons .str (nl_cons (nl_N h) nl_nil))
theorem nl_E {d : D} {bs : List Int} (h : EncE d bs) : NoL d := by
  cases h with
  | non => exact .non
  | one h => exact nl_1 h
  | page i rs h l =>
    refine .tup (nl_cons .str (nl_cons .int (nl_cons (.tup fun d hd => ?_) nl_nil)))
    obtain ⟨r, hr, rfl⟩ := List.mem_map.mp hd
    exact .tup (nl_cons .str (nl_cons (nl_1 (h r hr).2) nl_nil))
theorem nl_H {d : D} {bs : List Int} (h : EncH d bs) : NoL d := by
  cases h with
  | value k h => exact .tup (nl_cons .str (nl_cons .int nl_nil))
  | page i h n => exact .tup (nl_cons .str (nl_cons .int (nl_cons (nl_T h) nl_nil)))
  | nothing => exact .tup (nl_cons .str nl_nil)
  | long => exact .tup (nl_cons .str nl_nil)
  | far => exact .tup (nl_cons .str nl_nil)
theorem nl_A {d : D} {bs : List Int} (h : EncA d bs) : NoL d := by
  cases h with
  | mk ns h g l =>
    refine .tup (nl_cons (nl_H h) (nl_cons (.tup fun d hd => ?_) nl_nil))
    obtain ⟨n, hn, rfl⟩ := List.mem_map.mp hd
    exact nl_N (g n hn)
theorem nl_P {w : Str} {d : D} {bs : List Int} (h : EncP w d bs) : NoL d := by
  cases h with
  | kept h => exact nl_T h
  | term h => exact nl_T h
  | node h => obtain ⟨i, rfl, rfl⟩ := h; exact .int
  | most h => obtain ⟨i, rfl, rfl⟩ := h; exact .int
  | id h => exact nl_I h
  | label h => obtain ⟨z, rfl, h, rfl⟩ := h; exact .str
  | entry h => exact nl_E h
  | fraction h => exact nl_F h
  | name h => exact nl_N h
  | answer h => exact nl_A h
theorem nl_V {d : D} {bs : List Int} (h : EncV d bs) : NoL d := by
  cases h with
  | mk j k ws ps hi hf hj l hp =>
    refine .tup (nl_cons (nl_I hi) (nl_cons (nl_F hf) (nl_cons (.tup (nl_cons .str fun d hd => ?_)) nl_nil)))
    obtain ⟨x, hx, rfl⟩ := List.mem_map.mp hd
    obtain ⟨m, hm⟩ := List.mem_iff_getElem?.mp hx
    have hm2 : m < ws.length := by
      rcases Nat.lt_or_ge m ps.length with z | z
      · omega
      · rw [List.getElem?_eq_none z] at hm; cases hm
    exact nl_P (hp m _ x (List.getElem?_eq_getElem hm2) hm)
section
variable {X : Cx} {vs : List V} {H : Hp} {Q : VK} {E : XK}
theorem body_piece (c : Ctx X nq_piece lq_piece 6) (dT : DT X "_law_take" ["box", "many"] 1 spTake) (dP : DT X "_law_pick" ["box", "some"] 2 (spPick X.K)) (dI : DT X "_law_id" ["box"] 4 (spDr (ER (EncI 0)) X.K)) (dL : DT X "_law_label" ["box"] 3 (spDr PL X.K)) (dF : DT X "_law_fraction" ["box"] 3 (spDr (ER EncF) X.K))
    (dM : DT X "_law_name" ["box", "most"] 4 (spDrM (ER EncN) X.K)) (dE : DT X "_law_entry" ["box", "most"] 6 (spDrM (ER EncE) X.K)) (dA : DT X "_law_answer" ["box", "most"] 6 (spDrM (ER EncA) X.K)) (h : spPiece X.K vs H Q E) :
    RB X (defBody sq_piece) { nx := fun _ H' => Q .non H', rt := Q } (start nq_piece vs) H := by
  obtain ⟨b, w, m, rfl, hw, m0, m6, hB, q⟩ := h
  have itI : ∀ {P : D → Prop} {σ : L2.St}, σ = [some (.ref b), some (.str w), some (.int m)] → (∀ d, ER (EncI 0) d → P d) → ∀ {p0 p1 p2 : Pos}, It X b σ H P (.Call (.Name "_law_id" p0) [.Name "box" p1] [] p2) := by
    rintro P σ rfl hP p0 p1 p2 H3 K f hB3 k
    refine re_call c dI (by decide) (by walk_at "gm") ?_
    walk_at "e"
    exact ⟨b, rfl, hB3, fun v d H4 hd dv f4 hB4 => k v d H4 (hP d hd) f4 hB4 dv⟩
  have idT : ∀ {d : D}, ER (EncI 0) d → ER EncT d := fun h => by
    obtain ⟨bs, h⟩ := enc_01 h
    exact ⟨bs, .id h⟩
  simp only [List.mem_cons, List.not_mem_nil, or_false] at hw
  rcases hw with rfl | rfl | rfl | rfl | rfl | rfl | rfl | rfl | rfl | rfl
  · show RB X (defBody sq_piece) _ [some (.ref b), some (.str "kept"), some (.int m)] H
    walk_at "e0"
    walk_at "gg"
    refine re_pickI (P := ER (EncP "kept")) c (by decide) dP (by walk_at "gm") (by walk_at "gm") .loc (by walk_at "gs") hB
      (.cons (fun _ _ => rfl) ?_ (.cons (fun _ _ => rfl) (itI rfl fun d hd => by obtain ⟨bs, h⟩ := idT hd; exact ⟨bs, .kept h⟩) .nil)) (by decide) (by decide) fun v d H2 hd dv f2 hB2 => q v d H2 hd dv f2 hB2
    intro H3 K f hB3 k
    walk_at "gg"
    exact k _ .non _ ⟨_, .kept .non⟩ Fr.refl hB3 .non
  · show RB X (defBody sq_piece) _ [some (.ref b), some (.str "node"), some (.int m)] H
    walk_at "e0"
    walk_at "gg"
    refine re_pickI (P := PZ 0 31) c (by decide) dP (by walk_at "gm") (by walk_at "gm") .loc (by walk_at "gs") hB (by
      walk_at "its"
      exact .cons (fun _ _ => rfl) (it_take (by decide) (by decide) (by decide) (by decide) c (by decide) dT (by walk_at "gm") (by walk_at "gm") .loc (by walk_at "gs")) .nil) (by decide) (by decide) fun v d H1 hd dv f1 hB1 => ?_
    obtain ⟨a, rfl, a0, a1⟩ := hd
    exact q _ _ _ ⟨_, .node ⟨a, rfl, rfl⟩⟩ dv f1 hB1
  · show RB X (defBody sq_piece) _ [some (.ref b), some (.str "id"), some (.int m)] H
    walk_at "e0"
    walk_at "gg"
    refine re_call c dI (by decide) (by walk_at "gm") ?_
    walk_at "e"
    exact ⟨b, rfl, hB, fun v d H1 hd dv f1 hB1 => by obtain ⟨bs, h⟩ := hd; exact q v d H1 ⟨bs, .id h⟩ dv f1 hB1⟩
  · show RB X (defBody sq_piece) _ [some (.ref b), some (.str "term"), some (.int m)] H
    walk_at "e0"
    walk_at "gg"
    refine re_pickI (P := ER (EncP "term")) c (by decide) dP (by walk_at "gm") (by walk_at "gm") .loc (by walk_at "gs") hB
      (.cons (fun _ _ => rfl) ?_ (.cons (fun _ _ => rfl) (itI rfl fun d hd => by obtain ⟨bs, h⟩ := idT hd; exact ⟨bs, .term h⟩) .nil)) (by decide) (by decide) fun v d H2 hd dv f2 hB2 => q v d H2 hd dv f2 hB2
    intro H3 K f hB3 k
    walk_at "gg"
    exact ⟨by show 0 ≤ sizeLine; decide, fun p hp => k _ (.tup []) _ ⟨_, .term .emp⟩ (Fr.new hp) (hB3.fr (Fr.new hp)) (Dt.newT hp (hB3.ne hp) .nil)⟩
  · show RB X (defBody sq_piece) _ [some (.ref b), some (.str "label"), some (.int m)] H
    walk_at "e0"
    walk_at "gg"
    refine re_call c dL (by decide) (by walk_at "gm") ?_
    walk_at "e"
    exact ⟨b, rfl, hB, fun v d H1 hd dv f1 hB1 => by obtain ⟨z, rfl, h⟩ := hd; exact q v _ H1 ⟨_, .label ⟨z, rfl, h.l, rfl⟩⟩ dv f1 hB1⟩
  · show RB X (defBody sq_piece) _ [some (.ref b), some (.str "entry"), some (.int m)] H
    walk_at "e0"
    walk_at "gg"
    refine re_call c dE (by decide) (by walk_at "gm") ?_
    walk_at "e"
    exact ⟨b, m, rfl, m0, by omega, hB, fun v d H1 hd dv f1 hB1 => by obtain ⟨bs, h⟩ := hd; exact q v d H1 ⟨bs, .entry h⟩ dv f1 hB1⟩
  · show RB X (defBody sq_piece) _ [some (.ref b), some (.str "fraction"), some (.int m)] H
    walk_at "e0"
    walk_at "gg"
    refine re_call c dF (by decide) (by walk_at "gm") ?_
    walk_at "e"
    exact ⟨b, rfl, hB, fun v d H1 hd dv f1 hB1 => by obtain ⟨bs, h⟩ := hd; exact q v d H1 ⟨bs, .fraction h⟩ dv f1 hB1⟩
  · show RB X (defBody sq_piece) _ [some (.ref b), some (.str "name"), some (.int m)] H
    walk_at "e0"
    walk_at "gg"
    refine re_call c dM (by decide) (by walk_at "gm") ?_
    walk_at "e"
    exact ⟨b, m, rfl, m0, by omega, hB, fun v d H1 hd dv f1 hB1 => by obtain ⟨bs, h⟩ := hd; exact q v d H1 ⟨bs, .name h⟩ dv f1 hB1⟩
  · show RB X (defBody sq_piece) _ [some (.ref b), some (.str "most"), some (.int m)] H
    walk_at "e0"
    walk_at "gg"
    refine re_call c dT (by decide) (by walk_at "gm") ?_
    walk_at "e"
    exact ⟨b, 9, rfl, hB, by decide, by decide, fun x H1 x0 x1 f1 hB1 => q _ (.int x) H1 ⟨_, .most ⟨x, rfl, rfl⟩⟩ .int f1 hB1⟩
  · show RB X (defBody sq_piece) _ [some (.ref b), some (.str "answer"), some (.int m)] H
    walk_at "e0"
    walk_at "gg"
    refine re_call c dA (by decide) (by walk_at "gm") ?_
    walk_at "gg"
    refine ov_fdiv (wide_div (b := 32) (by decide) (by decide) (by decide) (by decide)) ?_
    walk_at "e"
    exact ⟨b, _, rfl, by omega, by omega, hB, fun v d H1 hd dv f1 hB1 => by obtain ⟨bs, h⟩ := hd; exact q v d H1 ⟨bs, .answer h⟩ dv f1 hB1⟩
theorem body_event (c : Ctx X nq_event lq_event 7) (zt : X.mg "tuple" = none) (dW : DT X "_law_words" ["kind"] 1 spWords) (dK : DT X "_law_kinds" [] 1 spKinds) (dI : DT X "_law_id" ["box"] 4 (spDr (ER (EncI 0)) X.K)) (dF : DT X "_law_fraction" ["box"] 3 (spDr (ER EncF) X.K)) (dC : DT X "_law_piece" ["box", "word", "most"] 7 (spPiece X.K))
    (h : spEvent X.K vs H Q E) : RB X (defBody sq_event) { nx := fun _ H' => Q .non H', rt := Q } (start nq_event vs) H := by
  obtain ⟨b, j, m, rfl, hj, m0, m6, hB, q⟩ := h
  obtain ⟨⟨k, ws⟩, ej⟩ : ∃ x, kindTab[j]? = some x := ⟨_, List.getElem?_eq_getElem hj⟩
  obtain ⟨wl, ek, _⟩ := kind_bd ej
  have wsW : ∀ (i : Nat) w, ws[i]? = some w → w ∈ WORDS := by
    have key : kindTab.all (fun x => x.2.all fun w => decide (w ∈ WORDS)) = true := by decide +kernel
    intro i w hw
    have := List.all_eq_true.mp key _ (List.mem_of_getElem? ej)
    exact of_decide_eq_true (List.all_eq_true.mp this w (List.mem_of_getElem? hw))
  show RB X (defBody sq_event) _ [some (.ref b), some (.int (j : Int)), some (.int m), none, none] H
  refine rb_cons ?_
  refine rs_lc_list c lq_event_c0 (by decide +kernel) (by walk_at "gm") (by walk_at "gm") ?_
  refine re_call c dW (by decide) (by walk_at "gm") ?_
  walk_at "e"
  refine ⟨j, k, ws, rfl, ej, fun l H1 f1 hl => ?_⟩
  have hB1 := hB.fr f1
  have nl : ¬ l = b := fun z => by
    obtain ⟨g, r, hb, _⟩ := hB1
    rw [z, hb] at hl
    have e2 := Option.some.inj hl
    injection e2 with e2
    cases ws with
    | nil => cases e2
    | cons x t => injection e2 with e3 _; cases e3
  refine ⟨l, _, rfl, SqL.of hl, fun Dn hD => ?_⟩
  have nD := hB1.ne hD
  have nDl : ¬ Dn = l := fun z => by rw [z, hl] at hD; cases hD
  refine ⟨fun i H' => ∃ (us : List V) (ps : List (D × List Int)), ps.length = i ∧ (∀ (m : Nat) w x, ws[m]? = some w → ps[m]? = some x → EncP w x.1 x.2) ∧ H' Dn = some (.lst us) ∧ Dts X.K (fun a => a = b ∨ a = Dn) H' us (ps.map (·.1)) ∧ BoxAt H' b ∧ Fr (· = b) H1 H', ⟨[], [], rfl, (fun _ _ _ _ h => by simp at h), upd_same, Dts.nil, hB1.fr (Fr.new hD), Fr.new hD⟩, fun _ H' _ h => SqL.of (h.choose_spec.choose_spec.2.2.2.2.2 _ _ nl hl), ?_, ?_⟩
  · rintro i y H' hi hy ⟨us, ps, h1, h2, h3, hus, h4, h5⟩
    obtain ⟨w, ew, rfl⟩ : ∃ z, ws[i]? = some z ∧ y = .str z := by
      rw [List.getElem?_map] at hy
      cases e : ws[i]? with
      | none => rw [e] at hy; cases hy
      | some z => rw [e] at hy; exact ⟨z, rfl, (Option.some.inj hy).symm⟩
    refine ⟨_, by walk_at "gs", fun s Hb C cl fp cb => rts_nil (iteT fun s Hb C cl fp cb => ?_)⟩
    refine re_call cb dC (by decide) (by walk_at "gm") ?_
    walk_at "e"
    refine ⟨b, w, m, rfl, wsW i w ew, m0, m6, h4, fun v d H'' hd dv f5 hB5 => ?_⟩
    obtain ⟨bs, hP⟩ := hd
    have lus : us.length = i := by rw [hus.1, List.length_map, h1]
    have hD5 := f5 _ _ nD h3
    have dv2 := dt_noL dv (nl_P hP) ⟨_, hD5⟩
    refine ⟨_, hD5, by rw [lus]; exact Nat.lt_of_le_of_lt (by rw [List.length_map] at hi; omega : i ≤ 20) (by decide), us ++ [v], ps ++ [(d, bs)], by simp [h1], ?_, upd_same, ?_, hB5.put nD, ?_⟩
    · intro m w2 x hw hx
      rcases Nat.lt_or_ge m ps.length with z | z
      · rw [List.getElem?_append_left z] at hx
        exact h2 m w2 x hw hx
      · rw [List.getElem?_append_right z] at hx
        have e0 : m - ps.length = 0 := by
          rcases Nat.eq_zero_or_pos (m - ps.length) with e | e
          · exact e
          · rw [List.getElem?_eq_none (by show 1 ≤ _; omega)] at hx
            cases hx
        rw [e0] at hx
        have e1 : m = i := by omega
        rw [e1, ew] at hw
        cases hw
        cases hx
        exact hP
    · rw [List.map_append]
      have g2 : Fr (fun a => a = b ∨ a = Dn) H'' (upd H'' Dn (.lst (us ++ [v]))) := fun a o n e => by rw [upd_ne (fun z => n (.inr z))]; exact e
      exact dts_app (hus.fr ((f5.sub fun a h => .inl h).trans g2)) (.cons (dv2.fr g2) .nil)
    · exact fun a u na ea => by
        rw [upd_ne (fun z => by rw [z, hD] at ea; cases ea)]
        exact (h5.trans f5) a u na ea
  · rintro H' ⟨us, ps, h1, h2, h3, hus, h4, h5⟩
    rw [List.length_map] at h1
    refine ⟨_, by walk_at "gs", ?_⟩
    have ff : Fr (· = b) H H' := f1.any.trans h5
    walk_at "e0"
    refine re_call c dI (by decide) (by walk_at "gm") ?_
    walk_at "e"
    refine ⟨b, rfl, h4, fun vi di H2 hdi dvi f2 hB2 => ?_⟩
    obtain ⟨bi, hI⟩ := hdi
    walk_at "e"
    refine re_call c dF (by decide) (by walk_at "gm") ?_
    walk_at "e"
    refine ⟨b, rfl, hB2, fun vf df H3 hdf dvf f3 hB3 => ?_⟩
    obtain ⟨bf, hF⟩ := hdf
    have hD3 := (f2.trans f3) _ _ nD h3
    walk_at "e"
    refine re_call0 c dK (by decide) (by walk_at "gm") ⟨rfl, fun lk hlk => ?_⟩
    have f4 : Fr NoB H3 (upd H3 lk (.lst (KINDSL.map V.str))) := Fr.new hlk
    walk_at "e"
    refine iv_list (SqL.of upd_same) (at_nat (i := j) (v := .str k) (by rw [List.getElem?_map, ek]; rfl)) ?_
    walk_at "e"
    refine ⟨by show 1 ≤ sizeLine; decide, fun p hp => ?_⟩
    have f5 : Fr NoB (upd H3 lk (.lst (KINDSL.map V.str))) (upd (upd H3 lk (.lst (KINDSL.map V.str))) p (.lst [.str k])) := Fr.new hp
    have f6 := f4.trans f5
    have hp6 : upd (upd H3 lk (.lst (KINDSL.map V.str))) p (.lst [.str k]) p = some (.lst [.str k]) := upd_same
    generalize upd (upd H3 lk (.lst (KINDSL.map V.str))) p (.lst [.str k]) = H6 at f6 hp6 ⊢
    have hD6 := f6 _ _ (fun z => z) hD3
    have lus : us.length = ws.length := by rw [hus.1, List.length_map, h1]
    walk_at "e"
    refine ov_cat hp6 hD6 (by show 1 + us.length ≤ sizeLine; rw [lus]; exact Nat.le_trans (by omega : 1 + ws.length ≤ 5) (by decide)) fun l7 hl7 => ?_
    have f7 : Fr NoB H3 (upd H6 l7 (.lst ([.str k] ++ us))) := f6.trans (Fr.new hl7)
    have h7 : upd H6 l7 (.lst ([.str k] ++ us)) l7 = some (.lst ([.str k] ++ us)) := upd_same
    generalize upd H6 l7 (.lst ([.str k] ++ us)) = H7 at f7 h7 ⊢
    walk_at "e"
    refine lv_tupL (SqL.of h7) fun l8 hl8 => ?_
    have hB7 := hB3.fr f7
    have husb : Dts X.K (· = b) H7 us (ps.map (·.1)) := (((hus.mono fun a h => .inl h).fr f2).fr f3).fr f7.any
    have n8 := hB7.ne hl8
    have d8 := Dt.newT (B := (· = b)) hl8 n8 (Dts.cons (v := .str k) .str husb)
    have f8 : Fr NoB H7 (upd H7 l8 (.tup (.str k :: us))) := Fr.new hl8
    have hB8 := hB7.fr f8
    have e8 : ([V.str k] ++ us) = .str k :: us := rfl
    rw [e8]
    generalize upd H7 l8 (.tup (.str k :: us)) = H8 at f8 hB8 d8 ⊢
    walk_at "e"
    refine ⟨by show 3 ≤ sizeLine; decide, fun p9 hp9 => ?_⟩
    have g38 : Fr (· = b) H3 H8 := (f7.trans f8).any
    exact q _ _ _ ⟨_, .mk j k ws ps hI hF ej h1 h2⟩ (Dt.newT hp9 (hB8.ne hp9) (.cons ((dvi.fr f3).fr g38) (.cons (dvf.fr g38) (.cons d8 .nil)))) ((((ff.trans f2).trans f3).trans g38).trans (Fr.new hp9)) (hB8.fr (Fr.new hp9))
end
local macro_rules | `(tactic| walk_at "sq") => `(tactic| first | refine iteD rfl ?_ | refine iteDN (by decide +kernel) ?_)
local macro_rules | `(tactic| walk_at "gg") => `(tactic| repeat (first | walk_at "g1" | refine iteD rfl ?_ | refine iteDN (by decide +kernel) ?_))
def NL (H H' : Hp) (l : Addr) (bs : List Int) : Prop := Fr NoB H H' ∧ H' l = some (.lst (bs.map V.int))
def spGr : Sp := fun vs H Q _ => ∃ n : Nat, vs = [.int (n : Int)] ∧ WN n ∧ ∀ l H', NL H H' l (grp n) → Q (.ref l) H'
def spFm (R : D → List Int → Prop) (K : PySem.W.Frag) : Sp := fun vs H Q _ => ∃ (v : V) (d : D) (bs : List Int), vs = [v] ∧ Dt K NoB H v d ∧ R d bs ∧ ∀ l H', NL H H' l bs → Q (.ref l) H'
def spFI (K : PySem.W.Frag) : Sp := fun vs H Q _ => ∃ (v : V) (m : Int) (d : D) (bs : List Int), vs = [v, .int m] ∧ Dt K NoB H v d ∧ EncI m d bs ∧ ∀ l H', NL H H' l bs → Q (.ref l) H'
def spFP (K : PySem.W.Frag) : Sp := fun vs H Q _ => ∃ (w : Str) (v : V) (d : D) (bs : List Int), vs = [.str w, v] ∧ Dt K NoB H v d ∧ EncP w d bs ∧ ∀ l H', NL H H' l bs → Q (.ref l) H'
theorem NL.trans {H H1 H2 : Hp} {l : Addr} {bs : List Int} (f : Fr NoB H H1) (h : NL H1 H2 l bs) : NL H H2 l bs := ⟨f.trans h.1, h.2⟩
theorem sl {n : Nat} (h : n ≤ 99000) : n ≤ sizeLine := Nat.le_trans h (by decide)
/-- two lists of whole numbers, one behind the other -/
theorem ov_catI {X : Cx} {H0 H : Hp} {a b : Addr} {xs ys : List Int} {Q : VK} (f : Fr NoB H0 H) (ha : H a = some (.lst (xs.map V.int))) (hb : H b = some (.lst (ys.map V.int))) (hl : xs.length + ys.length ≤ 90000) (q : ∀ l H', NL H0 H' l (xs ++ ys) → Q (.ref l) H') :
    OpV X .Add (.ref a) (.ref b) H Q := ov_cat ha hb (by rw [List.length_map, List.length_map]; exact sl (by omega)) fun l hl => q l _ ⟨f.trans (Fr.new hl), by rw [upd_same, List.map_append]⟩
section
variable {X : Cx} {vs : List V} {H : Hp} {Q : VK} {E : XK}
theorem body_groups (c : Ctx X nq_groups lq_groups 0) (zr : X.mg "range" = none) (zi : X.mg "int" = none) (h : spGr vs H Q E) : RB X (defBody sq_groups) { nx := fun _ H' => Q .non H', rt := Q } (start nq_groups vs) H := by
  obtain ⟨n, rfl, wn, q⟩ := h
  have gl := grp_21 wn
  show RB X (defBody sq_groups) _ [some (.int (n : Int)), none, none] H
  walk_at "e0"
  refine ⟨by show 0 ≤ sizeLine; decide, fun F hF => ?_⟩
  walk_at "e"
  refine rb_cons ?_
  refine rs_for_range c (by walk_at "gm") .loc (by walk_at "gm") (by walk_at "gm") zr ?_
  walk_at "e"
  refine ⟨by decide, by decide, ?_⟩
  have fin : ∀ (σ : L2.St) (H' : Hp) (m : Nat) (ys : List V) (s3 : Option V), Fr NoB H H' → H' F = some (.lst ys) → ys ++ (grp m).map V.int = (grp n).map V.int → m < 128 → σ = [some (.int (m : Int)), some (.ref F), s3] → RB X (List.drop 2 (defBody sq_groups)) { nx := fun _ H' => Q .non H', rt := Q } σ H' := by
    rintro σ H' m ys s3 f hF e m0 rfl
    have ly : ys.length ≤ 21 := by
      have := congrArg List.length e
      rw [List.length_append, List.length_map, List.length_map] at this
      omega
    walk_at "e0"
    refine ⟨by show 1 ≤ sizeLine; decide, fun p hp => ?_⟩
    have f1 : Fr NoB H' (upd H' p (.lst [.int (m : Int)])) := Fr.new hp
    refine ov_cat (f1 _ _ (fun z => z) hF) upd_same (sl (by show ys.length + 1 ≤ _; omega)) fun l hl => q l _ ⟨(f.trans f1).trans (Fr.new hl), ?_⟩
    rw [upd_same, ← e, grp_lt m0]
    rfl
  refine ⟨fun i σ H' => ∃ (m : Nat) (ys : List V) (s3 : Option V), Fr NoB H H' ∧ H' F = some (.lst ys) ∧ ys ++ (grp m).map V.int = (grp n).map V.int ∧ m < 2 ^ (1000 - i) ∧ σ = [some (.int (m : Int)), some (.ref F), s3],
    ⟨n, [], none, Fr.new hF, upd_same, rfl, Nat.lt_trans wn (by decide +kernel), rfl⟩, fun _ _ _ _ _ => trivial, ?_, ?_⟩
  · rintro i y σ H1 hi rfl ⟨m, ys, s3, f1, h1, e1, wm, rfl⟩
    have ly : ys.length ≤ 21 := by
      have := congrArg List.length e1
      rw [List.length_append, List.length_map, List.length_map] at this
      omega
    refine ⟨_, by walk_at "gs", ?_⟩
    walk_at "e0"
    refine ite2 (fun e => ?_) (fun e => ?_)
    · have m0 : m < 128 := by have := of_decide_eq_true e; omega
      walk_at "e0"
      exact fin _ H1 m ys _ f1 h1 e1 m0 rfl
    · have m0 : ¬ m < 128 := fun z => e (decide_eq_true (by omega))
      walk_at "e"
      refine rb_cons (rs_app c (by walk_at "gm") .loc (by walk_at "gs") h1 ?_)
      walk_at "e"
      refine ⟨ys, h1, Nat.lt_of_le_of_lt (show ys.length ≤ 99000 by omega) (by decide), ?_⟩
      walk_at "e0"
      refine ov_fdiv (wide_div (b := 32) (by decide) (by decide) (by decide) (by decide)) ?_
      walk_at "e"
      refine ⟨m / 128, ys ++ [.int ((128 + m % 128 : Nat) : Int)], some (.int (i : Int)), fun a o na ea => ?_, ?_, ?_, ?_, ?_⟩
      · rw [upd_ne (fun z => by rw [z, hF] at ea; cases ea)]
        exact f1 a o na ea
      · rw [upd_same]
        have e3 : (m : Int) % 128 + 128 = ((128 + m % 128 : Nat) : Int) := by omega
        rw [e3]
      · rw [← e1, grp_ge m0, List.map_cons, List.append_assoc]
        rfl
      · have e5 : 1000 - i = (1000 - (i + 1)) + 1 := by have : i < 999 := hi; omega
        rw [e5, Nat.pow_succ] at wm
        omega
      · rw [Int.natCast_ediv]
        rfl
  · rintro σ H1 ⟨m, ys, s3, f1, h1, e1, wm, rfl⟩
    have wm2 : m < 2 ^ 1 := wm
    exact fin _ H1 m ys s3 f1 h1 e1 (by omega) rfl
theorem body_form_label (c : Ctx X nq_form_label lq_form_label 0) (zl : X.mg "len" = none) (h : spFm EncB X.K vs H Q E) : RB X (defBody sq_form_label) { nx := fun _ H' => Q .non H', rt := Q } (start nq_form_label vs) H := by
  obtain ⟨v, d, bs, rfl, hv, ⟨z, rfl, hz, rfl⟩, q⟩ := h
  obtain rfl := dt_str_inv hv
  have lz := hz.2
  show RB X (defBody sq_form_label) _ [some (.str z), none] H
  walk_at "e0"
  refine lv_lenS (sz30 (by omega)) ?_
  walk_at "e"
  refine ⟨by show 1 ≤ sizeLine; decide, fun p hp => ?_⟩
  have f1 : Fr NoB H (upd H p (.lst [.int (z.length : Int)])) := Fr.new hp
  have h1 : upd H p (.lst [.int (z.length : Int)]) p = some (.lst [.int (z.length : Int)]) := upd_same
  generalize upd H p (.lst [.int (z.length : Int)]) = H1 at f1 h1 ⊢
  refine re_lc_str c lq_form_label_c0 (by decide +kernel) ?_
  walk_at "e"
  refine fun Dn hD => ?_
  refine ⟨fun i H' => Fr NoB H1 H' ∧ H' Dn = some (.lst ((z.cps.toList.take i).map fun c : Nat => V.int ((c : Int) - 97))), ⟨Fr.new hD, upd_same⟩, fun _ _ _ _ => trivial, ?_, ?_⟩
  · rintro i y H' hi ⟨ch, hch, rfl⟩ ⟨f2, h2⟩
    have hl : z.cps.toList[i]? = some ch := by rw [Array.getElem?_toList]; exact hch
    obtain ⟨c97, c122⟩ := hz.1 ch (List.mem_of_getElem? hl)
    have hi2 : i < z.length := hi
    refine ⟨_, by walk_at "gs", fun s Hb C cl fp cb => rts_nil (iteT fun s Hb C cl fp cb => ?_)⟩
    refine re_sindex cb.calm ?_
    walk_at "e"
    refine ⟨_, _, rfl, abc_at ch c97 c122, ?_⟩
    refine ⟨_, h2, by rw [List.length_map, List.length_take]; exact Nat.lt_of_le_of_lt (show min i z.cps.toList.length ≤ 100 by omega) (by decide), fun a o na ea => ?_, ?_⟩
    · rw [upd_ne (fun z => by rw [z, hD] at ea; cases ea)]
      exact f2 a o na ea
    · rw [upd_same, List.take_succ, hl]
      have e5 : ((ch - 97 : Nat) : Int) = (ch : Int) - 97 := by omega
      rw [e5]
      simp
  · rintro H' ⟨f2, h2⟩
    have e6 : z.cps.size = z.cps.toList.length := by simp
    rw [e6, List.take_length] at h2
    have e7 : (z.cps.toList.map fun c : Nat => V.int ((c : Int) - 97)) = (z.cps.toList.map fun c : Nat => (c : Int) - 97).map V.int := by rw [List.map_map]; rfl
    rw [e7] at h2
    refine ov_catI (xs := [(z.length : Int)]) (f1.trans f2) (f2 _ _ (fun z => z) h1) h2 ?_ fun l H3 hn => q l H3 hn
    rw [List.length_map, ← str_len]
    show 1 + z.length ≤ 90000
    omega
theorem body_form_name (c : Ctx X nq_form_name lq_form_name 1) (zl : X.mg "len" = none) (dL : DT X "_law_form_label" ["label"] 1 (spFm EncB X.K)) (h : spFm EncN X.K vs H Q E) : RB X (defBody sq_form_name) { nx := fun _ H' => Q .non H', rt := Q } (start nq_form_name vs) H := by
  obtain ⟨v, d, bs, rfl, hv, hR, q⟩ := h
  have bd := encN_bd hR
  cases hR with
  | mk zs hz lz =>
    obtain ⟨p, rfl, np, hp⟩ := dt_strs hv
    show RB X (defBody sq_form_name) _ [some (.ref p), none, none] H
    walk_at "e0"
    refine lv_lenT (SqT.of hp) ?_
    walk_at "e"
    refine ⟨by show 1 ≤ sizeLine; decide, fun F hF => ?_⟩
    have f1 : Fr NoB H (upd H F (.lst [.int ((zs.map V.str).length : Int)])) := Fr.new hF
    have h1 : upd H F (.lst [.int ((zs.map V.str).length : Int)]) F = some (.lst [.int ((zs.map V.str).length : Int)]) := upd_same
    generalize upd H F (.lst [.int ((zs.map V.str).length : Int)]) = H1 at f1 h1 ⊢
    walk_at "e"
    refine rb_cons ?_
    refine rs_for_tup c (by walk_at "gm") .loc (by walk_at "gm") ?_
    walk_at "e"
    refine ⟨p, zs.map V.str, rfl, SqT.of (f1 _ _ np hp), fun i σ H' => ∃ (F : Addr) (s3 : Option V), NL H H' F ((zs.length : Int) :: ((zs.take i).map encL).flatten) ∧ σ = [some (.ref p), some (.ref F), s3], ⟨F, none, ⟨f1, by rw [h1, List.length_map]; rfl⟩, rfl⟩, fun i σ H' _ h => SqT.of (h.choose_spec.choose_spec.1.1 _ _ np hp), ?_, ?_⟩
    · rintro i y σ H2 hi hy ⟨F, s3, ⟨f2, h2⟩, rfl⟩
      obtain ⟨z, e1, rfl⟩ : ∃ z, zs[i]? = some z ∧ y = .str z := by
        rw [List.getElem?_map] at hy
        cases e : zs[i]? with
        | none => rw [e] at hy; cases hy
        | some z => rw [e] at hy; exact ⟨z, rfl, (Option.some.inj hy).symm⟩
      have lowz := hz z (List.mem_of_getElem? e1)
      have l5 := flat_le encL e1
      refine ⟨_, by walk_at "gs", ?_⟩
      walk_at "e0"
      refine re_call c dL (by decide) (by walk_at "gm") ?_
      walk_at "e"
      refine ⟨.str z, .str z, _, rfl, .str, ⟨z, rfl, lowz, rfl⟩, fun l H3 hn => ?_⟩
      rw [List.length_cons] at bd
      refine ov_catI (f2.trans hn.1) (hn.1 _ _ (fun z => z) h2) hn.2 (by rw [List.length_cons]; omega) fun l2 H4 hn2 => ?_
      walk_at "e"
      refine ⟨l2, _, ⟨hn2.1, ?_⟩, rfl⟩
      rw [hn2.2, flat_succ encL e1, List.cons_append]
    · rintro σ H2 ⟨F, s3, hn, rfl⟩
      rw [List.length_map, List.take_length] at hn
      walk_at "e0"
      exact q F H2 hn
theorem body_form_fraction (c : Ctx X nq_form_fraction lq_form_fraction 1) (dG : DT X "_law_groups" ["worth"] 1 spGr) (h : spFm EncF X.K vs H Q E) : RB X (defBody sq_form_fraction) { nx := fun _ H' => Q .non H', rt := Q } (start nq_form_fraction vs) H := by
  obtain ⟨v, d, bs, rfl, hv, hR, q⟩ := h
  cases hR with
  | mk n e hn he =>
    obtain ⟨p, us, rfl, np, hp, g⟩ := dt_tup_inv hv
    obtain ⟨a, _, rfl, ha, g⟩ := dts_cons_inv g
    obtain ⟨b, _, rfl, hb, g⟩ := dts_cons_inv g
    obtain rfl := dts_nil_inv g
    rw [dt_int_inv ha, dt_int_inv hb] at hp
    have wz : WN (zig n) := by
      unfold WN zig
      have h2 : 2 ^ 138 * 4 = 2 ^ 140 := by decide +kernel
      split <;> omega
    have g1 := grp_21 wz
    have g2 := grp_21 he
    show RB X (defBody sq_form_fraction) _ [some (.ref p), none] H
    have rest : ∀ t : Int, t = (zig n : Int) → RB X (List.drop 1 (defBody sq_form_fraction)) { nx := fun _ H' => Q .non H', rt := Q } [some (.ref p), some (.int t)] H := by
      rintro t rfl
      walk_at "e0"
      refine re_call c dG (by decide) (by walk_at "gm") ?_
      walk_at "e"
      refine ⟨zig n, rfl, wz, fun l1 H1 n1 => ?_⟩
      have hp1 := n1.1 _ _ (fun z => z) hp
      refine re_call c dG (by decide) (by walk_at "gm") ?_
      walk_at "e"
      refine ⟨e, rfl, he, fun l2 H2 n2 => ?_⟩
      exact ov_catI (n1.1.trans n2.1) (n2.1 _ _ (fun z => z) n1.2) n2.2 (by omega) q
    walk_at "e0"
    refine ite2 (fun e1 => ?_) (fun e1 => ?_)
    · have n0 : 0 ≤ n := of_decide_eq_true e1
      walk_at "e"
      exact rest _ (by unfold zig; rw [if_pos n0]; omega)
    · have n0 : ¬ 0 ≤ n := fun z => e1 (decide_eq_true z)
      walk_at "e"
      exact rest _ (by unfold zig; rw [if_neg n0]; omega)
theorem body_form_id (c : Ctx X nq_form_id lq_form_id 1) (dG : DT X "_law_groups" ["worth"] 1 spGr) (h : spFI X.K vs H Q E) : RB X (defBody sq_form_id) { nx := fun _ H' => Q .non H', rt := Q } (start nq_form_id vs) H := by
  obtain ⟨v, m, d, bs, rfl, hv, hR, q⟩ := h
  cases hR with
  | mk a b e hb he =>
    obtain ⟨p, rfl, np, hp⟩ := dt_ids hv
    have g1 := grp_21 hb
    have g2 := grp_21 he
    show RB X (defBody sq_form_id) _ [some (.ref p), some (.int m)] H
    walk_at "e0"
    refine ⟨by show 1 ≤ sizeLine; decide, fun F hF => ?_⟩
    have f1 : Fr NoB H (upd H F (.lst [.int (a + m)])) := Fr.new hF
    have h1 : upd H F (.lst [.int (a + m)]) F = some (.lst [.int (a + m)]) := upd_same
    generalize upd H F (.lst [.int (a + m)]) = H1 at f1 h1 ⊢
    have hp1 := f1 _ _ (fun z => z) hp
    refine re_call c dG (by decide) (by walk_at "gm") ?_
    walk_at "e"
    refine ⟨b, rfl, hb, fun l2 H2 n2 => ?_⟩
    refine ov_catI (xs := [a + m]) (f1.trans n2.1) (n2.1 _ _ (fun z => z) h1) n2.2 (by show 1 + _ ≤ _; omega) fun l3 H3 n3 => ?_
    have hp3 := n3.1 _ _ (fun z => z) hp
    refine re_call c dG (by decide) (by walk_at "gm") ?_
    walk_at "e"
    refine ⟨e, rfl, he, fun l4 H4 n4 => ?_⟩
    refine ov_catI (n3.1.trans n4.1) (n4.1 _ _ (fun z => z) n3.2) n4.2 (by rw [List.length_append]; show 1 + _ + _ ≤ _; omega) fun l5 H5 n5 => q l5 H5 ?_
    rw [List.append_assoc] at n5
    exact n5
end
local macro_rules | `(tactic| walk_at "sq") => `(tactic| first | refine iteD rfl ?_ | refine iteDN (by decide +kernel) ?_)
local macro_rules | `(tactic| walk_at "gg") => `(tactic| repeat (first | walk_at "g1" | refine iteD rfl ?_ | refine iteDN (by decide +kernel) ?_))
def spFV (K : PySem.W.Frag) : Sp := fun vs H Q _ => ∃ (v : V) (d : D) (bs : List Int), vs = [v] ∧ Dt K NoB H v d ∧ EncV d bs ∧ ∀ l H', NL H H' l bs → Q (.ref l) H'
section
variable {X : Cx} {vs : List V} {H : Hp} {Q : VK} {E : XK}
theorem body_form_entry1 (c : Ctx X nq_form_entry lq_form_entry 2) (dG : DT X "_law_groups" ["worth"] 1 spGr) (dN : DT X "_law_form_name" ["name"] 2 (spFm EncN X.K)) (h : spFm Ent1 X.K vs H Q E) : RB X (defBody sq_form_entry) { nx := fun _ H' => Q .non H', rt := Q } (start nq_form_entry vs) H := by
  obtain ⟨v, d, bs, rfl, hv, hR, q⟩ := h
  cases hR with
  | val k hk =>
    obtain ⟨p, u, w, rfl, np, hp, hu, hw⟩ := dt_two hv
    obtain rfl := dt_str_inv hu
    obtain rfl := dt_int_inv hw
    have g1 := grp_21 hk
    show RB X (defBody sq_form_entry) _ [some (.ref p), none, none, none] H
    walk_at "e0"
    walk_at "e0"
    walk_at "sq"
    walk_at "e"
    walk_at "e0"
    refine ⟨by show 1 ≤ sizeLine; decide, fun F hF => ?_⟩
    have f1 : Fr NoB H (upd H F (.lst [.int 1])) := Fr.new hF
    have h1 : upd H F (.lst [.int 1]) F = some (.lst [.int 1]) := upd_same
    generalize upd H F (.lst [.int 1]) = H1 at f1 h1 ⊢
    have hp1 := f1 _ _ (fun z => z) hp
    refine re_call c dG (by decide) (by walk_at "gm") ?_
    walk_at "e"
    refine ⟨k, rfl, hk, fun l2 H2 n2 => ?_⟩
    exact ov_catI (xs := [1]) (f1.trans n2.1) (n2.1 _ _ (fun z => z) h1) n2.2 (by show 1 + _ ≤ _; omega) q
  | nm hN =>
    obtain ⟨p, u, w, rfl, np, hp, hu, hw⟩ := dt_two hv
    obtain rfl := dt_str_inv hu
    have g1 := encN_bd hN
    show RB X (defBody sq_form_entry) _ [some (.ref p), none, none, none] H
    walk_at "e0"
    walk_at "e0"
    walk_at "sq"
    walk_at "e"
    walk_at "e0"
    walk_at "sq"
    walk_at "e"
    walk_at "e0"
    refine ⟨by show 1 ≤ sizeLine; decide, fun F hF => ?_⟩
    have f1 : Fr NoB H (upd H F (.lst [.int 2])) := Fr.new hF
    have h1 : upd H F (.lst [.int 2]) F = some (.lst [.int 2]) := upd_same
    generalize upd H F (.lst [.int 2]) = H1 at f1 h1 ⊢
    have hp1 := f1 _ _ (fun z => z) hp
    have hw1 := hw.fr f1
    refine re_call c dN (by decide) (by walk_at "gm") ?_
    walk_at "e"
    refine ⟨w, _, _, rfl, hw1, hN, fun l2 H2 n2 => ?_⟩
    exact ov_catI (xs := [2]) (f1.trans n2.1) (n2.1 _ _ (fun z => z) h1) n2.2 (by show 1 + _ ≤ _; omega) q
theorem body_form_entry (c : Ctx X nq_form_entry lq_form_entry 3) (c1 : Ctx X nq_form_entry lq_form_entry 2) (dG : DT X "_law_groups" ["worth"] 1 spGr) (dN : DT X "_law_form_name" ["name"] 2 (spFm EncN X.K)) (dL : DT X "_law_form_label" ["label"] 1 (spFm EncB X.K)) (d1 : DT X "_law_form_entry" ["entry"] 3 (spFm Ent1 X.K))
    (h : spFm EncE X.K vs H Q E) : RB X (defBody sq_form_entry) { nx := fun _ H' => Q .non H', rt := Q } (start nq_form_entry vs) H := by
  obtain ⟨v, d, bs, rfl, hv, hR, q⟩ := h
  have bd := encE_bd hR
  cases hR with
  | non =>
    cases hv
    show RB X (defBody sq_form_entry) _ [some .non, none, none, none] H
    walk_at "e0"
    walk_at "e0"
    exact ⟨by show 1 ≤ sizeLine; decide, fun F hF => q F _ ⟨Fr.new hF, upd_same⟩⟩
  | one hE => exact body_form_entry1 (E := E) c1 dG dN ⟨v, d, bs, rfl, hv, hE, q⟩
  | page i rs hr lr =>
    obtain ⟨p, u, w, r, rfl, np, hp, hu, hw, hrs⟩ := dt_three hv
    obtain rfl := dt_str_inv hu
    obtain rfl := dt_int_inv hw
    obtain ⟨t, us, rfl, nt, ht, hus⟩ := dt_tup_inv hrs
    have hlen : us.length = rs.length := by rw [hus.1, List.length_map]
    simp only [List.length_cons, List.length_append, List.length_nil] at bd
    show RB X (defBody sq_form_entry) _ [some (.ref p), none, none, none] H
    walk_at "e0"
    walk_at "e0"
    walk_at "sq"
    walk_at "e"
    walk_at "e0"
    walk_at "sq"
    walk_at "e"
    walk_at "e0"
    refine ⟨by show 2 ≤ sizeLine; decide, fun F hF => ?_⟩
    have f1 : Fr NoB H (upd H F (.lst [.int 3, .int i])) := Fr.new hF
    have h1 : upd H F (.lst [.int 3, .int i]) F = some (.lst [.int 3, .int i]) := upd_same
    generalize upd H F (.lst [.int 3, .int i]) = H1 at f1 h1 ⊢
    have hp1 := f1 _ _ (fun z => z) hp
    have ht1 := f1 _ _ (fun z => z) ht
    walk_at "e"
    refine rb_cons ?_
    refine rs_for_tup2 c (by walk_at "gm") .loc (by walk_at "gm") (by walk_at "gm") .loc (by walk_at "gm") ?_
    walk_at "e"
    refine ⟨t, us, rfl, SqT.of ht1, fun j σ H' => ∃ (F : Addr) (s3 s4 : Option V), NL H H' F (3 :: i :: ((rs.take j).map rowB).flatten) ∧ σ = [some (.ref p), some (.ref F), s3, s4], ⟨F, none, none, ⟨f1, h1⟩, rfl⟩, fun j σ H' h => SqT.of (h.choose_spec.choose_spec.choose_spec.1.1 _ _ nt ht), ?_, ?_⟩
    · rintro j w σ H3 hj ⟨F, s3, s4, n3, rfl⟩
      obtain ⟨rw1, e1⟩ : ∃ r, rs[j]? = some r := by
        rcases Nat.lt_or_ge j us.length with z | z
        · exact ⟨_, List.getElem?_eq_getElem (by omega)⟩
        · rw [List.getElem?_eq_none z] at hj; cases hj
      have hw := hus.2 j w (rowD rw1) hj (by rw [List.getElem?_map, e1]; rfl)
      obtain ⟨a, u, b, rfl, na, ha, hu, hb⟩ := dt_two hw
      obtain rfl := dt_str_inv hu
      have ok := hr rw1 (List.mem_of_getElem? e1)
      have l5 := flat_le rowB e1
      have l6 : (rowB rw1).length = 1 + ((encL rw1.1).length + rw1.2.2.length) := by unfold rowB; rw [List.length_cons, List.length_append]; omega
      refine ⟨a, _, _, rfl, SqT.of (n3.1 _ _ na ha), _, _, by walk_at "gs", by walk_at "gs", ?_⟩
      walk_at "e0"
      refine ⟨by show 1 ≤ sizeLine; decide, fun G hG => ?_⟩
      have f4 : Fr NoB H3 (upd H3 G (.lst [.int 1])) := Fr.new hG
      have h4 : upd H3 G (.lst [.int 1]) G = some (.lst [.int 1]) := upd_same
      generalize upd H3 G (.lst [.int 1]) = H4 at f4 h4 ⊢
      refine ov_catI (ys := [1]) (n3.1.trans f4) (f4 _ _ (fun z => z) n3.2) h4 (by simp only [List.length_cons, List.length_nil]; omega) fun l5 H5 n5 => ?_
      refine re_call c dL (by decide) (by walk_at "gm") ?_
      walk_at "e"
      refine ⟨.str rw1.1, .str rw1.1, _, rfl, .str, ⟨_, rfl, ok.1, rfl⟩, fun l6 H6 n6 => ?_⟩
      refine ov_catI (n5.1.trans n6.1) (n6.1 _ _ (fun z => z) n5.2) n6.2 (by simp only [List.length_cons, List.length_append, List.length_nil]; omega) fun l7 H7 n7 => ?_
      refine re_call c d1 (by decide) (by walk_at "gm") ?_
      walk_at "e"
      refine ⟨b, rw1.2.1, rw1.2.2, rfl, hb.fr n7.1, ok.2, fun l8 H8 n8 => ?_⟩
      refine ov_catI (n7.1.trans n8.1) (n8.1 _ _ (fun z => z) n7.2) n8.2 (by simp only [List.length_cons, List.length_append, List.length_nil]; omega) fun l9 H9 n9 => ?_
      walk_at "e"
      refine ⟨l9, _, _, ⟨n9.1, ?_⟩, rfl⟩
      rw [n9.2, flat_succ rowB e1]
      unfold rowB
      simp
    · rintro σ H3 ⟨F, s3, s4, n3, rfl⟩
      rw [hlen, List.take_length] at n3
      walk_at "e0"
      refine ⟨by show 1 ≤ sizeLine; decide, fun G hG => ?_⟩
      have f4 : Fr NoB H3 (upd H3 G (.lst [.int 0])) := Fr.new hG
      refine ov_catI (ys := [0]) (n3.1.trans f4) (f4 _ _ (fun z => z) n3.2) upd_same (by simp only [List.length_cons, List.length_nil]; omega) fun l5 H5 n5 => q l5 H5 n5
theorem body_form_answer (c : Ctx X nq_form_answer lq_form_answer 3) (zl : X.mg "len" = none) (dG : DT X "_law_groups" ["worth"] 1 spGr) (dI : DT X "_law_form_id" ["one", "more"] 2 (spFI X.K)) (dN : DT X "_law_form_name" ["name"] 2 (spFm EncN X.K))
    (h : spFm EncA X.K vs H Q E) : RB X (defBody sq_form_answer) { nx := fun _ H' => Q .non H', rt := Q } (start nq_form_answer vs) H := by
  obtain ⟨v, d, bs, rfl, hv, hR, q⟩ := h
  have bd := encA_bd hR
  cases hR with
  | @mk w hb ns hH hN ln =>
    obtain ⟨p, u, y, rfl, np, hp, hu, hy⟩ := dt_two hv
    obtain ⟨pn, us, rfl, nn, hpn, hus⟩ := dt_tup_inv hy
    have lus : us.length = ns.length := by rw [hus.1, List.length_map]
    simp only [List.length_cons, List.length_append] at bd
    show RB X (defBody sq_form_answer) _ [some (.ref p), none, none, none, none] H
    refine rb_cons ?_
    refine rs_tup2 c (by walk_at "gm") .loc (by walk_at "gm") (by walk_at "gm") .loc (by walk_at "gm") ?_ (by with_unfolding_all rfl)
    walk_at "e"
    refine ⟨p, _, _, rfl, SqT.of hp, _, _, by walk_at "gs", by walk_at "gs", ?_⟩
    have tail : ∀ (F : Addr) (H1 : Hp), H F = none → Fr NoB H H1 → H1 F = some (.lst (hb.map V.int)) → RB X (List.drop 4 (defBody sq_form_answer)) { nx := fun _ H' => Q .non H', rt := Q } [some (.ref p), some u, some (.ref pn), some (.ref F), none] H1 := by
      intro F H1 hF f1 h1
      have hpn1 := f1 _ _ nn hpn
      refine rb_cons (rs_app c (by walk_at "gm") .loc (by walk_at "gs") h1 ?_)
      walk_at "e"
      refine lv_lenT (SqT.of hpn1) ?_
      walk_at "e"
      refine ⟨_, h1, Nat.lt_of_le_of_lt (show _ ≤ 99000 by rw [List.length_map]; omega) (by decide), ?_⟩
      have f2 : Fr NoB H (upd H1 F (.lst (hb.map V.int ++ [.int (us.length : Int)]))) := fun a o na ea => by
        rw [upd_ne (fun z => by rw [z, hF] at ea; cases ea)]
        exact f1 a o na ea
      have h2 : upd H1 F (.lst (hb.map V.int ++ [.int (us.length : Int)])) F = some (.lst (hb.map V.int ++ [.int (us.length : Int)])) := upd_same
      generalize upd H1 F (.lst (hb.map V.int ++ [.int (us.length : Int)])) = H2 at f2 h2 ⊢
      refine rb_cons ?_
      refine rs_for_tup c (by walk_at "gm") .loc (by walk_at "gm") ?_
      walk_at "e"
      refine ⟨pn, us, rfl, SqT.of (f2 _ _ nn hpn), fun i σ H' => ∃ (F : Addr) (s3 : Option V), NL H H' F (hb ++ (ns.length : Int) :: ((ns.take i).map (·.2)).flatten) ∧ σ = [some (.ref p), some u, some (.ref pn), some (.ref F), s3], ⟨F, none, ⟨f2, by rw [h2, lus]; simp⟩, rfl⟩, fun i σ H' _ h => SqT.of (h.choose_spec.choose_spec.1.1 _ _ nn hpn), ?_, ?_⟩
      · rintro i y σ H3 hi hy ⟨F, s3, n3, rfl⟩
        obtain ⟨n, e1⟩ : ∃ n, ns[i]? = some n := ⟨_, List.getElem?_eq_getElem (by omega)⟩
        have hy1 := hus.2 i y n.1 hy (by rw [List.getElem?_map, e1]; rfl)
        have l5 := flat_le (fun x : D × List Int => x.2) e1
        refine ⟨_, by walk_at "gs", ?_⟩
        walk_at "e0"
        refine re_call c dN (by decide) (by walk_at "gm") ?_
        walk_at "e"
        refine ⟨y, n.1, n.2, rfl, hy1.fr n3.1, hN n (List.mem_of_getElem? e1), fun l4 H4 n4 => ?_⟩
        refine ov_catI (n3.1.trans n4.1) (n4.1 _ _ (fun z => z) n3.2) n4.2 (by simp only [List.length_append, List.length_cons]; omega) fun l5 H5 n5 => ?_
        walk_at "e"
        refine ⟨l5, _, ⟨n5.1, ?_⟩, rfl⟩
        rw [n5.2, flat_succ (fun x : D × List Int => x.2) e1]
        simp
      · rintro σ H3 ⟨F, s3, n3, rfl⟩
        rw [lus, List.take_length] at n3
        walk_at "e0"
        exact q F H3 n3
    have ap : ∀ (j : Nat) (k : Str) (pf : Addr) (ys : List V), H pf = some (.tup (.str k :: ys)) → u = .ref pf → FOUNDS[j]? = some k → (∀ m, m < j → FOUNDS[m]? ≠ some k) →
        (∀ F H1, H F = none → Fr NoB H H1 → H1 F = some (.lst [.int (j : Int)]) → RB X (List.drop 2 (defBody sq_form_answer)) { nx := fun _ H' => Q .non H', rt := Q } [some (.ref p), some u, some (.ref pn), some (.ref F), none] H1) →
        RB X (List.drop 1 (defBody sq_form_answer)) { nx := fun _ H' => Q .non H', rt := Q } [some (.ref p), some u, some (.ref pn), none, none] H := by
      rintro j k pf ys hpf rfl e1 e2 go
      refine rb_cons (rs_set c (by walk_at "gm") .loc (by walk_at "gm") ?_)
      refine re_lst (ra_cons (re_lindex ?_))
      walk_at "e"
      refine ⟨by show 5 ≤ sizeLine; decide, fun L hL => ?_⟩
      have f1 : Fr NoB H (upd H L (.lst (FOUNDS.map V.str))) := Fr.new hL
      refine ⟨L, FOUNDS, rfl, SqL.of upd_same, ?_⟩
      walk_at "e"
      refine iv_tup (SqT.of (f1 _ _ (fun z => z) hpf)) (at_nat (i := 0) rfl) ?_
      refine ⟨k, j, rfl, SqL.of upd_same, e1, e2, ?_⟩
      walk_at "e"
      refine ⟨by show 1 ≤ sizeLine; decide, fun F hF => ?_⟩
      refine ⟨_, by walk_at "gs", ?_⟩
      exact go F _ (f1.free hF) (f1.trans (Fr.new hF)) upd_same
    cases hH with
    | value k hk =>
      obtain ⟨pf, u1, u2, rfl, nf, hf, hu1, hu2⟩ := dt_two hu
      obtain rfl := dt_str_inv hu1
      obtain rfl := dt_int_inv hu2
      have g1 := grp_21 hk
      refine ap 0 "value" pf _ hf rfl rfl (fun m hm => by omega) fun F H1 hF f1 h1 => ?_
      have hf1 := f1 _ _ nf hf
      walk_at "e0"
      walk_at "sq"
      walk_at "e0"
      refine re_call c dG (by decide) (by walk_at "gm") ?_
      walk_at "e"
      refine ⟨k, rfl, hk, fun l2 H2 n2 => ?_⟩
      have h12 : H2 F = some (.lst ([(0 : Int)].map V.int)) := n2.1 _ _ (fun z => z) h1
      have h2f := (f1.trans n2.1)
      have hf2 := h2f _ _ nf hf
      refine ov_cat h12 n2.2 (sl (by rw [List.length_map, List.length_map]; show 1 + _ ≤ _; omega)) fun l3 hl3 => ?_
      have f3 : Fr NoB H (upd H2 l3 (.lst ([(0 : Int)].map V.int ++ (grp k).map V.int))) := h2f.trans (Fr.new hl3)
      have hf3 := f3 _ _ nf hf
      walk_at "e"
      walk_at "e0"
      walk_at "sq"
      walk_at "e"
      refine tail l3 _ (h2f.free hl3) f3 ?_
      rw [upd_same]
      rfl
    | page i hT hn =>
      obtain ⟨pf, u1, u2, u3, rfl, nf, hf, hu1, hu2, hu3⟩ := dt_three hu
      obtain rfl := dt_str_inv hu1
      obtain rfl := dt_int_inv hu2
      have g1 := encT_bd hT
      refine ap 1 "page" pf _ hf rfl rfl (by decide +kernel) fun F H1 hF f1 h1 => ?_
      have hf1 := f1 _ _ nf hf
      walk_at "e0"
      walk_at "sq"
      walk_at "e"
      walk_at "e0"
      walk_at "sq"
      walk_at "e0"
      refine ⟨by show 1 ≤ sizeLine; decide, fun G hG => ?_⟩
      have f2 : Fr NoB H1 (upd H1 G (.lst [.int i])) := Fr.new hG
      refine ov_cat (f2 _ _ (fun z => z) h1) upd_same (by show 1 + 1 ≤ sizeLine; decide) fun l3 hl3 => ?_
      have f3 : Fr NoB H (upd (upd H1 G (.lst [.int i])) l3 (.lst ([.int ((1 : Nat) : Int)] ++ [.int i]))) := (f1.trans f2).trans (Fr.new hl3)
      have h3 : upd (upd H1 G (.lst [.int i])) l3 (.lst ([.int ((1 : Nat) : Int)] ++ [.int i])) l3 = some (.lst ([.int ((1 : Nat) : Int)] ++ [.int i])) := upd_same
      generalize upd (upd H1 G (.lst [.int i])) l3 (.lst ([.int ((1 : Nat) : Int)] ++ [.int i])) = H3 at f3 h3 ⊢
      have hf3 := f3 _ _ nf hf
      walk_at "e"
      refine ⟨by show 0 ≤ sizeLine; decide, fun r hr => ?_⟩
      have f4 : Fr NoB H3 (upd H3 r (.tup [])) := Fr.new hr
      have h4 := f4 _ _ (fun z => z) h3
      cases hT with
      | non => exact absurd rfl hn
      | emp =>
        obtain ⟨t, us2, rfl, nt, ht, g⟩ := dt_tup_inv hu3
        obtain rfl := dts_nil_inv g
        refine cv_eqEmp c (a := 0) (b := 0) (d := 0) true ((f3.trans f4) _ _ (fun z => z) ht) upd_same ?_
        walk_at "e"
        refine ⟨by show 1 ≤ sizeLine; decide, fun s hs => ?_⟩
        have f5 : Fr NoB (upd H3 r (.tup [])) (upd (upd H3 r (.tup [])) s (.lst [.int 0])) := Fr.new hs
        refine ov_cat (f5 _ _ (fun z => z) h4) upd_same (by show 2 + 1 ≤ sizeLine; decide) fun l6 hl6 => ?_
        have f6 : Fr NoB H (upd (upd H3 r (.tup [])) s (.lst [.int 0])) := f3.trans (f4.trans f5)
        walk_at "e"
        refine tail l6 _ (f6.free hl6) (f6.trans (Fr.new hl6)) ?_
        rw [upd_same]
        rfl
      | id hI =>
        cases hI with
        | mk a b e hb he =>
          obtain ⟨t, rfl, nt, ht⟩ := dt_ids hu3
          refine cv_eqEmp c (a := a) (b := b) (d := e) false ((f3.trans f4) _ _ (fun z => z) ht) upd_same ?_
          have hf4 := f4 _ _ (fun z => z) hf3
          have hu4 := hu3.fr (f3.trans f4)
          have f34 := f3.trans f4
          generalize upd H3 r (.tup []) = H4 at f4 h4 hf4 hu4 f34 ⊢
          walk_at "e"
          refine re_call c dI (by decide) (by walk_at "gm") ?_
          walk_at "e"
          refine ⟨.ref t, 1, _, _, rfl, hu4, .mk a b e hb he, fun l5 H5 n5 => ?_⟩
          have gl : ((a + 1) :: (grp b ++ grp e)).length ≤ 43 := g1
          refine ov_cat (n5.1 _ _ (fun z => z) h4) n5.2 (sl (by rw [List.length_map]; show 2 + _ ≤ _; omega)) fun l6 hl6 => ?_
          have f6 : Fr NoB H H5 := f34.trans n5.1
          walk_at "e"
          refine tail l6 _ (f6.free hl6) (f6.trans (Fr.new hl6)) ?_
          rw [upd_same]
          rfl
    | nothing =>
      obtain ⟨pf, u1, rfl, nf, hf, hu1⟩ := dt_one hu
      obtain rfl := dt_str_inv hu1
      refine ap 2 "nothing" pf _ hf rfl rfl (by decide +kernel) fun F H1 hF f1 h1 => ?_
      have hf1 := f1 _ _ nf hf
      walk_at "e0"
      walk_at "sq"
      walk_at "e"
      walk_at "e0"
      walk_at "sq"
      walk_at "e"
      exact tail F H1 hF f1 h1
    | long =>
      obtain ⟨pf, u1, rfl, nf, hf, hu1⟩ := dt_one hu
      obtain rfl := dt_str_inv hu1
      refine ap 3 "long" pf _ hf rfl rfl (by decide +kernel) fun F H1 hF f1 h1 => ?_
      have hf1 := f1 _ _ nf hf
      walk_at "e0"
      walk_at "sq"
      walk_at "e"
      walk_at "e0"
      walk_at "sq"
      walk_at "e"
      exact tail F H1 hF f1 h1
    | far =>
      obtain ⟨pf, u1, rfl, nf, hf, hu1⟩ := dt_one hu
      obtain rfl := dt_str_inv hu1
      refine ap 4 "far" pf _ hf rfl rfl (by decide +kernel) fun F H1 hF f1 h1 => ?_
      have hf1 := f1 _ _ nf hf
      walk_at "e0"
      walk_at "sq"
      walk_at "e"
      walk_at "e0"
      walk_at "sq"
      walk_at "e"
      exact tail F H1 hF f1 h1
theorem body_form_part (c : Ctx X nq_form_part lq_form_part 4) (dI : DT X "_law_form_id" ["one", "more"] 2 (spFI X.K)) (dL : DT X "_law_form_label" ["label"] 1 (spFm EncB X.K)) (dF : DT X "_law_form_fraction" ["one"] 2 (spFm EncF X.K)) (dN : DT X "_law_form_name" ["name"] 2 (spFm EncN X.K)) (dE : DT X "_law_form_entry" ["entry"] 4 (spFm EncE X.K)) (dA : DT X "_law_form_answer" ["answer"] 4 (spFm EncA X.K))
    (h : spFP X.K vs H Q E) : RB X (defBody sq_form_part) { nx := fun _ H' => Q .non H', rt := Q } (start nq_form_part vs) H := by
  obtain ⟨w, v, d, bs, rfl, hv, hP, q⟩ := h
  have term : EncT d bs → (w = "kept" ∨ w = "term") → RB X (defBody sq_form_part) { nx := fun _ H' => Q .non H', rt := Q } [some (.str w), some v] H := by
    intro hT hw
    refine rb_cons (rs_if (rt_mono (Q := fun cc H1 => cc = true ∧ H1 = H) ?_ ?_))
    · rcases hw with rfl | rfl
      · walk_at "gg"
        exact ⟨rfl, rfl⟩
      · walk_at "gg"
        exact ⟨rfl, rfl⟩
    rintro cc H1 ⟨rfl, e1⟩
    rw [e1]
    walk_at "e"
    walk_at "e0"
    cases hT with
    | non =>
      cases hv
      walk_at "e"
      exact ⟨by show 1 ≤ sizeLine; decide, fun F hF => q F _ ⟨Fr.new hF, upd_same⟩⟩
    | emp =>
      obtain ⟨t, us2, rfl, nt, ht, g⟩ := dt_tup_inv hv
      obtain rfl := dts_nil_inv g
      walk_at "e"
      refine ⟨by show 0 ≤ sizeLine; decide, fun r hr => ?_⟩
      have f4 : Fr NoB H (upd H r (.tup [])) := Fr.new hr
      refine cv_eqEmp c (a := 0) (b := 0) (d := 0) true (f4 _ _ (fun z => z) ht) upd_same ?_
      walk_at "e"
      exact ⟨by show 1 ≤ sizeLine; decide, fun F hF => q F _ ⟨f4.trans (Fr.new hF), upd_same⟩⟩
    | id hI =>
      cases hI with
      | mk a b e hb he =>
        obtain ⟨t, rfl, nt, ht⟩ := dt_ids hv
        walk_at "e"
        refine ⟨by show 0 ≤ sizeLine; decide, fun r hr => ?_⟩
        have f4 : Fr NoB H (upd H r (.tup [])) := Fr.new hr
        refine cv_eqEmp c (a := a) (b := b) (d := e) false (f4 _ _ (fun z => z) ht) upd_same ?_
        walk_at "e"
        refine re_call c dI (by decide) (by walk_at "gm") ?_
        walk_at "e"
        exact ⟨.ref t, 1, _, _, rfl, hv.fr f4, .mk a b e hb he, fun l5 H5 n5 => q l5 H5 (n5.trans f4)⟩
  cases hP with
  | kept h => exact term h (.inl rfl)
  | term h => exact term h (.inr rfl)
  | node h =>
    obtain ⟨i, rfl, rfl⟩ := h
    obtain rfl := dt_int_inv hv
    show RB X (defBody sq_form_part) _ [some (.str "node"), some (.int i)] H
    walk_at "e0"
    walk_at "gg"
    exact ⟨by show 1 ≤ sizeLine; decide, fun F hF => q F _ ⟨Fr.new hF, upd_same⟩⟩
  | most h =>
    obtain ⟨i, rfl, rfl⟩ := h
    obtain rfl := dt_int_inv hv
    show RB X (defBody sq_form_part) _ [some (.str "most"), some (.int i)] H
    walk_at "e0"
    walk_at "gg"
    exact ⟨by show 1 ≤ sizeLine; decide, fun F hF => q F _ ⟨Fr.new hF, upd_same⟩⟩
  | id h =>
    show RB X (defBody sq_form_part) _ [some (.str "id"), some v] H
    walk_at "e0"
    walk_at "gg"
    refine re_call c dI (by decide) (by walk_at "gm") ?_
    walk_at "e"
    exact ⟨v, 0, d, bs, rfl, hv, h, q⟩
  | label h =>
    show RB X (defBody sq_form_part) _ [some (.str "label"), some v] H
    walk_at "e0"
    walk_at "gg"
    refine re_call c dL (by decide) (by walk_at "gm") ?_
    walk_at "e"
    exact ⟨v, d, bs, rfl, hv, h, q⟩
  | fraction h =>
    show RB X (defBody sq_form_part) _ [some (.str "fraction"), some v] H
    walk_at "e0"
    walk_at "gg"
    refine re_call c dF (by decide) (by walk_at "gm") ?_
    walk_at "e"
    exact ⟨v, d, bs, rfl, hv, h, q⟩
  | name h =>
    show RB X (defBody sq_form_part) _ [some (.str "name"), some v] H
    walk_at "e0"
    walk_at "gg"
    refine re_call c dN (by decide) (by walk_at "gm") ?_
    walk_at "e"
    exact ⟨v, d, bs, rfl, hv, h, q⟩
  | entry h =>
    show RB X (defBody sq_form_part) _ [some (.str "entry"), some v] H
    walk_at "e0"
    walk_at "gg"
    refine re_call c dE (by decide) (by walk_at "gm") ?_
    walk_at "e"
    exact ⟨v, d, bs, rfl, hv, h, q⟩
  | answer h =>
    show RB X (defBody sq_form_part) _ [some (.str "answer"), some v] H
    walk_at "e0"
    walk_at "gg"
    refine re_call c dA (by decide) (by walk_at "gm") ?_
    walk_at "e"
    exact ⟨v, d, bs, rfl, hv, h, q⟩
theorem body_form (c : Ctx X nq_form lq_form 5) (zz : X.mg "zip" = none) (dK : DT X "_law_kinds" [] 1 spKinds) (dW : DT X "_law_words" ["kind"] 1 spWords) (dI : DT X "_law_form_id" ["one", "more"] 2 (spFI X.K)) (dF : DT X "_law_form_fraction" ["one"] 2 (spFm EncF X.K)) (dP : DT X "_law_form_part" ["word", "part"] 5 (spFP X.K))
    (h : spFV X.K vs H Q E) : RB X (defBody sq_form) { nx := fun _ H' => Q .non H', rt := Q } (start nq_form vs) H := by
  obtain ⟨v, d, bs, rfl, hv, hR, q⟩ := h
  have bd := encV_bd hR
  cases hR with
  | @mk di df ib fb j k ws ps hi hf hj lp hpp =>
    obtain ⟨p, ui, uf, ud, rfl, np, hp, hui, huf, hud⟩ := dt_three hv
    obtain ⟨pd, us0, rfl, nd, hpd, hus0⟩ := dt_tup_inv hud
    obtain ⟨uk, us, rfl, huk, hus⟩ := dts_cons_inv hus0
    obtain rfl := dt_str_inv huk
    obtain ⟨wl, ek, ekn⟩ := kind_bd hj
    have lus : us.length = ws.length := by rw [hus.1, List.length_map, lp]
    simp only [List.length_cons, List.length_append] at bd
    show RB X (defBody sq_form) _ [some (.ref p), none, none, none, none] H
    refine rb_cons (rs_set c (by walk_at "gm") .loc (by walk_at "gm") ?_)
    refine re_lindex ?_
    refine re_call0 c dK (by decide) (by walk_at "gm") ⟨rfl, fun lk hlk => ?_⟩
    have f1 : Fr NoB H (upd H lk (.lst (KINDSL.map V.str))) := Fr.new hlk
    refine ⟨lk, KINDSL, rfl, SqL.of upd_same, ?_⟩
    have hp1 := f1 _ _ np hp
    have hpd1 := f1 _ _ nd hpd
    have hk1 : upd H lk (.lst (KINDSL.map V.str)) lk = some (.lst (KINDSL.map V.str)) := upd_same
    generalize upd H lk (.lst (KINDSL.map V.str)) = H1 at f1 hp1 hpd1 hk1 ⊢
    walk_at "e"
    refine iv_tup (SqT.of hpd1) (at_nat (i := 0) rfl) ?_
    refine ⟨k, j, rfl, SqL.of hk1, ek, ekn, ?_⟩
    refine ⟨_, by walk_at "gs", ?_⟩
    walk_at "e0"
    refine re_call c dI (by decide) (by walk_at "gm") ?_
    walk_at "e"
    refine ⟨ui, 0, _, _, rfl, hui.fr f1, hi, fun l2 H2 n2 => ?_⟩
    have hp2 := n2.1 _ _ np hp1
    have f2 := f1.trans n2.1
    refine re_call c dF (by decide) (by walk_at "gm") ?_
    walk_at "e"
    refine ⟨uf, _, _, rfl, huf.fr f2, hf, fun l3 H3 n3 => ?_⟩
    refine ov_catI (f2.trans n3.1) (n3.1 _ _ (fun z => z) n2.2) n3.2 (by omega) fun l4 H4 n4 => ?_
    walk_at "e"
    refine ⟨by show 1 ≤ sizeLine; decide, fun G hG => ?_⟩
    have f5 : Fr NoB H4 (upd H4 G (.lst [.int (j : Int)])) := Fr.new hG
    refine ov_catI (ys := [(j : Int)]) (n4.1.trans f5) (f5 _ _ (fun z => z) n4.2) upd_same (by rw [List.length_append, List.length_singleton]; omega) fun l6 H6 n6 => ?_
    have hp6 := n6.1 _ _ np hp
    have hpd6 := n6.1 _ _ nd hpd
    walk_at "e"
    refine rb_cons ?_
    refine rs_for_zipM c (by walk_at "gm") .loc (by walk_at "gm") (by walk_at "gm") .loc (by walk_at "gm") (by walk_at "gm") zz ?_
    refine ra_cons ?_
    refine re_call c dW (by decide) (by walk_at "gm") ?_
    walk_at "e"
    refine ⟨j, k, ws, rfl, hj, fun lw H7 f7 hw7 => ?_⟩
    have hp7 := f7 _ _ np hp6
    have hpd7 := f7 _ _ nd hpd6
    walk_at "e"
    refine sv_tupD (lo := 1) (SqT.of hpd7) (by simp) (fun z => nomatch z) fun _ l hl => ?_
    walk_at "e"
    have f8 : Fr NoB H7 (upd H7 l (.tup us)) := Fr.new hl
    have hl8 : upd H7 l (.tup us) l = some (.tup us) := upd_same
    have hw8 := f8 _ _ (fun z => z) hw7
    have g8 : Fr NoB H (upd H7 l (.tup us)) := n6.1.trans (f7.trans f8)
    have n68 := (f7.trans f8) _ _ (fun z => z) n6.2
    have eus : (V.str k :: us).drop 1 = us := rfl
    rw [eus]
    generalize upd H7 l (.tup us) = H8 at f8 hl8 hw8 g8 n68 ⊢
    refine ⟨lw, l, ws.map V.str, us, rfl, by rw [List.length_map, lus], SqL.of hw8, SqT.of hl8,
      fun i σ H' => ∃ (F : Addr) (s4 s5 : Option V), NL H H' F (ib ++ (fb ++ (j : Int) :: ((ps.take i).map (·.2)).flatten)) ∧ H' lw = some (.lst (ws.map V.str)) ∧ H' l = some (.tup us) ∧ σ = [some (.ref p), some (.int (j : Int)), some (.ref F), s4, s5], ⟨l6, none, none, ⟨g8, by rw [n68]; simp⟩, hw8, hl8, rfl⟩, fun i σ H' _ h => ⟨SqL.of h.choose_spec.choose_spec.choose_spec.2.1, SqT.of h.choose_spec.choose_spec.choose_spec.2.2.1⟩, ?_, ?_⟩
    · rintro i y z σ H9 T hi9 hy hz ⟨F, s4, s5, n9, hw9, hl9, rfl⟩ hT
      obtain ⟨w, ew, rfl⟩ : ∃ w, ws[i]? = some w ∧ y = .str w := by
        have hy : (ws.map V.str)[i]? = some y := hy
        rw [List.getElem?_map] at hy
        cases e : ws[i]? with
        | none => rw [e] at hy; cases hy
        | some w => rw [e] at hy; exact ⟨w, rfl, (Option.some.inj hy).symm⟩
      rw [List.length_map] at hi9
      obtain ⟨x, ex⟩ : ∃ x, ps[i]? = some x := ⟨_, List.getElem?_eq_getElem (by omega)⟩
      have hx := hpp i w x ew ex
      have hz : us[i]? = some z := hz
      have hz1 := hus.2 i z x.1 hz (by rw [List.getElem?_map, ex]; rfl)
      have l5 := flat_le (fun x : D × List Int => x.2) ex
      have fT : Fr NoB H9 (upd H9 T (.tup [.str w, z])) := Fr.new hT
      refine ⟨_, _, by walk_at "gs", by walk_at "gs", ?_⟩
      have n10 := (NL.trans n9.1 ⟨fT, fT _ _ (fun z => z) n9.2⟩ : NL H _ F _)
      have hw10 := fT _ _ (fun z => z) hw9
      have hl10 := fT _ _ (fun z => z) hl9
      generalize upd H9 T (.tup [.str w, z]) = H10 at n10 hw10 hl10 ⊢
      walk_at "e0"
      refine re_call c dP (by decide) (by walk_at "gm") ?_
      walk_at "e"
      refine ⟨w, z, x.1, x.2, rfl, hz1.fr n10.1, hx, fun l11 H11 n11 => ?_⟩
      refine ov_cat (n11.1 _ _ (fun z => z) n10.2) n11.2 (sl (by simp only [List.length_map, List.length_append, List.length_cons]; omega)) fun l12 hl12 => ?_
      have f12 : Fr NoB H10 (upd H11 l12 (.lst ((ib ++ (fb ++ (j : Int) :: ((ps.take i).map (·.2)).flatten)).map V.int ++ x.2.map V.int))) := n11.1.trans (Fr.new hl12)
      walk_at "e"
      refine ⟨l12, _, _, ⟨n10.1.trans f12, ?_⟩, f12 _ _ (fun z => z) hw10, f12 _ _ (fun z => z) hl10, rfl⟩
      rw [upd_same, flat_succ (fun x : D × List Int => x.2) ex]
      simp
    · rintro σ H9 ⟨F, s4, s5, n9, hw9, hl9, rfl⟩
      rw [List.length_map, ← lp, List.take_length] at n9
      walk_at "e0"
      exact q F H9 n9
end
local macro_rules | `(tactic| walk_at "its") => `(tactic| repeat (first | exact ItL.nil | refine ItL.cons (fun _ _ => rfl) (it_de (by walk_at "de") (pz (by decide))) ?_))
def spEdges (K : PySem.W.Frag) : Sp := fun vs H Q _ => vs = [] ∧ ∀ (l : Addr) (us : List V) H', Fr NoB H H' → H' l = some (.lst us) → (∀ u ∈ us, ∃ d, ER EncV d ∧ Dt K NoB H' u d) → Q (.ref l) H'
def g1 {α : Type} : List α → List α → List α
  | [], [z] => [z]
  | _, _ => []
structure KeyC (X : Cx) (CXs : CXT) (x : Str) (ps ks : List Str) (g : List Value → List Value → List Value) (gV : List V → List V → List V) (n : Nat) (sp : Sp) : Prop where
  ex : ∃ (f : Addr) (fd : FuncData), FnOk X.prog X.w X.K X.mg X.base CXs n f fd ps sp ∧ X.mg x = some (.ref f) ∧ PySem.W.keepIn X.K (.ref f) = true ∧ KBinds X.K fd ps ks g gV
/-! ### the events that are written out -/
inductive ErPs : List Str → List D → Prop
  | nil : ErPs [] []
  | cons {w : Str} {d : D} {ws : List Str} {ds : List D} (h : ER (EncP w) d) (t : ErPs ws ds) : ErPs (w :: ws) (d :: ds)
theorem ErPs.ex {ws : List Str} {ds : List D} (h : ErPs ws ds) : ∃ ps : List (D × List Int), ps.map (·.1) = ds ∧ ps.length = ws.length ∧ ∀ (m : Nat) w x, ws[m]? = some w → ps[m]? = some x → EncP w x.1 x.2 := by
  induction h with
  | nil => exact ⟨[], rfl, rfl, fun m w x a _ => by simp at a⟩
  | cons h _ ih =>
    obtain ⟨bs, h⟩ := h
    obtain ⟨ps, e1, e2, e3⟩ := ih
    refine ⟨(_, bs) :: ps, by rw [List.map_cons, e1], by rw [List.length_cons, List.length_cons, e2], fun m w x a b => ?_⟩
    cases m with
    | zero => cases a; cases b; exact h
    | succ m => exact e3 m w x a b
theorem erV {i f : D} {k : Str} {ws : List Str} {ds : List D} (j : Nat) (hi : ER (EncI 0) i) (hf : ER EncF f) (hj : kindTab[j]? = some (k, ws)) (h : ErPs ws ds) : ER EncV (.tup [i, f, .tup (.str k :: ds)]) := by
  obtain ⟨ib, hi⟩ := hi
  obtain ⟨fb, hf⟩ := hf
  obtain ⟨ps, rfl, e2, e3⟩ := h.ex
  exact ⟨_, .mk j k ws ps hi hf hj e2 e3⟩
theorem erI {m a b c : Int} (hb : 0 ≤ b ∧ b < 2 ^ 31) (hc : 0 ≤ c ∧ c < 2 ^ 31) : ER (EncI m) (.tup [.int a, .int b, .int c]) := by
  obtain ⟨b, rfl, wb⟩ := nat_of hb.1 hb.2
  obtain ⟨c, rfl, wc⟩ := nat_of hc.1 hc.2
  exact ⟨_, .mk a b c wb wc⟩
theorem erF {n d : Int} (hn : n.natAbs < 2 ^ 138) (hd : 0 ≤ d ∧ d.natAbs < 2 ^ 138) : ER EncF (.tup [.int n, .int d]) := by
  obtain ⟨k, rfl⟩ := Int.eq_ofNat_of_zero_le hd.1
  exact ⟨_, .mk n k hn (Nat.lt_of_lt_of_le (by simpa using hd.2) (by decide +kernel))⟩
theorem erT {m : Int} {d : D} (h : ER (EncI 1) d) : ER EncT d := by
  obtain ⟨bs, h⟩ := h
  exact ⟨bs, .id h⟩
theorem lowl_of {s : Str} (h : (s.cps.toList.all (fun c => decide (97 ≤ c) && decide (c ≤ 122)) && decide (s.length ≤ 30)) = true) : LowL s := by
  rw [Bool.and_eq_true] at h
  refine ⟨fun c hc => ?_, of_decide_eq_true h.2⟩
  have := List.all_eq_true.mp h.1 c hc
  rw [Bool.and_eq_true] at this
  exact ⟨of_decide_eq_true this.1, of_decide_eq_true this.2⟩
theorem erN (zs : List Str) (h : (zs.all fun s => s.cps.toList.all (fun c => decide (97 ≤ c) && decide (c ≤ 122)) && decide (s.length ≤ 30)) = true) (l : zs.length ≤ 20) : ER EncN (.tup (zs.map D.str)) := ⟨_, .mk zs (fun z hz => lowl_of (List.all_eq_true.mp h z hz)) l⟩
theorem erLab (s : Str) (h : (s.cps.toList.all (fun c => decide (97 ≤ c) && decide (c ≤ 122)) && decide (s.length ≤ 30)) = true) : ER (EncP "label") (.str s) := ⟨_, .label ⟨s, rfl, lowl_of h, rfl⟩⟩
theorem erNode (i : Int) : ER (EncP "node") (.int i) := ⟨_, .node ⟨i, rfl, rfl⟩⟩
theorem erMost (i : Int) : ER (EncP "most") (.int i) := ⟨_, .most ⟨i, rfl, rfl⟩⟩
theorem erId {d : D} (h : ER (EncI 0) d) : ER (EncP "id") d := by obtain ⟨bs, h⟩ := h; exact ⟨_, .id h⟩
theorem erTerm {d : D} (h : ER EncT d) : ER (EncP "term") d := by obtain ⟨bs, h⟩ := h; exact ⟨_, .term h⟩
theorem erKept {d : D} (h : ER EncT d) : ER (EncP "kept") d := by obtain ⟨bs, h⟩ := h; exact ⟨_, .kept h⟩
theorem erEnt {d : D} (h : ER EncE d) : ER (EncP "entry") d := by obtain ⟨bs, h⟩ := h; exact ⟨_, .entry h⟩
theorem erFr {d : D} (h : ER EncF d) : ER (EncP "fraction") d := by obtain ⟨bs, h⟩ := h; exact ⟨_, .fraction h⟩
theorem erNm {d : D} (h : ER EncN d) : ER (EncP "name") d := by obtain ⟨bs, h⟩ := h; exact ⟨_, .name h⟩
abbrev dI (a b c : Int) : D := .tup [.int a, .int b, .int c]
abbrev dQ (a b : Int) : D := .tup [.int a, .int b]
abbrev evs1 : List D := [.tup [dI 0 0 0, dQ 0 1, .tup [.str "start", .non]], .tup [dI 31 9 128, dQ (0 - 1) 128, .tup [.str "start", dI 31 8 127]], .tup [dI 5 0 300, dQ (0 - 3) 2, .tup [.str "tick"]]]
abbrev evs2 : List D := [.tup [dI 0 0 127, dQ 63 127, .tup [.str "send", .int 31]], .tup [dI 1 0 1, dQ 64 1, .tup [.str "hear", dI 0 0 16384]], .tup [dI 7 1 2, dQ (0 - 64) 3, .tup [.str "swear", dI 31 0 0]]]
abbrev ev8 : D := .tup [dI 3 0 1, dQ 1 2, .tup [.str "put", dI 31 1 0, .str "z", .tup [.str "name", .tup [.str "a", .str "zz", .str "abc", .str "q", .str "zzzzzzzz", .str "b"]]]]
abbrev ev9 : D := .tup [dI 3 0 1, dQ (10 ^ (40 : Int).toNat - 1) (10 ^ (39 : Int).toNat), .tup [.str "give", dI 0 0 1, .str "b", dQ (10 ^ (39 : Int).toNat) (10 ^ (40 : Int).toNat - 1), .int 0]]
abbrev evs3 : List D := [.tup [dI 3 0 1, dQ 1 1, .tup [.str "pass", dI 0 0 128, .int 31]], .tup [dI 3 0 1, dQ 1 1, .tup [.str "hand", .tup [], .int 30]], .tup [dI 3 0 1, dQ 1 1, .tup [.str "ask", .tup [.str "a"], .int 0]]]
abbrev evs4 : List D := [.tup [dI 3 0 1, dQ 1 1, .tup [.str "put", .tup [], .str "a", .non]], .tup [dI 3 0 1, dQ 1 1, .tup [.str "put", .tup [], .str "a", .tup [.str "page", .int 0, .tup []]]]]
theorem er31 : ER (EncI 0) (dI 3 0 1) := erI (by decide) (by decide)
theorem er11 : ER EncF (dQ 1 1) := erF (by decide +kernel) (by decide +kernel)
theorem er12 : ER EncF (dQ 1 2) := erF (by decide +kernel) (by decide +kernel)
theorem erEmp : ER EncT (.tup []) := ⟨_, .emp⟩
theorem ok1 : ∀ d ∈ evs1, ER EncV d := by
  intro d hd
  simp only [List.mem_cons, List.not_mem_nil, or_false] at hd
  rcases hd with rfl | rfl | rfl
  · exact erV 0 (erI (by decide) (by decide)) (erF (by decide +kernel) (by decide +kernel)) rfl (.cons (erKept ⟨_, .non⟩) .nil)
  · exact erV 0 (erI (by decide) (by decide)) (erF (by decide +kernel) (by decide +kernel)) rfl (.cons (erKept (erT (m := 0) (erI (by decide) (by decide)))) .nil)
  · exact erV 1 (erI (by decide) (by decide)) (erF (by decide +kernel) (by decide +kernel)) rfl .nil
theorem ok2 : ∀ d ∈ evs2, ER EncV d := by
  intro d hd
  simp only [List.mem_cons, List.not_mem_nil, or_false] at hd
  rcases hd with rfl | rfl | rfl
  · exact erV 2 (erI (by decide) (by decide)) (erF (by decide +kernel) (by decide +kernel)) rfl (.cons (erNode _) .nil)
  · exact erV 3 (erI (by decide) (by decide)) (erF (by decide +kernel) (by decide +kernel)) rfl (.cons (erId (erI (by decide) (by decide))) .nil)
  · exact erV 7 (erI (by decide) (by decide)) (erF (by decide +kernel) (by decide +kernel)) rfl (.cons (erId (erI (by decide) (by decide))) .nil)
theorem ok8 : ER EncV ev8 := by
  obtain ⟨bs, h⟩ := erN ["a", "zz", "abc", "q", "zzzzzzzz", "b"] (by decide +kernel) (by decide)
  exact erV 4 er31 er12 rfl (.cons (erTerm (erT (m := 0) (erI (by decide) (by decide)))) (.cons (erLab _ (by decide +kernel)) (.cons (erEnt ⟨_, .one (.nm h)⟩) .nil)))
theorem ok9 : ER EncV ev9 := erV 5 er31 (erF (by decide +kernel) (by decide +kernel)) rfl (.cons (erTerm (erT (m := 0) (erI (by decide) (by decide)))) (.cons (erLab _ (by decide +kernel)) (.cons (erFr (erF (by decide +kernel) (by decide +kernel))) (.cons (erNode _) .nil))))
theorem ok3 : ∀ d ∈ evs3, ER EncV d := by
  intro d hd
  simp only [List.mem_cons, List.not_mem_nil, or_false] at hd
  rcases hd with rfl | rfl | rfl
  · exact erV 6 er31 er11 rfl (.cons (erId (erI (by decide) (by decide))) (.cons (erNode _) .nil))
  · exact erV 8 er31 er11 rfl (.cons (erTerm erEmp) (.cons (erNode _) .nil))
  · exact erV 10 er31 er11 rfl (.cons (erNm (erN ["a"] (by decide +kernel) (by decide))) (.cons (erMost _) .nil))
theorem ok4 : ∀ d ∈ evs4, ER EncV d := by
  intro d hd
  simp only [List.mem_cons, List.not_mem_nil, or_false] at hd
  rcases hd with rfl | rfl
  · exact erV 4 er31 er11 rfl (.cons (erTerm erEmp) (.cons (erLab _ (by decide +kernel)) (.cons (erEnt ⟨_, .non⟩) .nil)))
  · exact erV 4 er31 er11 rfl (.cons (erTerm erEmp) (.cons (erLab _ (by decide +kernel)) (.cons (erEnt ⟨_, .page 0 [] (fun _ h => by cases h) (by decide)⟩) .nil)))
theorem ok10 : ER EncV (.tup [dI 3 0 1, dQ 1 1, .tup [.str "tell", .tup [.str "zzzzzzzz"], .int 8, .tup [.tup [.str "far"], .tup (List.replicate 9 (.tup [.str "a", .str "b"]))]]]) := by
  obtain ⟨nb, hN⟩ := erN ["a", "b"] (by decide +kernel) (by decide)
  have hA : EncA _ _ := .mk (List.replicate 9 (D.tup [.str "a", .str "b"], nb)) .far (fun n hn => by rw [List.eq_of_mem_replicate hn]; exact hN) (by rw [List.length_replicate]; decide)
  exact erV 9 er31 er11 rfl (.cons (erNm (erN ["zzzzzzzz"] (by decide +kernel) (by decide))) (.cons (erMost _) (.cons ⟨_, .answer hA⟩ .nil)))
/-- events at l, of what stood and of new ones -/
def Evs (K : PySem.W.Frag) (H0 H : Hp) (l : Addr) (n : Nat) : Prop := Fr NoB H0 H ∧ ∃ us : List V, H l = some (.lst us) ∧ us.length = n ∧ ∀ u ∈ us, ∃ d, ER EncV d ∧ Dt K (· = l) H u d
theorem Evs.add {K : PySem.W.Frag} {H0 H H1 : Hp} {l : Addr} {n m : Nat} {us vs : List V} (f0 : Fr NoB H0 H) (h0 : H0 l = none) (h1 : H l = some (.lst us)) (hn : us.length = n) (hg : ∀ u ∈ us, ∃ d, ER EncV d ∧ Dt K (· = l) H u d) (f : Fr NoB H H1) (hm : vs.length = m)
    (hv : ∀ u ∈ vs, ∃ d, ER EncV d ∧ Dt K (· = l) H1 u d) : Evs K H0 (upd H1 l (.lst (us ++ vs))) l (n + m) := by
  have g : Fr (· = l) H1 (upd H1 l (.lst (us ++ vs))) := fr_box
  refine ⟨fun a o na ea => ?_, us ++ vs, upd_same, by rw [List.length_append, hn, hm], fun u hu => ?_⟩
  · rw [upd_ne (fun z => by rw [z, h0] at ea; cases ea)]
    exact (f0.trans f) a o na ea
  · rcases List.mem_append.mp hu with hu | hu
    · obtain ⟨d, e, t⟩ := hg u hu
      exact ⟨d, e, (t.fr f.any).fr g⟩
    · obtain ⟨d, e, t⟩ := hv u hu
      exact ⟨d, e, t.fr g⟩
theorem evs_of {K : PySem.W.Frag} {H : Hp} {B : Addr → Prop} {vs : List V} {ds : List D} {l : Addr} {xs : List V} (h : Dts K B H vs ds) (ok : ∀ d ∈ ds, ER EncV d) (hl : H l = some (.lst xs)) : ∀ u ∈ vs, ∃ d, ER EncV d ∧ Dt K (· = l) H u d := by
  intro u hu
  obtain ⟨i, hi⟩ := List.mem_iff_getElem?.mp hu
  have hlt : i < ds.length := by
    rw [← h.1]
    rcases Nat.lt_or_ge i vs.length with z | z
    · exact z
    · rw [List.getElem?_eq_none z] at hi; cases hi
  have o := ok _ (List.getElem_mem hlt)
  exact ⟨ds[i], o, (dt_noL (h.2 i u _ hi (List.getElem?_eq_getElem hlt)) (nl_V o.choose_spec) ⟨_, hl⟩).mono fun a e => .inr e⟩
theorem evs_1 {K : PySem.W.Frag} {H : Hp} {B : Addr → Prop} {v : V} {d : D} {l : Addr} {xs : List V} (h : Dt K B H v d) (ok : ER EncV d) (hl : H l = some (.lst xs)) : ∀ u ∈ [v], ∃ d, ER EncV d ∧ Dt K (· = l) H u d := fun u hu => by
  rw [List.mem_singleton.mp hu]
  exact ⟨d, ok, (dt_noL h (nl_V ok.choose_spec) ⟨_, hl⟩).mono fun a e => .inr e⟩
theorem zz_low : ∀ i : Nat, i < 6 → LowL (Txt.mul "z" ((i : Int) + 1)) := by
  intro i hi
  have key : ∀ i : _root_.Fin 6, ((Txt.mul "z" ((i.val : Int) + 1)).cps.toList.all (fun c => decide (97 ≤ c) && decide (c ≤ 122)) && decide ((Txt.mul "z" ((i.val : Int) + 1)).length ≤ 30)) = true := by decide +kernel
  exact lowl_of (key ⟨i, hi⟩)
section
variable {X : Cx} {vs : List V} {H : Hp} {Q : VK} {E : XK}
theorem body_edges (c : Ctx X nq_edges lq_edges 0) (zr : X.mg "range" = none) (zt : X.mg "tuple" = none) (h : spEdges X.K vs H Q E) : RB X (defBody sq_edges) { nx := fun _ H' => Q .non H', rt := Q } (start nq_edges vs) H := by
  obtain ⟨rfl, q⟩ := h
  show RB X (defBody sq_edges) _ [none, none] H
  refine rb_cons (rs_set c (by walk_at "gm") .loc (by walk_at "gm") ?_)
  refine re_dataL (ds := evs1) (by walk_at "de") (by decide) fun l us H1 hl f1 h1 d1 => ?_
  refine ⟨_, by walk_at "gs", ?_⟩
  have h0 : H l = none := hl
  have E : Evs X.K H H1 l 3 := ⟨f1, us, h1, d1.1, evs_of d1 ok1 h1⟩
  clear f1 h1 d1 hl
  obtain ⟨f, us, hl, hn, hg⟩ := E
  refine rb_cons (rs_expr (re_extend ?_))
  refine re_name c (by walk_at "gs") (by walk_at "gm") .loc ?_
  refine ⟨l, _, rfl, hl, ?_⟩
  refine re_dataL (ds := evs2) (by walk_at "de") (by decide) fun b ws HB1 hb fB hB dB => ?_
  have hl2 := fB _ _ (fun z => z) hl
  refine ⟨b, _, _, rfl, hl2, hB, by rw [hn, dB.1]; decide, ?_⟩
  have E := Evs.add f h0 hl hn hg fB dB.1 (evs_of dB ok2 hl2)
  clear hB hl2 dB
  generalize upd HB1 l (.lst (us ++ ws)) = HN1 at E ⊢
  clear f hl hn hg fB hb
  have rest7 : ∀ HN2, Evs X.K H HN2 l 7 → RB X (List.drop 3 (defBody sq_edges)) { nx := fun _ H' => Q .non H', rt := Q } [some (.ref l), none] HN2 := by
    intro HN2 E
    obtain ⟨f, us, hl, hn, hg⟩ := E
    refine rb_cons (rs_app c (by walk_at "gm") .loc (by walk_at "gs") hl ?_)
    refine re_de (d := ev8) (by walk_at "de") _ _ _ fun v HB3 fB hv => ?_
    have hl2 := fB _ _ (fun z => z) hl
    refine ⟨_, hl2, by rw [hn]; decide, ?_⟩
    have E := Evs.add (m := 1) (vs := [v]) f h0 hl hn hg fB rfl (evs_1 hv ok8 hl2)
    clear hv hl2
    generalize upd HB3 l (.lst (us ++ [v])) = HN3 at E ⊢
    clear f hl hn hg fB
    obtain ⟨f, us, hl, hn, hg⟩ := E
    refine rb_cons (rs_app c (by walk_at "gm") .loc (by walk_at "gs") hl ?_)
    refine re_de (d := ev9) (by walk_at "de") _ _ _ fun v HB4 fB hv => ?_
    have hl2 := fB _ _ (fun z => z) hl
    refine ⟨_, hl2, by rw [hn]; decide, ?_⟩
    have E := Evs.add (m := 1) (vs := [v]) f h0 hl hn hg fB rfl (evs_1 hv ok9 hl2)
    clear hv hl2
    generalize upd HB4 l (.lst (us ++ [v])) = HN4 at E ⊢
    clear f hl hn hg fB
    have rest10 : ∀ HN5, Evs X.K H HN5 l 10 → RB X (List.drop 6 (defBody sq_edges)) { nx := fun _ H' => Q .non H', rt := Q } [some (.ref l), none] HN5 := by
      intro HN5 E
      obtain ⟨f, us, hl, hn, hg⟩ := E
      refine rb_cons (rs_expr (re_extend ?_))
      refine re_name c (by walk_at "gs") (by walk_at "gm") .loc ?_
      refine ⟨l, _, rfl, hl, ?_⟩
      refine re_dataL (ds := evs3) (by walk_at "de") (by decide) fun b ws HB6 hb fB hB dB => ?_
      have hl2 := fB _ _ (fun z => z) hl
      refine ⟨b, _, _, rfl, hl2, hB, by rw [hn, dB.1]; decide, ?_⟩
      have E := Evs.add f h0 hl hn hg fB dB.1 (evs_of dB ok3 hl2)
      clear hB hl2 dB
      generalize upd HB6 l (.lst (us ++ ws)) = HN6 at E ⊢
      clear f hl hn hg fB hb
      obtain ⟨f, us, hl, hn, hg⟩ := E
      refine rb_cons (rs_expr (re_extend ?_))
      refine re_name c (by walk_at "gs") (by walk_at "gm") .loc ?_
      refine ⟨l, _, rfl, hl, ?_⟩
      refine re_dataL (ds := evs4) (by walk_at "de") (by decide) fun b ws HB7 hb fB hB dB => ?_
      have hl2 := fB _ _ (fun z => z) hl
      refine ⟨b, _, _, rfl, hl2, hB, by rw [hn, dB.1]; decide, ?_⟩
      have E := Evs.add f h0 hl hn hg fB dB.1 (evs_of dB ok4 hl2)
      clear hB hl2 dB
      generalize upd HB7 l (.lst (us ++ ws)) = HN7 at E ⊢
      clear f hl hn hg fB hb
      obtain ⟨f, us, hl, hn, hg⟩ := E
      walk_at "e0"
      refine q l us _ f hl fun u hu => ?_
      obtain ⟨d, e, t⟩ := hg u hu
      exact ⟨d, e, t.mono fun a e => e.elim⟩
    obtain ⟨f, us, hl, hn, hg⟩ := E
    refine rb_cons (rs_app c (by walk_at "gm") .loc (by walk_at "gs") hl ?_)
    refine re_tup ?_
    refine ra_cons ?_
    refine re_de (d := dI 3 0 1) (by walk_at "de") _ _ _ fun v1 Ha fa hv1 => ?_
    refine ra_cons ?_
    refine re_de (d := dQ 1 1) (by walk_at "de") _ _ _ fun v2 Hb fb hv2 => ?_
    refine ra_cons ?_
    refine re_tup ?_
    refine ra_cons (re_str ?_)
    refine ra_cons ?_
    refine re_de (d := .tup [.str "zzzzzzzz"]) (by walk_at "de") _ _ _ fun v3 Hc0 fc0 hv3 => ?_
    refine ra_cons (re_int ?_)
    refine ra_cons ?_
    refine re_tup ?_
    refine ra_cons ?_
    refine re_de (d := .tup [.str "far"]) (by walk_at "de") _ _ _ fun v4 Hc fc1 hv4 => ?_
    refine ra_cons ?_
    have fc : Fr NoB Hb Hc := fc0.trans fc1
    walk_at "e"
    refine re_lc_range c lq_edges_c1 (by decide +kernel) (by walk_at "gm") zr ?_
    walk_at "e"
    refine ⟨by decide, by decide, fun Dn hD => ?_⟩
    refine ⟨fun i H' => ∃ (xs : List V), xs.length = i ∧ H' Dn = some (.lst xs) ∧ Dts X.K (· = Dn) H' xs (List.replicate i (.tup [.str "a", .str "b"])) ∧ Fr NoB Hc H', ⟨[], rfl, upd_same, Dts.nil, Fr.new hD⟩, fun _ _ _ _ => trivial, ?_, ?_⟩
    · rintro i y H' hi rfl ⟨xs, h1, h3, h4, h5⟩
      have hi : i < 9 := hi
      refine ⟨_, by walk_at "gs", fun s Hb C cl fp cb => rts_nil (iteT fun s Hb C cl fp cb => ?_)⟩
      walk_at "e"
      refine ⟨by show 2 ≤ sizeLine; decide, fun p2 hp2 => ?_⟩
      have np2 : ¬ p2 = Dn := fun z => by rw [z, h3] at hp2; cases hp2
      have g2 : Fr NoB H' (upd H' p2 (.tup [.str "a", .str "b"])) := Fr.new hp2
      have k2 := Dt.newT (K := X.K) (B := (· = Dn)) hp2 np2 (Dts.cons (.str (s := "a")) (.cons (.str (s := "b")) .nil))
      have h38 := g2 _ _ (fun z => z) h3
      generalize upd H' p2 (.tup [.str "a", .str "b"]) = H8 at g2 k2 h38 ⊢
      have g3 : Fr (· = Dn) H8 (upd H8 Dn (.lst (xs ++ [.ref p2]))) := fr_box
      refine ⟨_, h38, Nat.lt_of_le_of_lt (by omega : xs.length ≤ 9) (by decide), xs ++ [.ref p2], by rw [List.length_append, List.length_singleton, h1], upd_same, ?_, ?_⟩
      · rw [List.replicate_succ']
        exact dts_app ((h4.fr g2.any).fr g3) (.cons (k2.fr g3) .nil)
      · exact fun a o na ea => by
          rw [upd_ne (fun z => by rw [z, hD] at ea; cases ea)]
          exact (h5.trans g2) a o na ea
    · rintro H' ⟨xs, h1, h3, h4, h5⟩
      walk_at "e"
      refine lv_tupL (SqL.of h3) fun t ht => ?_
      have g1 : Fr NoB H' (upd H' t (.tup xs)) := Fr.new ht
      have k1 := Dt.newT (B := NoB) ht (fun z => z) (h4.mono (B' := NoB) fun a e => e.elim)
      generalize upd H' t (.tup xs) = H6 at g1 k1 ⊢
      walk_at "e"
      refine ⟨by show 2 ≤ sizeLine; decide, fun p hp => ?_⟩
      have g2 : Fr NoB H6 (upd H6 p (.tup [v4, .ref t])) := Fr.new hp
      have k2 := Dt.newT (B := NoB) hp (fun z => z) (Dts.cons ((hv4.mono (B' := NoB) fun a e => e.elim).fr (h5.trans g1)) (.cons k1 .nil))
      generalize upd H6 p (.tup [v4, .ref t]) = H7 at g2 k2 ⊢
      walk_at "e"
      refine ⟨by show 4 ≤ sizeLine; decide, fun p2 hp2 => ?_⟩
      have fc7 : Fr NoB Hc H7 := h5.trans (g1.trans g2)
      have g3 : Fr NoB H7 (upd H7 p2 (.tup [.str "tell", v3, .int 8, .ref p])) := Fr.new hp2
      have k3 := Dt.newT (B := NoB) hp2 (fun z => z) (Dts.cons (.str (s := "tell")) (.cons ((hv3.mono (B' := NoB) fun a e => e.elim).fr (fc1.trans fc7)) (.cons (.int (i := 8)) (.cons k2 .nil))))
      generalize upd H7 p2 (.tup [.str "tell", v3, .int 8, .ref p]) = H8 at g3 k3 ⊢
      walk_at "e"
      refine ⟨by show 3 ≤ sizeLine; decide, fun p3 hp3 => ?_⟩
      have fc8 : Fr NoB Hc H8 := fc7.trans g3
      have g4 : Fr NoB H8 (upd H8 p3 (.tup [v1, v2, .ref p2])) := Fr.new hp3
      have hv1' := (hv1.mono (B' := NoB) fun a e => e.elim).fr (fb.trans (fc.trans fc8))
      have hv2' := (hv2.mono (B' := NoB) fun a e => e.elim).fr (fc.trans fc8)
      have k4 := Dt.newT (B := NoB) hp3 (fun z => z) (Dts.cons hv1' (.cons hv2' (.cons k3 .nil)))
      have fB : Fr NoB HN4 (upd H8 p3 (.tup [v1, v2, .ref p2])) := fa.trans (fb.trans (fc.trans (fc8.trans g4)))
      generalize upd H8 p3 (.tup [v1, v2, .ref p2]) = HB5 at g4 k4 fB ⊢
      have hl2 := fB _ _ (fun z => z) hl
      refine ⟨_, hl2, by rw [hn]; decide, ?_⟩
      have E := Evs.add (m := 1) f h0 hl hn hg fB rfl (evs_1 k4 ok10 hl2)
      generalize upd HB5 l (.lst (us ++ [.ref p3])) = HN5 at E ⊢
      refine rest10 HN5 E
  obtain ⟨f, us, hl, hn, hg⟩ := E
  refine rb_cons (rs_app c (by walk_at "gm") .loc (by walk_at "gs") hl ?_)
  refine re_tup ?_
  refine ra_cons ?_
  refine re_de (d := dI 3 0 1) (by walk_at "de") _ _ _ fun v1 Ha fa hv1 => ?_
  refine ra_cons ?_
  refine re_de (d := dQ 1 2) (by walk_at "de") _ _ _ fun v2 Hb fb hv2 => ?_
  refine ra_cons ?_
  refine re_tup ?_
  refine ra_cons (re_str ?_)
  refine ra_cons ?_
  refine re_de (d := .tup []) (by walk_at "de") _ _ _ fun v3 Hc fc hv3 => ?_
  refine ra_cons (re_str ?_)
  refine ra_cons ?_
  refine re_tup ?_
  refine ra_cons (re_str ?_)
  refine ra_cons (re_int ?_)
  refine ra_cons ?_
  walk_at "e"
  refine re_lc_range c lq_edges_c0 (by decide +kernel) (by walk_at "gm") zr ?_
  walk_at "e"
  refine ⟨by decide, by decide, fun Dn hD => ?_⟩
  refine ⟨fun i H' => ∃ (us : List V) (rs : List Row), rs.length = i ∧ (∀ r ∈ rs, RowOk r) ∧ H' Dn = some (.lst us) ∧ Dts X.K (· = Dn) H' us (rs.map rowD) ∧ Fr NoB Hc H', ⟨[], [], rfl, (fun _ h => by cases h), upd_same, Dts.nil, Fr.new hD⟩, fun _ _ _ _ => trivial, ?_, ?_⟩
  · rintro i y H' hi rfl ⟨xs, rs, h1, h2, h3, h4, h5⟩
    have hi : i < 6 := hi
    refine ⟨_, by walk_at "gs", fun s Hb C cl fp cb => rts_nil (iteT fun s Hb C cl fp cb => ?_)⟩
    walk_at "e"
    refine ⟨⟨_, op_mulS, "z", _, rfl, rfl, mulOk_of (by decide) (by omega) (by omega), ?_⟩⟩
    walk_at "e"
    refine ⟨by show 2 ≤ sizeLine; decide, fun p hp => ?_⟩
    have np : ¬ p = Dn := fun z => by rw [z, h3] at hp; cases hp
    walk_at "e"
    refine ⟨by show 2 ≤ sizeLine; decide, fun p2 hp2 => ?_⟩
    have g1 : Fr NoB H' (upd H' p (.tup [.str "value", .int (127 + (i : Int))])) := Fr.new hp
    have k1 : Dt X.K (· = Dn) (upd H' p (.tup [.str "value", .int (127 + (i : Int))])) (.ref p) (.tup [.str "value", .int ((127 + i : Nat) : Int)]) := by
      have e9 : (127 : Int) + (i : Int) = ((127 + i : Nat) : Int) := by omega
      rw [e9]
      exact Dt.newT hp np (.cons .str (.cons .int .nil))
    generalize upd H' p (.tup [.str "value", .int (127 + (i : Int))]) = H7 at g1 k1 hp2 ⊢
    have h37 := g1 _ _ (fun z => z) h3
    have np2 : ¬ p2 = Dn := fun z => by rw [z, h37] at hp2; cases hp2
    have g2 : Fr NoB H7 (upd H7 p2 (.tup [.str (Txt.mul "z" ((i : Int) + 1)), .ref p])) := Fr.new hp2
    have k2 := Dt.newT (B := (· = Dn)) hp2 np2 (Dts.cons (.str (s := Txt.mul "z" ((i : Int) + 1))) (.cons k1 .nil))
    have h38 := g2 _ _ (fun z => z) h37
    generalize upd H7 p2 (.tup [.str (Txt.mul "z" ((i : Int) + 1)), .ref p]) = H8 at g2 k2 h38 ⊢
    have lx : xs.length = i := by rw [h4.1, List.length_map, h1]
    have g3 : Fr (· = Dn) H8 (upd H8 Dn (.lst (xs ++ [.ref p2]))) := fr_box
    refine ⟨_, h38, Nat.lt_of_le_of_lt (by omega : xs.length ≤ 6) (by decide), xs ++ [.ref p2], rs ++ [(Txt.mul "z" ((i : Int) + 1), .tup [.str "value", .int ((127 + i : Nat) : Int)], 1 :: grp (127 + i))], by rw [List.length_append, List.length_singleton, h1], ?_, upd_same, ?_, ?_⟩
    · intro r hr
      rcases List.mem_append.mp hr with hr | hr
      · exact h2 r hr
      · rw [List.mem_singleton.mp hr]
        exact ⟨zz_low i hi, .val _ (Nat.lt_trans (by omega : 127 + i < 2 ^ 31) (by decide +kernel))⟩
    · rw [List.map_append]
      exact dts_app ((h4.fr (g1.trans g2).any).fr g3) (.cons (k2.fr g3) .nil)
    · exact fun a o na ea => by
        rw [upd_ne (fun z => by rw [z, hD] at ea; cases ea)]
        exact (h5.trans (g1.trans g2)) a o na ea
  · rintro H' ⟨xs, rs, h1, h2, h3, h4, h5⟩
    have h1 : rs.length = 6 := h1
    walk_at "e"
    refine lv_tupL (SqL.of h3) fun t ht => ?_
    have g1 : Fr NoB H' (upd H' t (.tup xs)) := Fr.new ht
    have k1 := Dt.newT (B := NoB) ht (fun z => z) (h4.mono (B' := NoB) fun a e => e.elim)
    generalize upd H' t (.tup xs) = H6 at g1 k1 ⊢
    walk_at "e"
    refine ⟨by show 3 ≤ sizeLine; decide, fun p hp => ?_⟩
    have g2 : Fr NoB H6 (upd H6 p (.tup [.str "page", .int 31, .ref t])) := Fr.new hp
    have k2 := Dt.newT (B := NoB) hp (fun z => z) (Dts.cons (.str (s := "page")) (.cons (.int (i := 31)) (.cons k1 .nil)))
    generalize upd H6 p (.tup [.str "page", .int 31, .ref t]) = H7 at g2 k2 ⊢
    walk_at "e"
    refine ⟨by show 4 ≤ sizeLine; decide, fun p2 hp2 => ?_⟩
    have fc7 : Fr NoB Hc H7 := h5.trans (g1.trans g2)
    have g3 : Fr NoB H7 (upd H7 p2 (.tup [.str "put", v3, .str "abcdefgh", .ref p])) := Fr.new hp2
    have k3 := Dt.newT (B := NoB) hp2 (fun z => z) (Dts.cons (.str (s := "put")) (.cons ((hv3.mono (B' := NoB) fun a e => e.elim).fr fc7) (.cons (.str (s := "abcdefgh")) (.cons k2 .nil))))
    generalize upd H7 p2 (.tup [.str "put", v3, .str "abcdefgh", .ref p]) = H8 at g3 k3 ⊢
    walk_at "e"
    refine ⟨by show 3 ≤ sizeLine; decide, fun p3 hp3 => ?_⟩
    have fc8 : Fr NoB Hc H8 := fc7.trans g3
    have g4 : Fr NoB H8 (upd H8 p3 (.tup [v1, v2, .ref p2])) := Fr.new hp3
    have hv1' := (hv1.mono (B' := NoB) fun a e => e.elim).fr (fb.trans (fc.trans fc8))
    have hv2' := (hv2.mono (B' := NoB) fun a e => e.elim).fr (fc.trans fc8)
    have k4 := Dt.newT (B := NoB) hp3 (fun z => z) (Dts.cons hv1' (.cons hv2' (.cons k3 .nil)))
    have fB : Fr NoB HN1 (upd H8 p3 (.tup [v1, v2, .ref p2])) := fa.trans (fb.trans (fc.trans (fc8.trans g4)))
    generalize upd H8 p3 (.tup [v1, v2, .ref p2]) = HB2 at g4 k4 fB ⊢
    have hl2 := fB _ _ (fun z => z) hl
    refine ⟨_, hl2, by rw [hn]; decide, ?_⟩
    have ok7 : ER EncV (.tup [dI 3 0 1, dQ 1 2, .tup [.str "put", .tup [], .str "abcdefgh", .tup [.str "page", .int 31, .tup (rs.map rowD)]]]) := erV 4 er31 er12 rfl (.cons (erTerm erEmp) (.cons (erLab _ (by decide +kernel)) (.cons (erEnt ⟨_, .page 31 rs h2 (by omega)⟩) .nil)))
    have E := Evs.add (m := 1) f h0 hl hn hg fB rfl (evs_1 k4 ok7 hl2)
    generalize upd HB2 l (.lst (us ++ [.ref p3])) = HN2 at E ⊢
    refine rest7 HN2 E
end
structure LawD (X : Cx) : Prop where
  bx : DT X "_law_box" ["script", "k"] 1 (spBox X.K)
  tk : DT X "_law_take" ["box", "many"] 1 spTake
  pk : DT X "_law_pick" ["box", "some"] 2 (spPick X.K)
  ev : DT X "_law_event" ["box", "kind", "most"] 8 (spEvent X.K)
  ed : DT X "_law_edges" [] 1 (spEdges X.K)
  en : DT X "encode_event" ["event"] 6 (spEnc X.K)
  kg : KeyC X CX0 "encode_event" ["event"] ["event"] g1 g1 6 (spEnc X.K)
  fo : DT X "_law_form" ["event"] 6 (spFV X.K)
  sm : DT X "_law_same" ["told", "due"] 2 (spSame X.K 1)
  zl : X.mg "len" = none
  zr : X.mg "range" = none
  zm : X.mg "min" = none
  zM : X.mg "max" = none
  zt : X.mg "tuple" = none
def spLaw (K : PySem.W.Frag) : Sp := fun vs H Q _ => ∃ (a : Addr) (ns : List Int), vs = [.ref a] ∧ SqL K H a (ns.map V.int) ∧ ns.length ≤ 63 ∧ ∀ H', Q (.bl true) H'
theorem body_law {X : Cx} (c : Ctx X nq_law lq_law 8) (F : LawD X) {vs : List V} {H : Hp} {Q : VK} {E : XK} (h : spLaw X.K vs H Q E) : RB X (defBody sq_law) { nx := fun _ H' => Q .non H', rt := Q } (start nq_law vs) H := by
  obtain ⟨a, ns, rfl, hS, h63, q⟩ := h
  have zl := F.zl
  have zr := F.zr
  have zm := F.zm
  have zM := F.zM
  have zt := F.zt
  show RB X (defBody sq_law) _ [some (.ref a), none, none, none, none, none, none] H
  refine rb_cons ?_
  refine rs_for_list c (by walk_at "gm") .loc (by walk_at "gm") ?_
  refine re_call0 c F.ed (by decide) (by walk_at "gm") ⟨rfl, fun le us H1 f1 hle hgood => ?_⟩
  refine ⟨le, us, rfl, SqL.of hle, fun i σ H' => Fr NoB H1 H' ∧ ∃ s1 s2 s3 s4 s5 s6 : Option V, σ = [some (.ref a), s1, s2, s3, s4, s5, s6], ⟨Fr.refl, none, none, none, none, none, none, rfl⟩, fun i σ H' _ h => SqL.of (h.1 _ _ (fun z => z) hle), ?_, ?_⟩
  · rintro i v σ H2 hi hvm ⟨f2, s1, s2, s3, s4, s5, s6, rfl⟩
    obtain ⟨d, ⟨bs, hE⟩, hd⟩ := hgood v (List.mem_of_getElem? hvm)
    have hv := hd.fr f2
    refine ⟨_, by walk_at "gs", ?_⟩
    walk_at "e0"
    refine re_call c F.sm (by decide) (by walk_at "gm") ?_
    refine ra_cons ?_
    refine re_call c F.en (by decide) (by walk_at "gm") ?_
    walk_at "e"
    refine ⟨v, d, bs, rfl, hv, hE, fun Ha r fa hr => ?_⟩
    walk_at "e"
    refine re_call c F.fo (by decide) (by walk_at "gm") ?_
    walk_at "e"
    refine ⟨v, d, bs, rfl, hv.fr fa, hE, fun l Hb nb => ?_⟩
    walk_at "e"
    refine lv_tupL (SqL.of nb.2) fun t ht => ?_
    walk_at "e"
    refine ⟨.tup (bs.map D.int), r, .ref t, NoB, NoB, rfl, (hr.fr nb.1).fr (Fr.new ht), Dt.newT ht (fun z => z) (dts_ints bs), .tup dep_ints, fun Hc fc => ?_⟩
    have fz := (fa.trans nb.1).trans ((Fr.new (o := .tup (bs.map V.int)) ht).trans fc)
    walk_at "e"
    exact ⟨f2.trans fz, _, _, _, _, _, _, rfl⟩
  rintro σ H2 ⟨f2, s1, s2, s3, s4, s5, s6, rfl⟩
  have f02 := f1.trans f2
  refine rb_cons ?_
  refine rs_for_range c (by walk_at "gm") .loc (by walk_at "gm") (by walk_at "gm") zr ?_
  walk_at "e"
  refine lv_lenL (f02.seqL (fun z => z) hS) ?_
  rw [List.length_map]
  walk_at "e"
  obtain ⟨n, hn, n12⟩ : ∃ n : Nat, (if (if (7 : Int) < (ns.length : Int) then 7 else (ns.length : Int)) > 3 then (if (7 : Int) < (ns.length : Int) then 7 else (ns.length : Int)) else 3) = (n : Int) ∧ n ≤ 12 := by
    refine ⟨(if (if (7 : Int) < (ns.length : Int) then 7 else (ns.length : Int)) > 3 then (if (7 : Int) < (ns.length : Int) then 7 else (ns.length : Int)) else 3).toNat, ?_, ?_⟩
    · split <;> split <;> omega
    · split <;> split <;> omega
  rw [hn]
  refine ⟨by omega, by omega, ?_⟩
  rw [Int.toNat_natCast]
  refine ⟨fun i σ H' => Fr NoB H H' ∧ ∃ s1 s2 s3 s4 s5 s6 : Option V, σ = [some (.ref a), s1, s2, s3, s4, s5, s6], ⟨f02, _, _, _, _, _, _, rfl⟩, fun _ _ _ _ _ => trivial, ?_, ?_⟩
  · rintro i y σ H4 hi rfl ⟨f4, s1, s2, s3, s4, s5, s6, rfl⟩
    refine ⟨_, by walk_at "gs", ?_⟩
    refine rb_cons (rs_set c (by walk_at "gm") .cell (by walk_at "gm") ?_)
    refine re_call c F.bx (by decide) (by walk_at "gm") ?_
    walk_at "e"
    refine ⟨a, ns, i, rfl, f4.seqL (fun z => z) hS, h63, by omega, by omega, fun b H5 hb f5 hB5 => ?_⟩
    have hbH : H b = none := f4.free hb
    have keepH : ∀ {H6 : Hp}, Fr (· = b) H5 H6 → Fr NoB H H6 := fun f a u _ e => f a u (fun z => by rw [z, hbH] at e; cases e) ((f4.trans f5) a u (fun z => z) e)
    refine ⟨_, by walk_at "gs", ?_⟩
    refine rb_cons ?_
    refine rs_lc_range c lq_law_c0 (by decide +kernel) (by walk_at "gm") zr (by walk_at "gm") (by walk_at "gm") ?_
    walk_at "e"
    refine ⟨by decide, by decide, fun Dn hD => ?_⟩
    have nD := hB5.ne hD
    refine ⟨fun i H' => ∃ us : List V, us.length = i ∧ H' Dn = some (.lst us) ∧ (∀ u ∈ us, ∃ d, ER EncV d ∧ Dt X.K (fun a => a = b ∨ a = Dn) H' u d) ∧ BoxAt H' b ∧ Fr (· = b) H5 H', ⟨[], rfl, upd_same, (fun _ h => by cases h), hB5.fr (Fr.new hD), Fr.new hD⟩, fun _ _ _ _ => trivial, ?_, ?_⟩
    · rintro t y H6 ht rfl ⟨us, hl, h6, hg, hB6, f6⟩
      refine ⟨_, by walk_at "gs", fun s Hb C cl fp cb => rts_nil (iteT fun s Hb C cl fp cb => ?_)⟩
      refine re_call cb F.ev (by decide) (by walk_at "gm") ?_
      walk_at "e"
      refine re_call cb F.tk (by decide) (by walk_at "gm") ?_
      walk_at "e"
      refine ⟨b, 11, rfl, hB6, by decide, by decide, fun x H7 x0 x1 f7 hB7 => ?_⟩
      obtain ⟨j, rfl⟩ : ∃ j : Nat, x = (j : Int) := ⟨x.toNat, by omega⟩
      refine ra_cons ?_
      refine re_pickI (P := PZ 1 6) cb (by decide) F.pk (by walk_at "gm") (by walk_at "gm") .cap (by walk_at "gs") hB7 (by walk_at "its") (by decide) (by decide) fun v d H8 hd dv f8 hB8 => ?_
      obtain ⟨m, rfl, m0, m1⟩ := hd
      obtain rfl := dt_int_inv dv
      walk_at "e"
      refine ⟨b, j, m, rfl, by omega, by omega, by omega, hB8, fun v d H9 hd dv f9 hB9 => ?_⟩
      obtain ⟨bs, hE⟩ := hd
      have f69 := (f7.trans f8).trans f9
      have h9 := f69 _ _ nD h6
      refine ⟨_, h9, Nat.lt_of_le_of_lt (by have : t < 5 := ht; omega : us.length ≤ 5) (by decide), us ++ [v], by rw [List.length_append, List.length_singleton, hl], upd_same, ?_, hB9.put nD, ?_⟩
      · have g2 : Fr (fun a => a = b ∨ a = Dn) H9 (upd H9 Dn (.lst (us ++ [v]))) := fun a o n e => by rw [upd_ne (fun z => n (.inr z))]; exact e
        intro u hu
        rcases List.mem_append.mp hu with hu | hu
        · obtain ⟨d2, e2, dt2⟩ := hg u hu
          exact ⟨d2, e2, (dt2.fr (f69.sub fun a h => .inl h)).fr g2⟩
        · rw [List.mem_singleton.mp hu]
          exact ⟨d, ⟨bs, hE⟩, (dt_noL dv (nl_V hE) ⟨_, h9⟩).fr g2⟩
      · exact fun a u na ea => by
          rw [upd_ne (fun z => by rw [z, hD] at ea; cases ea)]
          exact (f6.trans f69) a u na ea
    · rintro H6 ⟨us, hl, h6, hg, hB6, f6⟩
      have hl5 : us.length = 5 := hl
      refine ⟨_, by walk_at "gs", ?_⟩
      refine rb_cons ?_
      refine rs_for_list c (by walk_at "gm") .loc (by walk_at "gm") ?_
      refine re_bin (re_name c (by walk_at "gs") (by walk_at "gm") .loc ?_)
      refine re_revL ?_
      walk_at "e"
      refine ⟨Dn, us, rfl, SqL.of h6, fun p hp => ?_⟩
      have f7 : Fr NoB H6 (upd H6 p (.lst us.reverse)) := Fr.new hp
      refine ov_cat (f7 _ _ (fun z => z) h6) upd_same (by rw [List.length_reverse, hl5]; decide) fun l hl => ?_
      have f8 : Fr NoB H6 (upd (upd H6 p (.lst us.reverse)) l (.lst (us ++ us.reverse))) := f7.trans (Fr.new hl)
      have h8 : upd (upd H6 p (.lst us.reverse)) l (.lst (us ++ us.reverse)) l = some (.lst (us ++ us.reverse)) := upd_same
      generalize upd (upd H6 p (.lst us.reverse)) l (.lst (us ++ us.reverse)) = H8 at f8 h8 ⊢
      have hB8 := hB6.fr f8
      refine ⟨l, _, rfl, SqL.of h8, fun j σ H' => Fr NoB H8 H' ∧ ∃ s1 s2 s6 : Option V, σ = [some (.ref a), s1, some (.int (i : Int)), some (.ref b), some (.ref Dn), s2, s6], ⟨Fr.refl, _, _, _, rfl⟩, fun i σ H' _ h => SqL.of (h.1 _ _ (fun z => z) h8), ?_, ?_⟩
      · rintro j v σ H9 hj hvm ⟨f9, s1, s2, s6, rfl⟩
        have hvu : v ∈ us := by
          rcases List.mem_append.mp (List.mem_of_getElem? hvm) with h | h
          · exact h
          · exact List.mem_reverse.mp h
        obtain ⟨d, ⟨bs, hE⟩, hd⟩ := hg v hvu
        have hv := (hd.mono (B' := NoB) fun a e => e.elim).fr (f8.trans f9)
        refine ⟨_, by walk_at "gs", ?_⟩
        walk_at "e0"
        refine re_call c F.sm (by decide) (by walk_at "gm") ?_
        refine ra_cons ?_
        refine re_call c F.en (by decide) (by walk_at "gm") ?_
        walk_at "e"
        refine ⟨v, d, bs, rfl, hv, hE, fun Ha r fa hr => ?_⟩
        walk_at "e"
        refine re_call c F.fo (by decide) (by walk_at "gm") ?_
        walk_at "e"
        refine ⟨v, d, bs, rfl, hv.fr fa, hE, fun l Hb nb => ?_⟩
        walk_at "e"
        refine lv_tupL (SqL.of nb.2) fun t ht => ?_
        walk_at "e"
        refine ⟨.tup (bs.map D.int), r, .ref t, NoB, NoB, rfl, (hr.fr nb.1).fr (Fr.new ht), Dt.newT ht (fun z => z) (dts_ints bs), .tup dep_ints, fun Hc fc => ?_⟩
        have fz := (fa.trans nb.1).trans ((Fr.new (o := .tup (bs.map V.int)) ht).trans fc)
        walk_at "e"
        exact ⟨f9.trans fz, _, _, _, rfl⟩
      · rintro σ H9 ⟨f9, s1, s2, s6, rfl⟩
        have hB9 := hB8.fr f9
        have g9 : Fr (· = b) H5 H9 := f6.trans (f8.trans f9).any
        walk_at "e0"
        refine ite2 (fun e => ?_) (fun e => ?_)
        · refine rb_cons ?_
          refine rs_for_range c (by walk_at "gm") .loc (by walk_at "gm") (by walk_at "gm") zr ?_
          walk_at "e"
          refine ⟨by decide, by decide, ?_⟩
          refine ⟨fun j σ H' => Fr (· = b) H5 H' ∧ BoxAt H' b ∧ ∃ s1 s2 s6 : Option V, σ = [some (.ref a), s1, some (.int (i : Int)), some (.ref b), some (.ref Dn), s2, s6], ⟨g9, hB9, _, _, _, rfl⟩, fun _ _ _ _ _ => trivial, ?_, ?_⟩
          · rintro j y σ HA hj rfl ⟨gA, hBA, s1, s2, s6, rfl⟩
            have hj : j < 11 := hj
            refine ⟨_, by walk_at "gs", ?_⟩
            walk_at "e0"
            refine re_call c F.ev (by decide) (by walk_at "gm") ?_
            walk_at "e"
            refine ⟨b, j, 2, rfl, by omega, by decide, by decide, hBA, fun v d HB hd dv fB hBB => ?_⟩
            obtain ⟨bs, hE⟩ := hd
            have hv := dv.mono (B' := NoB) fun a e => e.elim
            walk_at "e"
            walk_at "e0"
            refine re_call c F.sm (by decide) (by walk_at "gm") ?_
            refine ra_cons ?_
            obtain ⟨ff, fd, F1, gx, kp, kb⟩ := F.kg.ex
            refine re_callKO c F1 (by decide) (by walk_at "gm") gx kp kb pass0 ?_
            refine rk_cons ?_
            walk_at "e"
            refine rk_nil ?_
            refine ⟨v, d, bs, rfl, hv, hE, fun Ha r fa hr => ?_⟩
            walk_at "e"
            refine re_call c F.fo (by decide) (by walk_at "gm") ?_
            walk_at "e"
            refine ⟨v, d, bs, rfl, hv.fr fa, hE, fun l Hb nb => ?_⟩
            walk_at "e"
            refine lv_tupL (SqL.of nb.2) fun t ht => ?_
            walk_at "e"
            refine ⟨.tup (bs.map D.int), r, .ref t, NoB, NoB, rfl, (hr.fr nb.1).fr (Fr.new ht), Dt.newT ht (fun z => z) (dts_ints bs), .tup dep_ints, fun Hc fc => ?_⟩
            have fz := (fa.trans nb.1).trans ((Fr.new (o := .tup (bs.map V.int)) ht).trans fc)
            walk_at "e"
            exact ⟨(gA.trans fB).trans fz.any, hBB.fr fz, _, _, _, rfl⟩
          · rintro σ HA ⟨gA, hBA, s1, s2, s6, rfl⟩
            walk_at "e"
            exact ⟨keepH gA, _, _, _, _, _, _, rfl⟩
        · walk_at "e"
          exact ⟨keepH g9, _, _, _, _, _, _, rfl⟩
  · rintro σ H4 ⟨f4, s1, s2, s3, s4, s5, s6, rfl⟩
    walk_at "e0"
    exact q H4
/-! ### the tables of the top -/
abbrev wrTab : List (Str × Str) := [("kept", "write_term"), ("node", "write_octet"), ("id", "write_id"), ("term", "write_term"), ("label", "write_label"), ("entry", "write_entry"), ("fraction", "write_fraction"), ("name", "write_name"), ("most", "write_octet"), ("answer", "write_answer")]
def partB (K : PySem.W.Frag) (x : Str × List Str) : Bool := He.eqO (PySem.W.nsIn K (He.ga K "PARTS") x.1) (some (some (.ref (atK K (He.ga K "PARTS") x.1)))) && tupAB K (atK K (He.ga K "PARTS") x.1) (x.2.map V.str)
def partsB (K : PySem.W.Frag) : Bool := kindTab.all (partB K)
def wrB (K : PySem.W.Frag) (x : Str × Str) : Bool := He.eqO (PySem.W.nsIn K (He.ga K "WRITERS") x.1) (some (some (.ref (atK K (He.ga K "WRITERS") x.1)))) && decide (atK K (He.ga K "WRITERS") x.1 = He.ga K x.2)
def writersB (K : PySem.W.Frag) : Bool := wrTab.all (wrB K)
theorem Ctx.le {X : Cx} {N : List Str} {L : List (Str × KN)} {k m : Nat} (c : Ctx X N L k) (h : m ≤ k) : Ctx X N L m := ⟨c.n, c.nd, c.look, c.dbg, c.calm, c.room.mono h, c.po, c.kind⟩
section
variable {w : Str} {d : D} {bs : List Int}
theorem ip_kept (h : EncP w d bs) (e : w = "kept") : EncT d bs := by cases h <;> first | assumption | exact absurd e (by decide +kernel)
theorem ip_term (h : EncP w d bs) (e : w = "term") : EncT d bs := by cases h <;> first | assumption | exact absurd e (by decide +kernel)
theorem ip_node (h : EncP w d bs) (e : w = "node") : EncO d bs := by cases h <;> first | assumption | exact absurd e (by decide +kernel)
theorem ip_most (h : EncP w d bs) (e : w = "most") : EncO d bs := by cases h <;> first | assumption | exact absurd e (by decide +kernel)
theorem ip_id (h : EncP w d bs) (e : w = "id") : EncI 0 d bs := by cases h <;> first | assumption | exact absurd e (by decide +kernel)
theorem ip_label (h : EncP w d bs) (e : w = "label") : EncB d bs := by cases h <;> first | assumption | exact absurd e (by decide +kernel)
theorem ip_entry (h : EncP w d bs) (e : w = "entry") : EncE d bs := by cases h <;> first | assumption | exact absurd e (by decide +kernel)
theorem ip_fraction (h : EncP w d bs) (e : w = "fraction") : EncF d bs := by cases h <;> first | assumption | exact absurd e (by decide +kernel)
theorem ip_name (h : EncP w d bs) (e : w = "name") : EncN d bs := by cases h <;> first | assumption | exact absurd e (by decide +kernel)
theorem ip_answer (h : EncP w d bs) (e : w = "answer") : EncA d bs := by cases h <;> first | assumption | exact absurd e (by decide +kernel)
end
/-! ### the facts of the top -/
def dD (x : Str) (st : Stmt) : He.DefD := ⟨(x, none), x, x, defArgs st, defBody st, defScope st, [], []⟩
abbrev fns : List He.DefD := [dD "write_groups" sq_write_groups, dD "write_octet" sq_write_octet, dD "write_id" sq_write_id, dD "write_term" sq_write_term, dD "write_fraction" sq_write_fraction, dD "write_label" sq_write_label, dD "write_name" sq_write_name, dD "write_entry" sq_write_entry, dD "write_answer" sq_write_answer, dD "write_event" sq_write_event, dD "encode_event" sq_encode_event, dD "_law_take" sq_take, dD "_law_box" sq_box, dD "_law_pick" sq_pick, dD "_law_number" sq_number, dD "_law_part" sq_part, dD "_law_fraction" sq_fraction, dD "_law_label" sq_label, dD "_law_name" sq_name, dD "_law_id" sq_id, dD "_law_rows" sq_rows, dD "_law_entry" sq_entry, dD "_law_answer" sq_answer, dD "_law_words" sq_words, dD "_law_kinds" sq_kinds, dD "_law_piece" sq_piece, dD "_law_event" sq_event, dD "_law_groups" sq_groups, dD "_law_form_label" sq_form_label, dD "_law_form_name" sq_form_name, dD "_law_form_fraction" sq_form_fraction, dD "_law_form_id" sq_form_id, dD "_law_form_entry" sq_form_entry, dD "_law_form_answer" sq_form_answer, dD "_law_form_part" sq_form_part, dD "_law_form" sq_form, dD "_law_same" sq_same, dD "_law_edges" sq_edges, dD "law" sq_law]
abbrev fnA : List He.DefD := fns
abbrev frA : List Str := ["isinstance", "int", "bool", "tuple", "len", "list", "abs", "range", "max", "min", "zip", "str", "ord", "sorted"]
abbrev clA : List Str := ["KINDS", "PARTS", "FOUND", "WRITERS"]
abbrev gcA : List He.Fa := []
abbrev faA : List He.Fa := (fns.map fun d => He.Fa.glo d.name) ++ (frA.map He.Fa.free ++ (clA.map He.Fa.glo ++ gcA))
def tbA : List He.Tab := [((fun K : PySem.W.Frag => He.ga K "PARTS"), ["start", "tick", "send", "hear", "put", "give", "pass", "swear", "hand", "tell", "ask"]), ((fun K : PySem.W.Frag => He.ga K "WRITERS"), ["kept", "node", "id", "term", "label", "entry", "fraction", "name", "most", "answer"])]
def ex0 (K : PySem.W.Frag) : Bool := true
def exA (K : PySem.W.Frag) : Bool := ex0 K && (partsB K && (writersB K && (tupAB K (He.ga K "FOUND") (FOUNDS.map V.str) && (tupDB K (He.ga K "FOUND") && (tupAB K (He.ga K "KINDS") (KINDSL.map V.str) && (tupDB K (He.ga K "KINDS")))))))
structure FA (K : PySem.W.Frag) (mg : Str → Option Value) (w : World) : Prop where
  fn : ∀ x st, dD x st ∈ fns → ∃ fd, FnP K x st (He.ga K x) fd ∧ mg x = some (.ref (He.ga K x))
  free : ∀ x ∈ frA, mg x = none
  parts : partsB K = true
  writers : writersB K = true
  found : tupAB K (He.ga K "FOUND") (FOUNDS.map V.str) = true
  foundD : tupDB K (He.ga K "FOUND") = true
  kinds : tupAB K (He.ga K "KINDS") (KINDSL.map V.str) = true
  kindsD : tupDB K (He.ga K "KINDS") = true
  tab_PARTS : ∃ es n, KDict K w (He.ga K "PARTS") es n
  g_PARTS : mg "PARTS" = some (.ref (He.ga K "PARTS"))
  tab_WRITERS : ∃ es n, KDict K w (He.ga K "WRITERS") es n
  g_WRITERS : mg "WRITERS" = some (.ref (He.ga K "WRITERS"))
  g_FOUND : mg "FOUND" = some (.ref (He.ga K "FOUND"))
  g_KINDS : mg "KINDS" = some (.ref (He.ga K "KINDS"))
theorem fA_of {w : World} {h : Heap} {K : PySem.W.Frag} {mg : Str → Option Value} {tf : List He.Defn} (X : K.In h) (G : h.Ns mainGlobals mg) (c : He.SaysX faA fnA tbA tf exA w h K) : FA K mg w := by
  have hg : ∀ x, He.Fa.glo x ∈ faA → mg x = some (.ref (He.ga K x)) := fun x hx => He.glo_ok X G (c.t.d.facts hx)
  have hf : ∀ x ∈ frA, mg x = none := fun x hx => He.free_ok X G (c.t.d.facts (List.mem_append_right _ (List.mem_append_left _ (List.mem_map.mpr ⟨x, hx, rfl⟩))))
  have hc : ∀ x ∈ clA, mg x = some (.ref (He.ga K x)) := fun x hx => hg x (List.mem_append_right _ (List.mem_append_right _ (List.mem_append_left _ (List.mem_map.mpr ⟨x, hx, rfl⟩))))
  have hy0 : exA K = true := c.more
  unfold exA at hy0
  obtain ⟨hx0, hy1⟩ := He.ba hy0
  obtain ⟨y0, hy2⟩ := He.ba hy1
  obtain ⟨y1, hy3⟩ := He.ba hy2
  obtain ⟨y2, hy4⟩ := He.ba hy3
  obtain ⟨y3, hy5⟩ := He.ba hy4
  obtain ⟨y4, hy6⟩ := He.ba hy5
  have y5 := hy6
  unfold ex0 at hx0
  have b0 := hx0
  refine ⟨fun x st hx => ?_, hf, y0, y1, y2, y3, y4, y5, c.t.tab 0, hc _ (by walk_at "gm"), c.t.tab 1, hc _ (by walk_at "gm"), hc _ (by walk_at "gm"), hc _ (by walk_at "gm")⟩
  obtain ⟨fd, F⟩ := c.t.d.defs (d := dD x st) (hx)
  exact ⟨fd, F, hg x (List.mem_append_left _ (List.mem_map.mpr ⟨_, hx, rfl⟩))⟩
theorem foundT {X : Cx} (F : FA X.K X.mg X.w) : TabT X "FOUND" FOUNDS := ⟨He.ga X.K "FOUND", F.g_FOUND, fun H => tupAB_ok F.found H, tupDB_ok F.foundD⟩
theorem kindsT {X : Cx} (F : FA X.K X.mg X.w) : TabT X "KINDS" KINDSL := ⟨He.ga X.K "KINDS", F.g_KINDS, fun H => tupAB_ok F.kinds H, tupDB_ok F.kindsD⟩
theorem partsT {X : Cx} (F : FA X.K X.mg X.w) : PaT X := by
  obtain ⟨es, n, D⟩ := F.tab_PARTS
  refine ⟨He.ga X.K "PARTS", F.g_PARTS, fun j k ws hj => ?_⟩
  have h : partB X.K (k, ws) = true := List.all_eq_true.mp F.parts _ (List.mem_of_getElem? hj)
  unfold partB at h
  obtain ⟨h1, h2⟩ := He.ba h
  exact ⟨_, kdct_of D h1, fun H => tupAB_ok h2 H⟩
section
variable {P : Program} {w : World} {K : PySem.W.Frag} {mg : Str → Option Value} {base : Heap} {x : Str} {st : Stmt} {N ps : List Str} {L : List (Str × KN)} {k : Nat} {sp : Sp} {f : Addr} {fd : FuncData}
theorem fnOk_of (F : FnP K x st f fd) (M : Nms st N ps L) (len : ∀ vs H Q E, sp vs H Q E → vs.length = ps.length)
    (body : ∀ (X : Cx), Ctx X N L k → At5 X P w K mg base → ∀ (vs : List V) (H : Hp) (Q : VK) (E : XK), sp vs H Q E → RB X (defBody st) { nx := fun _ H' => Q .non H', rt := Q } (start N vs) H) : FnOk P w K mg base CX0 (k + 1) f fd ps sp := by
  refine F.ok M.S len (fun cdv A outer s H vs Q E hr h => ?_)
  have c : Ctx (cxOf CX0 P w K mg base N x (defScope st) f cdv A outer s H E).nox N L k := ⟨rfl, M.S.nd, knIs_of M rfl (fun _ => rfl), M.db, rfl, hr, PassesOwn.never, M.S.kind⟩
  obtain ⟨t, ht, q⟩ := (body _ c ⟨rfl, rfl, rfl, rfl, rfl⟩ vs H Q E h).ex
  exact ⟨t, ht.nox, q⟩
theorem fnC_of (F : FnP K x st (He.fAd K (x, none)) fd) : FnC K x st (He.fAd K (x, none)) (He.cT K (x, none)).1 fd := by
  obtain ⟨oc, od, dV, kV, doc, pm, an, cdv, ct, osl, e, lk, hcd, _, _⟩ := F.ex
  obtain ⟨c, rfl⟩ := He.codeIn_ref hcd
  have e2 : (He.cT K (x, none)).1 = c := He.codeOf_eq lk (by rw [e] <;> rfl)
  rw [e2]
  exact ⟨⟨oc, od, dV, kV, doc, pm, an, ct, osl, e, lk, hcd⟩, F.kp⟩
theorem fnOkX_of (F : FnP K x st f fd) (M : Nms st N ps L) (len : ∀ vs H Q E, sp vs H Q E → vs.length = ps.length)
    (body : ∀ (X : Cx), Ctx X N L k → At5 X P w K mg base → ∀ (vs : List V) (H : Hp) (Q : VK) (E : XK), Takes X (fun cls d _ H' => E cls d H') → sp vs H Q E → RB X (defBody st) { nx := fun _ H' => Q .non H', rt := Q } (start N vs) H) : FnOk P w K mg base (L2.CX P w) (k + 1) f fd ps sp := by
  refine F.ok M.S len (fun cdv A outer s H vs Q E hr h => ?_)
  have c : Ctx (cxOf (L2.CX P w) P w K mg base N x (defScope st) f cdv A outer s H E) N L k := ⟨rfl, M.S.nd, knIs_of M rfl (fun _ => rfl), M.db, rfl, hr, passes_of rfl, M.S.kind⟩
  exact (body _ c ⟨rfl, rfl, rfl, rfl, rfl⟩ vs H Q E (takes_of rfl rfl rfl rfl) h).ex
end
section
variable {Pg : Program} {w : World} {K : PySem.W.Frag} {mg : Str → Option Value} {base : Heap}
theorem d_write_groups (F : FA K mg w) : DefP Pg w K mg base CX0 "write_groups" ["out", "number"] 1 (spWG) := by
  obtain ⟨fd, f, g⟩ := F.fn "write_groups" sq_write_groups (by walk_at "gm")
  refine defP_of f g mq_write_groups (FunD.bindsN f fun _ _ _ _ _ _ us hl => match us, hl with | [_, _], _ => rfl) (fun vs H Q E h => by first | (obtain ⟨rfl, _⟩ := h; rfl) | (obtain ⟨_, rfl, _⟩ := h; rfl) | (obtain ⟨_, _, rfl, _⟩ := h; rfl) | (obtain ⟨_, _, _, rfl, _⟩ := h; rfl) | (obtain ⟨_, _, _, _, rfl, _⟩ := h; rfl) | (obtain ⟨_, _, _, _, _, rfl, _⟩ := h; rfl) | (obtain ⟨_, _, _, _, _, _, rfl, _⟩ := h; rfl)) fun X c al vs H Q E h => ?_
  obtain ⟨rfl, rfl, rfl, rfl, rfl⟩ := al
  exact body_write_groups c  h
theorem d_write_octet (F : FA K mg w) : DefP Pg w K mg base CX0 "write_octet" ["out", "number"] 1 (spW EncO K) := by
  obtain ⟨fd, f, g⟩ := F.fn "write_octet" sq_write_octet (by walk_at "gm")
  refine defP_of f g mq_write_octet (FunD.bindsN f fun _ _ _ _ _ _ us hl => match us, hl with | [_, _], _ => rfl) (fun vs H Q E h => by first | (obtain ⟨rfl, _⟩ := h; rfl) | (obtain ⟨_, rfl, _⟩ := h; rfl) | (obtain ⟨_, _, rfl, _⟩ := h; rfl) | (obtain ⟨_, _, _, rfl, _⟩ := h; rfl) | (obtain ⟨_, _, _, _, rfl, _⟩ := h; rfl) | (obtain ⟨_, _, _, _, _, rfl, _⟩ := h; rfl) | (obtain ⟨_, _, _, _, _, _, rfl, _⟩ := h; rfl)) fun X c al vs H Q E h => ?_
  obtain ⟨rfl, rfl, rfl, rfl, rfl⟩ := al
  exact body_write_octet c  h
theorem d_write_id (F : FA K mg w) : DefP Pg w K mg base CX0 "write_id" ["out", "event_id"] 2 (spW (EncI 0) K) := by
  obtain ⟨fd, f, g⟩ := F.fn "write_id" sq_write_id (by walk_at "gm")
  refine defP_of f g mq_write_id (FunD.bindsN f fun _ _ _ _ _ _ us hl => match us, hl with | [_, _], _ => rfl) (fun vs H Q E h => by first | (obtain ⟨rfl, _⟩ := h; rfl) | (obtain ⟨_, rfl, _⟩ := h; rfl) | (obtain ⟨_, _, rfl, _⟩ := h; rfl) | (obtain ⟨_, _, _, rfl, _⟩ := h; rfl) | (obtain ⟨_, _, _, _, rfl, _⟩ := h; rfl) | (obtain ⟨_, _, _, _, _, rfl, _⟩ := h; rfl) | (obtain ⟨_, _, _, _, _, _, rfl, _⟩ := h; rfl)) fun X c al vs H Q E h => ?_
  obtain ⟨rfl, rfl, rfl, rfl, rfl⟩ := al
  exact body_write_id c (d_write_groups F) h
theorem d_write_term (F : FA K mg w) : DefP Pg w K mg base CX0 "write_term" ["out", "term"] 3 (spW EncT K) := by
  obtain ⟨fd, f, g⟩ := F.fn "write_term" sq_write_term (by walk_at "gm")
  refine defP_of f g mq_write_term (FunD.bindsN f fun _ _ _ _ _ _ us hl => match us, hl with | [_, _], _ => rfl) (fun vs H Q E h => by first | (obtain ⟨rfl, _⟩ := h; rfl) | (obtain ⟨_, rfl, _⟩ := h; rfl) | (obtain ⟨_, _, rfl, _⟩ := h; rfl) | (obtain ⟨_, _, _, rfl, _⟩ := h; rfl) | (obtain ⟨_, _, _, _, rfl, _⟩ := h; rfl) | (obtain ⟨_, _, _, _, _, rfl, _⟩ := h; rfl) | (obtain ⟨_, _, _, _, _, _, rfl, _⟩ := h; rfl)) fun X c al vs H Q E h => ?_
  obtain ⟨rfl, rfl, rfl, rfl, rfl⟩ := al
  exact body_write_term c (d_write_id F) h
theorem d_write_fraction (F : FA K mg w) : DefP Pg w K mg base CX0 "write_fraction" ["out", "one"] 2 (spW EncF K) := by
  obtain ⟨fd, f, g⟩ := F.fn "write_fraction" sq_write_fraction (by walk_at "gm")
  refine defP_of f g mq_write_fraction (FunD.bindsN f fun _ _ _ _ _ _ us hl => match us, hl with | [_, _], _ => rfl) (fun vs H Q E h => by first | (obtain ⟨rfl, _⟩ := h; rfl) | (obtain ⟨_, rfl, _⟩ := h; rfl) | (obtain ⟨_, _, rfl, _⟩ := h; rfl) | (obtain ⟨_, _, _, rfl, _⟩ := h; rfl) | (obtain ⟨_, _, _, _, rfl, _⟩ := h; rfl) | (obtain ⟨_, _, _, _, _, rfl, _⟩ := h; rfl) | (obtain ⟨_, _, _, _, _, _, rfl, _⟩ := h; rfl)) fun X c al vs H Q E h => ?_
  obtain ⟨rfl, rfl, rfl, rfl, rfl⟩ := al
  exact body_write_fraction c (d_write_groups F) h
theorem d_write_label (F : FA K mg w) : DefP Pg w K mg base CX0 "write_label" ["out", "label"] 1 (spW EncB K) := by
  obtain ⟨fd, f, g⟩ := F.fn "write_label" sq_write_label (by walk_at "gm")
  refine defP_of f g mq_write_label (FunD.bindsN f fun _ _ _ _ _ _ us hl => match us, hl with | [_, _], _ => rfl) (fun vs H Q E h => by first | (obtain ⟨rfl, _⟩ := h; rfl) | (obtain ⟨_, rfl, _⟩ := h; rfl) | (obtain ⟨_, _, rfl, _⟩ := h; rfl) | (obtain ⟨_, _, _, rfl, _⟩ := h; rfl) | (obtain ⟨_, _, _, _, rfl, _⟩ := h; rfl) | (obtain ⟨_, _, _, _, _, rfl, _⟩ := h; rfl) | (obtain ⟨_, _, _, _, _, _, rfl, _⟩ := h; rfl)) fun X c al vs H Q E h => ?_
  obtain ⟨rfl, rfl, rfl, rfl, rfl⟩ := al
  exact body_write_label c (F.free _ (by walk_at "gm")) (F.free _ (by walk_at "gm")) h
theorem d_write_name (F : FA K mg w) : DefP Pg w K mg base CX0 "write_name" ["out", "name"] 2 (spW EncN K) := by
  obtain ⟨fd, f, g⟩ := F.fn "write_name" sq_write_name (by walk_at "gm")
  refine defP_of f g mq_write_name (FunD.bindsN f fun _ _ _ _ _ _ us hl => match us, hl with | [_, _], _ => rfl) (fun vs H Q E h => by first | (obtain ⟨rfl, _⟩ := h; rfl) | (obtain ⟨_, rfl, _⟩ := h; rfl) | (obtain ⟨_, _, rfl, _⟩ := h; rfl) | (obtain ⟨_, _, _, rfl, _⟩ := h; rfl) | (obtain ⟨_, _, _, _, rfl, _⟩ := h; rfl) | (obtain ⟨_, _, _, _, _, rfl, _⟩ := h; rfl) | (obtain ⟨_, _, _, _, _, _, rfl, _⟩ := h; rfl)) fun X c al vs H Q E h => ?_
  obtain ⟨rfl, rfl, rfl, rfl, rfl⟩ := al
  exact body_write_name c (F.free _ (by walk_at "gm")) (d_write_label F) h
theorem d_write_entry1 (F : FA K mg w) : DefP Pg w K mg base CX0 "write_entry" ["out", "entry"] 3 (spW Ent1 K) := by
  obtain ⟨fd, f, g⟩ := F.fn "write_entry" sq_write_entry (by walk_at "gm")
  refine defP_of f g mq_write_entry (FunD.bindsN f fun _ _ _ _ _ _ us hl => match us, hl with | [_, _], _ => rfl) (fun vs H Q E h => by first | (obtain ⟨rfl, _⟩ := h; rfl) | (obtain ⟨_, rfl, _⟩ := h; rfl) | (obtain ⟨_, _, rfl, _⟩ := h; rfl) | (obtain ⟨_, _, _, rfl, _⟩ := h; rfl) | (obtain ⟨_, _, _, _, rfl, _⟩ := h; rfl) | (obtain ⟨_, _, _, _, _, rfl, _⟩ := h; rfl) | (obtain ⟨_, _, _, _, _, _, rfl, _⟩ := h; rfl)) fun X c al vs H Q E h => ?_
  obtain ⟨rfl, rfl, rfl, rfl, rfl⟩ := al
  exact body_write_entry1 c (d_write_groups F) (d_write_name F) h
theorem d_write_entry (F : FA K mg w) : DefP Pg w K mg base CX0 "write_entry" ["out", "entry"] 4 (spW EncE K) := by
  obtain ⟨fd, f, g⟩ := F.fn "write_entry" sq_write_entry (by walk_at "gm")
  refine defP_of f g mq_write_entry (FunD.bindsN f fun _ _ _ _ _ _ us hl => match us, hl with | [_, _], _ => rfl) (fun vs H Q E h => by first | (obtain ⟨rfl, _⟩ := h; rfl) | (obtain ⟨_, rfl, _⟩ := h; rfl) | (obtain ⟨_, _, rfl, _⟩ := h; rfl) | (obtain ⟨_, _, _, rfl, _⟩ := h; rfl) | (obtain ⟨_, _, _, _, rfl, _⟩ := h; rfl) | (obtain ⟨_, _, _, _, _, rfl, _⟩ := h; rfl) | (obtain ⟨_, _, _, _, _, _, rfl, _⟩ := h; rfl)) fun X c al vs H Q E h => ?_
  obtain ⟨rfl, rfl, rfl, rfl, rfl⟩ := al
  exact body_write_entry c (d_write_groups F) (d_write_name F) (d_write_label F) (d_write_entry1 F) (K07.Ctx.le c (by decide)) h
theorem d_write_answer (F : FA K mg w) : DefP Pg w K mg base CX0 "write_answer" ["out", "answer"] 4 (spW EncA K) := by
  obtain ⟨fd, f, g⟩ := F.fn "write_answer" sq_write_answer (by walk_at "gm")
  refine defP_of f g mq_write_answer (FunD.bindsN f fun _ _ _ _ _ _ us hl => match us, hl with | [_, _], _ => rfl) (fun vs H Q E h => by first | (obtain ⟨rfl, _⟩ := h; rfl) | (obtain ⟨_, rfl, _⟩ := h; rfl) | (obtain ⟨_, _, rfl, _⟩ := h; rfl) | (obtain ⟨_, _, _, rfl, _⟩ := h; rfl) | (obtain ⟨_, _, _, _, rfl, _⟩ := h; rfl) | (obtain ⟨_, _, _, _, _, rfl, _⟩ := h; rfl) | (obtain ⟨_, _, _, _, _, _, rfl, _⟩ := h; rfl)) fun X c al vs H Q E h => ?_
  obtain ⟨rfl, rfl, rfl, rfl, rfl⟩ := al
  exact body_write_answer c (F.free _ (by walk_at "gm")) (d_write_groups F) (d_write_term F) (d_write_name F) (foundT F) h
theorem wrT (F : FA K mg w) {X : Cx} (al : At5 X Pg w K mg base) : WrT X := by
  obtain ⟨rfl, rfl, rfl, rfl, rfl⟩ := al
  obtain ⟨es, n, DK⟩ := F.tab_WRITERS
  have one : ∀ (w x : Str) (ps : List Str) (n : Nat) (R : D → List Int → Prop), n ≤ 4 → (w, x) ∈ wrTab → X.mg x = some (.ref (He.ga X.K x)) → DefP X.prog X.w X.K X.mg X.base CX0 x ps n (spW R X.K) → (∀ d bs, EncP w d bs → R d bs) →
      ∃ (R : D → List Int → Prop) (f : Addr) (fd : FuncData) (ps : List Str) (n : Nat), n ≤ 4 ∧ (∀ d bs, EncP w d bs → R d bs) ∧ KDct X.K X.w (He.ga X.K "WRITERS") w (.ref f) ∧ FnOk X.prog X.w X.K X.mg X.base CX0 n f fd ps (spW R X.K) ∧ PySem.W.keepIn X.K (.ref f) = true ∧ Binds X.K fd ps [] := by
    intro w x ps n R hn hm g d hR
    obtain ⟨f, fd, F1, m, kp, b⟩ := d.ex
    have h : wrB X.K (w, x) = true := List.all_eq_true.mp F.writers _ hm
    unfold wrB at h
    obtain ⟨h1, h2⟩ := He.ba h
    have e : atK X.K (He.ga X.K "WRITERS") w = He.ga X.K x := of_decide_eq_true h2
    have ef : f = He.ga X.K x := by
      have := m.symm.trans g
      injection this with this
      injection this
    refine ⟨R, f, fd, ps, n, hn, hR, ?_, F1, kp, b⟩
    rw [ef, ← e]
    exact kdct_of DK h1
  refine ⟨He.ga X.K "WRITERS", F.g_WRITERS, fun w hw => ?_⟩
  simp only [List.mem_cons, List.not_mem_nil, or_false] at hw
  rcases hw with rfl | rfl | rfl | rfl | rfl | rfl | rfl | rfl | rfl | rfl
  · exact one _ "write_term" _ 3 _ (by decide) (by walk_at "gm") (F.fn "write_term" sq_write_term (by walk_at "gm")).choose_spec.2 (d_write_term F) (fun d bs h => ip_kept h rfl)
  · exact one _ "write_octet" _ 1 _ (by decide) (by walk_at "gm") (F.fn "write_octet" sq_write_octet (by walk_at "gm")).choose_spec.2 (d_write_octet F) (fun d bs h => ip_node h rfl)
  · exact one _ "write_id" _ 2 _ (by decide) (by walk_at "gm") (F.fn "write_id" sq_write_id (by walk_at "gm")).choose_spec.2 (d_write_id F) (fun d bs h => ip_id h rfl)
  · exact one _ "write_term" _ 3 _ (by decide) (by walk_at "gm") (F.fn "write_term" sq_write_term (by walk_at "gm")).choose_spec.2 (d_write_term F) (fun d bs h => ip_term h rfl)
  · exact one _ "write_label" _ 1 _ (by decide) (by walk_at "gm") (F.fn "write_label" sq_write_label (by walk_at "gm")).choose_spec.2 (d_write_label F) (fun d bs h => ip_label h rfl)
  · exact one _ "write_entry" _ 4 _ (by decide) (by walk_at "gm") (F.fn "write_entry" sq_write_entry (by walk_at "gm")).choose_spec.2 (d_write_entry F) (fun d bs h => ip_entry h rfl)
  · exact one _ "write_fraction" _ 2 _ (by decide) (by walk_at "gm") (F.fn "write_fraction" sq_write_fraction (by walk_at "gm")).choose_spec.2 (d_write_fraction F) (fun d bs h => ip_fraction h rfl)
  · exact one _ "write_name" _ 2 _ (by decide) (by walk_at "gm") (F.fn "write_name" sq_write_name (by walk_at "gm")).choose_spec.2 (d_write_name F) (fun d bs h => ip_name h rfl)
  · exact one _ "write_octet" _ 1 _ (by decide) (by walk_at "gm") (F.fn "write_octet" sq_write_octet (by walk_at "gm")).choose_spec.2 (d_write_octet F) (fun d bs h => ip_most h rfl)
  · exact one _ "write_answer" _ 4 _ (by decide) (by walk_at "gm") (F.fn "write_answer" sq_write_answer (by walk_at "gm")).choose_spec.2 (d_write_answer F) (fun d bs h => ip_answer h rfl)
theorem d_write_event (F : FA K mg w) : DefP Pg w K mg base CX0 "write_event" ["out", "event"] 5 (spW EncV K) := by
  obtain ⟨fd, f, g⟩ := F.fn "write_event" sq_write_event (by walk_at "gm")
  refine defP_of f g mq_write_event (FunD.bindsN f fun _ _ _ _ _ _ us hl => match us, hl with | [_, _], _ => rfl) (fun vs H Q E h => by first | (obtain ⟨rfl, _⟩ := h; rfl) | (obtain ⟨_, rfl, _⟩ := h; rfl) | (obtain ⟨_, _, rfl, _⟩ := h; rfl) | (obtain ⟨_, _, _, rfl, _⟩ := h; rfl) | (obtain ⟨_, _, _, _, rfl, _⟩ := h; rfl) | (obtain ⟨_, _, _, _, _, rfl, _⟩ := h; rfl) | (obtain ⟨_, _, _, _, _, _, rfl, _⟩ := h; rfl)) fun X c al vs H Q E h => ?_
  obtain ⟨rfl, rfl, rfl, rfl, rfl⟩ := al
  exact body_write_event c (F.free _ (by walk_at "gm")) (d_write_id F) (d_write_fraction F) (kindsT F) (partsT F) (wrT F ⟨rfl, rfl, rfl, rfl, rfl⟩) h
theorem d_encode_event (F : FA K mg w) : DefP Pg w K mg base CX0 "encode_event" ["event"] 6 (spEnc K) := by
  obtain ⟨fd, f, g⟩ := F.fn "encode_event" sq_encode_event (by walk_at "gm")
  refine defP_of f g mq_encode_event (FunD.bindsN f fun _ _ _ _ _ _ us hl => match us, hl with | [_], _ => rfl) (fun vs H Q E h => by first | (obtain ⟨rfl, _⟩ := h; rfl) | (obtain ⟨_, rfl, _⟩ := h; rfl) | (obtain ⟨_, _, rfl, _⟩ := h; rfl) | (obtain ⟨_, _, _, rfl, _⟩ := h; rfl) | (obtain ⟨_, _, _, _, rfl, _⟩ := h; rfl) | (obtain ⟨_, _, _, _, _, rfl, _⟩ := h; rfl) | (obtain ⟨_, _, _, _, _, _, rfl, _⟩ := h; rfl)) fun X c al vs H Q E h => ?_
  obtain ⟨rfl, rfl, rfl, rfl, rfl⟩ := al
  exact body_encode_event c (F.free _ (by walk_at "gm")) (d_write_event F) h
theorem kb_encode_event {f : Addr} {fd : FuncData} (F : FnP K "encode_event" sq_encode_event f fd) : KBinds K fd ["event"] ["event"] g1 g1 := by
  obtain ⟨oc, od, dV, kV, doc, pm, an, cdv, ct, osl, rfl, lk, hcd, hD, hK⟩ := F.ex
  rcases hD with ⟨_, rfl⟩ | ⟨e, _⟩
  · refine ⟨fun s us ws _ hl => ?_, fun {vs us zs ws} r rz => ?_⟩
    · match us, ws, hl with
      | [], [a0], _ => exact .of_eq rfl
    · match vs, us, r with
      | [], [], _ =>
        match zs, ws, rz with
        | [a0], [a0'], .cons h0 (.nil) => exact .cons h0 (.nil)
        | [], _, .nil => exact .nil
        | _ :: _ :: _, _, .cons _ (.cons _ (_)) => exact .nil
      | _ :: _, _, .cons _ _ => exact .nil
  · exact absurd rfl e
theorem key_encode_event {X : Cx} (F : FA X.K X.mg X.w) : KeyC X CX0 "encode_event" ["event"] ["event"] g1 g1 6 (spEnc X.K) := by
  obtain ⟨fd, f, g⟩ := F.fn "encode_event" sq_encode_event (by walk_at "gm")
  refine ⟨He.ga X.K "encode_event", fd, ?_, g, f.kp, kb_encode_event f⟩
  refine fnOk_of f mq_encode_event (fun vs H Q E h => by first | (obtain ⟨rfl, _⟩ := h; rfl) | (obtain ⟨_, rfl, _⟩ := h; rfl) | (obtain ⟨_, _, rfl, _⟩ := h; rfl) | (obtain ⟨_, _, _, rfl, _⟩ := h; rfl) | (obtain ⟨_, _, _, _, rfl, _⟩ := h; rfl) | (obtain ⟨_, _, _, _, _, rfl, _⟩ := h; rfl) | (obtain ⟨_, _, _, _, _, _, rfl, _⟩ := h; rfl)) fun Y c al vs H Q E h => ?_
  have F2 : FA Y.K Y.mg Y.w := by rw [al.k, al.m, al.w]; exact F
  have h2 := h
  try rw [← al.k] at h2
  exact body_encode_event c (F2.free _ (by walk_at "gm")) (d_write_event F2) h2
theorem d_take (F : FA K mg w) : DefP Pg w K mg base CX0 "_law_take" ["box", "many"] 1 (spTake) := by
  obtain ⟨fd, f, g⟩ := F.fn "_law_take" sq_take (by walk_at "gm")
  refine defP_of f g mq_take (FunD.bindsN f fun _ _ _ _ _ _ us hl => match us, hl with | [_, _], _ => rfl) (fun vs H Q E h => by first | (obtain ⟨rfl, _⟩ := h; rfl) | (obtain ⟨_, rfl, _⟩ := h; rfl) | (obtain ⟨_, _, rfl, _⟩ := h; rfl) | (obtain ⟨_, _, _, rfl, _⟩ := h; rfl) | (obtain ⟨_, _, _, _, rfl, _⟩ := h; rfl) | (obtain ⟨_, _, _, _, _, rfl, _⟩ := h; rfl) | (obtain ⟨_, _, _, _, _, _, rfl, _⟩ := h; rfl)) fun X c al vs H Q E h => ?_
  obtain ⟨rfl, rfl, rfl, rfl, rfl⟩ := al
  exact body_take c (F.free _ (by walk_at "gm")) h
theorem d_box (F : FA K mg w) : DefP Pg w K mg base CX0 "_law_box" ["script", "k"] 1 (spBox K) := by
  obtain ⟨fd, f, g⟩ := F.fn "_law_box" sq_box (by walk_at "gm")
  refine defP_of f g mq_box (FunD.bindsN f fun _ _ _ _ _ _ us hl => match us, hl with | [_, _], _ => rfl) (fun vs H Q E h => by first | (obtain ⟨rfl, _⟩ := h; rfl) | (obtain ⟨_, rfl, _⟩ := h; rfl) | (obtain ⟨_, _, rfl, _⟩ := h; rfl) | (obtain ⟨_, _, _, rfl, _⟩ := h; rfl) | (obtain ⟨_, _, _, _, rfl, _⟩ := h; rfl) | (obtain ⟨_, _, _, _, _, rfl, _⟩ := h; rfl) | (obtain ⟨_, _, _, _, _, _, rfl, _⟩ := h; rfl)) fun X c al vs H Q E h => ?_
  obtain ⟨rfl, rfl, rfl, rfl, rfl⟩ := al
  exact body_box c (F.free _ (by walk_at "gm")) (F.free _ (by walk_at "gm")) (F.free _ (by walk_at "gm")) h
theorem d_pick (F : FA K mg w) : DefP Pg w K mg base CX0 "_law_pick" ["box", "some"] 2 (spPick K) := by
  obtain ⟨fd, f, g⟩ := F.fn "_law_pick" sq_pick (by walk_at "gm")
  refine defP_of f g mq_pick (FunD.bindsN f fun _ _ _ _ _ _ us hl => match us, hl with | [_, _], _ => rfl) (fun vs H Q E h => by first | (obtain ⟨rfl, _⟩ := h; rfl) | (obtain ⟨_, rfl, _⟩ := h; rfl) | (obtain ⟨_, _, rfl, _⟩ := h; rfl) | (obtain ⟨_, _, _, rfl, _⟩ := h; rfl) | (obtain ⟨_, _, _, _, rfl, _⟩ := h; rfl) | (obtain ⟨_, _, _, _, _, rfl, _⟩ := h; rfl) | (obtain ⟨_, _, _, _, _, _, rfl, _⟩ := h; rfl)) fun X c al vs H Q E h => ?_
  obtain ⟨rfl, rfl, rfl, rfl, rfl⟩ := al
  exact body_pick c (F.free _ (by walk_at "gm")) (d_take F) h
theorem d_number (F : FA K mg w) : DefP Pg w K mg base CX0 "_law_number" ["box"] 3 (spNum) := by
  obtain ⟨fd, f, g⟩ := F.fn "_law_number" sq_number (by walk_at "gm")
  refine defP_of f g mq_number (FunD.bindsN f fun _ _ _ _ _ _ us hl => match us, hl with | [_], _ => rfl) (fun vs H Q E h => by first | (obtain ⟨rfl, _⟩ := h; rfl) | (obtain ⟨_, rfl, _⟩ := h; rfl) | (obtain ⟨_, _, rfl, _⟩ := h; rfl) | (obtain ⟨_, _, _, rfl, _⟩ := h; rfl) | (obtain ⟨_, _, _, _, rfl, _⟩ := h; rfl) | (obtain ⟨_, _, _, _, _, rfl, _⟩ := h; rfl) | (obtain ⟨_, _, _, _, _, _, rfl, _⟩ := h; rfl)) fun X c al vs H Q E h => ?_
  obtain ⟨rfl, rfl, rfl, rfl, rfl⟩ := al
  exact body_number c (d_take F) (d_pick F) h
theorem d_part (F : FA K mg w) : DefP Pg w K mg base CX0 "_law_part" ["one", "two"] 1 (spPart) := by
  obtain ⟨fd, f, g⟩ := F.fn "_law_part" sq_part (by walk_at "gm")
  refine defP_of f g mq_part (FunD.bindsN f fun _ _ _ _ _ _ us hl => match us, hl with | [_, _], _ => rfl) (fun vs H Q E h => by first | (obtain ⟨rfl, _⟩ := h; rfl) | (obtain ⟨_, rfl, _⟩ := h; rfl) | (obtain ⟨_, _, rfl, _⟩ := h; rfl) | (obtain ⟨_, _, _, rfl, _⟩ := h; rfl) | (obtain ⟨_, _, _, _, rfl, _⟩ := h; rfl) | (obtain ⟨_, _, _, _, _, rfl, _⟩ := h; rfl) | (obtain ⟨_, _, _, _, _, _, rfl, _⟩ := h; rfl)) fun X c al vs H Q E h => ?_
  obtain ⟨rfl, rfl, rfl, rfl, rfl⟩ := al
  exact body_part c (F.free _ (by walk_at "gm")) (F.free _ (by walk_at "gm")) (F.free _ (by walk_at "gm")) h
theorem d_fraction (F : FA K mg w) : DefP Pg w K mg base CX0 "_law_fraction" ["box"] 3 (spDr (ER EncF) K) := by
  obtain ⟨fd, f, g⟩ := F.fn "_law_fraction" sq_fraction (by walk_at "gm")
  refine defP_of f g mq_fraction (FunD.bindsN f fun _ _ _ _ _ _ us hl => match us, hl with | [_], _ => rfl) (fun vs H Q E h => by first | (obtain ⟨rfl, _⟩ := h; rfl) | (obtain ⟨_, rfl, _⟩ := h; rfl) | (obtain ⟨_, _, rfl, _⟩ := h; rfl) | (obtain ⟨_, _, _, rfl, _⟩ := h; rfl) | (obtain ⟨_, _, _, _, rfl, _⟩ := h; rfl) | (obtain ⟨_, _, _, _, _, rfl, _⟩ := h; rfl) | (obtain ⟨_, _, _, _, _, _, rfl, _⟩ := h; rfl)) fun X c al vs H Q E h => ?_
  obtain ⟨rfl, rfl, rfl, rfl, rfl⟩ := al
  exact body_fraction c (F.free _ (by walk_at "gm")) (d_take F) (d_pick F) (d_part F) h
theorem d_label (F : FA K mg w) : DefP Pg w K mg base CX0 "_law_label" ["box"] 3 (spDr PL K) := by
  obtain ⟨fd, f, g⟩ := F.fn "_law_label" sq_label (by walk_at "gm")
  refine defP_of f g mq_label (FunD.bindsN f fun _ _ _ _ _ _ us hl => match us, hl with | [_], _ => rfl) (fun vs H Q E h => by first | (obtain ⟨rfl, _⟩ := h; rfl) | (obtain ⟨_, rfl, _⟩ := h; rfl) | (obtain ⟨_, _, rfl, _⟩ := h; rfl) | (obtain ⟨_, _, _, rfl, _⟩ := h; rfl) | (obtain ⟨_, _, _, _, rfl, _⟩ := h; rfl) | (obtain ⟨_, _, _, _, _, rfl, _⟩ := h; rfl) | (obtain ⟨_, _, _, _, _, _, rfl, _⟩ := h; rfl)) fun X c al vs H Q E h => ?_
  obtain ⟨rfl, rfl, rfl, rfl, rfl⟩ := al
  exact body_label c (F.free _ (by walk_at "gm")) (F.free _ (by walk_at "gm")) (d_take F) (d_pick F) h
theorem d_name (F : FA K mg w) : DefP Pg w K mg base CX0 "_law_name" ["box", "most"] 4 (spDrM (ER EncN) K) := by
  obtain ⟨fd, f, g⟩ := F.fn "_law_name" sq_name (by walk_at "gm")
  refine defP_of f g mq_name (FunD.bindsN f fun _ _ _ _ _ _ us hl => match us, hl with | [_, _], _ => rfl) (fun vs H Q E h => by first | (obtain ⟨rfl, _⟩ := h; rfl) | (obtain ⟨_, rfl, _⟩ := h; rfl) | (obtain ⟨_, _, rfl, _⟩ := h; rfl) | (obtain ⟨_, _, _, rfl, _⟩ := h; rfl) | (obtain ⟨_, _, _, _, rfl, _⟩ := h; rfl) | (obtain ⟨_, _, _, _, _, rfl, _⟩ := h; rfl) | (obtain ⟨_, _, _, _, _, _, rfl, _⟩ := h; rfl)) fun X c al vs H Q E h => ?_
  obtain ⟨rfl, rfl, rfl, rfl, rfl⟩ := al
  exact body_name c (F.free _ (by walk_at "gm")) (F.free _ (by walk_at "gm")) (d_take F) (d_label F) h
theorem d_id (F : FA K mg w) : DefP Pg w K mg base CX0 "_law_id" ["box"] 4 (spDr (ER (EncI 0)) K) := by
  obtain ⟨fd, f, g⟩ := F.fn "_law_id" sq_id (by walk_at "gm")
  refine defP_of f g mq_id (FunD.bindsN f fun _ _ _ _ _ _ us hl => match us, hl with | [_], _ => rfl) (fun vs H Q E h => by first | (obtain ⟨rfl, _⟩ := h; rfl) | (obtain ⟨_, rfl, _⟩ := h; rfl) | (obtain ⟨_, _, rfl, _⟩ := h; rfl) | (obtain ⟨_, _, _, rfl, _⟩ := h; rfl) | (obtain ⟨_, _, _, _, rfl, _⟩ := h; rfl) | (obtain ⟨_, _, _, _, _, rfl, _⟩ := h; rfl) | (obtain ⟨_, _, _, _, _, _, rfl, _⟩ := h; rfl)) fun X c al vs H Q E h => ?_
  obtain ⟨rfl, rfl, rfl, rfl, rfl⟩ := al
  exact body_id c (d_take F) (d_pick F) (d_number F) h
theorem d_rows (F : FA K mg w) : DefP Pg w K mg base CX0 "_law_rows" ["box", "most"] 5 (spRows K) := by
  obtain ⟨fd, f, g⟩ := F.fn "_law_rows" sq_rows (by walk_at "gm")
  refine defP_of f g mq_rows (FunD.bindsN f fun _ _ _ _ _ _ us hl => match us, hl with | [_, _], _ => rfl) (fun vs H Q E h => by first | (obtain ⟨rfl, _⟩ := h; rfl) | (obtain ⟨_, rfl, _⟩ := h; rfl) | (obtain ⟨_, _, rfl, _⟩ := h; rfl) | (obtain ⟨_, _, _, rfl, _⟩ := h; rfl) | (obtain ⟨_, _, _, _, rfl, _⟩ := h; rfl) | (obtain ⟨_, _, _, _, _, rfl, _⟩ := h; rfl) | (obtain ⟨_, _, _, _, _, _, rfl, _⟩ := h; rfl)) fun X c al vs H Q E h => ?_
  obtain ⟨rfl, rfl, rfl, rfl, rfl⟩ := al
  exact body_rows c (F.free _ (by walk_at "gm")) (F.free _ (by walk_at "gm")) (F.free _ (by walk_at "gm")) (F.free _ (by walk_at "gm")) (d_take F) (d_pick F) (d_label F) (d_number F) (d_name F) h
theorem d_entry (F : FA K mg w) : DefP Pg w K mg base CX0 "_law_entry" ["box", "most"] 6 (spDrM (ER EncE) K) := by
  obtain ⟨fd, f, g⟩ := F.fn "_law_entry" sq_entry (by walk_at "gm")
  refine defP_of f g mq_entry (FunD.bindsN f fun _ _ _ _ _ _ us hl => match us, hl with | [_, _], _ => rfl) (fun vs H Q E h => by first | (obtain ⟨rfl, _⟩ := h; rfl) | (obtain ⟨_, rfl, _⟩ := h; rfl) | (obtain ⟨_, _, rfl, _⟩ := h; rfl) | (obtain ⟨_, _, _, rfl, _⟩ := h; rfl) | (obtain ⟨_, _, _, _, rfl, _⟩ := h; rfl) | (obtain ⟨_, _, _, _, _, rfl, _⟩ := h; rfl) | (obtain ⟨_, _, _, _, _, _, rfl, _⟩ := h; rfl)) fun X c al vs H Q E h => ?_
  obtain ⟨rfl, rfl, rfl, rfl, rfl⟩ := al
  exact body_entry c (d_take F) (d_pick F) (d_number F) (d_name F) (d_rows F) h
theorem d_answer (F : FA K mg w) : DefP Pg w K mg base CX0 "_law_answer" ["box", "most"] 6 (spDrM (ER EncA) K) := by
  obtain ⟨fd, f, g⟩ := F.fn "_law_answer" sq_answer (by walk_at "gm")
  refine defP_of f g mq_answer (FunD.bindsN f fun _ _ _ _ _ _ us hl => match us, hl with | [_, _], _ => rfl) (fun vs H Q E h => by first | (obtain ⟨rfl, _⟩ := h; rfl) | (obtain ⟨_, rfl, _⟩ := h; rfl) | (obtain ⟨_, _, rfl, _⟩ := h; rfl) | (obtain ⟨_, _, _, rfl, _⟩ := h; rfl) | (obtain ⟨_, _, _, _, rfl, _⟩ := h; rfl) | (obtain ⟨_, _, _, _, _, rfl, _⟩ := h; rfl) | (obtain ⟨_, _, _, _, _, _, rfl, _⟩ := h; rfl)) fun X c al vs H Q E h => ?_
  obtain ⟨rfl, rfl, rfl, rfl, rfl⟩ := al
  exact body_answer c (F.free _ (by walk_at "gm")) (F.free _ (by walk_at "gm")) (d_take F) (d_pick F) (d_number F) (d_id F) (d_name F) h
theorem d_words (F : FA K mg w) : DefP Pg w K mg base CX0 "_law_words" ["kind"] 1 (spWords) := by
  obtain ⟨fd, f, g⟩ := F.fn "_law_words" sq_words (by walk_at "gm")
  refine defP_of f g mq_words (FunD.bindsN f fun _ _ _ _ _ _ us hl => match us, hl with | [_], _ => rfl) (fun vs H Q E h => by first | (obtain ⟨rfl, _⟩ := h; rfl) | (obtain ⟨_, rfl, _⟩ := h; rfl) | (obtain ⟨_, _, rfl, _⟩ := h; rfl) | (obtain ⟨_, _, _, rfl, _⟩ := h; rfl) | (obtain ⟨_, _, _, _, rfl, _⟩ := h; rfl) | (obtain ⟨_, _, _, _, _, rfl, _⟩ := h; rfl) | (obtain ⟨_, _, _, _, _, _, rfl, _⟩ := h; rfl)) fun X c al vs H Q E h => ?_
  obtain ⟨rfl, rfl, rfl, rfl, rfl⟩ := al
  exact body_words c  h
theorem d_kinds (F : FA K mg w) : DefP Pg w K mg base CX0 "_law_kinds" [] 1 (spKinds) := by
  obtain ⟨fd, f, g⟩ := F.fn "_law_kinds" sq_kinds (by walk_at "gm")
  refine defP_of f g mq_kinds (FunD.bindsN f fun _ _ _ _ _ _ us hl => match us, hl with | [], _ => rfl) (fun vs H Q E h => by first | (obtain ⟨rfl, _⟩ := h; rfl) | (obtain ⟨_, rfl, _⟩ := h; rfl) | (obtain ⟨_, _, rfl, _⟩ := h; rfl) | (obtain ⟨_, _, _, rfl, _⟩ := h; rfl) | (obtain ⟨_, _, _, _, rfl, _⟩ := h; rfl) | (obtain ⟨_, _, _, _, _, rfl, _⟩ := h; rfl) | (obtain ⟨_, _, _, _, _, _, rfl, _⟩ := h; rfl)) fun X c al vs H Q E h => ?_
  obtain ⟨rfl, rfl, rfl, rfl, rfl⟩ := al
  exact body_kinds c  h
theorem d_piece (F : FA K mg w) : DefP Pg w K mg base CX0 "_law_piece" ["box", "word", "most"] 7 (spPiece K) := by
  obtain ⟨fd, f, g⟩ := F.fn "_law_piece" sq_piece (by walk_at "gm")
  refine defP_of f g mq_piece (FunD.bindsN f fun _ _ _ _ _ _ us hl => match us, hl with | [_, _, _], _ => rfl) (fun vs H Q E h => by first | (obtain ⟨rfl, _⟩ := h; rfl) | (obtain ⟨_, rfl, _⟩ := h; rfl) | (obtain ⟨_, _, rfl, _⟩ := h; rfl) | (obtain ⟨_, _, _, rfl, _⟩ := h; rfl) | (obtain ⟨_, _, _, _, rfl, _⟩ := h; rfl) | (obtain ⟨_, _, _, _, _, rfl, _⟩ := h; rfl) | (obtain ⟨_, _, _, _, _, _, rfl, _⟩ := h; rfl)) fun X c al vs H Q E h => ?_
  obtain ⟨rfl, rfl, rfl, rfl, rfl⟩ := al
  exact body_piece c (d_take F) (d_pick F) (d_id F) (d_label F) (d_fraction F) (d_name F) (d_entry F) (d_answer F) h
theorem d_event (F : FA K mg w) : DefP Pg w K mg base CX0 "_law_event" ["box", "kind", "most"] 8 (spEvent K) := by
  obtain ⟨fd, f, g⟩ := F.fn "_law_event" sq_event (by walk_at "gm")
  refine defP_of f g mq_event (FunD.bindsN f fun _ _ _ _ _ _ us hl => match us, hl with | [_, _, _], _ => rfl) (fun vs H Q E h => by first | (obtain ⟨rfl, _⟩ := h; rfl) | (obtain ⟨_, rfl, _⟩ := h; rfl) | (obtain ⟨_, _, rfl, _⟩ := h; rfl) | (obtain ⟨_, _, _, rfl, _⟩ := h; rfl) | (obtain ⟨_, _, _, _, rfl, _⟩ := h; rfl) | (obtain ⟨_, _, _, _, _, rfl, _⟩ := h; rfl) | (obtain ⟨_, _, _, _, _, _, rfl, _⟩ := h; rfl)) fun X c al vs H Q E h => ?_
  obtain ⟨rfl, rfl, rfl, rfl, rfl⟩ := al
  exact body_event c (F.free _ (by walk_at "gm")) (d_words F) (d_kinds F) (d_id F) (d_fraction F) (d_piece F) h
theorem d_groups (F : FA K mg w) : DefP Pg w K mg base CX0 "_law_groups" ["worth"] 1 (spGr) := by
  obtain ⟨fd, f, g⟩ := F.fn "_law_groups" sq_groups (by walk_at "gm")
  refine defP_of f g mq_groups (FunD.bindsN f fun _ _ _ _ _ _ us hl => match us, hl with | [_], _ => rfl) (fun vs H Q E h => by first | (obtain ⟨rfl, _⟩ := h; rfl) | (obtain ⟨_, rfl, _⟩ := h; rfl) | (obtain ⟨_, _, rfl, _⟩ := h; rfl) | (obtain ⟨_, _, _, rfl, _⟩ := h; rfl) | (obtain ⟨_, _, _, _, rfl, _⟩ := h; rfl) | (obtain ⟨_, _, _, _, _, rfl, _⟩ := h; rfl) | (obtain ⟨_, _, _, _, _, _, rfl, _⟩ := h; rfl)) fun X c al vs H Q E h => ?_
  obtain ⟨rfl, rfl, rfl, rfl, rfl⟩ := al
  exact body_groups c (F.free _ (by walk_at "gm")) (F.free _ (by walk_at "gm")) h
theorem d_form_label (F : FA K mg w) : DefP Pg w K mg base CX0 "_law_form_label" ["label"] 1 (spFm EncB K) := by
  obtain ⟨fd, f, g⟩ := F.fn "_law_form_label" sq_form_label (by walk_at "gm")
  refine defP_of f g mq_form_label (FunD.bindsN f fun _ _ _ _ _ _ us hl => match us, hl with | [_], _ => rfl) (fun vs H Q E h => by first | (obtain ⟨rfl, _⟩ := h; rfl) | (obtain ⟨_, rfl, _⟩ := h; rfl) | (obtain ⟨_, _, rfl, _⟩ := h; rfl) | (obtain ⟨_, _, _, rfl, _⟩ := h; rfl) | (obtain ⟨_, _, _, _, rfl, _⟩ := h; rfl) | (obtain ⟨_, _, _, _, _, rfl, _⟩ := h; rfl) | (obtain ⟨_, _, _, _, _, _, rfl, _⟩ := h; rfl)) fun X c al vs H Q E h => ?_
  obtain ⟨rfl, rfl, rfl, rfl, rfl⟩ := al
  exact body_form_label c (F.free _ (by walk_at "gm")) h
theorem d_form_name (F : FA K mg w) : DefP Pg w K mg base CX0 "_law_form_name" ["name"] 2 (spFm EncN K) := by
  obtain ⟨fd, f, g⟩ := F.fn "_law_form_name" sq_form_name (by walk_at "gm")
  refine defP_of f g mq_form_name (FunD.bindsN f fun _ _ _ _ _ _ us hl => match us, hl with | [_], _ => rfl) (fun vs H Q E h => by first | (obtain ⟨rfl, _⟩ := h; rfl) | (obtain ⟨_, rfl, _⟩ := h; rfl) | (obtain ⟨_, _, rfl, _⟩ := h; rfl) | (obtain ⟨_, _, _, rfl, _⟩ := h; rfl) | (obtain ⟨_, _, _, _, rfl, _⟩ := h; rfl) | (obtain ⟨_, _, _, _, _, rfl, _⟩ := h; rfl) | (obtain ⟨_, _, _, _, _, _, rfl, _⟩ := h; rfl)) fun X c al vs H Q E h => ?_
  obtain ⟨rfl, rfl, rfl, rfl, rfl⟩ := al
  exact body_form_name c (F.free _ (by walk_at "gm")) (d_form_label F) h
theorem d_form_fraction (F : FA K mg w) : DefP Pg w K mg base CX0 "_law_form_fraction" ["one"] 2 (spFm EncF K) := by
  obtain ⟨fd, f, g⟩ := F.fn "_law_form_fraction" sq_form_fraction (by walk_at "gm")
  refine defP_of f g mq_form_fraction (FunD.bindsN f fun _ _ _ _ _ _ us hl => match us, hl with | [_], _ => rfl) (fun vs H Q E h => by first | (obtain ⟨rfl, _⟩ := h; rfl) | (obtain ⟨_, rfl, _⟩ := h; rfl) | (obtain ⟨_, _, rfl, _⟩ := h; rfl) | (obtain ⟨_, _, _, rfl, _⟩ := h; rfl) | (obtain ⟨_, _, _, _, rfl, _⟩ := h; rfl) | (obtain ⟨_, _, _, _, _, rfl, _⟩ := h; rfl) | (obtain ⟨_, _, _, _, _, _, rfl, _⟩ := h; rfl)) fun X c al vs H Q E h => ?_
  obtain ⟨rfl, rfl, rfl, rfl, rfl⟩ := al
  exact body_form_fraction c (d_groups F) h
theorem d_form_id (F : FA K mg w) : DefP Pg w K mg base CX0 "_law_form_id" ["one", "more"] 2 (spFI K) := by
  obtain ⟨fd, f, g⟩ := F.fn "_law_form_id" sq_form_id (by walk_at "gm")
  refine defP_of f g mq_form_id (FunD.bindsN f fun _ _ _ _ _ _ us hl => match us, hl with | [_, _], _ => rfl) (fun vs H Q E h => by first | (obtain ⟨rfl, _⟩ := h; rfl) | (obtain ⟨_, rfl, _⟩ := h; rfl) | (obtain ⟨_, _, rfl, _⟩ := h; rfl) | (obtain ⟨_, _, _, rfl, _⟩ := h; rfl) | (obtain ⟨_, _, _, _, rfl, _⟩ := h; rfl) | (obtain ⟨_, _, _, _, _, rfl, _⟩ := h; rfl) | (obtain ⟨_, _, _, _, _, _, rfl, _⟩ := h; rfl)) fun X c al vs H Q E h => ?_
  obtain ⟨rfl, rfl, rfl, rfl, rfl⟩ := al
  exact body_form_id c (d_groups F) h
theorem d_form_entry1 (F : FA K mg w) : DefP Pg w K mg base CX0 "_law_form_entry" ["entry"] 3 (spFm Ent1 K) := by
  obtain ⟨fd, f, g⟩ := F.fn "_law_form_entry" sq_form_entry (by walk_at "gm")
  refine defP_of f g mq_form_entry (FunD.bindsN f fun _ _ _ _ _ _ us hl => match us, hl with | [_], _ => rfl) (fun vs H Q E h => by first | (obtain ⟨rfl, _⟩ := h; rfl) | (obtain ⟨_, rfl, _⟩ := h; rfl) | (obtain ⟨_, _, rfl, _⟩ := h; rfl) | (obtain ⟨_, _, _, rfl, _⟩ := h; rfl) | (obtain ⟨_, _, _, _, rfl, _⟩ := h; rfl) | (obtain ⟨_, _, _, _, _, rfl, _⟩ := h; rfl) | (obtain ⟨_, _, _, _, _, _, rfl, _⟩ := h; rfl)) fun X c al vs H Q E h => ?_
  obtain ⟨rfl, rfl, rfl, rfl, rfl⟩ := al
  exact body_form_entry1 c (d_groups F) (d_form_name F) h
theorem d_form_entry (F : FA K mg w) : DefP Pg w K mg base CX0 "_law_form_entry" ["entry"] 4 (spFm EncE K) := by
  obtain ⟨fd, f, g⟩ := F.fn "_law_form_entry" sq_form_entry (by walk_at "gm")
  refine defP_of f g mq_form_entry (FunD.bindsN f fun _ _ _ _ _ _ us hl => match us, hl with | [_], _ => rfl) (fun vs H Q E h => by first | (obtain ⟨rfl, _⟩ := h; rfl) | (obtain ⟨_, rfl, _⟩ := h; rfl) | (obtain ⟨_, _, rfl, _⟩ := h; rfl) | (obtain ⟨_, _, _, rfl, _⟩ := h; rfl) | (obtain ⟨_, _, _, _, rfl, _⟩ := h; rfl) | (obtain ⟨_, _, _, _, _, rfl, _⟩ := h; rfl) | (obtain ⟨_, _, _, _, _, _, rfl, _⟩ := h; rfl)) fun X c al vs H Q E h => ?_
  obtain ⟨rfl, rfl, rfl, rfl, rfl⟩ := al
  exact body_form_entry c (K07.Ctx.le c (by decide)) (d_groups F) (d_form_name F) (d_form_label F) (d_form_entry1 F) h
theorem d_form_answer (F : FA K mg w) : DefP Pg w K mg base CX0 "_law_form_answer" ["answer"] 4 (spFm EncA K) := by
  obtain ⟨fd, f, g⟩ := F.fn "_law_form_answer" sq_form_answer (by walk_at "gm")
  refine defP_of f g mq_form_answer (FunD.bindsN f fun _ _ _ _ _ _ us hl => match us, hl with | [_], _ => rfl) (fun vs H Q E h => by first | (obtain ⟨rfl, _⟩ := h; rfl) | (obtain ⟨_, rfl, _⟩ := h; rfl) | (obtain ⟨_, _, rfl, _⟩ := h; rfl) | (obtain ⟨_, _, _, rfl, _⟩ := h; rfl) | (obtain ⟨_, _, _, _, rfl, _⟩ := h; rfl) | (obtain ⟨_, _, _, _, _, rfl, _⟩ := h; rfl) | (obtain ⟨_, _, _, _, _, _, rfl, _⟩ := h; rfl)) fun X c al vs H Q E h => ?_
  obtain ⟨rfl, rfl, rfl, rfl, rfl⟩ := al
  exact body_form_answer c (F.free _ (by walk_at "gm")) (d_groups F) (d_form_id F) (d_form_name F) h
theorem d_form_part (F : FA K mg w) : DefP Pg w K mg base CX0 "_law_form_part" ["word", "part"] 5 (spFP K) := by
  obtain ⟨fd, f, g⟩ := F.fn "_law_form_part" sq_form_part (by walk_at "gm")
  refine defP_of f g mq_form_part (FunD.bindsN f fun _ _ _ _ _ _ us hl => match us, hl with | [_, _], _ => rfl) (fun vs H Q E h => by first | (obtain ⟨rfl, _⟩ := h; rfl) | (obtain ⟨_, rfl, _⟩ := h; rfl) | (obtain ⟨_, _, rfl, _⟩ := h; rfl) | (obtain ⟨_, _, _, rfl, _⟩ := h; rfl) | (obtain ⟨_, _, _, _, rfl, _⟩ := h; rfl) | (obtain ⟨_, _, _, _, _, rfl, _⟩ := h; rfl) | (obtain ⟨_, _, _, _, _, _, rfl, _⟩ := h; rfl)) fun X c al vs H Q E h => ?_
  obtain ⟨rfl, rfl, rfl, rfl, rfl⟩ := al
  exact body_form_part c (d_form_id F) (d_form_label F) (d_form_fraction F) (d_form_name F) (d_form_entry F) (d_form_answer F) h
theorem d_form (F : FA K mg w) : DefP Pg w K mg base CX0 "_law_form" ["event"] 6 (spFV K) := by
  obtain ⟨fd, f, g⟩ := F.fn "_law_form" sq_form (by walk_at "gm")
  refine defP_of f g mq_form (FunD.bindsN f fun _ _ _ _ _ _ us hl => match us, hl with | [_], _ => rfl) (fun vs H Q E h => by first | (obtain ⟨rfl, _⟩ := h; rfl) | (obtain ⟨_, rfl, _⟩ := h; rfl) | (obtain ⟨_, _, rfl, _⟩ := h; rfl) | (obtain ⟨_, _, _, rfl, _⟩ := h; rfl) | (obtain ⟨_, _, _, _, rfl, _⟩ := h; rfl) | (obtain ⟨_, _, _, _, _, rfl, _⟩ := h; rfl) | (obtain ⟨_, _, _, _, _, _, rfl, _⟩ := h; rfl)) fun X c al vs H Q E h => ?_
  obtain ⟨rfl, rfl, rfl, rfl, rfl⟩ := al
  exact body_form c (F.free _ (by walk_at "gm")) (d_kinds F) (d_words F) (d_form_id F) (d_form_fraction F) (d_form_part F) h
theorem d_same_n (F : FA K mg w) : ∀ n, DefP Pg w K mg base CX0 "_law_same" ["told", "due"] (n + 1) (spSame K n) := by
  intro n
  induction n with
  | zero =>
    obtain ⟨fd, f, g⟩ := F.fn "_law_same" sq_same (by walk_at "gm")
    refine defP_of f g mq_same (FunD.bindsN f fun _ _ _ _ _ _ us hl => match us, hl with | [_, _], _ => rfl) (fun vs H Q E h => by first | (obtain ⟨rfl, _⟩ := h; rfl) | (obtain ⟨_, rfl, _⟩ := h; rfl) | (obtain ⟨_, _, rfl, _⟩ := h; rfl) | (obtain ⟨_, _, _, rfl, _⟩ := h; rfl) | (obtain ⟨_, _, _, _, rfl, _⟩ := h; rfl) | (obtain ⟨_, _, _, _, _, rfl, _⟩ := h; rfl) | (obtain ⟨_, _, _, _, _, _, rfl, _⟩ := h; rfl)) fun X c al vs H Q E h => ?_
    obtain ⟨rfl, rfl, rfl, rfl, rfl⟩ := al
    exact body_same c (F.free _ (by walk_at "gm")) (F.free _ (by walk_at "gm")) (F.free _ (by walk_at "gm")) (F.free _ (by walk_at "gm")) (F.free _ (by walk_at "gm")) (F.free _ (by walk_at "gm")) (F.free _ (by walk_at "gm")) (F.free _ (by walk_at "gm")) (fun m e => by omega) h
  | succ n ih =>
    obtain ⟨fd, f, g⟩ := F.fn "_law_same" sq_same (by walk_at "gm")
    refine defP_of f g mq_same (FunD.bindsN f fun _ _ _ _ _ _ us hl => match us, hl with | [_, _], _ => rfl) (fun vs H Q E h => by first | (obtain ⟨rfl, _⟩ := h; rfl) | (obtain ⟨_, rfl, _⟩ := h; rfl) | (obtain ⟨_, _, rfl, _⟩ := h; rfl) | (obtain ⟨_, _, _, rfl, _⟩ := h; rfl) | (obtain ⟨_, _, _, _, rfl, _⟩ := h; rfl) | (obtain ⟨_, _, _, _, _, rfl, _⟩ := h; rfl) | (obtain ⟨_, _, _, _, _, _, rfl, _⟩ := h; rfl)) fun X c al vs H Q E h => ?_
    obtain ⟨rfl, rfl, rfl, rfl, rfl⟩ := al
    exact body_same c (F.free _ (by walk_at "gm")) (F.free _ (by walk_at "gm")) (F.free _ (by walk_at "gm")) (F.free _ (by walk_at "gm")) (F.free _ (by walk_at "gm")) (F.free _ (by walk_at "gm")) (F.free _ (by walk_at "gm")) (F.free _ (by walk_at "gm")) (fun m e => by have e2 : m = n := (by omega); subst e2; exact ih) h
theorem d_same (F : FA K mg w) : DefP Pg w K mg base CX0 "_law_same" ["told", "due"] 2 (spSame K 1) := d_same_n F 1
theorem d_edges (F : FA K mg w) : DefP Pg w K mg base CX0 "_law_edges" [] 1 (spEdges K) := by
  obtain ⟨fd, f, g⟩ := F.fn "_law_edges" sq_edges (by walk_at "gm")
  refine defP_of f g mq_edges (FunD.bindsN f fun _ _ _ _ _ _ us hl => match us, hl with | [], _ => rfl) (fun vs H Q E h => by first | (obtain ⟨rfl, _⟩ := h; rfl) | (obtain ⟨_, rfl, _⟩ := h; rfl) | (obtain ⟨_, _, rfl, _⟩ := h; rfl) | (obtain ⟨_, _, _, rfl, _⟩ := h; rfl) | (obtain ⟨_, _, _, _, rfl, _⟩ := h; rfl) | (obtain ⟨_, _, _, _, _, rfl, _⟩ := h; rfl) | (obtain ⟨_, _, _, _, _, _, rfl, _⟩ := h; rfl)) fun X c al vs H Q E h => ?_
  obtain ⟨rfl, rfl, rfl, rfl, rfl⟩ := al
  exact body_edges c (F.free _ (by walk_at "gm")) (F.free _ (by walk_at "gm")) h
end
abbrev tfA : List He.Defn := []
abbrev hkA : PySem.W.Hook := He.hookX 5 faA fnA tbA tfA exA
theorem law_facts {Pg : Program} {w : World} {h : Heap} {K : PySem.W.Frag} {mg : Str → Option Value} {fa : Addr} (X : K.In h) (G : h.Ns mainGlobals mg) (hfa : mg "law" = some (.ref fa)) (c : He.SaysX faA fnA tbA tfA exA w h K) :
    ∃ fd : FuncData, (∀ (s : Shared) (v : Value), BindsTo s fd ⟨[v], []⟩ [("script", v)]) ∧ ∀ base : Heap, FnOk Pg w K mg base CX0 9 fa fd ["script"] (spLaw K) := by
  have F := fA_of X G c
  obtain ⟨fd, f, g⟩ := F.fn "law" sq_law (by walk_at "gm")
  have e := hfa.symm.trans g
  cases e
  have b := FunD.bindsA (ps := ["script"]) f fun _ _ _ _ _ _ us hl => match us, hl with | [_], _ => rfl
  refine ⟨fd, fun s v => b s [v] rfl, fun base => ?_⟩
  refine fnOk_of f mq_law (fun vs H Q E h => by first | (obtain ⟨rfl, _⟩ := h; rfl) | (obtain ⟨_, rfl, _⟩ := h; rfl) | (obtain ⟨_, _, rfl, _⟩ := h; rfl) | (obtain ⟨_, _, _, rfl, _⟩ := h; rfl) | (obtain ⟨_, _, _, _, rfl, _⟩ := h; rfl) | (obtain ⟨_, _, _, _, _, rfl, _⟩ := h; rfl) | (obtain ⟨_, _, _, _, _, _, rfl, _⟩ := h; rfl)) fun X cx al vs H Q E h => ?_
  obtain ⟨rfl, rfl, rfl, rfl, rfl⟩ := al
  exact body_law cx ⟨d_box F, d_take F, d_pick F, d_event F, d_edges F, d_encode_event F, key_encode_event F, d_form F, d_same F, F.free _ (by walk_at "gm"), F.free _ (by walk_at "gm"), F.free _ (by walk_at "gm"), F.free _ (by walk_at "gm"), F.free _ (by walk_at "gm")⟩ h
end K07
open PySem PySem.W PySem.Calls PyProof.Rows
theorem PySem.Challenge.cw_goodtill_k07_events_as_octets_holds : PySem.Challenge.rw_goodtill_k07_events_as_octets.Holds := by
  w_on; o_law
  o_head K07.hkA
  case hw => w_witness2
  case hc =>
    refine LamX.walk_ofTsE (l := PySem.Challenge.rw_goodtill_k07_events_as_octets) (n := 63) (k := 9) (x := "script") (CX := fun _ => L2.CX0) rfl (by decide) (by kernel_rfl) ⟨rfl, by decide, by decide⟩ ?F (fun _ _ _ _ _ z => z)
    intro w mg fa h Y G hmg0
    obtain ⟨K, KX, c⟩ := Y
    have hmg : mg ("law" : PySem.Str) = some (.ref fa) := hmg0
    obtain ⟨fd, hb, hF⟩ := K07.law_facts (Pg := (PySem.Challenge.rw_goodtill_k07_events_as_octets).prog) KX G hmg c
    refine ⟨K, KX, fd, K07.tfA.map (He.cT K), K07.spLaw K, fun p hp => ?_, fun p hp => ?_, fun p hp => ?_, hb, fun H a ns hl hbits hH hS => ?_, fun base _ _ hT => ?_⟩
    · obtain ⟨t, ht, rfl⟩ := List.mem_map.mp hp
      exact c.empty _ ht
    · obtain ⟨t, ht, rfl⟩ := List.mem_map.mp hp
      exact c.out _ ht
    · obtain ⟨t, ht, rfl⟩ := List.mem_map.mp hp
      exact PySem.W.codeHd_of_K KX (c.hd _ ht)
    · exact ⟨a, ns, rfl, hS, hl, fun _ => rfl⟩
    · exact hF base 
namespace K07
end K07
