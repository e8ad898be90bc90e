import PyProof.Rows.All
import Wide.All
import OpenK.AllK
import Wide.FinOn
import HandS.ForMost
import HandS.ForExc
import HandS.Wide
import HandS.Zip
import HandS.Walk
import HandS.IsInst
import HandS.Flow
import HandS.TupAny
import HandS.Defaults
import HandS.Words
import HandS.SortKw
import HandS.StrMore
import HandS.ExcInit
import HandS.ExcField
import HandS.WordsExc
import HandS.Lambda
import KE.KExcIs
import HandS.HeadHook4
import HandS.HeadWalk
import HandS.Head2
import PySem.Challenge.RW_goodtill_k05_what_lies_between_labels
set_option Elab.async false
set_option linter.all false
set_option maxRecDepth 100000
set_option maxHeartbeats 4000000
/-! A core of one's own over the hand layer: what an expression, a test, a block asks, whatever rule serves it; so a def's body is walked from the left, rule by rule. -/
namespace GT
open PySem PySem.Spec PyProof.Rows L2
/-! ### what is asked, whatever rule serves -/
structure RE (X : Cx) (e : Expr) (σ : L2.St) (H : Hp) (Q : VK) : Prop where
  ex : ∃ t, PE X e t ∧ t σ H Q
structure RT (X : Cx) (e : Expr) (σ : L2.St) (H : Hp) (Q : Bool → Hp → Prop) : Prop where
  ex : ∃ t, PT X e t ∧ t σ H Q
structure RW (X : Cx) (e : Expr) (σ : L2.St) (H : Hp) (Q : Bool → Hp → Prop) : Prop where
  ex : ∃ t, PW X e t ∧ t σ H Q
structure RA (X : Cx) (es : List Expr) (σ : L2.St) (H : Hp) (Q : List V → Hp → Prop) : Prop where
  ex : ∃ t, PA X es t ∧ t σ H Q
structure RS (X : Cx) (st : Stmt) (D : Ends) (σ : L2.St) (H : Hp) : Prop where
  ex : ∃ t, PS X st t ∧ t D σ H
structure RB (X : Cx) (st : List Stmt) (D : Ends) (σ : L2.St) (H : Hp) : Prop where
  ex : ∃ t, PSs X st t ∧ t D σ H
structure RO (X : Cx) (e : Option Expr) (σ : L2.St) (H : Hp) (Q : Option Int → Hp → Prop) : Prop where
  ex : ∃ t, PO X e t ∧ t σ H Q
section
variable {X : Cx} {σ : L2.St} {H : Hp}
theorem PE.self {e : Expr} : PE X e (RE X e) := ⟨fun pins s σ H Q I h => by obtain ⟨t, ht, q⟩ := h.ex; exact ht.run pins s σ H Q I q⟩
theorem PT.self {e : Expr} : PT X e (RT X e) := ⟨fun pins s σ H Q I h => by obtain ⟨t, ht, q⟩ := h.ex; exact ht.run pins s σ H Q I q⟩
theorem PW.self {e : Expr} : PW X e (RW X e) := ⟨fun wh pins s σ H Q I h => by obtain ⟨t, ht, q⟩ := h.ex; exact ht.run wh pins s σ H Q I q⟩
theorem PA.self {es : List Expr} : PA X es (RA X es) := ⟨fun pos pins s σ H Q I h => by obtain ⟨t, ht, q⟩ := h.ex; exact ht.run pos pins s σ H Q I q⟩
theorem PS.self {st : Stmt} : PS X st (RS X st) := ⟨fun pins s σ H D I h => by obtain ⟨t, ht, q⟩ := h.ex; exact ht.run pins s σ H D I q⟩
theorem PSs.self {st : List Stmt} : PSs X st (RB X st) := ⟨fun pins s σ H D I h => by obtain ⟨t, ht, q⟩ := h.ex; exact ht.run pins s σ H D I q⟩
theorem re_of {e : Expr} {t : TE} {Q : VK} (h : PE X e t) (q : t σ H Q) : RE X e σ H Q := ⟨⟨t, h, q⟩⟩
theorem rt_of {e : Expr} {t : TT} {Q : Bool → Hp → Prop} (h : PT X e t) (q : t σ H Q) : RT X e σ H Q := ⟨⟨t, h, q⟩⟩
theorem rw_of {e : Expr} {t : TT} {Q : Bool → Hp → Prop} (h : PW X e t) (q : t σ H Q) : RW X e σ H Q := ⟨⟨t, h, q⟩⟩
theorem ra_of {e : List Expr} {t : TA} {Q : List V → Hp → Prop} (h : PA X e t) (q : t σ H Q) : RA X e σ H Q := ⟨⟨t, h, q⟩⟩
theorem rs_of {st : Stmt} {t : TS} {D : Ends} (h : PS X st t) (q : t D σ H) : RS X st D σ H := ⟨⟨t, h, q⟩⟩
theorem rb_of {st : List Stmt} {t : TS} {D : Ends} (h : PSs X st t) (q : t D σ H) : RB X st D σ H := ⟨⟨t, h, q⟩⟩
/-! ### slots by name -/
inductive Slot : List Str → L2.St → Str → V → Prop
  | here {x : Str} {N : List Str} {v : V} {σ : L2.St} : Slot (x :: N) (some v :: σ) x v
  | there {x y : Str} {N : List Str} {v : V} {o : Option V} {σ : L2.St} (h : Slot N σ x v) : Slot (y :: N) (o :: σ) x v
inductive Put : List Str → L2.St → Str → V → L2.St → Prop
  | here {x : Str} {N : List Str} {v : V} {o : Option V} {σ : L2.St} : Put (x :: N) (o :: σ) x v (some v :: σ)
  | there {x y : Str} {N : List Str} {v : V} {o : Option V} {σ σ' : L2.St} (h : Put N σ x v σ') : Put (y :: N) (o :: σ) x v (o :: σ')
theorem Slot.ix {N : List Str} {σ : L2.St} {x : Str} {v : V} (h : Slot N σ x v) : ∃ i : Nat, N[i]? = some x ∧ σ[i]? = some (some v) := by
  induction h with
  | here => exact ⟨0, rfl, rfl⟩
  | there _ ih => obtain ⟨i, h1, h2⟩ := ih; exact ⟨i + 1, h1, h2⟩
theorem Put.ix {N : List Str} {σ σ' : L2.St} {x : Str} {v : V} (h : Put N σ x v σ') : ∃ i : Nat, N[i]? = some x ∧ σ' = σ.set i (some v) := by
  induction h with
  | here => exact ⟨0, rfl, rfl⟩
  | there _ ih => obtain ⟨i, h1, h2⟩ := ih; exact ⟨i + 1, h1, by rw [h2]; rfl⟩
/-- a name: the def's own local, the def's own captured by an inner one, one from around, a global -/
inductive KN where
  | loc | cell | cap | glob
  deriving DecidableEq
def knOf : NameKind → Option KN
  | .local => some .loc
  | .cell => some .cell
  | .free => some .cap
  | .globalImplicit => some .glob
  | _ => none
def knAll : List (Str × NameKind) → List (Str × KN)
  | [] => []
  | (x, j) :: r => match knOf j with
    | some m => (x, m) :: knAll r
    | none => knAll r
inductive Mine : KN → Prop
  | loc : Mine .loc
  | cell : Mine .cell
  | cap : Mine .cap
inductive Own : KN → Prop
  | loc : Own .loc
  | cell : Own .cell
def KnIs (X : Cx) (x : Str) : KN → Prop
  | .loc => X.env.scope.names.lookup x = some .local
  | .cell => X.env.scope.names.lookup x = some .cell ∧ X.fn x = true
  | .cap => X.env.scope.names.lookup x = some .cell ∨ X.env.scope.names.lookup x = some .free
  | .glob => X.env.scope.names.lookup x = some .globalImplicit
def okName (x : Str) : Bool := !(x == ("__debug__" : Str)) && !(x == ("__classdict__" : Str)) && !decide (x = "__name__")
/-- where one stands: the def's names by slot, the scope's names, the room -/
structure Ctx (X : Cx) (N : List Str) (L : List (Str × KN)) (k : Nat) : Prop where
  n : X.N = N
  nd : N.Nodup
  look : ∀ p ∈ L, KnIs X p.1 p.2
  dbg : ∀ p ∈ L, okName p.1 = true
  calm : X.calm = true
  room : Room k X.A
  po : PassesOwn (model X.prog X.w) X.A X.env X.xe
  kind : X.env.scope.kind = .function
theorem lookup_mem {L : List (Str × NameKind)} {x : Str} {k : NameKind} (nd : (L.map (·.1)).Nodup) (h : (x, k) ∈ L) : L.lookup x = some k := by
  induction L with
  | nil => cases h
  | cons p r ih =>
    obtain ⟨y, j⟩ := p
    rw [List.map_cons, List.nodup_cons] at nd
    rcases List.mem_cons.mp h with e | e
    · cases e
      simp [List.lookup]
    · have hne : (x == y) = false := by
        rw [beq_eq_false_iff_ne]
        intro q
        subst q
        exact nd.1 (List.mem_map.mpr ⟨_, e, rfl⟩)
      simp only [List.lookup, hne]
      exact ih nd.2 e
theorem knAll_mem {x : Str} {m : KN} : ∀ {L : List (Str × NameKind)}, (x, m) ∈ knAll L → ∃ j, (x, j) ∈ L ∧ knOf j = some m
  | [], h => by cases h
  | (y, j) :: r, h => by
    unfold knAll at h
    cases e : knOf j with
    | none =>
      rw [e] at h
      obtain ⟨j', h1, h2⟩ := knAll_mem h
      exact ⟨j', List.mem_cons_of_mem _ h1, h2⟩
    | some m' =>
      rw [e] at h
      rcases List.mem_cons.mp h with q | q
      · cases q
        exact ⟨j, List.mem_cons_self, e⟩
      · obtain ⟨j', h1, h2⟩ := knAll_mem q
        exact ⟨j', List.mem_cons_of_mem _ h1, h2⟩
variable {N : List Str} {L : List (Str × KN)} {k : Nat}
theorem okName_of {x : Str} (h : okName x = true) : (x == ("__debug__" : Str)) = false ∧ (x == ("__classdict__" : Str)) = false ∧ x ≠ "__name__" := by
  unfold okName at h
  rw [Bool.and_eq_true, Bool.and_eq_true] at h
  obtain ⟨⟨h1, h2⟩, h3⟩ := h
  exact ⟨by simpa using h1, by simpa using h2, by simpa using h3⟩
theorem Ctx.gl (c : Ctx X N L k) {x : Str} (h : (x, KN.glob) ∈ L) : Gl X x := c.look _ h
theorem Ctx.d1 (c : Ctx X N L k) {x : Str} {j : KN} (h : (x, j) ∈ L) : (x == ("__debug__" : Str)) = false := (okName_of (c.dbg _ h)).1
theorem Ctx.d2 (c : Ctx X N L k) {x : Str} {j : KN} (h : (x, j) ∈ L) : (x == ("__classdict__" : Str)) = false := (okName_of (c.dbg _ h)).2.1
theorem Ctx.d3 (c : Ctx X N L k) {x : Str} {j : KN} (h : (x, j) ∈ L) : x ≠ "__name__" := (okName_of (c.dbg _ h)).2.2
theorem Ctx.vis (c : Ctx X N L k) {x : Str} {j : KN} (h : (x, j) ∈ L) (m : Mine j) : Vis X.env.scope x := by
  have e := c.look _ h
  cases m with
  | loc => exact Or.inl e
  | cell => exact Or.inr (Or.inl e.1)
  | cap => exact Or.inr e
theorem Ctx.loc (c : Ctx X N L k) {x : Str} {j : KN} (h : (x, j) ∈ L) (m : Own j) : Loc X.env.scope x := by
  have e := c.look _ h
  cases m with
  | loc => exact Or.inl e
  | cell => exact Or.inr e.1
theorem Ctx.fn (c : Ctx X N L k) {x : Str} {j : KN} (h : (x, j) ∈ L) (m : Own j) : X.fn x = true ∨ X.env.scope.names.lookup x = some .local := by
  have e := c.look _ h
  cases m with
  | loc => exact Or.inr e
  | cell => exact Or.inl e.2
theorem Ctx.lcl (c : Ctx X N L k) {x : Str} (h : (x, KN.loc) ∈ L) : X.env.scope.names.lookup x = some .local := c.look _ h
/-! ### expressions -/
variable {pos p0 p1 p2 : Pos} {Q : VK} {D : Ends}
theorem re_name (c : Ctx X N L k) {x : Str} {v : V} {j : KN} (s : Slot N σ x v) (h : (x, j) ∈ L) (m : Mine j) (q : Q v H) : RE X (.Name x pos) σ H Q := by
  obtain ⟨i, h1, h2⟩ := s.ix
  rw [← c.n] at h1
  exact re_of (pe_var h1 (c.vis h m) (c.d1 h) (c.d2 h)) ⟨v, h2, q⟩
theorem re_int {i : Int} {j : Nat} (q : Q (.int i) H) : RE X (.Constant (.int i) j pos) σ H Q := re_of pe_int q
theorem re_bl {b : Bool} {j : Nat} (q : Q (.bl b) H) : RE X (.Constant (.bool b) j pos) σ H Q := re_of pe_bl q
theorem re_non {j : Nat} (q : Q .non H) : RE X (.Constant .none j pos) σ H Q := re_of pe_non q
theorem re_str {x : Str} {j : Nat} (q : Q (.str x) H) : RE X (.Constant (.str x) j pos) σ H Q := re_of pe_str q
/-- a class or type of the module, a builtin's name, as a value -/
theorem re_glob (c : Ctx X N L k) {x : Str} {v : V} {u : Value} (h : (x, KN.glob) ∈ L) (hm : X.mg x = some u) (r : RelV v u) (q : Q v H) : RE X (.Name x pos) σ H Q := re_of (pe_glob (c.gl h) hm r (c.d1 h)) q
theorem re_bltn (c : Ctx X N L k) {x : Str} {v : V} {u : Value} (h : (x, KN.glob) ∈ L) (hm : X.mg x = none) (hv : bootBuiltins x = some u) (r : RelV v u) (q : Q v H) : RE X (.Name x pos) σ H Q := re_of (pe_bltn (c.gl h) hm hv r (c.d3 h) (c.d1 h)) q
/-! ### operators by values -/
structure OpV (X : Cx) (op : Operator) (x y : V) (H : Hp) (Q : VK) : Prop where
  ex : ∃ r, OpR X (binaryOp op) r ∧ r x y H Q
structure CpV (X : Cx) (op : CmpOp) (x y : V) (H : Hp) (Q : VK) : Prop where
  ex : ∃ r, OpR X (compareOp op) r ∧ r x y H Q
structure IxV (X : Cx) (x y : V) (H : Hp) (Q : VK) : Prop where
  ex : ∃ r, IxR X r ∧ r x y H Q
structure SlV (X : Cx) (x : V) (a b : Option Int) (H : Hp) (Q : VK) : Prop where
  ex : ∃ r, SlR X r ∧ r x a b H Q
theorem OpR.self {op : Operator} : OpR X (binaryOp op) (OpV X op) := fun pins s σ H x y v u Q I rx ry h => by
  obtain ⟨r, hr, q⟩ := h.ex
  exact hr pins s σ H x y v u Q I rx ry q
theorem CpR.self {op : CmpOp} : OpR X (compareOp op) (CpV X op) := fun pins s σ H x y v u Q I rx ry h => by
  obtain ⟨r, hr, q⟩ := h.ex
  exact hr pins s σ H x y v u Q I rx ry q
theorem IxR.self : IxR X (IxV X) := fun va sl pins s σ H x y v u Q I rx ry h => by
  obtain ⟨r, hr, q⟩ := h.ex
  exact hr va sl pins s σ H x y v u Q I rx ry q
theorem re_bin {a b : Expr} {op : Operator} (q : RE X a σ H fun x H1 => RE X b σ H1 fun y H2 => OpV X op x y H2 Q) : RE X (.BinOp a op b pos) σ H Q := re_of (pe_op OpR.self PE.self PE.self) q
theorem re_cmp {a b : Expr} {op : CmpOp} (q : RE X a σ H fun x H1 => RE X b σ H1 fun y H2 => CpV X op x y H2 Q) (hm : behindInMarks op b = false := by first | exact nobehind _ (by decide) (by decide) | with_unfolding_all rfl) : RE X (.Compare a [op] [b] pos) σ H Q :=
  re_of (pe_cmpR CpR.self PE.self PE.self hm) q
theorem rt_cmp {a b : Expr} {op : CmpOp} {Q : Bool → Hp → Prop} (q : RE X a σ H fun x H1 => RE X b σ H1 fun y H2 => CpV X op x y H2 fun v H3 => ∃ k, v = .bl k ∧ Q k H3) (hm : behindInMarks op b = false := by first | exact nobehind _ (by decide) (by decide) | with_unfolding_all rfl) :
    RT X (.Compare a [op] [b] pos) σ H Q := rt_of (pt_cmpR CpR.self PE.self PE.self hm) q
theorem re_ix {a b : Expr} (q : RE X a σ H fun x H1 => RE X b σ H1 fun y H2 => IxV X x y H2 Q) (hs : PlainIx b := by with_unfolding_all exact fun _ _ => rfl) : RE X (.Subscript a b pos) σ H Q := re_of (pe_ix IxR.self PE.self PE.self hs) q
theorem re_neg {a : Expr} (q : RE X a σ H fun x H1 => ∃ i, x = .int i ∧ Q (.int (-i)) H1) : RE X (.UnaryOp .USub a pos) σ H Q := re_of (pe_un un_neg PE.self) q
variable {i j : Int} {z w : Str} {x y : V}
theorem ov_add (q : Q (.int (i + j)) H) : OpV X .Add (.int i) (.int j) H Q := ⟨⟨_, op_add, i, j, rfl, rfl, q⟩⟩
theorem ov_sub (q : Q (.int (i - j)) H) : OpV X .Sub (.int i) (.int j) H Q := ⟨⟨_, op_sub, i, j, rfl, rfl, q⟩⟩
theorem ov_mul (h : CMul i j) (q : Q (.int (i * j)) H) : OpV X .Mult (.int i) (.int j) H Q := ⟨⟨_, op_mul, i, j, rfl, rfl, h, q⟩⟩
theorem ov_mulR (h : -(2 ^ 64) < j ∧ j < 2 ^ 64) (q : Q (.int (i * j)) H) : OpV X .Mult (.int i) (.int j) H Q := ov_mul (.inr h) q
theorem ov_mulL (h : -(2 ^ 64) < i ∧ i < 2 ^ 64) (q : Q (.int (i * j)) H) : OpV X .Mult (.int i) (.int j) H Q := ov_mul (.inl h) q
theorem ov_mulW (h : CMulW i j) (q : Q (.int (i * j)) H) : OpV X .Mult (.int i) (.int j) H Q := ⟨⟨_, op_mulW, i, j, rfl, rfl, h, q⟩⟩
theorem ov_mod (h : 0 < j) (q : Q (.int (i % j)) H) : OpV X .Mod (.int i) (.int j) H Q := ⟨⟨_, op_mod, i, j, rfl, rfl, h, q⟩⟩
theorem ov_fdiv (h : CDivW i j) (q : Q (.int (i / j)) H) : OpV X .FloorDiv (.int i) (.int j) H Q := ⟨⟨_, op_fdivW, i, j, rfl, rfl, h, q⟩⟩
theorem ov_pow (h : CPow i j) (q : Q (.int (i ^ j.toNat)) H) : OpV X .Pow (.int i) (.int j) H Q := ⟨⟨_, op_pow, i, j, rfl, rfl, h, q⟩⟩
theorem ov_powL {n m : Nat} (h : n ≤ 1000000 ∧ m < 2 ^ 64) (q : Q (.int ((m : Int) ^ n)) H) : OpV X .Pow (.int (m : Int)) (.int (n : Int)) H Q := ov_pow ⟨Int.natCast_nonneg n, by omega, by simpa using h.2⟩ (by simpa using q)
theorem ov_adds (h : z.length + w.length ≤ sizeLine) (q : Q (.str (z ++ w)) H) : OpV X .Add (.str z) (.str w) H Q := ⟨⟨_, op_add_str, z, w, rfl, rfl, h, q⟩⟩
theorem cv_lt (q : Q (.bl (decide (i < j))) H) : CpV X .Lt (.int i) (.int j) H Q := ⟨⟨_, op_lt, i, j, rfl, rfl, q⟩⟩
theorem cv_le (q : Q (.bl (decide (i ≤ j))) H) : CpV X .LtE (.int i) (.int j) H Q := ⟨⟨_, op_le, i, j, rfl, rfl, q⟩⟩
theorem cv_gt (q : Q (.bl (decide (j < i))) H) : CpV X .Gt (.int i) (.int j) H Q := ⟨⟨_, op_gt, i, j, rfl, rfl, q⟩⟩
theorem cv_ge (q : Q (.bl (decide (j ≤ i))) H) : CpV X .GtE (.int i) (.int j) H Q := ⟨⟨_, op_ge, i, j, rfl, rfl, q⟩⟩
theorem cv_eqI (q : Q (.bl (decide (i = j))) H) : CpV X .Eq (.int i) (.int j) H Q := ⟨⟨_, op_eq, rfl, by
  have e : decide (V.int i = V.int j) = decide (i = j) := by simp
  rw [e]; exact q⟩⟩
theorem cv_neI (q : Q (.bl (!decide (i = j))) H) : CpV X .NotEq (.int i) (.int j) H Q := ⟨⟨_, op_ne, rfl, by
  have e : decide (V.int i = V.int j) = decide (i = j) := by simp
  rw [e]; exact q⟩⟩
theorem cv_eqS (q : Q (.bl (decide (z = w))) H) : CpV X .Eq (.str z) (.str w) H Q := ⟨⟨_, op_eq, rfl, by
  have e : decide (V.str z = V.str w) = decide (z = w) := by simp
  rw [e]; exact q⟩⟩
theorem cv_neS (q : Q (.bl (!decide (z = w))) H) : CpV X .NotEq (.str z) (.str w) H Q := ⟨⟨_, op_ne, rfl, by
  have e : decide (V.str z = V.str w) = decide (z = w) := by simp
  rw [e]; exact q⟩⟩
/-- == of scalars (None, bools, ints, texts) -/
theorem cv_eq (h : scal x y = true) (q : Q (.bl (decide (x = y))) H) : CpV X .Eq x y H Q := ⟨⟨_, op_eq, h, q⟩⟩
theorem cv_ne (h : scal x y = true) (q : Q (.bl (!decide (x = y))) H) : CpV X .NotEq x y H Q := ⟨⟨_, op_ne, h, q⟩⟩
theorem cv_ltS (q : Q (.bl (decide (z.cps.toList < w.cps.toList))) H) : CpV X .Lt (.str z) (.str w) H Q := ⟨⟨_, op_lt_str, z, w, rfl, rfl, q⟩⟩
theorem cv_gtS (q : Q (.bl (decide (w.cps.toList < z.cps.toList))) H) : CpV X .Gt (.str z) (.str w) H Q := ⟨⟨_, op_gt_str, z, w, rfl, rfl, q⟩⟩
theorem cv_isN (q : Q (.bl (decide (x = .non))) H) : CpV X .Is x .non H Q := ⟨⟨_, op_isN, rfl, q⟩⟩
theorem cv_notN (q : Q (.bl (!decide (x = .non))) H) : CpV X .IsNot x .non H Q := ⟨⟨_, op_notN, rfl, q⟩⟩
theorem cv_isN_s (q : Q (.bl false) H) : CpV X .Is (.str z) .non H Q := cv_isN (by rw [decide_eq_false (fun e => nomatch e)]; exact q)
theorem cv_notN_s (q : Q (.bl true) H) : CpV X .IsNot (.str z) .non H Q := cv_notN (by rw [decide_eq_false (fun e => nomatch e)]; exact q)
theorem cv_isN_i (q : Q (.bl false) H) : CpV X .Is (.int i) .non H Q := cv_isN (by rw [decide_eq_false (fun e => nomatch e)]; exact q)
theorem cv_notN_i (q : Q (.bl true) H) : CpV X .IsNot (.int i) .non H Q := cv_notN (by rw [decide_eq_false (fun e => nomatch e)]; exact q)
theorem cv_isN_b {b : Bool} (q : Q (.bl false) H) : CpV X .Is (.bl b) .non H Q := cv_isN (by rw [decide_eq_false (fun e => nomatch e)]; exact q)
theorem cv_notN_b {b : Bool} (q : Q (.bl true) H) : CpV X .IsNot (.bl b) .non H Q := cv_notN (by rw [decide_eq_false (fun e => nomatch e)]; exact q)
theorem cv_isN_r {p : Addr} (q : Q (.bl false) H) : CpV X .Is (.ref p) .non H Q := cv_isN (by rw [decide_eq_false (fun e => nomatch e)]; exact q)
theorem cv_notN_r {p : Addr} (q : Q (.bl true) H) : CpV X .IsNot (.ref p) .non H Q := cv_notN (by rw [decide_eq_false (fun e => nomatch e)]; exact q)
theorem cv_isN_n (q : Q (.bl true) H) : CpV X .Is .non .non H Q := cv_isN (by rw [decide_eq_true rfl]; exact q)
theorem cv_notN_n (q : Q (.bl false) H) : CpV X .IsNot .non .non H Q := cv_notN (by rw [decide_eq_true rfl]; exact q)
theorem iv_list {p : Addr} {xs : List V} {v : V} (h : SqL X.K H p xs) (ha : atI xs i = some v) (q : Q v H) : IxV X (.ref p) (.int i) H Q := ⟨⟨_, ix_list, p, xs, i, v, rfl, rfl, h, ha, q⟩⟩
theorem iv_tup {p : Addr} {xs : List V} {v : V} (h : SqT X.K H p xs) (ha : atI xs i = some v) (q : Q v H) : IxV X (.ref p) (.int i) H Q := ⟨⟨_, ix_tup, p, xs, i, v, rfl, rfl, h, ha, q⟩⟩
theorem iv_str {n : Nat} (hz : z.length ≤ sizeLine) (ha : atI z.cps.toList i = some n) (q : Q (.str ⟨#[n]⟩) H) : IxV X (.str z) (.int i) H Q := ⟨⟨_, ix_str, z, i, n, rfl, rfl, hz, ha, q⟩⟩
/-! ### displays, choices -/
theorem ra_nil {Q : List V → Hp → Prop} (q : Q [] H) : RA X [] σ H Q := ra_of pa_nil q
theorem ra_cons {e : Expr} {es : List Expr} {Q : List V → Hp → Prop} (q : RE X e σ H fun x H1 => RA X es σ H1 fun xs H2 => Q (x :: xs) H2) (hs : starEach (e :: es) X.env = (false, eval e X.env) :: starEach es X.env := by with_unfolding_all rfl) : RA X (e :: es) σ H Q :=
  ra_of (pa_cons PE.self PA.self hs) q
theorem re_tup {es : List Expr} {x1} (q : RA X es σ H fun xs H1 => xs.length ≤ sizeLine ∧ ∀ p, H1 p = none → Q (.ref p) (upd H1 p (.tup xs))) : RE X (.Tuple es x1 pos) σ H Q := re_of (pe_tup PA.self) q
theorem re_lst {es : List Expr} (q : RA X es σ H fun xs H1 => xs.length ≤ sizeLine ∧ ∀ p, H1 p = none → Q (.ref p) (upd H1 p (.lst xs))) : RE X (.List es pos) σ H Q := re_of (pe_lst PA.self) q
theorem re_if {t a b : Expr} (q : RT X t σ H fun c H1 => if c = true then RE X a σ H1 Q else RE X b σ H1 Q) : RE X (.IfExp t a b pos) σ H Q := re_of (pe_ifExp PT.self PE.self PE.self) q
theorem re_and {a b : Expr} {rest : List Expr} (q : RE X a σ H fun x H1 => ∃ c, x = .bl c ∧ if c = true then RE X (.BoolOp .And (b :: rest) pos) σ H1 Q else Q (.bl false) H1) : RE X (.BoolOp .And (a :: b :: rest) pos) σ H Q := re_of (pe_and PE.self PE.self) q
theorem re_or {a b : Expr} {rest : List Expr} (q : RE X a σ H fun x H1 => ∃ c, x = .bl c ∧ if c = true then Q (.bl true) H1 else RE X (.BoolOp .Or (b :: rest) pos) σ H1 Q) : RE X (.BoolOp .Or (a :: b :: rest) pos) σ H Q := re_of (pe_or PE.self PE.self) q
theorem re_one {op : BoolOp} {a : Expr} (q : RE X a σ H Q) : RE X (.BoolOp op [a] pos) σ H Q := re_of (pe_one PE.self) q
theorem re_not {a : Expr} (q : RE X a σ H fun x H1 => ∃ c, x = .bl c ∧ Q (.bl (!c)) H1) : RE X (.UnaryOp .Not a pos) σ H Q := re_of (pe_not PE.self) q
/-! ### tests -/
theorem rt_not {a : Expr} {Q : Bool → Hp → Prop} (q : RT X a σ H fun c H1 => Q (!c) H1) : RT X (.UnaryOp .Not a pos) σ H Q := rt_of (pt_not PT.self) q
theorem rt_bool {op : BoolOp} {es : List Expr} {Q : Bool → Hp → Prop} (q : RW X (.BoolOp op es pos) σ H Q) : RT X (.BoolOp op es pos) σ H Q := rt_of (PW.pt PW.self) q
theorem rw_and {a b : Expr} {rest : List Expr} {Q : Bool → Hp → Prop} (q : RT X a σ H fun c H1 => if c = true then RW X (.BoolOp .And (b :: rest) pos) σ H1 Q else Q false H1) : RW X (.BoolOp .And (a :: b :: rest) pos) σ H Q := rw_of (pw_and PT.self PW.self) q
theorem rw_and1 {a : Expr} {Q : Bool → Hp → Prop} (q : RT X a σ H Q) : RW X (.BoolOp .And [a] pos) σ H Q := rw_of (pw_and1 PT.self) q
theorem rw_or {a b : Expr} {rest : List Expr} {Q : Bool → Hp → Prop} (q : RT X a σ H fun c H1 => if c = true then Q true H1 else RW X (.BoolOp .Or (b :: rest) pos) σ H1 Q) : RW X (.BoolOp .Or (a :: b :: rest) pos) σ H Q := rw_of (pw_or PT.self PW.self) q
theorem rw_or1 {a : Expr} {Q : Bool → Hp → Prop} (q : RT X a σ H Q) : RW X (.BoolOp .Or [a] pos) σ H Q := rw_of (pw_or1 PT.self) q
theorem rt_val {e : Expr} {Q : Bool → Hp → Prop} (q : RE X e σ H fun x H1 => ∃ c, x = .bl c ∧ Q c H1) (he : ∀ whole, isTrue e X.env whole = (do let v ← whole; standAt e.pos; holding [v] (truthy v)) := by intro _; with_unfolding_all rfl) : RT X e σ H Q := rt_of (pt_val PE.self he) q
/-! ### blocks -/
theorem rb_nil (q : D.nx σ H) : RB X [] D σ H := rb_of pss_nil q
theorem rb_cons {st : Stmt} {rest : List Stmt} (q : RS X st { D with nx := fun σ1 H1 => RB X rest D σ1 H1 } σ H) : RB X (st :: rest) D σ H := rb_of (pss_cons PS.self PSs.self) q
theorem Ctx.put (c : Ctx X N L k) {x : Str} (hx : x ∈ N) : ∃ i : Nat, X.N[i]? = some x ∧ ∀ {σ σ' : L2.St} {v : V}, Put N σ x v σ' → σ' = σ.set i (some v) := by
  obtain ⟨i, hi, e⟩ := List.mem_iff_getElem.mp hx
  have h1 : N[i]? = some x := by rw [List.getElem?_eq_getElem hi, e]
  refine ⟨i, by rw [c.n]; exact h1, fun {σ σ' v} p => ?_⟩
  obtain ⟨j, h2, h3⟩ := p.ix
  rw [h3, nodup_ix c.nd h1 h2]
theorem Ctx.nodup (c : Ctx X N L k) : X.N.Nodup := by
  rw [c.n]
  exact c.nd
theorem pe_mono {e : Expr} {Q Q' : VK} (q : RE X e σ H Q) (h : ∀ v H1, Q v H1 → Q' v H1) : RE X e σ H Q' := by
  refine ⟨⟨fun σ1 H1 Q1 => ∃ Q0, RE X e σ1 H1 Q0 ∧ ∀ v H2, Q0 v H2 → Q1 v H2, ⟨fun pins s σ1 H1 Q1 I h1 => ?_⟩, Q, q, h⟩⟩
  obtain ⟨Q0, h2, h3⟩ := h1
  exact thn (PE.self.run pins s σ1 H1 Q0 I h2) fun u s' ⟨v, H', I', r, q'⟩ => ⟨v, H', I', r, h3 v H' q'⟩
theorem rt_mono {e : Expr} {Q Q' : Bool → Hp → Prop} (q : RT X e σ H Q) (h : ∀ v H1, Q v H1 → Q' v H1) : RT X e σ H Q' := by
  refine ⟨⟨fun σ1 H1 Q1 => ∃ Q0 : Bool → Hp → Prop, RT X e σ1 H1 Q0 ∧ ∀ v H2, Q0 v H2 → Q1 v H2, ⟨fun pins s σ1 H1 Q1 I h1 => ?_⟩, Q, q, h⟩⟩
  obtain ⟨Q0, h2, h3⟩ := h1
  exact thn (PT.self.run pins s σ1 H1 Q0 I h2) fun u s' ⟨H', I', q'⟩ => ⟨H', I', h3 u H' q'⟩
theorem ra_mono {e : List Expr} {Q Q' : List V → Hp → Prop} (q : RA X e σ H Q) (h : ∀ v H1, Q v H1 → Q' v H1) : RA X e σ H Q' := by
  refine ⟨⟨fun σ1 H1 Q1 => ∃ Q0 : List V → Hp → Prop, RA X e σ1 H1 Q0 ∧ ∀ v H2, Q0 v H2 → Q1 v H2, ⟨fun pos pins s σ1 H1 Q1 I h1 => ?_⟩, Q, q, h⟩⟩
  obtain ⟨Q0, h2, h3⟩ := h1
  exact thn (PA.self.run pos pins s σ1 H1 Q0 I h2) fun u s' ⟨v, H', I', r, q'⟩ => ⟨v, H', I', r, h3 v H' q'⟩
theorem rs_set (c : Ctx X N L k) {x : Str} {e : Expr} {j : KN} {pos' : Pos} (h : (x, j) ∈ L) (m : Own j) (hx : x ∈ N) (q : RE X e σ H fun v H1 => ∃ σ', Put N σ x v σ' ∧ D.nx σ' H1) (hs : swapsWith e (some (.Name x pos')) pos.line X.env = pure false := by with_unfolding_all rfl) :
    RS X (.Assign [.Name x pos'] e pos) D σ H := by
  obtain ⟨i, h1, h2⟩ := c.put hx
  refine rs_of (ps_set (i := i) c.nodup h1 (c.loc h m) PE.self hs (c.fn h m)) (pe_mono q fun v H1 ⟨σ', p, d⟩ => ?_)
  rw [h2 p] at d
  exact d
theorem rs_expr {e : Expr} (q : RE X e σ H fun _ H1 => D.nx σ H1) (hs : swapsWith e none pos.line X.env = pure false := by with_unfolding_all rfl) : RS X (.Expr e pos) D σ H := rs_of (ps_expr PE.self hs) q
theorem rs_ret {e : Expr} (q : RE X e σ H D.rt) : RS X (.Return (some e) pos) D σ H := rs_of (ps_ret PE.self) q
theorem rs_retN (q : D.rt .non H) : RS X (.Return none pos) D σ H := rs_of ps_retN q
theorem rs_pass (q : D.nx σ H) : RS X (.Pass pos) D σ H := rs_of ps_pass q
theorem rs_break (q : D.bk σ H) : RS X (.Break pos) D σ H := rs_of ps_break q
theorem rs_continue (q : D.ct σ H) : RS X (.Continue pos) D σ H := rs_of ps_continue q
theorem rs_doc {x j} (q : D.nx σ H) : RS X (.Expr (.Constant (.str x) j p0) pos) D σ H := rs_of ps_doc q
theorem rs_if {t : Expr} {a b : List Stmt} (q : RT X t σ H fun c H1 => if c = true then RB X a D σ H1 else RB X b D σ H1) : RS X (.If t a b pos) D σ H := rs_of (ps_if PT.self PSs.self PSs.self) q
/-- o[i] = e, o a list -/
theorem rs_sub {o i e : Expr} (q : RE X e σ H fun v H1 => RE X o σ H1 fun x H2 => RE X i σ H2 fun y H3 => ∃ p xs k j, x = .ref p ∧ y = .int k ∧ H3 p = some (.lst xs) ∧ ixN xs.length k = some j ∧ D.nx σ (upd H3 p (.lst (xs.set j v))))
    (ha : ∀ v, assign (.Subscript o i p0) X.env v = (do
      let ov ← holding [v] (eval o X.env)
      let iv ← holding [v, ov] (eval i X.env)
      standAt p0
      holding [v, ov, iv] (setItem ov iv v)
      release [v, ov, iv] []) := by intro _; with_unfolding_all rfl)
    (hs : swapsWithSole [.Subscript o i p0] e pos.line X.env = pure false := by with_unfolding_all rfl) (hw : swappedStores [.Subscript o i p0] e X.env = pure none := by with_unfolding_all rfl)
    (h1 : (assignEach [.Subscript o i p0] X.env).map (·.2) = [assign (.Subscript o i p0) X.env] := by with_unfolding_all rfl) : RS X (.Assign [.Subscript o i p0] e pos) D σ H :=
  rs_of (ps_asg PE.self (pg_sub PE.self PE.self set_list ha) hs hw h1) q
/-- a, b = e1, e2 (two local names) -/
theorem rs_par (c : Ctx X N L k) {x y : Str} {a b : Expr} {px py pt : Pos} {kt k2 pt2} (hx : (x, KN.loc) ∈ L) (hy : (y, KN.loc) ∈ L) (mx : x ∈ N) (my : y ∈ N) (hxy : x ≠ y)
    (q : RA X [a, b] σ H fun vs H1 => ∃ v w σ' σ'', vs = [v, w] ∧ Put N σ x v σ' ∧ Put N σ' y w σ'' ∧ D.nx σ'' H1)
    (hw : swappedStores [.Tuple [.Name x px, .Name y py] kt pt] (.Tuple [a, b] k2 pt2) X.env = pure (some [x, y]) := by with_unfolding_all rfl)
    (hs : swapsWithSole [.Tuple [.Name x px, .Name y py] kt pt] (.Tuple [a, b] k2 pt2) pos.line X.env = pure false := by with_unfolding_all rfl) :
    RS X (.Assign [.Tuple [.Name x px, .Name y py] kt pt] (.Tuple [a, b] k2 pt2) pos) D σ H := by
  obtain ⟨i, h1, h2⟩ := c.put mx
  obtain ⟨j, h3, h4⟩ := c.put my
  have hij : i ≠ j := fun e => hxy (by rw [e, h3] at h1; exact (Option.some.inj h1).symm)
  refine rs_of (ps_par (i := i) (j := j) c.calm c.nodup h1 h3 hij (c.lcl hx) (c.lcl hy) PA.self hw hs) ?_
  refine (ra_mono q fun vs H1 ⟨v, w, σ', σ'', e, p1, p2, d⟩ => ?_)
  rw [h4 p2, h2 p1] at d
  exact ⟨v, w, e, d⟩
end
end GT
namespace GT
open PySem PySem.Spec PyProof.Rows L2
section
variable {X : Cx} {σ : L2.St} {H : Hp} {N : List Str} {L : List (Str × KN)} {k : Nat} {pos p0 p1 p2 : Pos} {Q : VK} {D : Ends}
/-! ### calls of builtins -/
structure ClV (X : Cx) (f : Value) (vs : List V) (H : Hp) (Q : VK) : Prop where
  ex : ∃ r, CallR X f r ∧ r vs H Q
theorem ClR.self {f : Value} : CallR X f (ClV X f) := fun pins s σ H xs us Q I r h => by
  obtain ⟨r', hr, q⟩ := h.ex
  exact hr pins s σ H xs us Q I r q
theorem re_callB (c : Ctx X N L k) {x : Str} {id : String} {e : Expr} {es : List Expr} (h : (x, KN.glob) ∈ L) (hm : X.mg x = none) (hv : bootBuiltins x = some (.builtin id)) (q : RA X (e :: es) σ H fun vs H1 => ClV X (.builtin id) vs H1 Q)
    (he : starEach (e :: es) X.env = (false, eval e X.env) :: starEach es X.env := by with_unfolding_all rfl) (hpl : (backTo pos (starEach es X.env)).any (·.1) = false := by with_unfolding_all rfl) : RE X (.Call (.Name x p0) (e :: es) [] pos) σ H Q :=
  re_of (pe_callB ClR.self (c.gl h) hm hv PA.self (c.d3 h) (c.d1 h) he hpl) q
theorem re_callT (c : Ctx X N L k) {x : Str} {T : String} {e : Expr} {es : List Expr} (h : (x, KN.glob) ∈ L) (hm : X.mg x = none) (hv : bootBuiltins x = some (.type T)) (q : RA X (e :: es) σ H fun vs H1 => ClV X (.type T) vs H1 Q)
    (he : starEach (e :: es) X.env = (false, eval e X.env) :: starEach es X.env := by with_unfolding_all rfl) (hpl : (backTo pos (starEach es X.env)).any (·.1) = false := by with_unfolding_all rfl) : RE X (.Call (.Name x p0) (e :: es) [] pos) σ H Q :=
  re_of (pe_callTy ClR.self (c.gl h) hm hv PA.self (c.d3 h) (c.d1 h) he hpl) q
variable {i j : Int} {z w : Str} {x y : V} {p : Addr} {xs ys : List V}
theorem lv_abs (q : Q (.int (if i < 0 then -i else i)) H) : ClV X (.builtin "abs") [.int i] H Q := ⟨⟨_, call_abs, i, rfl, q⟩⟩
theorem lv_max (hc : X.calm = true) (q : Q (.int (if j > i then j else i)) H) : ClV X (.builtin "max") [.int i, .int j] H Q := ⟨⟨_, call_max2 hc, i, j, rfl, q⟩⟩
theorem lv_min (hc : X.calm = true) (q : Q (.int (if j < i then j else i)) H) : ClV X (.builtin "min") [.int i, .int j] H Q := ⟨⟨_, call_min2 hc, i, j, rfl, q⟩⟩
theorem lv_int (q : Q (.int i) H) : ClV X (.type "int") [.int i] H Q := ⟨⟨_, call_int1, .inl ⟨i, rfl, q⟩⟩⟩
theorem lv_lenL (h : SqL X.K H p xs) (q : Q (.int xs.length) H) : ClV X (.builtin "len") [.ref p] H Q := ⟨⟨_, call_len_seq, p, xs, rfl, .inl h, q⟩⟩
theorem lv_lenT (h : SqT X.K H p xs) (q : Q (.int xs.length) H) : ClV X (.builtin "len") [.ref p] H Q := ⟨⟨_, call_len_seq, p, xs, rfl, .inr h, q⟩⟩
theorem lv_lenS (h : z.length ≤ sizeLine) (q : Q (.int z.length) H) : ClV X (.builtin "len") [.str z] H Q := ⟨⟨_, call_len_str, z, rfl, h, q⟩⟩
theorem lv_isi {t u : Value} {b : Bool} (k : ClsV y u) (ty : TyX X.K H x t) (e : PySem.W.kitOne X.K t u = some b) (q : Q (.bl b) H) : ClV X (.builtin "isinstance") [x, y] H Q := ⟨⟨_, call_isi, x, y, t, u, b, rfl, k, ty, e, q⟩⟩
theorem lv_isiT {t : Value} {us : List Value} {b : Bool} {tp : Addr} {cs : List V} (h : H tp = some (.tup cs)) (k : Paired ClsV cs us) (ty : TyX X.K H x t) (e : PySem.W.kitAny X.K t us = some b) (q : Q (.bl b) H) : ClV X (.builtin "isinstance") [x, .ref tp] H Q :=
  ⟨⟨_, call_isiT, x, tp, cs, t, us, b, rfl, h, k, ty, e, q⟩⟩
theorem lv_tupL (h : SqL X.K H p xs) (q : ∀ l, H l = none → Q (.ref l) (upd H l (.tup xs))) : ClV X (.type "tuple") [.ref p] H Q := ⟨⟨_, call_tuple_of, p, xs, rfl, .inl ⟨h, q⟩⟩⟩
theorem lv_listL (h : SqL X.K H p xs ∨ SqT X.K H p xs) (q : ∀ l, H l = none → Q (.ref l) (upd H l (.lst xs))) : ClV X (.type "list") [.ref p] H Q := ⟨⟨_, call_list_of, p, xs, rfl, h, q⟩⟩
theorem re_c_len (c : Ctx X N L k) {e : Expr} {es : List Expr} (h : (("len" : Str), KN.glob) ∈ L) (hm : X.mg "len" = none) (q : RA X (e :: es) σ H fun vs H1 => ClV X (.builtin "len") vs H1 Q)
    (he : starEach (e :: es) X.env = (false, eval e X.env) :: starEach es X.env := by with_unfolding_all rfl) (hpl : (backTo pos (starEach es X.env)).any (·.1) = false := by with_unfolding_all rfl) : RE X (.Call (.Name "len" p0) (e :: es) [] pos) σ H Q := re_callB c h hm (by decide +kernel) q he hpl
theorem re_c_abs (c : Ctx X N L k) {e : Expr} {es : List Expr} (h : (("abs" : Str), KN.glob) ∈ L) (hm : X.mg "abs" = none) (q : RA X (e :: es) σ H fun vs H1 => ClV X (.builtin "abs") vs H1 Q)
    (he : starEach (e :: es) X.env = (false, eval e X.env) :: starEach es X.env := by with_unfolding_all rfl) (hpl : (backTo pos (starEach es X.env)).any (·.1) = false := by with_unfolding_all rfl) : RE X (.Call (.Name "abs" p0) (e :: es) [] pos) σ H Q := re_callB c h hm (by decide +kernel) q he hpl
theorem re_c_min (c : Ctx X N L k) {e : Expr} {es : List Expr} (h : (("min" : Str), KN.glob) ∈ L) (hm : X.mg "min" = none) (q : RA X (e :: es) σ H fun vs H1 => ClV X (.builtin "min") vs H1 Q)
    (he : starEach (e :: es) X.env = (false, eval e X.env) :: starEach es X.env := by with_unfolding_all rfl) (hpl : (backTo pos (starEach es X.env)).any (·.1) = false := by with_unfolding_all rfl) : RE X (.Call (.Name "min" p0) (e :: es) [] pos) σ H Q := re_callB c h hm (by decide +kernel) q he hpl
theorem re_c_max (c : Ctx X N L k) {e : Expr} {es : List Expr} (h : (("max" : Str), KN.glob) ∈ L) (hm : X.mg "max" = none) (q : RA X (e :: es) σ H fun vs H1 => ClV X (.builtin "max") vs H1 Q)
    (he : starEach (e :: es) X.env = (false, eval e X.env) :: starEach es X.env := by with_unfolding_all rfl) (hpl : (backTo pos (starEach es X.env)).any (·.1) = false := by with_unfolding_all rfl) : RE X (.Call (.Name "max" p0) (e :: es) [] pos) σ H Q := re_callB c h hm (by decide +kernel) q he hpl
theorem re_c_isinstance (c : Ctx X N L k) {e : Expr} {es : List Expr} (h : (("isinstance" : Str), KN.glob) ∈ L) (hm : X.mg "isinstance" = none) (q : RA X (e :: es) σ H fun vs H1 => ClV X (.builtin "isinstance") vs H1 Q)
    (he : starEach (e :: es) X.env = (false, eval e X.env) :: starEach es X.env := by with_unfolding_all rfl) (hpl : (backTo pos (starEach es X.env)).any (·.1) = false := by with_unfolding_all rfl) : RE X (.Call (.Name "isinstance" p0) (e :: es) [] pos) σ H Q := re_callB c h hm (by decide +kernel) q he hpl
theorem re_c_sorted (c : Ctx X N L k) {e : Expr} {es : List Expr} (h : (("sorted" : Str), KN.glob) ∈ L) (hm : X.mg "sorted" = none) (q : RA X (e :: es) σ H fun vs H1 => ClV X (.builtin "sorted") vs H1 Q)
    (he : starEach (e :: es) X.env = (false, eval e X.env) :: starEach es X.env := by with_unfolding_all rfl) (hpl : (backTo pos (starEach es X.env)).any (·.1) = false := by with_unfolding_all rfl) : RE X (.Call (.Name "sorted" p0) (e :: es) [] pos) σ H Q := re_callB c h hm (by decide +kernel) q he hpl
theorem re_c_int (c : Ctx X N L k) {e : Expr} {es : List Expr} (h : (("int" : Str), KN.glob) ∈ L) (hm : X.mg "int" = none) (q : RA X (e :: es) σ H fun vs H1 => ClV X (.type "int") vs H1 Q)
    (he : starEach (e :: es) X.env = (false, eval e X.env) :: starEach es X.env := by with_unfolding_all rfl) (hpl : (backTo pos (starEach es X.env)).any (·.1) = false := by with_unfolding_all rfl) : RE X (.Call (.Name "int" p0) (e :: es) [] pos) σ H Q := re_callT c h hm (by decide +kernel) q he hpl
theorem re_c_tuple (c : Ctx X N L k) {e : Expr} {es : List Expr} (h : (("tuple" : Str), KN.glob) ∈ L) (hm : X.mg "tuple" = none) (q : RA X (e :: es) σ H fun vs H1 => ClV X (.type "tuple") vs H1 Q)
    (he : starEach (e :: es) X.env = (false, eval e X.env) :: starEach es X.env := by with_unfolding_all rfl) (hpl : (backTo pos (starEach es X.env)).any (·.1) = false := by with_unfolding_all rfl) : RE X (.Call (.Name "tuple" p0) (e :: es) [] pos) σ H Q := re_callT c h hm (by decide +kernel) q he hpl
theorem re_c_list (c : Ctx X N L k) {e : Expr} {es : List Expr} (h : (("list" : Str), KN.glob) ∈ L) (hm : X.mg "list" = none) (q : RA X (e :: es) σ H fun vs H1 => ClV X (.type "list") vs H1 Q)
    (he : starEach (e :: es) X.env = (false, eval e X.env) :: starEach es X.env := by with_unfolding_all rfl) (hpl : (backTo pos (starEach es X.env)).any (·.1) = false := by with_unfolding_all rfl) : RE X (.Call (.Name "list" p0) (e :: es) [] pos) σ H Q := re_callT c h hm (by decide +kernel) q he hpl
theorem re_c_str (c : Ctx X N L k) {e : Expr} {es : List Expr} (h : (("str" : Str), KN.glob) ∈ L) (hm : X.mg "str" = none) (q : RA X (e :: es) σ H fun vs H1 => ClV X (.type "str") vs H1 Q)
    (he : starEach (e :: es) X.env = (false, eval e X.env) :: starEach es X.env := by with_unfolding_all rfl) (hpl : (backTo pos (starEach es X.env)).any (·.1) = false := by with_unfolding_all rfl) : RE X (.Call (.Name "str" p0) (e :: es) [] pos) σ H Q := re_callT c h hm (by decide +kernel) q he hpl
theorem re_ty_int (c : Ctx X N L k) (h : (("int" : Str), KN.glob) ∈ L) (hm : X.mg "int" = none) (q : Q (.ty "int") H) : RE X (.Name "int" pos) σ H Q := re_bltn (v := .ty "int") (u := .type "int") c h hm (by decide +kernel) rfl q
theorem re_ty_bool (c : Ctx X N L k) (h : (("bool" : Str), KN.glob) ∈ L) (hm : X.mg "bool" = none) (q : Q (.ty "bool") H) : RE X (.Name "bool" pos) σ H Q := re_bltn (v := .ty "bool") (u := .type "bool") c h hm (by decide +kernel) rfl q
theorem re_ty_str (c : Ctx X N L k) (h : (("str" : Str), KN.glob) ∈ L) (hm : X.mg "str" = none) (q : Q (.ty "str") H) : RE X (.Name "str" pos) σ H Q := re_bltn (v := .ty "str") (u := .type "str") c h hm (by decide +kernel) rfl q
theorem re_ty_tuple (c : Ctx X N L k) (h : (("tuple" : Str), KN.glob) ∈ L) (hm : X.mg "tuple" = none) (q : Q (.ty "tuple") H) : RE X (.Name "tuple" pos) σ H Q := re_bltn (v := .ty "tuple") (u := .type "tuple") c h hm (by decide +kernel) rfl q
theorem re_ty_list (c : Ctx X N L k) (h : (("list" : Str), KN.glob) ∈ L) (hm : X.mg "list" = none) (q : Q (.ty "list") H) : RE X (.Name "list" pos) σ H Q := re_bltn (v := .ty "list") (u := .type "list") c h hm (by decide +kernel) rfl q
theorem re_ty_ValueError (c : Ctx X N L k) (h : (("ValueError" : Str), KN.glob) ∈ L) (hm : X.mg "ValueError" = none) (q : Q (.ty "ValueError") H) : RE X (.Name "ValueError" pos) σ H Q := re_bltn (v := .ty "ValueError") (u := .type "ValueError") c h hm (by decide +kernel) rfl q
/-! ### slices -/
theorem SlR.self : SlR X (SlV X) := by
  intro pins s σ H x v vl vu lo hi sl Q I rx hs h1 h2 h
  obtain ⟨r, hr, q⟩ := h.ex
  exact hr pins s σ H x v vl vu lo hi sl Q I rx hs h1 h2 q
theorem PO.self {e : Option Expr} : PO X e (RO X e) := ⟨fun pins s σ H Q I h => by obtain ⟨t, ht, q⟩ := h.ex; exact ht.run pins s σ H Q I q⟩
theorem ro_none {Q : Option Int → Hp → Prop} (q : Q none H) : RO X none σ H Q := ⟨⟨_, po_none, q⟩⟩
theorem ro_some {e : Expr} {Q : Option Int → Hp → Prop} (q : RE X e σ H fun x H1 => ∃ i, x = .int i ∧ Q (some i) H1) : RO X (some e) σ H Q := ⟨⟨_, po_some PE.self, q⟩⟩
theorem re_slice {e : Expr} {lo hi : Option Expr} (q : RE X e σ H fun x H1 => RO X lo σ H1 fun a H2 => RO X hi σ H2 fun b H3 => SlV X x a b H3 Q) : RE X (.Subscript e (.Slice lo hi none p2) pos) σ H Q := re_of (pe_slice SlR.self PE.self PO.self PO.self) q
theorem sv_str {a b : Option Int} (h : z.length ≤ sizeLine) (q : Q (.str (cutS z a b)) H) : SlV X (.str z) a b H Q := ⟨⟨_, sl_str, z, rfl, h, q⟩⟩
theorem sv_list {a b : Option Int} (h : SqL X.K H p xs) (q : ∀ l, H l = none → Q (.ref l) (upd H l (.lst (cutV xs a b)))) : SlV X (.ref p) a b H Q := ⟨⟨_, sl_list, p, xs, rfl, h, q⟩⟩
/-! ### lists -/
theorem ov_cat {b : Addr} (h1 : H p = some (.lst xs)) (h2 : H b = some (.lst ys)) (hl : xs.length + ys.length ≤ sizeLine) (q : ∀ l, H l = none → Q (.ref l) (upd H l (.lst (xs ++ ys)))) : OpV X .Add (.ref p) (.ref b) H Q := ⟨⟨_, op_cat, p, b, xs, ys, rfl, rfl, h1, h2, hl, q⟩⟩
theorem ov_rep {n : Int} (h1 : H p = some (.lst xs)) (h2 : -(2 ^ 63) ≤ n) (h3 : n < 2 ^ 63) (hl : xs.length * n.toNat ≤ sizeLine) (q : ∀ l, H l = none → Q (.ref l) (upd H l (.lst (List.replicate n.toNat xs).flatten))) : OpV X .Mult (.ref p) (.int n) H Q :=
  ⟨⟨_, op_rep, p, n, xs, rfl, rfl, h1, h2, h3, hl, q⟩⟩
theorem ov_catT {b : Addr} (h1 : SqT X.K H p xs) (h2 : SqT X.K H b ys) (hl : xs.length + ys.length ≤ sizeLine) (qa : xs = [] → Q (.ref b) H) (qb : xs ≠ [] → ys = [] → Q (.ref p) H) (q : xs ≠ [] → ys ≠ [] → ∀ l, H l = none → Q (.ref l) (upd H l (.tup (xs ++ ys)))) :
    OpV X .Add (.ref p) (.ref b) H Q := ⟨⟨_, op_catA, p, b, xs, ys, rfl, rfl, h1, h2, hl, qa, qb, q⟩⟩
/-- xs.append(e) -/
theorem re_append {o e : Expr} {apos : Pos} (q : RE X o σ H fun x H1 => ∃ l xs, x = .ref l ∧ H1 l = some (.lst xs) ∧ RE X e σ H1 fun y H2 => ∃ xs', H2 l = some (.lst xs') ∧ xs'.length < sizeLine ∧ Q .non (upd H2 l (.lst (xs' ++ [y]))))
    (hbase : attributeBase o "append" X.env (eval o X.env) = eval o X.env := by with_unfolding_all rfl)
    (hfew : ((backTo pos (starEach [e] X.env)).all (fun x => !x.1) && (backToKw pos (keywordEach [] X.env)).all (fun x => x.1.isSome) && decide (([e] : List Expr).length + ([] : List Keyword).length + (if ([] : List Keyword).isEmpty then 0 else 1) < 30)) = true := by with_unfolding_all rfl)
    (hline : (apos.endLine == pos.line) = true := by with_unfolding_all rfl) (hs : starEach [e] X.env = (false, eval e X.env) :: starEach [] X.env := by with_unfolding_all rfl) (hplain : (backTo pos (starEach [] X.env)).any (·.1) = false := by with_unfolding_all rfl) :
    RE X (.Call (.Attribute o "append" apos) [e] [] pos) σ H Q := by
  refine re_of (pe_bm PySem.F.plainAttrs_list PySem.F.slot_list_append PySem.F.type_list_append mt_append PE.self PA.self hbase hfew hline hs hplain) ?_
  refine pe_mono q fun x H1 ⟨l, xs, e1, h1, q1⟩ => ?_
  subst e1
  refine ⟨.inl ⟨rfl, _, SqL.of h1⟩, ra_cons (pe_mono q1 fun y H2 ⟨xs', h2, h3, q2⟩ => ra_nil ⟨l, xs', y, rfl, rfl, h2, h3, q2⟩) hs⟩
/-- ''.join(e) -/
theorem re_join {o e : Expr} {apos : Pos} (q : RE X o σ H fun x H1 => ∃ a, x = .str a ∧ RE X e σ H1 fun y H2 => ∃ p, ∃ ys : List Str, y = .ref p ∧ (SqL X.K H2 p (ys.map V.str) ∨ SqT X.K H2 p (ys.map V.str)) ∧ (ys.map (·.length)).sum + ys.length * a.length ≤ 16777216 ∧ Q (.str (Txt.join a ys)) H2)
    (hs : starEach [e] X.env = [(false, eval e X.env)] := by with_unfolding_all rfl) (hbase : attributeBase o "join" X.env (eval o X.env) = eval o X.env := by with_unfolding_all rfl) (hline : (apos.endLine == pos.line) = true := by with_unfolding_all rfl) :
    RE X (.Call (.Attribute o "join" apos) [e] [] pos) σ H Q := by
  refine re_of (pe_join PE.self PE.self hs hbase hline) ?_
  refine pe_mono q fun x H1 ⟨a, e1, q1⟩ => ⟨⟨a, e1⟩, pe_mono q1 fun y H2 ⟨p, ys, e2, h2, h3, q2⟩ => ?_⟩
  exact ⟨a, p, ys, e1, by rw [e2], h2, h3, q2⟩
/-! ### calls of the program's own defs -/
/-- a def that stands in the module: its promise, at most so many calls deep -/
structure DefP (P : Program) (wd : World) (K : PySem.W.Frag) (mg : Str → Option Value) (base : Heap) (CXs : CXT) (x : Str) (ps : List Str) (k : Nat) (sp : Sp) : Prop where
  ex : ∃ f fd, FnOk P wd K mg base CXs k f fd ps sp ∧ mg x = some (.ref f) ∧ PySem.W.keepIn K (.ref f) = true ∧ Binds K fd ps []
theorem re_call (c : Ctx X N L k) {x : Str} {ps : List Str} {n : Nat} {sp : Sp} {e : Expr} {es : List Expr} (F : DefP X.prog X.w X.K X.mg X.base CX0 x ps n sp) (hn : n ≤ k) (h : (x, KN.glob) ∈ L) (q : RA X (e :: es) σ H fun vs H1 => sp vs H1 Q E0)
    (he : starEach (e :: es) X.env = (false, eval e X.env) :: starEach es X.env := by with_unfolding_all rfl) (hpl : (backTo pos (starEach es X.env)).any (·.1) = false := by with_unfolding_all rfl) : RE X (.Call (.Name x p0) (e :: es) [] pos) σ H Q := by
  obtain ⟨f, fd, F1, m, kp, b⟩ := F.ex
  refine re_of (pe_call F1 (c.room.mono hn) (c.gl h) m kp b .nil pass0 PA.self (c.d1 h) he hpl) ?_
  exact ra_mono q fun vs H1 d => by rw [List.append_nil]; exact d
/-! ### for -/
theorem Ctx.pg (c : Ctx X N L k) {x : Str} {j : KN} (h : (x, j) ∈ L) (m : Own j) (hx : x ∈ N) : ∃ i : Nat, PG X (.Name x p0) (gName i) ∧ ∀ {σ σ' : L2.St} {v : V}, Put N σ x v σ' → σ' = σ.set i (some v) := by
  obtain ⟨i, h1, h2⟩ := c.put hx
  exact ⟨i, pg_name c.nodup h1 (c.loc h m) (c.fn h m), h2⟩
/-- what a loop over xs asks: the invariant Pv by the turn -/
def Turns (X : Cx) (N : List Str) (x : Str) (body : List Stmt) (D : Ends) (stand : Hp → Prop) (n : Nat) (it : Nat → V → Prop) (σ : L2.St) (H : Hp) : Prop :=
  ∃ Pv : Nat → L2.St → Hp → Prop, Pv 0 σ H ∧ (∀ i σ H, i ≤ n → Pv i σ H → stand H) ∧
    (∀ i y σ H, i < n → it i y → Pv i σ H → ∃ σ', Put N σ x y σ' ∧ RB X body { D with nx := Pv (i + 1), ct := Pv (i + 1), bk := D.nx } σ' H) ∧ (∀ σ H, Pv n σ H → D.nx σ H)
theorem rs_for_list (c : Ctx X N L k) {x : Str} {l : Expr} {body : List Stmt} {j : KN} (h : (x, j) ∈ L) (m : Own j) (hx : x ∈ N)
    (q : RE X l σ H fun v H1 => ∃ a xs, v = .ref a ∧ SqL X.K H1 a xs ∧ Turns X N x body D (fun H => SqL X.K H a xs) xs.length (fun i y => xs[i]? = some y) σ H1)
    (hs : ∀ x, foldedSetIterable l X.env x = pure x := by intro _; with_unfolding_all rfl) : RS X (.For (.Name x p0) l body [] pos) D σ H := by
  obtain ⟨i, g, h2⟩ := c.pg (p0 := p0) h m hx
  refine rs_of (ps_for c.po c.calm (pi_list PE.self) g PSs.self hs) (pe_mono q fun v H1 ⟨a, xs, e, hq, Pv, p1, p2, p3, p4⟩ => ⟨a, e, ⟨xs, hq⟩, ?_⟩)
  refine for_list (K := X.K) (a := a) (xs := xs) Pv p1 p2 (fun i y σ H e p => ?_) p4
  obtain ⟨σ', hp, r⟩ := p3 i y σ H (by rcases Nat.lt_or_ge i xs.length with z | z; exact z; rw [List.getElem?_eq_none z] at e; cases e) e p
  rw [h2 hp] at r
  exact r
theorem rs_for_tup (c : Ctx X N L k) {x : Str} {l : Expr} {body : List Stmt} {j : KN} (h : (x, j) ∈ L) (m : Own j) (hx : x ∈ N)
    (q : RE X l σ H fun v H1 => ∃ a xs, v = .ref a ∧ SqT X.K H1 a xs ∧ Turns X N x body D (fun H => SqT X.K H a xs) xs.length (fun i y => xs[i]? = some y) σ H1)
    (hs : ∀ x, foldedSetIterable l X.env x = pure x := by intro _; with_unfolding_all rfl) : RS X (.For (.Name x p0) l body [] pos) D σ H := by
  obtain ⟨i, g, h2⟩ := c.pg (p0 := p0) h m hx
  refine rs_of (ps_for c.po c.calm (pi_tup PE.self) g PSs.self hs) (pe_mono q fun v H1 ⟨a, xs, e, hq, Pv, p1, p2, p3, p4⟩ => ⟨a, e, ⟨xs, hq⟩, ?_⟩)
  refine for_tup (K := X.K) (a := a) (xs := xs) Pv p1 p2 (fun i y σ H e p => ?_) p4
  obtain ⟨σ', hp, r⟩ := p3 i y σ H (by rcases Nat.lt_or_ge i xs.length with z | z; exact z; rw [List.getElem?_eq_none z] at e; cases e) e p
  rw [h2 hp] at r
  exact r
theorem rs_for_range (c : Ctx X N L k) {x : Str} {e : Expr} {body : List Stmt} {j : KN} (h : (x, j) ∈ L) (m : Own j) (hx : x ∈ N) (hg : (("range" : Str), KN.glob) ∈ L) (hm : X.mg "range" = none)
    (q : RE X e σ H fun v H1 => ∃ n : Int, v = .int n ∧ -(2 ^ 62) ≤ n ∧ n < 2 ^ 62 ∧ Turns X N x body D (fun _ => True) n.toNat (fun i y => y = .int i) σ H1)
    (hs : ∀ x, foldedSetIterable (.Call (.Name "range" p1) [e] [] p2) X.env x = pure x := by intro _; with_unfolding_all rfl) (hsE : starEach [e] X.env = [(false, eval e X.env)] := by with_unfolding_all rfl) : RS X (.For (.Name x p0) (.Call (.Name "range" p1) [e] [] p2) body [] pos) D σ H := by
  obtain ⟨i, g, h2⟩ := c.pg (p0 := p0) h m hx
  refine rs_of (ps_for c.po c.calm (pi_range1 (c.gl hg) hm PA.self hsE) g PSs.self hs) ?_
  refine ra_cons (pe_mono q fun v H1 ⟨n, e, n1, n2, Pv, p1, _, p3, p4⟩ => ra_nil ⟨n, by rw [e], n1, n2, ?_⟩) hsE
  refine for_range (lo := 0) (n := n.toNat) Pv p1 (fun i σ H e p => ?_) p4
  obtain ⟨σ', hp, r⟩ := p3 i (.int (0 + i)) σ H e (by simp) p
  rw [h2 hp] at r
  exact r
/-- for x, y in zip(a, b), both lists or both tuples, of one length -/
theorem rs_for_zip (c : Ctx X N L k) {x y : Str} {e1 e2 : Expr} {body : List Stmt} {j j' : KN} {kt : Nat} {q0 q1 q2 : Pos} (h : (x, j) ∈ L) (m : Own j) (hx : x ∈ N) (h' : (y, j') ∈ L) (m' : Own j') (hy : y ∈ N) (hg : (("zip" : Str), KN.glob) ∈ L) (hm : X.mg "zip" = none)
    (q : RA X [e1, e2] σ H fun vs H1 => ∃ a b xs ys, vs = [.ref a, .ref b] ∧ xs.length = ys.length ∧ ∃ Sq : Hp → Addr → List V → Prop, (Sq = (fun H => SqL X.K H) ∨ Sq = fun H => SqT X.K H) ∧ Sq H1 a xs ∧ Sq H1 b ys ∧ ∃ Pv : Nat → L2.St → Hp → Prop, Pv 0 σ H1 ∧ (∀ i σ H, Pv i σ H → Sq H a xs ∧ Sq H b ys) ∧
      (∀ i u v σ H T, xs[i]? = some u → ys[i]? = some v → Pv i σ H → H T = none → ∃ σ' σ'', Put N σ x u σ' ∧ Put N σ' y v σ'' ∧ RB X body { D with nx := Pv (i + 1), ct := Pv (i + 1), bk := D.nx } σ'' (upd H T (.tup [u, v]))) ∧ (∀ σ H, Pv xs.length σ H → D.nx σ H))
    (hs : ∀ x, foldedSetIterable (.Call (.Name "zip" p1) [e1, e2] [] p2) X.env x = pure x := by intro _; with_unfolding_all rfl) (he : starEach [e1, e2] X.env = (false, eval e1 X.env) :: starEach [e2] X.env := by with_unfolding_all rfl) (hpl : (backTo p2 (starEach [e2] X.env)).any (·.1) = false := by with_unfolding_all rfl)
    (hn : (assignEach [.Name x q0, .Name y q1] X.env).length = 2 := by with_unfolding_all rfl) (hst : (assignEach [.Name x q0, .Name y q1] X.env).findIdx? (·.1) = none := by with_unfolding_all rfl)
    (ha : (assignEach [.Name x q0, .Name y q1] X.env).map (·.2) = assign (.Name x q0) X.env :: (assignEach [.Name y q1] X.env).map (·.2) := by with_unfolding_all rfl) (hb : (assignEach [.Name y q1] X.env).map (·.2) = assign (.Name y q1) X.env :: (assignEach [] X.env).map (·.2) := by with_unfolding_all rfl) :
    RS X (.For (.Tuple [.Name x q0, .Name y q1] kt q2) (.Call (.Name "zip" p1) [e1, e2] [] p2) body [] pos) D σ H := by
  obtain ⟨i, g, h2⟩ := c.pg (p0 := q0) h m hx
  obtain ⟨i', g', h2'⟩ := c.pg (p0 := q1) h' m' hy
  refine rs_of (ps_for c.po c.calm (RZ.pi_zipA (c.gl hg) hm PA.self he hpl) (pg_tup (n := 2) c.calm (pgs_cons g (pgs_cons g' pgs_nil hb) ha) hn hst) PSs.self hs) ?_
  refine ra_mono q fun vs H1 ⟨a, b, xs, ys, e, hl, Sq, hS, s1, s2, Pv, p1, p2, p3, p4⟩ => ⟨a, b, xs, ys, e, ?_⟩
  have step : ∀ (i : Nat) (u v : V) (T : Addr) (σ : L2.St) (H : Hp), xs[i]? = some u → ys[i]? = some v → Pv i σ H → H T = none → gTup X.K 2 (gCons (gName _) (gCons (gName _) gNil)) (.ref T) σ (upd H T (.tup [u, v])) fun σ2 H2 => RB X body { D with nx := Pv (i + 1), ct := Pv (i + 1), bk := D.nx } σ2 H2 := fun i u v T σ H e1 e2 p hT => by
    obtain ⟨σ', σ'', a1, a2, r⟩ := p3 i u v σ H T e1 e2 p hT
    rw [h2' a2, h2 a1] at r
    exact ⟨T, _, rfl, SqT.of upd_same, rfl, _, _, rfl, _, _, rfl, rfl, r⟩
  rcases hS with rfl | rfl
  · exact .inl ⟨s1, s2, RZ.for_zipL hl Pv p1 p2 step p4⟩
  · exact .inr ⟨s1, s2, RZ.for_zipT hl Pv p1 p2 step p4⟩
end
end GT
namespace GT
open PySem PySem.Spec PyProof.Rows L2
section
variable {X : Cx} {σ : L2.St} {H : Hp} {N : List Str} {L Lc : List (Str × KN)} {k : Nat} {pos p0 p1 p2 : Pos} {Q : VK} {D : Ends} {scope : Scope}
/-! ### comprehensions -/
structure RTs (X : Cx) (ifs : List Expr) (σ : L2.St) (H : Hp) (Q : Bool → Hp → Prop) : Prop where
  ex : ∃ t, PTs X ifs t ∧ t σ H Q
theorem PTs.self {ifs : List Expr} : PTs X ifs (RTs X ifs) := ⟨fun pins s σ H Q I h => by obtain ⟨t, ht, q⟩ := h.ex; exact ht.run pins s σ H Q I q⟩
theorem rts_nil {Q : Bool → Hp → Prop} (q : Q true H) : RTs X [] σ H Q := ⟨⟨_, pts_nil, q⟩⟩
theorem rts_one {t : Expr} {Q : Bool → Hp → Prop} (q : RT X t σ H Q) : RTs X [t] σ H Q := ⟨⟨_, pts_one PT.self, q⟩⟩
/-- what is known of a comprehension's own scope -/
structure Scp (scope : Scope) (Lc : List (Str × KN)) : Prop where
  names : ∀ p ∈ Lc, p ∈ knAll scope.names
  lnd : (scope.names.map (·.1)).Nodup
  dbg : ∀ p ∈ Lc, okName p.1 = true
  kind : scope.kind = .function
/-- a comprehension over x, within names N whose kinds are told by L; Lc tells its own -/
def lcOk (N : List Str) (L : List (Str × KN)) (scope : Scope) (Lc : List (Str × KN)) (x : Str) : Bool :=
  decide (scope.kind = .function) && (Lc.all fun p => decide (p ∈ knAll scope.names)) && decide (scope.names.map (·.1)).Nodup && (Lc.all fun p => okName p.1) &&
    (scope.names.all fun y => !decide (y.2 = .free) || (decide ((y.1, KN.cell) ∈ L) || decide ((y.1, KN.cap) ∈ L))) &&
    (scope.names.all fun y => !(decide (y.2 = .local) || decide (y.2 = .cell)) || (decide (y.1 = x) || !decide (y.1 ∈ N))) && decide (x ∈ N) && decide ((x, KN.loc) ∈ Lc)
theorem lcOk_of {x : Str} (c : Ctx X N L k) (h : lcOk N L scope Lc x = true) : Scp scope Lc ∧ x ∈ N ∧ (x, KN.loc) ∈ Lc ∧ ∀ i : Nat, N[i]? = some x → BlkOk N X.env.scope scope [(x, i)] := by
  unfold lcOk at h
  simp only [Bool.and_eq_true, Bool.or_eq_true, Bool.not_eq_true', decide_eq_true_eq, decide_eq_false_iff_not, List.all_eq_true] at h
  obtain ⟨⟨⟨⟨⟨⟨⟨h1, h2⟩, h3⟩, h4⟩, h5⟩, h6⟩, h7⟩, h8⟩ := h
  refine ⟨⟨h2, h3, h4, h1⟩, h7, h8, fun i hi => ⟨h1, fun y hy => lookup_mem h3 hy, fun p hp => ?_, fun y hy e => ?_, fun y hy e => ?_⟩⟩
  · obtain rfl : p = (x, i) := by simpa using hp
    exact hi
  · rcases h5 y hy with z | z | z
    · exact absurd e z
    · exact .inl (c.look _ z).1
    · exact c.look _ z
  · rcases h6 y hy with z | z | z
    · rcases e with e | e <;> simp [e] at z
    · exact .inl (by simp [z])
    · exact .inr z
theorem relabel_lookup {names : List (Str × NameKind)} {f : NameKind → Bool} {x : Str} {j : NameKind} (g : Str → Bool) (h : names.lookup x = some j) :
    (names.map fun p => if (f p.2 && g p.1) = true then (p.1, NameKind.cell) else p).lookup x = some (if (f j && g x) = true then NameKind.cell else j) := by
  induction names with
  | nil => cases h
  | cons p r ih =>
    obtain ⟨y, i⟩ := p
    rw [List.map_cons]
    by_cases e : x = y
    · subst e
      have e1 : i = j := by simpa [List.lookup] using h
      subst e1
      split <;> simp [List.lookup, *]
    · have hb : (x == y) = false := beq_eq_false_iff_ne.mpr e
      have h' : r.lookup x = some j := by simpa [List.lookup, hb] using h
      have ih' := ih h'
      split
      · simpa [List.lookup, hb] using ih'
      · simpa [List.lookup, hb] using ih'
theorem Ctx.blk (c : Ctx X N L k) (S : Scp scope Lc) (s : Shared) (Hb : Hp) (C : Addr) (cl : List (Str × Addr)) (fp : List Addr) : Ctx (X.blk s Hb scope (compEnvC scope cl C X.env) fp) N Lc k where
  n := c.n
  nd := c.nd
  look := fun p hp => by
    obtain ⟨x, m⟩ := p
    obtain ⟨j, h1, h2⟩ := knAll_mem (S.names _ hp)
    have e := lookup_mem S.lnd h1
    have e2 := relabel_lookup (f := fun k => k == NameKind.free && X.env.scope.kind == .function) (fun n => X.env.kindOf n == some .cell) e
    have e3 : (X.blk s Hb scope (compEnvC scope cl C X.env) fp).env.scope.names.lookup x = some (if ((j == NameKind.free && X.env.scope.kind == .function) && X.env.kindOf x == some .cell) = true then NameKind.cell else j) := e2
    cases j <;> simp only [knOf] at h2 <;> cases h2
    · exact e3
    · refine ⟨e3, ?_⟩
      show (scope.names.lookup x == some .cell) = true
      rw [e]
      rfl
    · show _ ∨ _
      rw [e3]
      split
      · exact .inl rfl
      · exact .inr rfl
    · exact e3
  dbg := S.dbg
  calm := c.calm
  room := c.room
  po := PassesOwn.never
  kind := by
    have e : (compEnvC scope cl C X.env).scope.kind = scope.kind := rfl
    exact e.trans S.kind
def REA (X : Cx) (N : List Str) (Lc : List (Str × KN)) (k : Nat) (scope : Scope) (e : Expr) : TE := fun σ H Q =>
  ∀ (s : Shared) (Hb : Hp) (C : Addr) (cl : List (Str × Addr)) (fp : List Addr), Ctx (X.blk s Hb scope (compEnvC scope cl C X.env) fp) N Lc k → RE (X.blk s Hb scope (compEnvC scope cl C X.env) fp) e σ H Q
def RTA (X : Cx) (N : List Str) (Lc : List (Str × KN)) (k : Nat) (scope : Scope) (ifs : List Expr) : TT := fun σ H Q =>
  ∀ (s : Shared) (Hb : Hp) (C : Addr) (cl : List (Str × Addr)) (fp : List Addr), Ctx (X.blk s Hb scope (compEnvC scope cl C X.env) fp) N Lc k → RTs (X.blk s Hb scope (compEnvC scope cl C X.env) fp) ifs σ H Q
theorem PE.rea (c : Ctx X N L k) (S : Scp scope Lc) {e : Expr} (s : Shared) (Hb : Hp) (C : Addr) (cl : List (Str × Addr)) (fp : List Addr) : PE (X.blk s Hb scope (compEnvC scope cl C X.env) fp) e (REA X N Lc k scope e) :=
  ⟨fun pins s1 σ H Q I h => PE.self.run pins s1 σ H Q I (h s Hb C cl fp (c.blk S s Hb C cl fp))⟩
theorem PTs.rta (c : Ctx X N L k) (S : Scp scope Lc) {ifs : List Expr} (s : Shared) (Hb : Hp) (C : Addr) (cl : List (Str × Addr)) (fp : List Addr) : PTs (X.blk s Hb scope (compEnvC scope cl C X.env) fp) ifs (RTA X N Lc k scope ifs) :=
  ⟨fun pins s1 σ H Q I h => PTs.self.run pins s1 σ H Q I (h s Hb C cl fp (c.blk S s Hb C cl fp))⟩
/-- what a comprehension asks of its turns: y the item, Dn the new list -/
def CTurns (X : Cx) (N : List Str) (Lc : List (Str × KN)) (k : Nat) (scope : Scope) (x : Str) (elt : Expr) (ifs : List Expr) (stand : Hp → Prop) (n : Nat) (it : Nat → V → Prop) (σ : L2.St) (H1 : Hp) (Q : VK) : Prop :=
  ∀ Dn, H1 Dn = none → ∃ Pv : Nat → Hp → Prop, Pv 0 (upd H1 Dn (.lst [])) ∧ (∀ i H, i ≤ n → Pv i H → stand H) ∧
    (∀ i y H2, i < n → it i y → Pv i H2 → ∃ σ', Put N σ x y σ' ∧ RTA X N Lc k scope ifs σ' H2 fun b H3 =>
      if b = true then REA X N Lc k scope elt σ' H3 fun z H4 => ∃ acc, H4 Dn = some (.lst acc) ∧ acc.length < sizeLine ∧ Pv (i + 1) (upd H4 Dn (.lst (acc ++ [z]))) else Pv (i + 1) H3) ∧ ∀ H2, Pv n H2 → Q (.ref Dn) H2
theorem set_back {σ : L2.St} {i : Nat} {v : V} : wipe ((wipe σ [i]).set i (some v)) [i] = wipe σ [i] := by
  show (((σ.set i none).set i (some v)).set i none) = σ.set i none
  rw [List.set_set, List.set_set]
theorem set_on {σ : L2.St} {i : Nat} {v : V} : (wipe σ [i]).set i (some v) = σ.set i (some v) := by
  show ((σ.set i none).set i (some v)) = σ.set i (some v)
  rw [List.set_set]
section
variable {x : Str} {elt : Expr} {ifs : List Expr}
theorem blk_at (c : Ctx X N L k) (S : Scp scope Lc) (hx : x ∈ N) (hl : (x, KN.loc) ∈ Lc) (ok : ∀ i : Nat, N[i]? = some x → BlkOk N X.env.scope scope [(x, i)]) :
    ∃ i : Nat, (∀ {σ σ' : L2.St} {v : V}, Put N σ x v σ' → σ' = σ.set i (some v)) ∧ BlkOk X.N X.env.scope scope [(x, i)] ∧
      ∀ (s : Shared) (Hb : Hp) (C : Addr) (cl : List (Str × Addr)) (fp : List Addr), PG (X.blk s Hb scope (compEnvC scope cl C X.env) fp) (.Name x p0) (gName i) := by
  obtain ⟨i, h1, h2⟩ := c.put hx
  refine ⟨i, h2, ?_, fun s Hb C cl fp => ?_⟩
  · rw [c.n]
    rw [c.n] at h1
    exact ok i h1
  · have cb := c.blk S s Hb C cl fp
    exact pg_name c.nodup h1 (cb.loc hl .loc) (cb.fn hl .loc)
theorem lc_go {Itx : It} {n : Nat} {stand : Hp → Prop} {it : Nat → V → Prop} {H1 : Hp} {i : Nat} (hput : ∀ {σ σ' : L2.St} {v : V}, Put N σ x v σ' → σ' = σ.set i (some v))
    (W : Walk Itx n stand fun j H y H' => H' = H ∧ it j y) (q : CTurns X N Lc k scope x elt ifs stand n it σ H1 Q) :
    ∀ Dn, H1 Dn = none → ∃ W : Nat → Nat → Hp → Prop, (∃ m, W 0 m (upd H1 Dn (.lst []))) ∧ ∀ j m H, W j m H →
      (Itx.stop j H ∧ Q (.ref Dn) H) ∨ (Itx.go j H ∧ ∃ Nx : Hp → Prop, (∀ H', Nx H' → ∃ m', m' < m ∧ W (j + 1) m' H') ∧ ∀ y H', Itx.yld j H y H' → gName i y (wipe σ [i]) H' fun σ2 H2 => wipe σ2 [i] = wipe σ [i] ∧ RTA X N Lc k scope ifs σ2 H2 fun b H3 =>
        if b = true then REA X N Lc k scope elt σ2 H3 fun z H4 => ∃ acc, H4 Dn = some (.lst acc) ∧ acc.length < sizeLine ∧ Nx (upd H4 Dn (.lst (acc ++ [z]))) else Nx H3) := by
  intro Dn hD
  obtain ⟨Pv, p1, p2, p3, p4⟩ := q Dn hD
  refine lc_it W (g := gName i) (tt := RTA X N Lc k scope ifs) (te := REA X N Lc k scope elt) (vs := [i]) (σ := σ) Pv p1 p2 (fun j y H H' hj p hy => ?_) p4
  obtain ⟨rfl, hy⟩ := hy
  obtain ⟨σ', hp, r⟩ := p3 j y H' hj hy p
  refine ⟨set_back, ?_⟩
  rw [set_on, ← hput hp]
  exact r
theorem re_lc_list (c : Ctx X N L k) (Lc : List (Str × KN)) (hok : lcOk N L scope Lc x = true) {l : Expr}
    (q : RE X l σ H fun v H1 => ∃ a xs, v = .ref a ∧ SqL X.K H1 a xs ∧ CTurns X N Lc k scope x elt ifs (fun H => SqL X.K H a xs) xs.length (fun i y => xs[i]? = some y) σ H1 Q)
    (hs : ∀ x, foldedSetIterable l X.env x = pure x := by intro _; with_unfolding_all rfl) : RE X (.ListComp elt [⟨.Name x p0, l, ifs, 0⟩] scope pos) σ H Q := by
  obtain ⟨S, hx, hl, ok⟩ := lcOk_of c hok
  obtain ⟨i, hput, bk, g⟩ := blk_at (p0 := p0) c S hx hl ok
  refine re_of (pe_lc c.calm c.nodup (pi_list PE.self) bk g (fun s H C cl fp => PTs.rta c S s H C cl fp) (fun s H C cl fp => PE.rea c S s H C cl fp) hs) ?_
  refine pe_mono q fun v H1 ⟨a, xs, e, h1, q1⟩ => ⟨a, e, ⟨xs, h1⟩, lc_go hput walk_list q1⟩
theorem re_lc_range (c : Ctx X N L k) (Lc : List (Str × KN)) (hok : lcOk N L scope Lc x = true) {e : Expr} (hg : (("range" : Str), KN.glob) ∈ L) (hm : X.mg "range" = none)
    (q : RE X e σ H fun v H1 => ∃ n : Int, v = .int n ∧ -(2 ^ 62) ≤ n ∧ n < 2 ^ 62 ∧ CTurns X N Lc k scope x elt ifs (fun _ => True) n.toNat (fun i y => y = .int i) σ H1 Q)
    (hs : ∀ x, foldedSetIterable (.Call (.Name "range" p1) [e] [] p2) X.env x = pure x := by intro _; with_unfolding_all rfl) (hsE : starEach [e] X.env = [(false, eval e X.env)] := by with_unfolding_all rfl) : RE X (.ListComp elt [⟨.Name x p0, .Call (.Name "range" p1) [e] [] p2, ifs, 0⟩] scope pos) σ H Q := by
  obtain ⟨S, hx, hl, ok⟩ := lcOk_of c hok
  obtain ⟨i, hput, bk, g⟩ := blk_at (p0 := p0) c S hx hl ok
  refine re_of (pe_lc c.calm c.nodup (pi_range1 (c.gl hg) hm PA.self hsE) bk g (fun s H C cl fp => PTs.rta c S s H C cl fp) (fun s H C cl fp => PE.rea c S s H C cl fp) hs) ?_
  refine ra_cons (pe_mono q fun v H1 ⟨n, e, n1, n2, q1⟩ => ra_nil ⟨n, by rw [e], n1, n2, ?_⟩) hsE
  refine lc_go hput (walk_range.mono (fun _ h => h) fun j H y H' hj _ hy => ?_) q1
  obtain ⟨h1, h2⟩ := hy
  exact ⟨h1, by rw [h2]; simp⟩
/-- y = [..] on one line -/
theorem rs_lc_list (c : Ctx X N L k) (Lc : List (Str × KN)) (hok : lcOk N L scope Lc x = true) {l : Expr} {y : Str} {py cp : Pos} (hy : (y, KN.loc) ∈ L) (my : y ∈ N)
    (q : RE X l σ H fun v H1 => ∃ a xs, v = .ref a ∧ SqL X.K H1 a xs ∧ CTurns X N Lc k scope x elt ifs (fun H => SqL X.K H a xs) xs.length (fun i y => xs[i]? = some y) σ H1 fun v H2 => ∃ σ', Put N σ y v σ' ∧ D.nx σ' H2)
    (hln : (py.line == cp.line) = true := by with_unfolding_all rfl) (ha : (scope.names.any fun (n, k) => n == y && (k == .local || k == .cell)) = false := by decide +kernel)
    (hs : ∀ x, foldedSetIterable l X.env x = pure x := by intro _; with_unfolding_all rfl) : RS X (.Assign [.Name y py] (.ListComp elt [⟨.Name x p0, l, ifs, 0⟩] scope cp) pos) D σ H := by
  obtain ⟨S, hx, hl, ok⟩ := lcOk_of c hok
  obtain ⟨i, hput, bk, g⟩ := blk_at (p0 := p0) c S hx hl ok
  obtain ⟨i2, h1, h2⟩ := c.put my
  refine rs_of (ps_setLc (i := i2) c.calm c.nodup h1 (c.lcl hy) (sw_true c.kind (c.lcl hy) hln ha) (pi_list PE.self) bk g (fun s H C cl fp => PTs.rta c S s H C cl fp) (fun s H C cl fp => PE.rea c S s H C cl fp) hs) ?_
  refine pe_mono q fun v H1 ⟨a, xs, e, h1, q1⟩ => ⟨a, e, ⟨xs, h1⟩, lc_go hput (walk_list (xs := xs)) (Q := fun v H1 => D.nx (σ.set i2 (some v)) H1) (fun Dn hD => ?_ : CTurns X N Lc k scope x elt ifs (fun H => SqL X.K H a xs) xs.length (fun i y => xs[i]? = some y) σ H1 fun v H1 => D.nx (σ.set i2 (some v)) H1)⟩
  obtain ⟨Pv, a1, a2, a3, a4⟩ := q1 Dn hD
  refine ⟨Pv, a1, a2, a3, fun H2 hp => ?_⟩
  obtain ⟨σ', p, d⟩ := a4 H2 hp
  rw [h2 p] at d
  exact d
end
end
end GT
namespace GT
open PySem PySem.Spec PyProof.Rows L2
/-- the def that st says, as it stands behind the top -/
abbrev FnP (K : PySem.W.Frag) (x : Str) (st : Stmt) (f : Addr) (fd : FuncData) : Prop := FunD K x x (defArgs st) (defBody st) (defScope st) [] [] f fd
/-- a context of this program and heap -/
structure At5 (X : Cx) (P : Program) (w : World) (K : PySem.W.Frag) (mg : Str → Option Value) (base : Heap) : Prop where
  p : X.prog = P
  w : X.w = w
  k : X.K = K
  m : X.mg = mg
  b : X.base = base
/-- what is known of a def's names (each line by decide +kernel) -/
structure Nms (st : Stmt) (N ps : List Str) (L : List (Str × KN)) : Prop where
  S : FnScope N ps (defScope st)
  kl : ∀ p ∈ L, p ∈ knAll (defScope st).names
  nd : ((defScope st).names.map (·.1)).Nodup
  db : ∀ p ∈ L, okName p.1 = true
section
variable {P : Program} {w : World} {K : PySem.W.Frag} {mg : Str → Option Value} {base : Heap} {CXs : CXT} {x : Str} {st : Stmt} {N ps : List Str} {L : List (Str × KN)} {k : Nat} {sp : Sp} {f : Addr} {fd : FuncData}
theorem knIs_of {X : Cx} {st : Stmt} (M : Nms st N ps L) (e : X.env.scope = defScope st) (hf : ∀ x, X.fn x = true) : ∀ p ∈ L, KnIs X p.1 p.2 := fun p hp => by
  obtain ⟨x, m⟩ := p
  obtain ⟨j, h1, h2⟩ := knAll_mem (M.kl _ hp)
  have e1 : X.env.scope.names.lookup x = some j := by
    rw [e]
    exact lookup_mem M.nd h1
  cases j <;> simp only [knOf] at h2 <;> cases h2
  · exact e1
  · exact ⟨e1, hf x⟩
  · exact .inr e1
  · exact e1
/-- a def that raises nothing keeps its promise -/
theorem defP_of (F : FnP K x st f fd) (gx : mg x = some (.ref f)) (M : Nms st N ps L) (hb : Binds K fd ps []) (len : ∀ vs H Q E, sp vs H Q E → vs.length = ps.length)
    (body : ∀ (X : Cx), Ctx X N L k → At5 X P w K mg base → ∀ (vs : List V) (H : Hp) (Q : VK) (E : XK), sp vs H Q E → RB X (defBody st) { nx := fun _ H' => Q .non H', rt := Q } (start N vs) H) : DefP P w K mg base CX0 x ps (k + 1) sp := by
  refine ⟨f, fd, F.ok M.S len (fun cdv A outer s H vs Q E hr h => ?_), gx, F.kp, hb⟩
  have c : Ctx (cxOf CX0 P w K mg base N x (defScope st) f cdv A outer s H E).nox N L k := ⟨rfl, M.S.nd, knIs_of M rfl (fun _ => rfl), M.db, rfl, hr, PassesOwn.never, M.S.kind⟩
  obtain ⟨t, ht, q⟩ := (body _ c ⟨rfl, rfl, rfl, rfl, rfl⟩ vs H Q E h).ex
  exact ⟨t, ht.nox, q⟩
theorem DefP.at5 {X : Cx} {n : Nat} (d : DefP P w K mg base CXs x ps n sp) (a : At5 X P w K mg base) : DefP X.prog X.w X.K X.mg X.base CXs x ps n sp := by
  obtain ⟨p1, p2, p3, p4, p5⟩ := a
  rw [p1, p2, p3, p4, p5]
  exact d
end
/-! ### frames -/
/-- what stands outside of the addresses of B is as it was -/
def Fr (B : Addr → Prop) (H H' : Hp) : Prop := ∀ a o, ¬ B a → H a = some o → H' a = some o
abbrev NoB : Addr → Prop := fun _ => False
section
variable {B : Addr → Prop} {K : PySem.W.Frag} {H H1 H2 : Hp} {a p : Addr} {o : HO} {xs : List V}
theorem Fr.refl : Fr B H H := fun _ _ _ h => h
theorem Fr.trans (h : Fr B H H1) (g : Fr B H1 H2) : Fr B H H2 := fun a o n e => g a o n (h a o n e)
theorem Fr.any (h : Fr NoB H H1) : Fr B H H1 := fun a o _ e => h a o (fun z => z) e
theorem Fr.new (h : H p = none) : Fr B H (upd H p o) := fun a u _ e => by
  rw [upd_ne (ne_of_none e h)]
  exact e
theorem Fr.seqL (f : Fr B H H1) (n : ¬ B a) (h : SqL K H a xs) : SqL K H1 a xs := by
  rcases h with (h | ⟨o, h⟩) | h
  · exact .inl (.inl (f _ _ n h))
  · exact .inl (.inr ⟨o, f _ _ n h⟩)
  · exact .inr h
theorem Fr.seqT (f : Fr B H H1) (n : ¬ B a) (h : SqT K H a xs) : SqT K H1 a xs := by
  rcases h with (h | ⟨o, h⟩) | h
  · exact .inl (.inl (f _ _ n h))
  · exact .inl (.inr ⟨o, f _ _ n h⟩)
  · exact .inr h
theorem Fr.free (f : Fr NoB H H1) (h : H1 a = .none) : H a = .none := by
  cases e : H a with
  | none => rfl
  | some o =>
    rw [f a o (fun z => z) e] at h
    cases h
theorem Fr.gone (f : Fr B H H1) (n : ¬ B p) (h : H1 p = .none) : H p = .none := by
  cases e : H p with
  | none => rfl
  | some o =>
    rw [f p o n e] at h
    cases h
/-- an object that was not there at first is written -/
theorem Fr.put (f : Fr B H H1) (h : H p = .none) : Fr B H (upd H1 p o) := fun a u n e => by
  rw [upd_ne (ne_of_none e h)]
  exact f a u n e
end
/-! ### data -/
inductive D where
  | non | bl (b : Bool) | int (i : Int) | str (s : Str) | lst (l : List D) | tup (l : List D)
/-- v bears the data d: what it reaches stands outside of B -/
inductive Dt (K : PySem.W.Frag) (B : Addr → Prop) (H : Hp) : V → D → Prop
  | non : Dt K B H .non .non
  | bl {b : Bool} : Dt K B H (.bl b) (.bl b)
  | int {i : Int} : Dt K B H (.int i) (.int i)
  | str {s : Str} : Dt K B H (.str s) (.str s)
  | lst {a : Addr} {vs : List V} {ds : List D} (n : ¬ B a) (t : H a = some (.lst vs)) (l : vs.length = ds.length) (h : ∀ (i : Nat) v d, vs[i]? = some v → ds[i]? = some d → Dt K B H v d) : Dt K B H (.ref a) (.lst ds)
  | tup {a : Addr} {vs : List V} {ds : List D} (n : ¬ B a) (t : H a = some (.tup vs)) (l : vs.length = ds.length) (h : ∀ (i : Nat) v d, vs[i]? = some v → ds[i]? = some d → Dt K B H v d) : Dt K B H (.ref a) (.tup ds)
theorem Dt.fr {K : PySem.W.Frag} {B : Addr → Prop} {H H' : Hp} {v : V} {d : D} (h : Dt K B H v d) (f : Fr B H H') : Dt K B H' v d := by
  induction h with
  | non => exact .non
  | bl => exact .bl
  | int => exact .int
  | str => exact .str
  | lst n t l _ ih => exact .lst n (f _ _ n t) l ih
  | tup n t l _ ih => exact .tup n (f _ _ n t) l ih
theorem Dt.mono {K : PySem.W.Frag} {B B' : Addr → Prop} {H : Hp} {v : V} {d : D} (h : Dt K B H v d) (s : ∀ a, B' a → B a) : Dt K B' H v d := by
  induction h with
  | non => exact .non
  | bl => exact .bl
  | int => exact .int
  | str => exact .str
  | lst n t l _ ih => exact .lst (fun z => n (s _ z)) t l ih
  | tup n t l _ ih => exact .tup (fun z => n (s _ z)) t l ih
/-- row by row -/
def Dts (K : PySem.W.Frag) (B : Addr → Prop) (H : Hp) (vs : List V) (ds : List D) : Prop := vs.length = ds.length ∧ ∀ (i : Nat) v d, vs[i]? = some v → ds[i]? = some d → Dt K B H v d
theorem Dts.nil {K : PySem.W.Frag} {B : Addr → Prop} {H : Hp} : Dts K B H [] [] := ⟨rfl, fun i v d h => by simp at h⟩
theorem Dts.cons {K : PySem.W.Frag} {B : Addr → Prop} {H : Hp} {v : V} {d : D} {vs : List V} {ds : List D} (h : Dt K B H v d) (t : Dts K B H vs ds) : Dts K B H (v :: vs) (d :: ds) := by
  refine ⟨by rw [List.length_cons, List.length_cons, t.1], fun i u e h1 h2 => ?_⟩
  cases i with
  | zero =>
    simp at h1 h2
    subst h1 h2
    exact h
  | succ i => exact t.2 i u e (by simpa using h1) (by simpa using h2)
theorem Dts.fr {K : PySem.W.Frag} {B : Addr → Prop} {H H' : Hp} {vs : List V} {ds : List D} (h : Dts K B H vs ds) (f : Fr B H H') : Dts K B H' vs ds := ⟨h.1, fun i v d a b => (h.2 i v d a b).fr f⟩
theorem Dt.ofT {K : PySem.W.Frag} {B : Addr → Prop} {H : Hp} {a : Addr} {vs : List V} {ds : List D} (n : ¬ B a) (t : H a = some (.tup vs)) (h : Dts K B H vs ds) : Dt K B H (.ref a) (.tup ds) := .tup n t h.1 h.2
theorem Dt.ofL {K : PySem.W.Frag} {B : Addr → Prop} {H : Hp} {a : Addr} {vs : List V} {ds : List D} (n : ¬ B a) (t : H a = some (.lst vs)) (h : Dts K B H vs ds) : Dt K B H (.ref a) (.lst ds) := .lst n t h.1 h.2
/-- a new tuple, a new list, of data -/
theorem Dt.newT {K : PySem.W.Frag} {B : Addr → Prop} {H : Hp} {p : Addr} {vs : List V} {ds : List D} (hp : H p = none) (n : ¬ B p) (h : Dts K B H vs ds) : Dt K B (upd H p (.tup vs)) (.ref p) (.tup ds) := .ofT n upd_same (h.fr (Fr.new hp))
theorem Dt.newL {K : PySem.W.Frag} {B : Addr → Prop} {H : Hp} {p : Addr} {vs : List V} {ds : List D} (hp : H p = none) (n : ¬ B p) (h : Dts K B H vs ds) : Dt K B (upd H p (.lst vs)) (.ref p) (.lst ds) := .ofL n upd_same (h.fr (Fr.new hp))
/-! ### the box of a law's draws -/
/-- the two numbers: what is left of a great one, and the state of the draws -/
def BoxAt (H : Hp) (b : Addr) : Prop := ∃ g r : Int, H b = some (.lst [.int g, .int r]) ∧ 0 ≤ g ∧ 0 ≤ r ∧ r < 2 ^ 32
theorem BoxAt.fr {H H' : Hp} {b : Addr} (h : BoxAt H b) (f : Fr NoB H H') : BoxAt H' b := by
  obtain ⟨g, r, h1, h2⟩ := h
  exact ⟨g, r, f _ _ (fun z => z) h1, h2⟩
theorem BoxAt.ne {H : Hp} {b p : Addr} (h : BoxAt H b) (hp : H p = none) : ¬ p = b := by
  obtain ⟨g, r, h1, _⟩ := h
  exact fun e => by rw [e, h1] at hp; cases hp
theorem BoxAt.put {H : Hp} {b p : Addr} {o : HO} (h : BoxAt H b) (n : ¬ p = b) : BoxAt (upd H p o) b := by
  obtain ⟨g, r, h1, h2⟩ := h
  exact ⟨g, r, by rw [upd_ne (fun e => n e.symm)]; exact h1, h2⟩
end GT
namespace GT
open PySem PySem.Spec PyProof.Rows L2
section
variable {X : Cx} {σ : L2.St} {H : Hp} {N : List Str} {L Lc : List (Str × KN)} {k : Nat} {pos p0 p1 p2 : Pos} {Q : VK}
/-- s.index(sign), the sign there -/
theorem re_sindex {o e : Expr} {apos : Pos} (hc : X.calm = true) (q : RE X o σ H fun x H1 => ∃ a, x = .str a ∧ RE X e σ H1 fun y H2 => ∃ b k, y = .str b ∧ Txt.index0 a b = some k ∧ Q (.int (k : Nat)) H2)
    (hbase : attributeBase o "index" X.env (eval o X.env) = eval o X.env := by with_unfolding_all rfl)
    (hfew : ((backTo pos (starEach [e] X.env)).all (fun x => !x.1) && (backToKw pos (keywordEach [] X.env)).all (fun x => x.1.isSome) && decide (([e] : List Expr).length + ([] : List Keyword).length + (if ([] : List Keyword).isEmpty then 0 else 1) < 30)) = true := by with_unfolding_all rfl)
    (hline : (apos.endLine == pos.line) = true := by with_unfolding_all rfl) (hs : starEach [e] X.env = (false, eval e X.env) :: starEach [] X.env := by with_unfolding_all rfl) (hplain : (backTo pos (starEach [] X.env)).any (·.1) = false := by with_unfolding_all rfl) :
    RE X (.Call (.Attribute o "index" apos) [e] [] pos) σ H Q := by
  refine re_of (pe_bmS PySem.F.plainAttrs_str PySem.F.slot_str_index PySem.F.type_str_index (mt_indexX hc (W := fun _ _ _ _ => False) L2.takes0) PE.self PA.self hbase hfew hline hs hplain) ?_
  refine pe_mono q fun x H1 ⟨a, e1, q1⟩ => ?_
  subst e1
  refine ⟨rfl, ra_cons (pe_mono q1 fun y H2 ⟨b, k, e2, h2, q2⟩ => ra_nil ⟨a, b, rfl, by rw [e2], fun k' hk => ?_, fun hn => ?_⟩) hs⟩
  · rw [h2] at hk
    cases hk
    exact q2
  · rw [h2] at hn
    cases hn
end
/-! ### texts of small letters -/
def Low (z : Str) : Prop := ∀ c ∈ z.cps.toList, 97 ≤ c ∧ c ≤ 122
/-- a label -/
def Lab (z : Str) : Prop := 1 ≤ z.length ∧ z.length ≤ 8 ∧ Low z
def slt (a b : Str) : Bool := decide (a.cps.toList < b.cps.toList)
theorem lt_at {a b : List Nat} : ∀ {i x y : Nat}, (∀ j, j < i → a[j]? = b[j]?) → a[i]? = some x → b[i]? = some y → x ≠ y → (a < b ↔ x < y) := by
  induction a generalizing b with
  | nil => intro i x y _ h; simp at h
  | cons u a ih =>
    intro i x y h1 h2 h3 h4
    cases b with
    | nil => simp at h3
    | cons v b =>
      cases i with
      | zero =>
        simp at h2 h3
        subst h2 h3
        rw [List.cons_lt_cons_iff]
        constructor
        · rintro (h | ⟨h, _⟩)
          · exact h
          · exact absurd h h4
        · exact Or.inl
      | succ i =>
        have e : u = v := by simpa using h1 0 (by omega)
        subst e
        rw [List.cons_lt_cons_iff]
        have := ih (b := b) (i := i) (x := x) (y := y) (fun j hj => by simpa using h1 (j + 1) (by omega)) (by simpa using h2) (by simpa using h3) h4
        rw [this]
        constructor
        · rintro (h | ⟨_, h⟩)
          · omega
          · exact h
        · exact fun h => Or.inr ⟨rfl, h⟩
theorem lt_len {a b : List Nat} : (∀ j, j < min a.length b.length → a[j]? = b[j]?) → (a < b ↔ a.length < b.length) := by
  induction a generalizing b with
  | nil =>
    intro _
    cases b with
    | nil => simp
    | cons v b => simp
  | cons u a ih =>
    intro h
    cases b with
    | nil => simp
    | cons v b =>
      have e : u = v := by simpa using h 0 (by simp)
      subst e
      rw [List.cons_lt_cons_iff, ih (b := b) (fun j hj => by simpa using h (j + 1) (by simp; omega))]
      simp
theorem abc_at : ∀ c : Nat, 97 ≤ c → c ≤ 122 → Txt.index0 "abcdefghijklmnopqrstuvwxyz" ⟨#[c]⟩ = some (c - 97) := by
  have h : ∀ i : Fin 26, Txt.index0 "abcdefghijklmnopqrstuvwxyz" ⟨#[97 + i.val]⟩ = some i.val := by decide +kernel
  intro c h1 h2
  have := h ⟨c - 97, by omega⟩
  have e : 97 + (c - 97) = c := by omega
  simpa [e] using this
end GT
namespace GT
open PySem PySem.Spec PyProof.Rows L2
theorem Put.slot {N : List Str} {σ σ' : L2.St} {x : Str} {v : V} (h : Put N σ x v σ') : Slot N σ' x v := by
  induction h with
  | here => exact .here
  | there _ ih => exact .there ih
section
variable {X : Cx} {σ : L2.St} {H1 : Hp} {N : List Str} {L Lc : List (Str × KN)} {k : Nat} {pe : Pos} {Q : VK} {scope : Scope} {x : Str} {t : Expr} {a : Addr} {xs : List V}
theorem filter_succ {α : Type} {f : α → Bool} {l : List α} {i : Nat} {y : α} (h : l[i]? = some y) : (l.take (i + 1)).filter f = (l.take i).filter f ++ (if f y = true then [y] else []) := by
  rw [List.take_succ, h, List.filter_append]
  simp [List.filter]
  split <;> simp_all
/-- [x for x in xs if t]: t tells f of the item and changes nothing -/
theorem cturns_filter {f : V → Bool} (hl : xs.length < sizeLine) (hq : SqL X.K H1 a xs) (hx : (x, KN.loc) ∈ Lc) {σf : V → L2.St} (hp : ∀ y, Put N σ x y (σf y))
    (ht : ∀ (y : V) (H' : Hp), y ∈ xs → Fr NoB H1 H' → ∀ (s : Shared) (Hb : Hp) (C : Addr) (cl : List (Str × Addr)) (fp : List Addr), Ctx (X.blk s Hb scope (compEnvC scope cl C X.env) fp) N Lc k →
      RT (X.blk s Hb scope (compEnvC scope cl C X.env) fp) t (σf y) H' fun b H'' => b = f y ∧ Fr NoB H' H'')
    (q : ∀ (Dn : Addr) (H' : Hp), H1 Dn = none → Fr NoB H1 H' → H' Dn = some (.lst (xs.filter f)) → Q (.ref Dn) H') :
    CTurns X N Lc k scope x (.Name x pe) [t] (fun H => SqL X.K H a xs) xs.length (fun i y => xs[i]? = some y) σ H1 Q := by
  intro Dn hD
  refine ⟨fun i H' => H' Dn = some (.lst ((xs.take i).filter f)) ∧ Fr NoB H1 H', ⟨upd_same, Fr.new hD⟩, fun i H _ h => h.2.seqL (fun z => z) hq, ?_, ?_⟩
  · rintro i y H' hi hy ⟨h1, h2⟩
    refine ⟨σf y, hp y, fun s Hb C cl fp cb => rts_one (rt_mono (ht y H' (List.mem_of_getElem? hy) h2 s Hb C cl fp cb) ?_)⟩
    rintro b H'' ⟨e, f2⟩
    have e2 := f2 Dn _ (fun z => z) h1
    cases hb : f y with
    | false =>
      rw [e, hb]
      refine iteF ⟨?_, h2.trans f2⟩
      rw [filter_succ hy, hb, e2]
      simp
    | true =>
      rw [e, hb]
      refine iteT fun s Hb C cl fp cb => re_name cb (hp y).slot hx .loc ?_
      have hlen : ((xs.take i).filter f).length < sizeLine := Nat.lt_of_le_of_lt (Nat.le_trans (List.length_filter_le _ _) (by rw [List.length_take]; omega)) hl
      refine ⟨_, e2, hlen, ?_, (h2.trans f2).put hD⟩
      rw [upd_same, filter_succ hy, hb]
      rfl
  · rintro H' ⟨h1, h2⟩
    rw [List.take_length] at h1
    exact q Dn H' hD h2 h1
end
end GT
namespace GT
open PySem PySem.Spec PyProof.Rows L2
section
variable {X : Cx} {σ : L2.St} {H : Hp} {N : List Str} {L Lc : List (Str × KN)} {k : Nat} {pos p0 p1 p2 p3 : Pos} {Q : VK} {D : Ends}
/-! ### an own exception class with one field that its __init__ lays -/
theorem rs_ost {o e : Expr} {f : Str} {p' : Pos} (q : RE X e σ H fun y H1 => RE X o σ H1 fun x H2 => ∃ a C : Addr, x = .ref a ∧ OexC X.K C ∧ PySem.W.findIn X.K (.ref C) f = some none ∧ H2 a = some (exo a C none) ∧ ∀ dx, H2 dx = none → dx ≠ a → D.nx σ (upd (upd H2 dx (exd dx [(f, y)])) a (exo a C (some dx))))
    (hs : swapsWith e (some (.Attribute o f p')) pos.line X.env = pure false := by with_unfolding_all rfl) : RS X (.Assign [.Attribute o f p'] e pos) D σ H :=
  rs_of (ps_ost PE.self PE.self hs) (pe_mono q fun y H1 q1 => pe_mono q1 fun x H2 ⟨a, C, e1, T, n, h, q2⟩ => ⟨a, C, e1, T, n, .inl ⟨h, q2⟩⟩)
/-- the promise of such an __init__ -/
def spIni (K : PySem.W.Frag) (fl : Str) : Sp := fun vs H Q _ => ∃ (a C : Addr) (v : V), vs = [.ref a, v] ∧ OexC K C ∧ PySem.W.findIn K (.ref C) fl = some none ∧ H a = some (exo a C none) ∧
  ∀ dx, H dx = none → dx ≠ a → Q .non (upd (upd H dx (exd dx [(fl, v)])) a (exo a C (some dx)))
structure ErrC (P : Program) (w : World) (K : PySem.W.Frag) (mg : Str → Option Value) (base : Heap) (nm fl : Str) (C : Addr) : Prop where
  oex : OexC K C
  gC : mg nm = some (.ref C)
  no : PySem.W.findIn K (.ref C) fl = some none
  xf : XfC K C
  ini : ∃ (fI : Addr) (fd : FuncData) (ps : List Str), PySem.W.findIn K (.ref C) "__init__" = some (some (.ref fI)) ∧ PySem.W.typeIn K (.ref fI) = some (.type "function") ∧ FnOk P w K mg base CX0 1 fI fd ps (spIni K fl) ∧ Binds K fd ps []
/-- raise C(e) -/
theorem rs_raise (c : Ctx X N L k) {nm fl : Str} {C : Addr} (EC : ErrC X.prog X.w X.K X.mg X.base nm fl C) (hk : 2 ≤ k) (hg : (nm, KN.glob) ∈ L) {W : WX} (tk : Takes X W) {e : Expr}
    (q : RE X e σ H fun v H1 => ∀ d, H1 d = none → W (.ref C) (some d) σ (upd H1 d (.xd [(fl, v)])))
    (he : starEach (e :: []) X.env = (false, eval e X.env) :: starEach [] X.env := by with_unfolding_all rfl) (hpl : (backTo p1 (starEach [] X.env)).any (·.1) = false := by with_unfolding_all rfl) :
    RS X (.Raise (some (.Call (.Name nm p0) [e] [] p1)) none pos) D σ H := by
  obtain ⟨fI, fd, ps, iC, tI, F1, hb⟩ := EC.ini
  refine rs_of (ps_raise c.calm tk (pmk_oex EC.oex iC tI F1 (c.room.mono hk) hb .nil pass0 (c.gl hg) EC.gC PA.self (c.d1 hg) he hpl)) ?_
  refine ra_cons (pe_mono q fun v H1 q1 => ra_nil ⟨by show 1 ≤ 1000; decide, fun a ha => ⟨a, C, v, rfl, EC.oex, EC.no, upd_same, fun d hd hda => ?_⟩⟩) he
  have hd1 : H1 d = none := by rwa [upd_ne hda] at hd
  refine ⟨rfl, d, [(fl, v)], upd_same, ?_, hd1, ?_⟩
  · rw [upd_ne hda, upd_same]
  · have e1 : upd (del (upd (upd (upd H1 a (exo a C none)) d (exd d [(fl, v)])) a (exo a C (some d))) a) d (.xd [(fl, v)]) = upd H1 d (.xd [(fl, v)]) := by
      funext b
      by_cases hb1 : b = d
      · subst hb1
        rw [upd_same, upd_same]
      · rw [upd_ne hb1, upd_ne hb1]
        by_cases hb2 : b = a
        · subst hb2
          rw [del_same, ha]
        · rw [del_ne hb2, upd_ne hb2, upd_ne hb1, upd_ne hb2]
    rw [e1]
    exact q1 d hd1
/-! ### within an except suite -/
structure CtxS (X : Cx) (N : List Str) (L : List (Str × KN)) : Prop where
  n : X.N = N
  nd : N.Nodup
  look : ∀ p ∈ L, KnIs X p.1 p.2
  dbg : ∀ p ∈ L, okName p.1 = true
theorem CtxS.gl (c : CtxS X N L) {x : Str} (h : (x, KN.glob) ∈ L) : Gl X x := c.look _ h
theorem re_nameS (c : CtxS X N L) {x : Str} {v : V} {j : KN} (s : Slot N σ x v) (h : (x, j) ∈ L) (m : Mine j) (q : Q v H) : RE X (.Name x pos) σ H Q := by
  obtain ⟨i, h1, h2⟩ := s.ix
  rw [← c.n] at h1
  obtain ⟨d1, d2, _⟩ := okName_of (c.dbg _ h)
  refine re_of (pe_var h1 ?_ d1 d2) ⟨_, h2, q⟩
  have e := c.look _ h
  cases m with
  | loc => exact Or.inl e
  | cell => exact Or.inr (Or.inl e.1)
  | cap => exact Or.inr e
theorem re_globS (c : CtxS X N L) {x : Str} {v : V} {u : Value} (h : (x, KN.glob) ∈ L) (hm : X.mg x = some u) (r : RelV v u) (q : Q v H) : RE X (.Name x pos) σ H Q := re_of (pe_glob (c.gl h) hm r (okName_of (c.dbg _ h)).1) q
theorem re_bltnS (c : CtxS X N L) {x : Str} {v : V} {u : Value} (h : (x, KN.glob) ∈ L) (hm : X.mg x = none) (hv : bootBuiltins x = some u) (r : RelV v u) (q : Q v H) : RE X (.Name x pos) σ H Q :=
  re_of (pe_bltn (c.gl h) hm hv r (okName_of (c.dbg _ h)).2.2 (okName_of (c.dbg _ h)).1) q
theorem rs_setS (c : CtxS X N L) {x : Str} {e : Expr} {pos' : Pos} (h : (x, KN.loc) ∈ L) (hx : x ∈ N) (q : RE X e σ H fun v H1 => ∃ σ', Put N σ x v σ' ∧ D.nx σ' H1) (hs : swapsWith e (some (.Name x pos')) pos.line X.env = pure false := by with_unfolding_all rfl) : RS X (.Assign [.Name x pos'] e pos) D σ H := by
  obtain ⟨i, h1⟩ := List.mem_iff_getElem?.mp hx
  have e1 := c.look _ h
  refine rs_of (ps_set (i := i) (by rw [c.n]; exact c.nd) (by rw [c.n]; exact h1) (Or.inl e1) PE.self hs (Or.inr e1)) (pe_mono q fun v H1 ⟨σ', hp, q1⟩ => ?_)
  obtain ⟨i', h2, h3⟩ := hp.ix
  have : i' = i := (List.getElem?_inj (by rcases Nat.lt_or_ge i' N.length with z | z; exact z; rw [List.getElem?_eq_none z] at h2; cases h2) c.nd).mp (h2.trans h1.symm)
  subst this
  subst h3
  exact q1
/-- what the class D says, so that isinstance asks its instances rightly -/
structure KitC (K : PySem.W.Frag) (D : Addr) : Prop where
  cl : (PySem.W.clsIn K D).isSome = true
  ga : PySem.W.findIn K (.ref D) "__getattribute__" = some (some (.builtin "BaseException.__getattribute__"))
  gg : PySem.W.findIn K (.ref D) "__getattr__" = some none
  sb : PySem.W.subIn K (.ref D) (.type "BaseException") = some true
  ca : PySem.W.findIn K (.ref D) "__class__" = some (some (.builtin "object.__class__"))
  gt : PySem.W.specialIn K (.builtin "object.__class__") "__get__" = some (some (.builtin "getset_descriptor.__get__"))
  tk : PySem.W.takesIn K (.builtin "object.__class__") = some true
  mo : PySem.W.mroIn K D (.type "object") = some true
/-- isinstance(e, c) and isinstance(e, (c, ..)), e the exception that the suite holds, with a dict -/
def rIsX (K : PySem.W.Frag) (D a dd : Addr) : List V → Hp → VK → Prop := fun xs H Q => ∃ (c : V) (b : Bool), xs = [.ref a, c] ∧ (∃ fs, H dd = some (.xd fs)) ∧ Q (.bl b) H ∧
  ((∃ u, ClsV c u ∧ PySem.W.kitOne K (.ref D) u = some b) ∨ ∃ (tp : Addr) (cs : List V) (us : List Value), c = .ref tp ∧ H tp = some (.tup cs) ∧ Paired ClsV cs us ∧ PySem.W.kitAny K (.ref D) us = some b)
theorem call_isX {a D dd : Addr} {oe : Obj} {pn : List (Addr × Obj)} (C : KitC X.K D) (hz : Zc (.ref D) (some dd) oe) (hf : ∃ vs, oe.data = .fields vs) : CallR (X.suite a ((a, oe) :: pn)) (.builtin "isinstance") (rIsX X.K D a dd) := by
  intro pins s σ H xs us Q I r h
  obtain ⟨c, b, rfl, ⟨fs, hd⟩, q, h⟩ := h
  cases r with
  | cons rx rr =>
    cases rr with
    | cons rt rr =>
      cases rr
      cases rx
      obtain ⟨hget, _⟩ := I.pin (a, oe) (List.mem_append.mpr (.inl List.mem_cons_self))
      obtain ⟨vs, hv⟩ := hf
      obtain ⟨mA, hns, hr⟩ := (show ObjOk X.prog X.w H s.heap dd (.xd fs) from I.hok dd _ hd)
      obtain ⟨od, ho, hl⟩ := lookIn_ns hns
      have J : PySem.W.InstAt s.heap a oe D (some od) := ⟨hget, hz.1, by unfold PySem.W.notCls; rw [hv] <;> rfl, by rw [hz.2]; exact ho⟩
      have Z := PySem.W.kitx_exc (x := a) (ox := oe) (od := some od) C.cl C.ga C.gg C.sb C.ca C.gt C.tk C.mo
      rcases h with ⟨u, k, e⟩ | ⟨tp, cs, ws, rfl, hT, k, e⟩
      · have e2 := k.eq rt
        subst e2
        exact PySem.W.kia_one Z I.kIn J e (fun z => nomatch z) fun tk => ⟨.bl b, H, I.kept (t' := tk) fun _ _ z => z, rfl, q⟩
      · cases rt
        obtain ⟨_, its, rv, o, h1, h2, n, h3⟩ := (show ObjOk X.prog X.w H s.heap tp (.tup cs) from I.hok tp _ hT)
        have e3 := ClsV.all k rv
        subst e3
        obtain ⟨oc, od', dt, sl⟩ := o
        simp only at h2 h3
        subst h2 h3
        exact PySem.W.kia_tup Z I.kIn J h1 e (fun z => nomatch z) fun tk => ⟨.bl b, H, I.kept (t' := tk) fun _ _ z => z, rfl, q⟩
theorem re_isX (c : CtxS X N L) {e : Expr} {es : List Expr} (h : (("isinstance" : Str), KN.glob) ∈ L) (hm : X.mg "isinstance" = none) (q : RA X (e :: es) σ H fun vs H1 => ClV X (.builtin "isinstance") vs H1 Q)
    (he : starEach (e :: es) X.env = (false, eval e X.env) :: starEach es X.env := by with_unfolding_all rfl) (hpl : (backTo pos (starEach es X.env)).any (·.1) = false := by with_unfolding_all rfl) : RE X (.Call (.Name "isinstance" p0) (e :: es) [] pos) σ H Q :=
  re_of (pe_callB ClR.self (c.gl h) hm (by decide +kernel) PA.self (okName_of (c.dbg _ h)).2.2 (okName_of (c.dbg _ h)).1 he hpl) q
theorem lv_isX {a D dd : Addr} {oe : Obj} {pn : List (Addr × Obj)} {fs : List (Str × V)} {y : V} {u : Value} {b : Bool} (C : KitC X.K D) (hz : Zc (.ref D) (some dd) oe) (hf : ∃ vs, oe.data = .fields vs) (hd : H dd = some (.xd fs)) (k : ClsV y u) (e : PySem.W.kitOne X.K (.ref D) u = some b) (q : Q (.bl b) H) :
    ClV (X.suite a ((a, oe) :: pn)) (.builtin "isinstance") [.ref a, y] H Q := ⟨⟨_, call_isX C hz hf, y, b, rfl, ⟨_, hd⟩, q, .inl ⟨u, k, e⟩⟩⟩
theorem lv_isXT {a D dd tp : Addr} {oe : Obj} {pn : List (Addr × Obj)} {fs : List (Str × V)} {cs : List V} {us : List Value} {b : Bool} (C : KitC X.K D) (hz : Zc (.ref D) (some dd) oe) (hf : ∃ vs, oe.data = .fields vs) (hd : H dd = some (.xd fs)) (hT : H tp = some (.tup cs)) (k : Paired ClsV cs us)
    (e : PySem.W.kitAny X.K (.ref D) us = some b) (q : Q (.bl b) H) : ClV (X.suite a ((a, oe) :: pn)) (.builtin "isinstance") [.ref a, .ref tp] H Q := ⟨⟨_, call_isX C hz hf, .ref tp, b, rfl, ⟨_, hd⟩, q, .inr ⟨tp, cs, us, rfl, hT, k, e⟩⟩⟩
/-- fault.f -/
theorem re_field {a C dd : Addr} {oe : Obj} {pn : List (Addr × Obj)} {e : Expr} {f : Str} {fs : List (Str × V)} {v : V} (T : XfC X.K C) (hno : PySem.W.findIn X.K (.ref C) f = some none) (hz : Zc (.ref C) (some dd) oe) (hf : ∃ vs, oe.data = .fields vs)
    (q : RE (X.suite a ((a, oe) :: pn)) e σ H fun x H1 => x = .ref a ∧ H1 dd = some (.xd fs) ∧ fs.lookup f = some v ∧ Q v H1) (hb : attributeBase e f X.env (eval e X.env) = eval e X.env := by with_unfolding_all rfl) :
    RE (X.suite a ((a, oe) :: pn)) (.Attribute e f pos) σ H Q := re_of (pe_xf T hno hz hf PE.self hb) (pe_mono q fun x H1 ⟨e1, h, l, q1⟩ => ⟨e1, rfl, dd, fs, v, rfl, h, l, q1⟩)
theorem Ctx.tr (c : Ctx X N L k) (pn : List (Addr × Obj)) (xe : Value → Shared → Prop) (po : PassesOwn (model X.prog X.w) X.A X.env xe) : Ctx (X.tr pn xe) N L k := ⟨c.n, c.nd, c.look, c.dbg, c.calm, c.room, po, c.kind⟩
theorem Ctx.suite (c : Ctx X N L k) (a : Addr) (pn : List (Addr × Obj)) : CtxS (X.suite a pn) N L := ⟨c.n, c.nd, c.look, c.dbg⟩
/-- try: body, except x as n: suite (that ends by return) -/
theorem rs_try_as (c : CtxS X N L) (hs : X.stack = X.env :: X.outer) (hf : X.env.frame = some X.env.locals) {x n : Str} {c0 : Value} {b₀ : Stmt} {body suite : List Stmt} {np pos' : Pos} (hn : (n, KN.loc) ∈ L) (mn : n ∈ N) (hc : Names X x c0)
    (q : ∀ (pn : List (Addr × Obj)) (xe : Value → Shared → Prop) (W : WX), Takes (X.tr pn xe) W → PassesOwn (model X.prog X.w) X.A X.env xe →
      (∀ (cls : Value) (d : Option Addr) (σ' : L2.St) (H' : Hp), PySem.W.exmOne X.K cls c0 = some true →
        (∀ (a : Addr) (oe : Obj) (pn2 : List (Addr × Obj)) (nx bk ct : L2.St → Hp → Prop) (σa : L2.St), H' a = none → (∀ i : Nat, N[i]? = some n → σa = σ'.set i (some (.ref a))) → σ'.length = N.length → Zc cls d oe → (∃ vs, oe.data = .fields vs) → CtxS (X.suite a ((a, oe) :: pn2)) N L →
          RB (X.suite a ((a, oe) :: pn2)) (b₀ :: suite) { nx := nx, rt := D.rt, bk := bk, ct := ct } σa H') → W cls d σ' H') →
      RB (X.tr pn xe) body D σ H) :
    RS X (.Try body [.ExceptHandler (some (.Name x np)) (some n) (b₀ :: suite) pos'] [] [] pos) D σ H := by
  obtain ⟨i, h1⟩ := List.mem_iff_getElem?.mp mn
  refine rs_of (ps_try_as (i := i) (c := c0) (Wout := fun _ _ _ _ => False) (tb := fun W D σ H => ∀ (pn : List (Addr × Obj)) (xe : Value → Shared → Prop), Takes (X.tr pn xe) W → PassesOwn (model X.prog X.w) X.A X.env xe → RB (X.tr pn xe) body D σ H)
    (ts := fun a cls d D σ H => ∀ (oe : Obj) (pn2 : List (Addr × Obj)), σ.length = N.length → Zc cls d oe → (∃ vs, oe.data = .fields vs) → RB (X.suite a ((a, oe) :: pn2)) (b₀ :: suite) D σ H)
    hs hf (by rw [c.n]; exact c.nd) (by rw [c.n]; exact h1) (c.look _ hn) hc takes0 (fun W pn xe tk po => ?_) (fun a oe cls d pn hz hd => ?_)) ?_
  · exact ⟨fun pins s σ H D I h => PSs.self.run pins s σ H D I (h pn xe tk po)⟩
  · exact ⟨fun pins s σ H D I h => PSs.self.run pins s σ H D I (h oe pn (by rw [I.len, ← c.n]) hz hd)⟩
  · intro pn xe tk po
    refine q pn xe _ tk po fun cls d σ' H' e r => ⟨true, e, fun _ a ha => ?_, fun z => nomatch z⟩
    exact fun oe pn2 hl hz hd => r a oe pn2 _ _ _ _ ha (fun j hj => by rw [nodup_ix c.nd hj h1]) (by simpa using hl) hz hd ⟨c.n, c.nd, c.look, c.dbg⟩
/-- x = y = e -/
theorem rs_set2 (c : Ctx X N L k) {x y : Str} {e : Expr} {j j' : KN} (h : (x, j) ∈ L) (m : Own j) (hx : x ∈ N) (h' : (y, j') ∈ L) (m' : Own j') (hy : y ∈ N) (q : RE X e σ H fun v H1 => ∃ σ' σ'', Put N σ x v σ' ∧ Put N σ' y v σ'' ∧ D.nx σ'' H1)
    (hs : swapsWithSole [.Name x p0, .Name y p1] e pos.line X.env = pure false := by with_unfolding_all rfl) (hw : swappedStores [.Name x p0, .Name y p1] e X.env = pure none := by with_unfolding_all rfl)
    (h1 : (assignEach [.Name x p0, .Name y p1] X.env).map (·.2) = [assign (.Name x p0) X.env, assign (.Name y p1) X.env] := by with_unfolding_all rfl) : RS X (.Assign [.Name x p0, .Name y p1] e pos) D σ H := by
  obtain ⟨i, g, h2⟩ := c.pg (p0 := p0) h m hx
  obtain ⟨i', g', h2'⟩ := c.pg (p0 := p1) h' m' hy
  refine rs_of (t := fun D σ H => RE X e σ H fun v H1 => ∃ σ' σ'', Put N σ x v σ' ∧ Put N σ' y v σ'' ∧ D.nx σ'' H1) ⟨fun pins s σ H D I h => ?_⟩ q
  refine wpAny_Assign_two (thn (PE.self.run pins s σ H _ I h) fun v s1 ⟨z, H1, I1, r1, σ', σ'', a1, a2, q1⟩ => ?_)
  rw [h2 a1] at a2
  rw [h2' a2] at q1
  exact thn (g.run pins s1 σ H1 z v (fun σ2 H2 => σ2 = σ.set i (some z) ∧ H2 = H1) I1 r1 ⟨rfl, rfl⟩) fun _ s2 ⟨σ2, H2, I2, e1, e2⟩ => by
    subst e1 e2
    exact thn (g'.run pins s2 _ _ z v (fun σ2 H2 => D.nx σ2 H2) I2 r1 q1) fun _ s3 q => q
end
end GT
namespace GT
open PySem PySem.Spec PyProof.Rows L2
section
variable {X : Cx} {σ : L2.St} {H : Hp} {N : List Str} {L Lc : List (Str × KN)} {k : Nat} {pos p0 p1 p2 p3 : Pos} {Q : VK} {D : Ends} {x y : V} {p : Addr} {xs : List V} {b : Bool}
/-- for x, y in l, l a list of pairs -/
theorem rs_for_list2 (c : Ctx X N L k) {x y : Str} {l : Expr} {body : List Stmt} {j j' : KN} {kt : Nat} {q0 q1 q2 : Pos} (h : (x, j) ∈ L) (m : Own j) (hx : x ∈ N) (h' : (y, j') ∈ L) (m' : Own j') (hy : y ∈ N)
    (q : RE X l σ H fun v H1 => ∃ a xs, v = .ref a ∧ SqL X.K H1 a xs ∧ ∃ Pv : Nat → L2.St → Hp → Prop, Pv 0 σ H1 ∧ (∀ i σ H, Pv i σ H → SqL X.K H a xs) ∧
      (∀ i w σ H, xs[i]? = some w → Pv i σ H → ∃ t u v, w = .ref t ∧ SqT X.K H t [u, v] ∧ ∃ σ' σ'', Put N σ x u σ' ∧ Put N σ' y v σ'' ∧ RB X body { D with nx := Pv (i + 1), ct := Pv (i + 1), bk := D.nx } σ'' H) ∧ (∀ σ H, Pv xs.length σ H → D.nx σ H))
    (hs : ∀ x, foldedSetIterable l X.env x = pure x := by intro _; with_unfolding_all rfl)
    (hn : (assignEach [.Name x q0, .Name y q1] X.env).length = 2 := by with_unfolding_all rfl) (hst : (assignEach [.Name x q0, .Name y q1] X.env).findIdx? (·.1) = none := by with_unfolding_all rfl)
    (ha : (assignEach [.Name x q0, .Name y q1] X.env).map (·.2) = assign (.Name x q0) X.env :: (assignEach [.Name y q1] X.env).map (·.2) := by with_unfolding_all rfl) (hb : (assignEach [.Name y q1] X.env).map (·.2) = assign (.Name y q1) X.env :: (assignEach [] X.env).map (·.2) := by with_unfolding_all rfl) :
    RS X (.For (.Tuple [.Name x q0, .Name y q1] kt q2) l body [] pos) D σ H := by
  obtain ⟨i, g, h2⟩ := c.pg (p0 := q0) h m hx
  obtain ⟨i', g', h2'⟩ := c.pg (p0 := q1) h' m' hy
  refine rs_of (ps_for c.po c.calm (pi_list PE.self) (pg_tup (n := 2) c.calm (pgs_cons g (pgs_cons g' pgs_nil hb) ha) hn hst) PSs.self hs) (pe_mono q fun v H1 ⟨a, xs, e, hq, Pv, p1, p2, p3, p4⟩ => ⟨a, e, ⟨xs, hq⟩, ?_⟩)
  refine for_list (K := X.K) (a := a) (xs := xs) Pv p1 (fun i σ H _ p => p2 i σ H p) (fun i w σ H e p => ?_) p4
  obtain ⟨t, u, v, rfl, hT, σ', σ'', a1, a2, r⟩ := p3 i w σ H e p
  rw [h2' a2, h2 a1] at r
  exact ⟨t, _, rfl, hT, rfl, _, _, rfl, _, _, rfl, rfl, r⟩
/-- x is True, x is False; x no reference -/
theorem op_isB : OpR X (compareOp .Is) (fun x y H Q => ∃ b, y = .bl b ∧ (x = .non ∨ (∃ c, x = .bl c) ∨ (∃ i, x = .int i) ∨ (∃ z, x = .str z)) ∧ Q (.bl (decide (x = .bl b))) H) := by
  intro pins s σ H x y v u Q I rx ry h
  obtain ⟨b, rfl, hx, q⟩ := h
  cases ry
  have g : ∀ r, r = decide (x = .bl b) → (L2.EP X pins σ Q (.bool r) s) := fun r e => fin_bl I q e.symm
  rcases hx with rfl | ⟨c, rfl⟩ | ⟨i, rfl⟩ | ⟨z, rfl⟩
  · cases rx
    exact wpAny_pure (g _ rfl)
  · cases rx
    refine wpAny_pure (g _ ?_)
    cases b <;> cases c <;> rfl
  · obtain ⟨t, rfl⟩ := rx
    exact wpAny_pure (g _ rfl)
  · obtain ⟨t, rfl⟩ := rx
    exact wpAny_pure (g _ rfl)
theorem cv_isB_b {c : Bool} (q : Q (.bl (decide (c = b))) H) : CpV X .Is (.bl c) (.bl b) H Q := ⟨⟨_, op_isB, b, rfl, .inr (.inl ⟨c, rfl⟩), by
  have e : decide (V.bl c = V.bl b) = decide (c = b) := by simp
  rw [e]
  exact q⟩⟩
theorem cv_isB_i {i : Int} (q : Q (.bl false) H) : CpV X .Is (.int i) (.bl b) H Q := ⟨⟨_, op_isB, b, rfl, .inr (.inr (.inl ⟨i, rfl⟩)), by rw [decide_eq_false (fun e => nomatch e)]; exact q⟩⟩
theorem cv_isB_s {z : Str} (q : Q (.bl false) H) : CpV X .Is (.str z) (.bl b) H Q := ⟨⟨_, op_isB, b, rfl, .inr (.inr (.inr ⟨z, rfl⟩)), by rw [decide_eq_false (fun e => nomatch e)]; exact q⟩⟩
theorem cv_isB_n (q : Q (.bl false) H) : CpV X .Is .non (.bl b) H Q := ⟨⟨_, op_isB, b, rfl, .inl rfl, by rw [decide_eq_false (fun e => nomatch e)]; exact q⟩⟩
/-- isinstance(x, T), T a built-in type -/
theorem lv_isT {t T : String} (ty : TyX X.K H x (.type t)) (e : kitB t T = some b) (q : Q (.bl b) H) : ClV X (.builtin "isinstance") [x, .ty T] H Q := lv_isi (.ty T) ty (kit_ty e) q
theorem lv_isT_n {T : String} (e : kitB "NoneType" T = some b) (q : Q (.bl b) H) : ClV X (.builtin "isinstance") [.non, .ty T] H Q := lv_isT (.base .non) e q
theorem lv_isT_b {T : String} {c : Bool} (e : kitB "bool" T = some b) (q : Q (.bl b) H) : ClV X (.builtin "isinstance") [.bl c, .ty T] H Q := lv_isT (.base (.bl c)) e q
theorem lv_isT_i {T : String} {i : Int} (e : kitB "int" T = some b) (q : Q (.bl b) H) : ClV X (.builtin "isinstance") [.int i, .ty T] H Q := lv_isT (.base (.int i)) e q
theorem lv_isT_s {T : String} {z : Str} (e : kitB "str" T = some b) (q : Q (.bl b) H) : ClV X (.builtin "isinstance") [.str z, .ty T] H Q := lv_isT (.base (.str z)) e q
theorem lv_isT_l {T : String} (h : H p = some (.lst xs)) (e : kitB "list" T = some b) (q : Q (.bl b) H) : ClV X (.builtin "isinstance") [.ref p, .ty T] H Q := lv_isT (.base (.lst h)) e q
theorem lv_isT_t {T : String} (h : H p = some (.tup xs)) (e : kitB "tuple" T = some b) (q : Q (.bl b) H) : ClV X (.builtin "isinstance") [.ref p, .ty T] H Q := lv_isT (.base (.tup h)) e q
theorem iteNT {A B : Prop} (h : B) : if (!true) = true then A else B := h
theorem iteNF {A B : Prop} (h : A) : if (!false) = true then A else B := h
theorem iteD {p : Prop} [Decidable p] {A B : Prop} (hp : p) (h : A) : if decide p = true then A else B := by
  rw [decide_eq_true hp]
  exact h
theorem iteDN {p : Prop} [Decidable p] {A B : Prop} (hp : ¬ p) (h : B) : if decide p = true then A else B := by
  rw [decide_eq_false hp]
  exact h
/-! ### a def that may raise, called where it doesn't -/
theorem re_callX (c : Ctx X N L k) {x : Str} {ps : List Str} {n : Nat} {sp : Sp} {e : Expr} {es : List Expr} (F : DefP X.prog X.w X.K X.mg X.base (L2.CX X.prog X.w) x ps n sp) (hn : n ≤ k) (h : (x, KN.glob) ∈ L) {E : XK} (hx : Passes (L2.CX X.prog X.w) X E) (q : RA X (e :: es) σ H fun vs H1 => sp vs H1 Q E)
    (he : starEach (e :: es) X.env = (false, eval e X.env) :: starEach es X.env := by with_unfolding_all rfl) (hpl : (backTo pos (starEach es X.env)).any (·.1) = false := by with_unfolding_all rfl) : RE X (.Call (.Name x p0) (e :: es) [] pos) σ H Q := by
  obtain ⟨f, fd, F1, m, kp, b⟩ := F.ex
  refine re_of (pe_call F1 (c.room.mono hn) (c.gl h) m kp b .nil hx PA.self (c.d1 h) he hpl) ?_
  exact ra_mono q fun vs H1 d => by rw [List.append_nil]; exact d
end
section
variable {P : Program} {w : World} {K : PySem.W.Frag} {mg : Str → Option Value} {base : Heap} {x : Str} {st : Stmt} {N ps : List Str} {L : List (Str × KN)} {k : Nat} {sp : Sp} {f : Addr} {fd : FuncData}
/-- a def that may raise keeps its promise -/
theorem defPX_of (F : FnP K x st f fd) (gx : mg x = some (.ref f)) (M : Nms st N ps L) (hb : Binds K fd ps []) (len : ∀ vs H Q E, sp vs H Q E → vs.length = ps.length)
    (body : ∀ (X : Cx), Ctx X N L k → At5 X P w K mg base → ∀ (vs : List V) (H : Hp) (Q : VK) (E : XK), Takes X (fun cls d _ H' => E cls d H') → sp vs H Q E → RB X (defBody st) { nx := fun _ H' => Q .non H', rt := Q } (start N vs) H) : DefP P w K mg base (L2.CX P w) x ps (k + 1) sp := by
  refine ⟨f, fd, F.ok M.S len (fun cdv A outer s H vs Q E hr h => ?_), gx, F.kp, hb⟩
  have c : Ctx (cxOf (L2.CX P w) P w K mg base N x (defScope st) f cdv A outer s H E) N L k := ⟨rfl, M.S.nd, knIs_of M rfl (fun _ => rfl), M.db, rfl, hr, passes_of rfl, M.S.kind⟩
  exact (body _ c ⟨rfl, rfl, rfl, rfl, rfl⟩ vs H Q E (takes_of rfl rfl rfl rfl) h).ex
end
/-- the depth of data -/
inductive Dep : Nat → D → Prop
  | non {n : Nat} : Dep n .non
  | bl {n : Nat} {b : Bool} : Dep n (.bl b)
  | int {n : Nat} {i : Int} : Dep n (.int i)
  | str {n : Nat} {z : Str} : Dep n (.str z)
  | lst {n : Nat} {l : List D} (h : ∀ d ∈ l, Dep n d) : Dep (n + 1) (.lst l)
  | tup {n : Nat} {l : List D} (h : ∀ d ∈ l, Dep n d) : Dep (n + 1) (.tup l)
end GT
namespace GT
open PySem PySem.Spec PyProof.Rows L2
/-! ### frames that let the code tables grow -/
def Fx (B : Addr → Prop) (H H' : Hp) : Prop := ∀ a o, ¬ B a → (∀ ps, o ≠ .tbl ps) → H a = some o → H' a = some o
section
variable {B : Addr → Prop} {K : PySem.W.Frag} {H H1 H2 : Hp} {a p : Addr} {o : HO} {xs : List V}
theorem Fr.fx (f : Fr B H H1) : Fx B H H1 := fun a o n _ e => f a o n e
theorem Fx.ext (f : LamX.ExtN H H1) : Fx NoB H H1 := fun a o _ n e => f a o e n
theorem Fx.refl : Fx B H H := fun _ _ _ _ h => h
theorem Fx.trans (h : Fx B H H1) (g : Fx B H1 H2) : Fx B H H2 := fun a o n t e => g a o n t (h a o n t e)
theorem Fx.any (h : Fx NoB H H1) : Fx B H H1 := fun a o _ t e => h a o (fun z => z) t e
theorem Fx.lst (f : Fx B H H1) (n : ¬ B a) (h : H a = some (.lst xs)) : H1 a = some (.lst xs) := f _ _ n (fun _ z => by cases z) h
theorem Fx.tup (f : Fx B H H1) (n : ¬ B a) (h : H a = some (.tup xs)) : H1 a = some (.tup xs) := f _ _ n (fun _ z => by cases z) h
theorem Fx.xd {fs : List (Str × V)} (f : Fx B H H1) (n : ¬ B a) (h : H a = some (.xd fs)) : H1 a = some (.xd fs) := f _ _ n (fun _ z => by cases z) h
theorem Fx.seqL (f : Fx B H H1) (n : ¬ B a) (h : SqL K H a xs) : SqL K H1 a xs := by
  rcases h with (h | ⟨o, h⟩) | h
  · exact .inl (.inl (f _ _ n (fun _ z => by cases z) h))
  · exact .inl (.inr ⟨o, f _ _ n (fun _ z => by cases z) h⟩)
  · exact .inr h
theorem Fx.dt {v : V} {d : D} (f : Fx B H H1) (h : Dt K B H v d) : Dt K B H1 v d := by
  induction h with
  | non => exact .non
  | bl => exact .bl
  | int => exact .int
  | str => exact .str
  | lst n t l _ ih => exact .lst n (f.lst n t) l ih
  | tup n t l _ ih => exact .tup n (f.tup n t) l ih
theorem Fx.dts {vs : List V} {ds : List D} (f : Fx B H H1) (h : Dts K B H vs ds) : Dts K B H1 vs ds := ⟨h.1, fun i v d a b => f.dt (h.2 i v d a b)⟩
theorem Fx.box {b : Addr} (f : Fx NoB H H1) (h : BoxAt H b) : BoxAt H1 b := by
  obtain ⟨g, r, h1, h2⟩ := h
  exact ⟨g, r, f.lst (fun z => z) h1, h2⟩
theorem Fx.put (f : Fx B H H1) (h : H p = none) : Fx B H (upd H1 p o) := fun a u n t e => by
  rw [upd_ne (ne_of_none e h)]
  exact f a u n t e
theorem tabs_fr {T : List (Addr × Str)} (t : LamX.Tabs T H) (f : Fr NoB H H1) : LamX.Tabs T H1 := t.ext fun b o e => f b o (fun z => z) e
end
/-! ### a def of whose code one knows where it stands -/
structure FnC (K : PySem.W.Frag) (x : Str) (st : Stmt) (f cc : Addr) (fd : FuncData) : Prop where
  ex : ∃ (oc : Value) (od : Option Addr) (dV kV doc pm : Value) (an : Option Addr) (ct : Value) (osl : Array (Option Value)),
    fd = PySem.W.fnOf x x (defArgs st) (defBody st) (defScope st) dV kV doc pm an (.ref cc) ct ∧ K.lookup f = some ⟨oc, od, .func fd, osl⟩ ∧ PySem.W.codeIn K (.ref cc) x = true
  kp : PySem.W.keepIn K (.ref f) = true
section
variable {P : Program} {w : World} {K : PySem.W.Frag} {mg : Str → Option Value} {base : Heap} {x : Str} {st : Stmt} {N ps : List Str} {L : List (Str × KN)} {k : Nat} {sp : Sp} {f cc : Addr} {fd : FuncData}
theorem defPC_of (F : FnC K x st f cc fd) (gx : mg x = some (.ref f)) (M : Nms st N ps L) (hb : Binds K fd ps []) (len : ∀ vs H Q E, sp vs H Q E → vs.length = ps.length)
    (body : ∀ (X : Cx), Ctx X N L k → At5 X P w K mg base → X.env.code = .ref cc → X.env.qual = x ++ ".<locals>." → ∀ (vs : List V) (H : Hp) (Q : VK) (E : XK), sp vs H Q E → RB X (defBody st) { nx := fun _ H' => Q .non H', rt := Q } (start N vs) H) : DefP P w K mg base CX0 x ps (k + 1) sp := by
  obtain ⟨oc, od, dV, kV, doc, pm, an, ct, osl, rfl, lk, hcd⟩ := F.ex
  refine ⟨f, _, fn_of lk hcd M.S len (fun A outer s H vs Q E hr h => ?_), gx, F.kp, hb⟩
  have c : Ctx (cxOf CX0 P w K mg base N x (defScope st) f (.ref cc) A outer s H E).nox N L k := ⟨rfl, M.S.nd, knIs_of M rfl (fun _ => rfl), M.db, rfl, hr, PassesOwn.never, M.S.kind⟩
  obtain ⟨t, ht, q⟩ := (body _ c ⟨rfl, rfl, rfl, rfl, rfl⟩ rfl rfl vs H Q E h).ex
  exact ⟨t, ht.nox, q⟩
end
/-! ### a lambda handed to a def -/
/-- the lambda's own scope within a def of the names L; Ll its names -/
def lamOk (L : List (Str × KN)) (scope : Scope) (Ll : List (Str × KN)) : Bool :=
  decide (scope.kind = .function) && !scope.isCoroutine && !scope.isGenerator && (scope.names.all fun y => !decide (y.2 = .local) && !decide (y.2 = .cell) && (!decide (y.2 = .free) || (decide ((y.1, KN.cell) ∈ L) || decide ((y.1, KN.cap) ∈ L)))) &&
    (Ll.all fun p => decide (p ∈ knAll scope.names)) && decide (scope.names.map (·.1)).Nodup && (Ll.all fun p => okName p.1) && (Ll.all fun p => decide (p.2 = .cap) || decide (p.2 = .glob))
section
variable {X : Cx} {σ : L2.St} {H : Hp} {N : List Str} {L Ll : List (Str × KN)} {k : Nat} {pos p0 p1 : Pos} {Q : VK} {scope : Scope}
def LamR (X : Cx) (scope : Scope) (body : Expr) (kl : Nat) (σ : L2.St) : XK → Hp → VK → Prop := fun E H Q => ∀ (A : Around) (outer : List Env) (s : Shared) (H0 : Hp) (f c' : Addr), Room kl (A.deeper (LamX.lamEnv X scope s.heap.objs.size f c')) → RE (LamX.lamCx X A outer s H0 E scope f c') body σ H Q
theorem lamOk_of (c : Ctx X N L k) (h : lamOk L scope Ll = true) : LamX.LamS X.env.scope scope ∧ (∀ p ∈ Ll, p ∈ knAll scope.names) ∧ (scope.names.map (·.1)).Nodup ∧ (∀ p ∈ Ll, okName p.1 = true) ∧ ∀ p ∈ Ll, p.2 = .cap ∨ p.2 = .glob := by
  unfold lamOk at h
  simp only [Bool.and_eq_true, Bool.or_eq_true, Bool.not_eq_true', decide_eq_true_eq, decide_eq_false_iff_not, List.all_eq_true] at h
  obtain ⟨⟨⟨⟨⟨⟨⟨h1, h2⟩, h3⟩, h4⟩, h5⟩, h6⟩, h7⟩, h8⟩ := h
  refine ⟨⟨h1, h2, h3, fun y hy => ⟨(h4 y hy).1.1, (h4 y hy).1.2⟩, fun y hy e => ?_⟩, h5, h6, h7, h8⟩
  rcases (h4 y hy).2 with z | z | z
  · exact absurd e z
  · exact .inl (c.look _ z).1
  · exact c.look _ z
theorem LamR.intro (c : Ctx X N L k) (h : lamOk L scope Ll = true) {body : Expr} {kl : Nat} {E : XK} (q : ∀ Xl : Cx, Ctx Xl N Ll kl → At5 Xl X.prog X.w X.K X.mg X.base → Takes Xl (fun cls d _ H' => E cls d H') → RE Xl body σ H Q) : LamR X scope body kl σ E H Q := by
  obtain ⟨S, h5, h6, h7, h8⟩ := lamOk_of c h
  intro A outer s H0 f c' hr
  refine q _ ⟨c.n, c.nd, fun p hp => ?_, h7, rfl, hr, passes_of rfl, S.kind⟩ ⟨rfl, rfl, rfl, rfl, rfl⟩ (takes_of rfl rfl rfl rfl)
  obtain ⟨y, m⟩ := p
  obtain ⟨j, h1, h2⟩ := knAll_mem (h5 _ hp)
  have e1 : (LamX.lamCx X A outer s H0 E scope f c').env.scope.names.lookup y = some j := lookup_mem h6 h1
  cases j <;> simp only [knOf] at h2 <;> cases h2
  · exact absurd rfl (S.own _ h1).1
  · exact absurd rfl (S.own _ h1).2
  · exact .inr e1
  · exact e1
theorem re_lamcall (c : Ctx X N L k) {T : List (Addr × Str)} {TT : (XK → Hp → VK → Prop) → Hp → VK → Prop} {x a : Str} {sth : Stmt} {g cc P : Addr} {fdh : FuncData} {Ng : List Str} {params : Arguments} {body : Expr} {kl : Nat} (Ll : List (Str × KN)) (hok : lamOk L scope Ll = true)
    (FH : FnP X.K x sth g fdh) (gx : X.mg x = some (.ref g)) (bH : Binds X.K fdh [a] []) (Sg : FnScope Ng [a] (defScope sth)) (hNg : Ng[0]? = some a) (hva : Vis (defScope sth) a) (ha : okName a = true) (hG : ∀ cdg, LamX.GivesTo X Ng x (defScope sth) g cdg (defBody sth) a (X.env.qual ++ "<lambda>") TT)
    (TB : LamX.TabB X.base X.mg cc P) (hcode : X.env.code = .ref cc) (hmT : (P, X.env.qual ++ "<lambda>") ∈ T) (hu : ∀ p ∈ T, p.1 = P → p.2 = X.env.qual ++ "<lambda>") (hk : kl + 2 ≤ k) (hgl : (x, KN.glob) ∈ L)
    (q : LamX.Tabs T H ∧ ∀ H1, LamX.ExtN H H1 → LamX.Tabs T H1 → TT (LamR X scope body kl σ) H1 Q)
    (hdef : defaultsOf params X.env = ([], []) := by with_unfolding_all rfl) (hbind : ∀ (q : Str) (cl : List (Str × Addr)) (pm cv ctv : Value), bindArgs (PySem.W.kla_fn "<lambda>" q params body scope cl pm cv ctv) ⟨[], []⟩ = pure [] := by intros; with_unfolding_all rfl) :
    RE X (.Call (.Name x p0) [.Lambda params body scope p1] [] pos) σ H Q := by
  obtain ⟨oc, od, dV, kV, doc, pm, an, cdv, ct, osl, rfl, lk, hcd, _, _⟩ := FH.ex
  obtain ⟨d1, d2, d3⟩ := okName_of ha
  refine re_of (LamX.pe_lamcall (t := fun E σ H Q => LamR X scope body kl σ E H Q) (c.gl hgl) gx FH.kp lk hcd bH Sg hNg hva (hG cdv) TB hcode hmT hu (c.room.mono hk) (lamOk_of c hok).1 hdef hbind (fun A outer s H E f c' hr => ?_) (c.d1 hgl) d1 d2) q
  exact ⟨fun pins s' σ H' Q' I h => PE.self.run pins s' σ H' Q' I (h A outer s H f c' hr)⟩
/-- a pair of constants is stored as one folded tuple -/
theorem swapped_folded {x y : Expr} {a b : Expr} {kt k2 : Nat} {q1 q2 : Pos} {env : Env} (h : [a, b].all (foldedForSure 8) = true) : swappedStores [.Tuple [x, y] kt q1] (.Tuple [a, b] k2 q2) env = pure none := by
  unfold swappedStores
  dsimp only
  rw [h]
  repeat' first
    | rfl
    | (rename_i hh _; exact absurd rfl hh)
    | split
/-- x, y = e, e a pair -/
theorem rs_tup2 (c : Ctx X N L k) {x y : Str} {e : Expr} {j j' : KN} {kt : Nat} {q0 q1 q2 : Pos} (h : (x, j) ∈ L) (m : Own j) (hx : x ∈ N) (h' : (y, j') ∈ L) (m' : Own j') (hy : y ∈ N) {D : Ends}
    (q : RE X e σ H fun w H1 => ∃ t u v, w = .ref t ∧ SqT X.K H1 t [u, v] ∧ ∃ σ' σ'', Put N σ x u σ' ∧ Put N σ' y v σ'' ∧ D.nx σ'' H1)
    (hw : swappedStores [.Tuple [.Name x q0, .Name y q1] kt q2] e X.env = pure none) (hs : swapsWithSole [.Tuple [.Name x q0, .Name y q1] kt q2] e pos.line X.env = pure false := by with_unfolding_all rfl)
    (h1 : (assignEach [.Tuple [.Name x q0, .Name y q1] kt q2] X.env).map (·.2) = [assign (.Tuple [.Name x q0, .Name y q1] kt q2) X.env] := by with_unfolding_all rfl)
    (hn : (assignEach [.Name x q0, .Name y q1] X.env).length = 2 := by with_unfolding_all rfl) (hst : (assignEach [.Name x q0, .Name y q1] X.env).findIdx? (·.1) = none := by with_unfolding_all rfl)
    (ha : (assignEach [.Name x q0, .Name y q1] X.env).map (·.2) = assign (.Name x q0) X.env :: (assignEach [.Name y q1] X.env).map (·.2) := by with_unfolding_all rfl) (hb : (assignEach [.Name y q1] X.env).map (·.2) = assign (.Name y q1) X.env :: (assignEach [] X.env).map (·.2) := by with_unfolding_all rfl) :
    RS X (.Assign [.Tuple [.Name x q0, .Name y q1] kt q2] e pos) D σ H := by
  obtain ⟨i, g, h2⟩ := c.pg (p0 := q0) h m hx
  obtain ⟨i', g', h2'⟩ := c.pg (p0 := q1) h' m' hy
  refine rs_of (ps_asg PE.self (pg_tup (n := 2) c.calm (pgs_cons g (pgs_cons g' pgs_nil hb) ha) hn hst) hs hw h1) (pe_mono q fun w H1 ⟨t, u, v, e1, hT, σ', σ'', a1, a2, r⟩ => ?_)
  subst e1
  rw [h2' a2, h2 a1] at r
  exact ⟨t, _, rfl, hT, rfl, _, _, rfl, _, _, rfl, rfl, r⟩
/-- x, y = a, b: not all of it constants -/
theorem swapped_two {x y : Str} {a b : Expr} {px py q1 q2 : Pos} {kt k2 : Nat} {env : Env} (hb : env.blockKind = .function) (hx : env.kindOf x = some .local) (hy : env.kindOf y = some .local) (hl : (px.line == py.line) = true) (hd : ([x, y] : List Str).eraseDups = [x, y])
    (ha : ∀ v p, a ≠ .Starred v p) (hb2 : ∀ v p, b ≠ .Starred v p) (h1 : [a, b].all (foldedForSure 8) = false) (h2 : [a, b].all (constantsAlone 8) = false) :
    swappedStores [.Tuple [.Name x px, .Name y py] kt q1] (.Tuple [a, b] k2 q2) env = pure (some [x, y]) := by
  have hl' : px.line = py.line := by simpa using hl
  unfold swappedStores
  dsimp only
  rw [h1, h2]
  simp only [Bool.false_eq_true, if_false]
  rw [if_neg (by simp [hb])]
  have hstar : ∀ (f : Expr → Bool), (∀ e, (∀ v p, e ≠ .Starred v p) → f e = false) → [a, b].any f = false := fun f hf => by
    simp [hf a ha, hf b hb2]
  rw [hstar _ (fun e he => by
    split
    · exact absurd rfl (he _ _)
    · rfl)]
  simp [hx, hy, hl', hd, Expr.pos]
theorem Ctx.bk (c : Ctx X N L k) : X.env.blockKind = .function := by
  unfold Env.blockKind
  rw [c.kind]
  rfl
theorem rs_par2 (c : Ctx X N L k) {x y : Str} {a b : Expr} {px py pt : Pos} {kt k2 : Nat} {pt2 : Pos} {D : Ends} (hx : (x, KN.loc) ∈ L) (hy : (y, KN.loc) ∈ L) (mx : x ∈ N) (my : y ∈ N) (hxy : x ≠ y)
    (q : RA X [a, b] σ H fun vs H1 => ∃ v w σ' σ'', vs = [v, w] ∧ Put N σ x v σ' ∧ Put N σ' y w σ'' ∧ D.nx σ'' H1)
    (hl : (px.line == py.line) = true := by decide +kernel) (hd : ([x, y] : List Str).eraseDups = [x, y] := by decide +kernel) (ha : ∀ v p, a ≠ .Starred v p := by intros; nofun) (hb2 : ∀ v p, b ≠ .Starred v p := by intros; nofun)
    (h1 : [a, b].all (foldedForSure 8) = false := by decide +kernel) (h2 : [a, b].all (constantsAlone 8) = false := by decide +kernel)
    (hs : swapsWithSole [.Tuple [.Name x px, .Name y py] kt pt] (.Tuple [a, b] k2 pt2) pos.line X.env = pure false := by with_unfolding_all rfl) :
    RS X (.Assign [.Tuple [.Name x px, .Name y py] kt pt] (.Tuple [a, b] k2 pt2) pos) D σ H :=
  rs_par c hx hy mx my hxy q (swapped_two c.bk (c.lcl hx) (c.lcl hy) hl hd ha hb2 h1 h2) hs
end
end GT
namespace GT
open PySem PySem.Spec PyProof.Rows L2
/-! ### Bools of the head that tell an own exception class -/
def oexB (K : PySem.W.Frag) (C : Addr) : Bool := match K.lookup C with
  | some ⟨.type "type", _, .cls cd, sl⟩ => (match cd.mro, sl.toList with
    | .ref C' :: bm, [_, _, _, _, some (.builtin n), _] => C' == C && n == "ValueError.__new__" && !cd.hasDel && cd.hasDict && PySem.HandSPX.refsVE bm
    | _, _ => false)
  | _ => false
theorem oexB_ok {K : PySem.W.Frag} {C : Addr} (q : oexB K C = true) : ∃ nm q N bs bm sn sub ab col dd k0 k1 k2 k3 k5, K.lookup C = some (excClassObj nm q C N bs bm true sn sub ab col dd k0 k1 k2 k3 k5 "ValueError.__new__") ∧ PySem.HandSPX.refsVE bm = true := by
  unfold oexB at q
  split at q
  · rename_i dd cd sl ho
    split at q
    · rename_i C' bm k0 k1 k2 k3 n k5 hm hs
      simp only [Bool.and_eq_true, beq_iff_eq, Bool.not_eq_true'] at q
      obtain ⟨⟨⟨⟨rfl, rfl⟩, hdel⟩, hdict⟩, ht⟩ := q
      obtain ⟨nm, bs, mro, ns, qn, hd, sn, sub, ab, col, del⟩ := cd
      dsimp only at hm hdel hdict
      subst hm hdel hdict
      have hsl : sl = #[k0, k1, k2, k3, some (.builtin "ValueError.__new__"), k5] := by
        obtain ⟨l⟩ := sl
        simp only at hs
        rw [hs]
      subst hsl
      exact ⟨nm, qn, ns, bs, bm, sn, sub, ab, col, dd, k0, k1, k2, k3, k5, ho, ht⟩
    · cases q
  · cases q
def kitCB (K : PySem.W.Frag) (D : Addr) : Bool := (PySem.W.clsIn K D).isSome && (He.eqO (PySem.W.findIn K (.ref D) "__getattribute__") (some (some (.builtin "BaseException.__getattribute__"))) && (He.eqO (PySem.W.findIn K (.ref D) "__getattr__") (some none) && (decide (PySem.W.subIn K (.ref D) (.type "BaseException") = some true) &&
  (He.eqO (PySem.W.findIn K (.ref D) "__class__") (some (some (.builtin "object.__class__"))) && (He.eqO (PySem.W.specialIn K (.builtin "object.__class__") "__get__") (some (some (.builtin "getset_descriptor.__get__"))) && (decide (PySem.W.takesIn K (.builtin "object.__class__") = some true) && decide (PySem.W.mroIn K D (.type "object") = some true)))))))
theorem kitCB_ok {K : PySem.W.Frag} {D : Addr} (h : kitCB K D = true) : KitC K D := by
  obtain ⟨h1, h⟩ := He.ba h
  obtain ⟨h2, h⟩ := He.ba h
  obtain ⟨h3, h⟩ := He.ba h
  obtain ⟨h4, h⟩ := He.ba h
  obtain ⟨h5, h⟩ := He.ba h
  obtain ⟨h6, h⟩ := He.ba h
  obtain ⟨h7, h8⟩ := He.ba h
  exact ⟨h1, He.eqO_ok h2, He.eqO_ok h3, of_decide_eq_true h4, He.eqO_ok h5, He.eqO_ok h6, of_decide_eq_true h7, of_decide_eq_true h8⟩
/-- the class nm, its field fl -/
def errB (K : PySem.W.Frag) (nm fl : Str) : Bool := oexB K (He.ga K nm) && (He.eqO (PySem.W.findIn K (.ref (He.ga K nm)) "__setattr__") (some (some (.builtin "object.__setattr__"))) && (decide (PySem.W.subIn K (.ref (He.ga K nm)) (.type "BaseException") = some true) && (decide (PySem.W.typeIn K (.ref (He.ga K nm)) = some (.type "type")) &&
  (PySem.W.keepIn K (.ref (He.ga K nm)) && (He.eqO (PySem.W.findIn K (.ref (He.ga K nm)) "__init__") (some (some (.ref (He.ma K (He.ga K nm) "__init__")))) && (decide (PySem.W.typeIn K (.ref (He.ma K (He.ga K nm) "__init__")) = some (.type "function")) && (He.eqO (PySem.W.findIn K (.ref (He.ga K nm)) fl) (some none) && xfB K (He.ga K nm))))))))
structure ErrK (K : PySem.W.Frag) (C fI : Addr) (fl : Str) : Prop where
  oex : OexC K C
  iC : PySem.W.findIn K (.ref C) "__init__" = some (some (.ref fI))
  tI : PySem.W.typeIn K (.ref fI) = some (.type "function")
  no : PySem.W.findIn K (.ref C) fl = some none
  xf : XfC K C
theorem errB_ok {K : PySem.W.Frag} {nm fl : Str} (h : errB K nm fl = true) : ErrK K (He.ga K nm) (He.ma K (He.ga K nm) "__init__") fl := by
  obtain ⟨h1, h⟩ := He.ba h
  obtain ⟨h2, h⟩ := He.ba h
  obtain ⟨h3, h⟩ := He.ba h
  obtain ⟨h4, h⟩ := He.ba h
  obtain ⟨h5, h⟩ := He.ba h
  obtain ⟨h6, h⟩ := He.ba h
  obtain ⟨h7, h⟩ := He.ba h
  obtain ⟨h8, h9⟩ := He.ba h
  exact ⟨⟨oexB_ok h1, He.eqO_ok h2, of_decide_eq_true h3, of_decide_eq_true h4, h5⟩, He.eqO_ok h6, of_decide_eq_true h7, He.eqO_ok h8, xfB_ok h9⟩
/-- the i-th statement of a class -/
def inCls (st : Stmt) (i : Nat) : Stmt := match st with
  | .ClassDef _ _ _ b _ _ _ _ _ _ _ => b.getD i (.Pass ⟨0, 0, 0, 0⟩)
  | _ => .Pass ⟨0, 0, 0, 0⟩
end GT
namespace GT
open PySem PySem.Spec PyProof.Rows L2
section
variable {X : Cx} {σ : L2.St} {H : Hp} {N : List Str} {L Lc : List (Str × KN)} {k : Nat} {pos p0 p1 p2 : Pos} {Q : VK} {D : Ends} {scope : Scope} {x : Str} {elt : Expr} {ifs : List Expr}
/-- [.. for x in z], z a text -/
theorem re_lc_str (c : Ctx X N L k) (Lc : List (Str × KN)) (hok : lcOk N L scope Lc x = true) {l : Expr}
    (q : RE X l σ H fun v H1 => ∃ z, v = .str z ∧ CTurns X N Lc k scope x elt ifs (fun _ => True) z.cps.size (fun i y => ∃ c, z.cps[i]? = some c ∧ y = .str ⟨#[c]⟩) σ H1 Q)
    (hs : ∀ x, foldedSetIterable l X.env x = pure x := by intro _; with_unfolding_all rfl) : RE X (.ListComp elt [⟨.Name x p0, l, ifs, 0⟩] scope pos) σ H Q := by
  obtain ⟨S, hx, hl, ok⟩ := lcOk_of c hok
  obtain ⟨i, hput, bk, g⟩ := blk_at (p0 := p0) c S hx hl ok
  refine re_of (pe_lc c.calm c.nodup (pi_str PE.self) bk g (fun s H C cl fp => PTs.rta c S s H C cl fp) (fun s H C cl fp => PE.rea c S s H C cl fp) hs) ?_
  exact pe_mono q fun v H1 ⟨z, e, q1⟩ => ⟨z, e, lc_go hput walk_str q1⟩
/-- xs.extend(e), e a list -/
theorem re_extend {o e : Expr} {apos : Pos} (q : RE X o σ H fun x H1 => ∃ l xs, x = .ref l ∧ H1 l = some (.lst xs) ∧ RE X e σ H1 fun y H2 => ∃ b xs' zs, y = .ref b ∧ H2 l = some (.lst xs') ∧ H2 b = some (.lst zs) ∧ xs'.length + zs.length ≤ sizeLine ∧ Q .non (upd H2 l (.lst (xs' ++ zs))))
    (hbase : attributeBase o "extend" X.env (eval o X.env) = eval o X.env := by with_unfolding_all rfl)
    (hfew : ((backTo pos (starEach [e] X.env)).all (fun x => !x.1) && (backToKw pos (keywordEach [] X.env)).all (fun x => x.1.isSome) && decide (([e] : List Expr).length + ([] : List Keyword).length + (if ([] : List Keyword).isEmpty then 0 else 1) < 30)) = true := by with_unfolding_all rfl)
    (hline : (apos.endLine == pos.line) = true := by with_unfolding_all rfl) (hs : starEach [e] X.env = (false, eval e X.env) :: starEach [] X.env := by with_unfolding_all rfl) (hplain : (backTo pos (starEach [] X.env)).any (·.1) = false := by with_unfolding_all rfl) :
    RE X (.Call (.Attribute o "extend" apos) [e] [] pos) σ H Q := by
  refine re_of (pe_bm PySem.F.plainAttrs_list PySem.F.slot_list_extend PySem.F.type_list_extend mt_extend PE.self PA.self hbase hfew hline hs hplain) ?_
  refine pe_mono q fun x H1 ⟨l, xs, e1, h1, q1⟩ => ?_
  subst e1
  refine ⟨.inl ⟨rfl, _, SqL.of h1⟩, ra_cons (pe_mono q1 fun y H2 ⟨b, xs', zs, e2, h2, h3, h4, q2⟩ => ra_nil ⟨l, b, xs', zs, rfl, by rw [e2], h2, h3, h4, q2⟩) hs⟩
/-! ### keywords alone -/
structure RK (X : Cx) (kws : List Keyword) (σ : L2.St) (H : Hp) (Q : List V → Hp → Prop) : Prop where
  ex : ∃ t, PK X kws t ∧ t σ H Q
theorem PK.self {kws : List Keyword} : PK X kws (RK X kws) := ⟨fun pos pins s σ H Q I h => by obtain ⟨t, ht, q⟩ := h.ex; exact ht.run pos pins s σ H Q I q⟩
theorem rk_nil {Q : List V → Hp → Prop} (q : Q [] H) : RK X [] σ H Q := ⟨⟨_, pk_nil, q⟩⟩
theorem rk_cons {nm : Option Str} {e : Expr} {kpos : Pos} {kws : List Keyword} {Q : List V → Hp → Prop} (q : RE X e σ H fun x H1 => RK X kws σ H1 fun xs H2 => Q (x :: xs) H2) : RK X (⟨nm, e, kpos⟩ :: kws) σ H Q := ⟨⟨_, pk_cons PE.self PK.self, q⟩⟩
/-- f(k = e, ..) -/
theorem re_callKO (c : Ctx X N L k) {CXs : CXT} {x : Str} {n : Nat} {f : Addr} {fd : FuncData} {ps ks : List Str} {sp : Sp} {g : List Value → List Value → List Value} {gV : List V → List V → List V} {kws : List Keyword} (F : FnOk X.prog X.w X.K X.mg X.base CXs n f fd ps sp) (hn : n ≤ k) (h : (x, KN.glob) ∈ L)
    (hm : X.mg x = some (.ref f)) (hk : PySem.W.keepIn X.K (.ref f) = true) (hb : KBinds X.K fd ps ks g gV) {E : XK} (hx : Passes CXs X E) (q : RK X kws σ H fun zs H1 => sp (gV [] zs) H1 Q E)
    (hall : (backToKw pos (keywordEach kws X.env)).all (·.1.isSome) = true := by with_unfolding_all rfl) (hks : (backToKw pos (keywordEach kws X.env)).filterMap (·.1) = ks := by with_unfolding_all rfl)
    (hpl : ((backTo pos (starEach [] X.env)).any (·.1) || (backToKw pos (keywordEach kws X.env)).any (·.1.isNone)) = false := by with_unfolding_all rfl) : RE X (.Call (.Name x p0) [] kws pos) σ H Q := by
  refine re_of (t := fun σ H Q => RK X kws σ H fun zs H1 => sp (gV [] zs) H1 Q E) ⟨fun pins s σ H Q I h' => ?_⟩ q
  refine wpAny_Call_Name_kw (ld_glob I (c.gl h) hm ?_ (c.d1 h))
  refine PySem.W.callWith_KW0 (h₀ := X.base) I.ok.mod.kin hk hall ?_ hpl
  refine thn (PK.self.run pos pins s σ H _ I h') fun ws s2 ⟨zs, H2, I2, rz, q2⟩ => ⟨I2.kIn, ?_⟩
  rw [hks]
  exact run_fnk (us := []) (vs := []) F (c.room.mono hn) hb hx I2 .nil rz q2
end
end GT
namespace K05
open PySem PySem.Spec PyProof.Rows L2 GT
def top (i : Nat) : Stmt := PySem.Challenge.pw_goodtill_k05_what_lies_between_labels.main.body.getD i (.Pass ⟨0, 0, 0, 0⟩)
/-! is_inside -/
abbrev sq_is_inside : Stmt := top 14
abbrev nq_is_inside : List Str := ["low", "label", "high"]
abbrev lq_is_inside : List (Str × KN) := [("low", .loc), ("label", .loc), ("high", .loc)]
theorem mq_is_inside : Nms sq_is_inside nq_is_inside ["low", "label", "high"] lq_is_inside := ⟨⟨rfl, rfl, rfl, by decide +kernel, rfl, by decide +kernel, by decide +kernel⟩, by decide +kernel, by decide +kernel, by decide +kernel⟩
/-! gap_of -/
abbrev sq_gap_of : Stmt := top 15
abbrev nq_gap_of : List Str := ["labels", "label", "low", "high", "other"]
abbrev lq_gap_of : List (Str × KN) := [("labels", .loc), ("label", .loc), ("low", .loc), ("high", .loc), ("other", .loc), ("Refused", .glob)]
theorem mq_gap_of : Nms sq_gap_of nq_gap_of ["labels", "label"] lq_gap_of := ⟨⟨rfl, rfl, rfl, by decide +kernel, rfl, by decide +kernel, by decide +kernel⟩, by decide +kernel, by decide +kernel, by decide +kernel⟩
/-! _law_box -/
abbrev sq_box : Stmt := top 17
abbrev nq_box : List Str := ["script", "k", "cell", "great"]
abbrev lq_box : List (Str × KN) := [("script", .loc), ("k", .loc), ("cell", .loc), ("len", .glob), ("abs", .glob), ("int", .glob), ("great", .loc)]
theorem mq_box : Nms sq_box nq_box ["script", "k"] lq_box := ⟨⟨rfl, rfl, rfl, by decide +kernel, rfl, by decide +kernel, by decide +kernel⟩, by decide +kernel, by decide +kernel, by decide +kernel⟩
/-! _law_take -/
abbrev sq_take : Stmt := top 18
abbrev nq_take : List Str := ["box", "many", "digit", "raw"]
abbrev lq_take : List (Str × KN) := [("box", .loc), ("many", .loc), ("digit", .loc), ("int", .glob), ("raw", .loc)]
theorem mq_take : Nms sq_take nq_take ["box", "many"] lq_take := ⟨⟨rfl, rfl, rfl, by decide +kernel, rfl, by decide +kernel, by decide +kernel⟩, by decide +kernel, by decide +kernel, by decide +kernel⟩
/-! _law_pick -/
abbrev sq_pick : Stmt := top 19
abbrev nq_pick : List Str := ["box", "some"]
abbrev lq_pick : List (Str × KN) := [("box", .loc), ("some", .loc), ("_law_take", .glob), ("len", .glob)]
theorem mq_pick : Nms sq_pick nq_pick ["box", "some"] lq_pick := ⟨⟨rfl, rfl, rfl, by decide +kernel, rfl, by decide +kernel, by decide +kernel⟩, by decide +kernel, by decide +kernel, by decide +kernel⟩
/-! _law_label -/
abbrev sq_label : Stmt := top 20
abbrev nq_label : List Str := ["box", "many", "some", "turn"]
abbrev lq_label : List (Str × KN) := [("box", .cell), ("many", .loc), ("_law_pick", .glob), ("some", .cell), ("range", .glob)]
theorem mq_label : Nms sq_label nq_label ["box"] lq_label := ⟨⟨rfl, rfl, rfl, by decide +kernel, rfl, by decide +kernel, by decide +kernel⟩, by decide +kernel, by decide +kernel, by decide +kernel⟩
abbrev lq_label_c0 : List (Str × KN) := [("turn", .loc), ("some", .cap), ("_law_take", .glob), ("box", .cap), ("len", .glob)]
/-! _law_less -/
abbrev sq_less : Stmt := top 21
abbrev nq_less : List Str := ["one", "two", "letters", "spot"]
abbrev lq_less : List (Str × KN) := [("one", .loc), ("two", .loc), ("letters", .loc), ("spot", .loc), ("range", .glob), ("min", .glob), ("len", .glob)]
theorem mq_less : Nms sq_less nq_less ["one", "two"] lq_less := ⟨⟨rfl, rfl, rfl, by decide +kernel, rfl, by decide +kernel, by decide +kernel⟩, by decide +kernel, by decide +kernel, by decide +kernel⟩
/-! _law_between -/
abbrev sq_between : Stmt := top 22
abbrev nq_between : List Str := ["low", "label", "high"]
abbrev lq_between : List (Str × KN) := [("low", .loc), ("label", .loc), ("high", .loc), ("_law_less", .glob)]
theorem mq_between : Nms sq_between nq_between ["low", "label", "high"] lq_between := ⟨⟨rfl, rfl, rfl, by decide +kernel, rfl, by decide +kernel, by decide +kernel⟩, by decide +kernel, by decide +kernel, by decide +kernel⟩
/-! _law_placed -/
abbrev sq_placed : Stmt := top 23
abbrev nq_placed : List Str := ["labels", "label", "found", "one"]
abbrev lq_placed : List (Str × KN) := [("labels", .loc), ("label", .cell), ("found", .loc)]
theorem mq_placed : Nms sq_placed nq_placed ["labels", "label"] lq_placed := ⟨⟨rfl, rfl, rfl, by decide +kernel, rfl, by decide +kernel, by decide +kernel⟩, by decide +kernel, by decide +kernel, by decide +kernel⟩
abbrev lq_placed_c0 : List (Str × KN) := [("one", .loc), ("_law_less", .glob), ("label", .cap)]
abbrev lq_placed_c1 : List (Str × KN) := [("one", .loc), ("_law_less", .glob), ("label", .cap)]
/-! _law_all -/
abbrev sq_all : Stmt := top 24
abbrev nq_all : List Str := ["some", "depth", "found", "last", "turn", "longer", "one", "sign"]
abbrev lq_all : List (Str × KN) := [("some", .loc), ("depth", .loc), ("found", .loc), ("last", .loc), ("turn", .loc), ("range", .glob), ("longer", .loc), ("one", .cell), ("_law_placed", .glob)]
theorem mq_all : Nms sq_all nq_all ["some", "depth"] lq_all := ⟨⟨rfl, rfl, rfl, by decide +kernel, rfl, by decide +kernel, by decide +kernel⟩, by decide +kernel, by decide +kernel, by decide +kernel⟩
abbrev lq_all_c0 : List (Str × KN) := [("sign", .loc), ("one", .cap)]
/-! _law_alphabet -/
abbrev sq_alphabet : Stmt := top 25
abbrev nq_alphabet : List Str := ["box"]
abbrev lq_alphabet : List (Str × KN) := [("box", .loc), ("_law_take", .glob), ("_law_all", .glob), ("_law_pick", .glob)]
theorem mq_alphabet : Nms sq_alphabet nq_alphabet ["box"] lq_alphabet := ⟨⟨rfl, rfl, rfl, by decide +kernel, rfl, by decide +kernel, by decide +kernel⟩, by decide +kernel, by decide +kernel, by decide +kernel⟩
/-! _law_near -/
abbrev sq_near : Stmt := top 26
abbrev nq_near : List Str := ["box", "many", "found", "last", "turn", "way", "spot"]
abbrev lq_near : List (Str × KN) := [("box", .loc), ("many", .loc), ("found", .loc), ("last", .loc), ("_law_label", .glob), ("turn", .loc), ("range", .glob), ("way", .loc), ("_law_take", .glob), ("len", .glob), ("_law_pick", .glob), ("spot", .loc), ("_law_placed", .glob)]
theorem mq_near : Nms sq_near nq_near ["box", "many"] lq_near := ⟨⟨rfl, rfl, rfl, by decide +kernel, rfl, by decide +kernel, by decide +kernel⟩, by decide +kernel, by decide +kernel, by decide +kernel⟩
/-! _law_same -/
abbrev sq_same : Stmt := top 27
abbrev nq_same : List Str := ["told", "due", "is_kind", "one", "other"]
abbrev lq_same : List (Str × KN) := [("told", .loc), ("due", .loc), ("isinstance", .glob), ("tuple", .glob), ("list", .glob), ("is_kind", .loc), ("len", .glob), ("one", .loc), ("other", .loc), ("zip", .glob), ("_law_same", .glob), ("bool", .glob), ("int", .glob), ("str", .glob)]
theorem mq_same : Nms sq_same nq_same ["told", "due"] lq_same := ⟨⟨rfl, rfl, rfl, by decide +kernel, rfl, by decide +kernel, by decide +kernel⟩, by decide +kernel, by decide +kernel, by decide +kernel⟩
/-! _law_heard -/
abbrev sq_heard : Stmt := top 28
abbrev nq_heard : List Str := ["ask", "fault", "other"]
abbrev lq_heard : List (Str × KN) := [("ask", .loc), ("Refused", .glob), ("fault", .loc), ("other", .loc), ("isinstance", .glob), ("BadDeed", .glob), ("BadEvent", .glob), ("BadFraction", .glob), ("BadLabel", .glob), ("BadName", .glob), ("BadOctets", .glob), ("BadRoster", .glob), ("BadRun", .glob), ("BadText", .glob), ("BadView", .glob), ("OwnError", .glob), ("ValueError", .glob)]
theorem mq_heard : Nms sq_heard nq_heard ["ask"] lq_heard := ⟨⟨rfl, rfl, rfl, by decide +kernel, rfl, by decide +kernel, by decide +kernel⟩, by decide +kernel, by decide +kernel, by decide +kernel⟩
/-! _law_neighbours -/
abbrev sq_neighbours : Stmt := top 29
abbrev nq_neighbours : List Str := ["labels", "label", "low", "high", "one"]
abbrev lq_neighbours : List (Str × KN) := [("labels", .loc), ("label", .loc), ("low", .loc), ("high", .loc), ("one", .loc), ("_law_less", .glob)]
theorem mq_neighbours : Nms sq_neighbours nq_neighbours ["labels", "label"] lq_neighbours := ⟨⟨rfl, rfl, rfl, by decide +kernel, rfl, by decide +kernel, by decide +kernel⟩, by decide +kernel, by decide +kernel, by decide +kernel⟩
/-! _law_gap_right -/
abbrev sq_gap_right : Stmt := top 30
abbrev nq_gap_right : List Str := ["labels", "label", "pair", "due"]
abbrev lq_gap_right : List (Str × KN) := [("labels", .cell), ("label", .cell), ("pair", .loc), ("_law_neighbours", .glob), ("due", .loc), ("_law_same", .glob), ("_law_heard", .glob)]
theorem mq_gap_right : Nms sq_gap_right nq_gap_right ["labels", "label"] lq_gap_right := ⟨⟨rfl, rfl, rfl, by decide +kernel, rfl, by decide +kernel, by decide +kernel⟩, by decide +kernel, by decide +kernel, by decide +kernel⟩
abbrev lq_gap_right_l0 : List (Str × KN) := [("gap_of", .glob), ("tuple", .glob), ("labels", .cap), ("label", .cap)]
/-! _law_inside_right -/
abbrev sq_inside_right : Stmt := top 31
abbrev nq_inside_right : List Str := ["box", "labels", "some", "turn", "label", "low", "high", "due"]
abbrev lq_inside_right : List (Str × KN) := [("box", .loc), ("labels", .loc), ("some", .loc), ("_law_label", .glob), ("turn", .loc), ("range", .glob), ("label", .loc), ("_law_pick", .glob), ("low", .loc), ("high", .loc), ("due", .loc), ("_law_between", .glob), ("_law_same", .glob), ("is_inside", .glob)]
theorem mq_inside_right : Nms sq_inside_right nq_inside_right ["box", "labels"] lq_inside_right := ⟨⟨rfl, rfl, rfl, by decide +kernel, rfl, by decide +kernel, by decide +kernel⟩, by decide +kernel, by decide +kernel, by decide +kernel⟩
/-! law -/
abbrev sq_law : Stmt := top 32
abbrev nq_law : List Str := ["script", "k", "box", "every", "share", "stands", "label", "wide", "one", "turn"]
abbrev lq_law : List (Str × KN) := [("script", .loc), ("k", .loc), ("range", .glob), ("max", .glob), ("min", .glob), ("len", .glob), ("box", .cell), ("_law_box", .glob), ("every", .loc), ("_law_alphabet", .glob), ("share", .cell), ("_law_take", .glob), ("stands", .loc), ("label", .cell), ("_law_gap_right", .glob), ("wide", .loc), ("_law_near", .glob), ("_law_pick", .glob), ("_law_inside_right", .glob), ("_law_label", .glob), ("_law_same", .glob), ("gap_of", .glob)]
theorem mq_law : Nms sq_law nq_law ["script"] lq_law := ⟨⟨rfl, rfl, rfl, by decide +kernel, rfl, by decide +kernel, by decide +kernel⟩, by decide +kernel, by decide +kernel, by decide +kernel⟩
abbrev lq_law_c0 : List (Str × KN) := [("one", .loc), ("_law_take", .glob), ("box", .cap), ("share", .cap)]
abbrev lq_law_c1 : List (Str × KN) := [("turn", .loc), ("_law_label", .glob), ("box", .cap)]
abbrev lq_law_c2 : List (Str × KN) := [("one", .loc), ("label", .cap)]
end K05
namespace K05
open PySem PySem.Spec PyProof.Rows L2 GT
local macro_rules | `(tactic| walk_at "gm") => `(tactic| with_reducible (repeat (first | exact List.mem_cons_self | apply List.mem_cons_of_mem)))
local macro_rules | `(tactic| walk_at "gs") => `(tactic| with_reducible (repeat (first | exact Slot.here | exact Put.here | apply Slot.there | apply Put.there)))
local macro_rules | `(tactic| walk_at "gCall") => `(tactic| first
  | (show RE _ (.Call (.Name "len" _) _ _ _) _ _ _; refine re_c_len (by assumption) (by walk_at "gm") (by assumption) ?_)
  | (show RE _ (.Call (.Name "isinstance" _) _ _ _) _ _ _; refine re_c_isinstance (by assumption) (by walk_at "gm") (by assumption) ?_)
  | (show RE _ (.Call (.Name "int" _) _ _ _) _ _ _; refine re_c_int (by assumption) (by walk_at "gm") (by assumption) ?_)
  | (show RE _ (.Call (.Name "abs" _) _ _ _) _ _ _; refine re_c_abs (by assumption) (by walk_at "gm") (by assumption) ?_)
  | (show RE _ (.Call (.Name "min" _) _ _ _) _ _ _; refine re_c_min (by assumption) (by walk_at "gm") (by assumption) ?_)
  | (show RE _ (.Call (.Name "max" _) _ _ _) _ _ _; refine re_c_max (by assumption) (by walk_at "gm") (by assumption) ?_)
  | (show RE _ (.Call (.Name "tuple" _) _ _ _) _ _ _; refine re_c_tuple (by assumption) (by walk_at "gm") (by assumption) ?_)
  | (show RE _ (.Call (.Name "list" _) _ _ _) _ _ _; refine re_c_list (by assumption) (by walk_at "gm") (by assumption) ?_))
local macro_rules | `(tactic| walk_at "gName") => `(tactic| first
  | refine re_name (by assumption) (by walk_at "gs") (by walk_at "gm") (by constructor) ?_
  | (show RE _ (.Name "int" _) _ _ _; refine re_ty_int (by assumption) (by walk_at "gm") (by assumption) ?_)
  | (show RE _ (.Name "bool" _) _ _ _; refine re_ty_bool (by assumption) (by walk_at "gm") (by assumption) ?_)
  | (show RE _ (.Name "str" _) _ _ _; refine re_ty_str (by assumption) (by walk_at "gm") (by assumption) ?_)
  | (show RE _ (.Name "tuple" _) _ _ _; refine re_ty_tuple (by assumption) (by walk_at "gm") (by assumption) ?_)
  | (show RE _ (.Name "list" _) _ _ _; refine re_ty_list (by assumption) (by walk_at "gm") (by assumption) ?_)
  | (show RE _ (.Name "ValueError" _) _ _ _; refine re_ty_ValueError (by assumption) (by walk_at "gm") (by assumption) ?_))
local macro_rules | `(tactic| walk_at "gRE") => `(tactic| first
  | (show RE _ (.Name _ _) _ _ _; walk_at "gName")
  | (show RE _ (.Constant _ _ _) _ _ _; first | refine re_int ?_ | refine re_str ?_ | refine re_non ?_ | refine re_bl ?_)
  | (show RE _ (.BinOp _ _ _ _) _ _ _; refine re_bin ?_)
  | (show RE _ (.Compare _ [_] [_] _) _ _ _; refine re_cmp ?_)
  | (show RE _ (.Subscript _ (.Slice _ _ _ _) _) _ _ _; refine re_slice ?_)
  | (show RE _ (.Subscript _ _ _) _ _ _; refine re_ix ?_)
  | (show RE _ (.Call (.Name _ _) _ _ _) _ _ _; walk_at "gCall")
  | (show RE _ (.Tuple _ _ _) _ _ _; refine re_tup ?_)
  | (show RE _ (.List _ _) _ _ _; refine re_lst ?_)
  | (show RE _ (.IfExp _ _ _ _) _ _ _; refine re_if ?_)
  | (show RE _ (.BoolOp _ _ _) _ _ _; first | refine re_one ?_ | refine re_and ?_ | refine re_or ?_)
  | (show RE _ (.UnaryOp _ _ _) _ _ _; first | refine re_not ?_ | refine re_neg ?_))
local macro_rules | `(tactic| walk_at "gRT") => `(tactic| first
  | (show RT _ (.Compare _ [_] [_] _) _ _ _; refine rt_cmp ?_)
  | (show RT _ (.BoolOp _ _ _) _ _ _; refine rt_bool ?_)
  | (show RT _ (.UnaryOp .Not _ _) _ _ _; refine rt_not ?_)
  | (show RT _ (.Call _ _ _ _) _ _ _; refine rt_val ?_)
  | (show RT _ (.Name _ _) _ _ _; refine rt_val ?_))
local macro_rules | `(tactic| walk_at "gRS") => `(tactic| first
  | (show RS _ (.Return (some _) _) _ _ _; refine rs_ret ?_)
  | (show RS _ (.If _ _ _ _) _ _ _; refine rs_if ?_)
  | (show RS _ (.Assign [.Subscript _ _ _] _ _) _ _ _; refine rs_sub ?_)
  | (show RS _ (.Assign [.Name _ _] (.ListComp _ _ _ _) _) _ _ _; fail)
  | (show RS _ (.Assign [.Name _ _] _ _) _ _ _; refine rs_set (by assumption) (by walk_at "gm") (by constructor) (by walk_at "gm") ?_)
  | (show RS _ (.Expr _ _) _ _ _; refine rs_expr ?_)
  | (show RS _ (.Pass _) _ _ _; refine rs_pass ?_)
  | (show RS _ (.Break _) _ _ _; refine rs_break ?_)
  | (show RS _ (.Continue _) _ _ _; refine rs_continue ?_))
local macro_rules | `(tactic| walk_at "gV") => `(tactic| first
  | (show OpV _ _ _ _ _ _; first | refine ov_add ?_ | refine ov_sub ?_ | refine ov_mulR (by decide) ?_ | refine ov_mulL (by decide) ?_ | refine ov_mod (by first | decide | assumption) ?_)
  | (show CpV _ _ _ _ _ _; first | refine cv_lt ?_ | refine cv_le ?_ | refine cv_gt ?_ | refine cv_ge ?_ | refine cv_eqI ?_ | refine cv_neI ?_ | refine cv_eqS ?_ | refine cv_neS ?_ | refine cv_isN_n ?_ | refine cv_isN_s ?_ | refine cv_isN_i ?_ | refine cv_isN_b ?_ | refine cv_isN_r ?_ | refine cv_notN_n ?_ | refine cv_notN_s ?_ | refine cv_notN_i ?_ | refine cv_notN_b ?_ | refine cv_notN_r ?_ | refine cv_ltS ?_ | refine cv_gtS ?_ | refine cv_isB_b ?_ | refine cv_isB_i ?_ | refine cv_isB_s ?_ | refine cv_isB_n ?_)
  | (show IxV _ _ _ _ _; first | refine iv_list (by assumption) (by with_unfolding_all exact rfl) ?_ | refine iv_list (SqL.of (by assumption)) (by with_unfolding_all exact rfl) ?_ | refine iv_tup (SqT.of (by assumption)) (by with_unfolding_all exact rfl) ?_)
  | (show ClV _ _ _ _ _; first | refine lv_isT_n (b := false) (by decide +kernel) ?_ | refine lv_isT_n (b := true) (by decide +kernel) ?_ | refine lv_isT_b (b := false) (by decide +kernel) ?_ | refine lv_isT_b (b := true) (by decide +kernel) ?_ | refine lv_isT_i (b := false) (by decide +kernel) ?_ | refine lv_isT_i (b := true) (by decide +kernel) ?_ | refine lv_isT_s (b := false) (by decide +kernel) ?_ | refine lv_isT_s (b := true) (by decide +kernel) ?_ | refine lv_isT_l (b := false) (by assumption) (by decide +kernel) ?_ | refine lv_isT_l (b := true) (by assumption) (by decide +kernel) ?_ | refine lv_isT_t (b := false) (by assumption) (by decide +kernel) ?_ | refine lv_isT_t (b := true) (by assumption) (by decide +kernel) ?_ | refine lv_int ?_ | refine lv_abs ?_ | refine lv_max (Ctx.calm (by assumption)) ?_ | refine lv_min (Ctx.calm (by assumption)) ?_))
local macro_rules | `(tactic| walk_at "e1") => `(tactic| with_reducible first
  | (show RE _ _ _ _ _; walk_at "gRE")
  | (show RA _ _ _ _ _; first | refine ra_cons ?_ | refine ra_nil ?_)
  | (show RT _ _ _ _ _; walk_at "gRT")
  | (show RW _ _ _ _ _; first | refine rw_and1 ?_ | refine rw_or1 ?_ | refine rw_and ?_ | refine rw_or ?_)
  | (show RS _ _ _ _ _; walk_at "gRS")
  | refine rb_nil ?_
  | (show RO _ _ _ _ _; first | refine ro_none ?_ | refine ro_some ?_)
  | (show if true = true then _ else _; refine iteT ?_)
  | (show if false = true then _ else _; refine iteF ?_)
  | (show if (!true) = true then _ else _; refine iteNT ?_)
  | (show if (!false) = true then _ else _; refine iteNF ?_)
  | walk_at "gV"
  | refine ⟨_, rfl, ?_⟩
  | refine ⟨_, by walk_at "gs", ?_⟩)
local macro_rules | `(tactic| walk_at "e") => `(tactic| repeat walk_at "e1")
local macro_rules | `(tactic| walk_at "g1") => `(tactic| first | walk_at "e1" | with_reducible refine rb_cons ?_)
local macro_rules | `(tactic| walk_at "g") => `(tactic| repeat walk_at "g1")
local macro_rules | `(tactic| walk_at "g0") => `(tactic| (refine rb_cons ?_; walk_at "g"))
local macro_rules | `(tactic| walk_at "e0") => `(tactic| (refine rb_cons ?_; walk_at "e"))
/-- a draw: below many -/
def spTake : Sp := fun vs H Q _ => ∃ (b : Addr) (n : Int), vs = [.ref b, .int n] ∧ BoxAt H b ∧ 0 < n ∧ n < 2 ^ 31 ∧
  ∀ (d : Int) (H' : Hp), 0 ≤ d → d < n → Fr (· = b) H H' → BoxAt H' b → Q (.int d) H'
theorem fr_box {H : Hp} {b : Addr} {o : HO} : Fr (· = b) H (upd H b o) := fun a u n e => by
  rw [upd_ne n]
  exact e
theorem body_take {X : Cx} (c : Ctx X nq_take lq_take 0) (zi : X.mg "int" = none) {vs : List V} {H : Hp} {Q : VK} {E : XK} (h : spTake vs H Q E) : RB X (defBody sq_take) { nx := fun _ H' => Q .non H', rt := Q } (start nq_take vs) H := by
  obtain ⟨b, n, rfl, hB, h0, h1, q⟩ := h
  obtain ⟨g, r, hb, g0, r0, r1⟩ := id hB
  show RB X (defBody sq_take) _ [some (.ref b), some (.int n), none, none] H
  walk_at "g0"
  refine ite2 (fun e => ?_) (fun e => ?_)
  · walk_at "g"
    refine ov_fdiv (wide_div (b := 32) h0 (by omega) (by decide) (by decide)) ?_
    walk_at "g"
    refine ⟨b, [.int g, .int r], 0, 0, rfl, rfl, hb, rfl, ?_⟩
    walk_at "g"
    exact q _ _ (Int.emod_nonneg _ (by omega)) (Int.emod_lt_of_pos _ h0) fr_box ⟨g / n, r, upd_same, Int.ediv_nonneg g0 (by omega), r0, r1⟩
  · walk_at "g"
    refine ⟨b, [.int g, .int r], 1, 1, rfl, rfl, hb, rfl, ?_⟩
    walk_at "g"
    refine iv_list (SqL.of upd_same) (by exact rfl) ?_
    walk_at "g"
    refine ov_fdiv (wide_div (b := 32) (by decide) (by decide) (by decide) (by decide)) ?_
    walk_at "g"
    have m1 : ∀ z : Int, 0 ≤ z % 2147483563 + 1 ∧ z % 2147483563 + 1 < 2 ^ 32 := fun z => by omega
    exact q _ _ (Int.emod_nonneg _ (by omega)) (Int.emod_lt_of_pos _ h0) fr_box ⟨g, _, upd_same, g0, (m1 _).1, (m1 _).2⟩
/-- an item of a list, or a sign of a text, by a draw -/
def spPick (K : PySem.W.Frag) : Sp := fun vs H Q _ => ∃ (b : Addr), BoxAt H b ∧
  ((∃ p xs, vs = [.ref b, .ref p] ∧ H p = some (.lst xs) ∧ p ≠ b ∧ 0 < xs.length ∧ xs.length < 2 ^ 31 ∧ ∀ v H', v ∈ xs → Fr (· = b) H H' → BoxAt H' b → Q v H'))
theorem mem_at {α : Type} {xs : List α} {d : Int} (h0 : 0 ≤ d) (h1 : d < (xs.length : Int)) : ∃ v, atI xs d = some v ∧ v ∈ xs := by
  have h2 : d.toNat < xs.length := by omega
  refine ⟨xs[d.toNat], ?_, List.getElem_mem h2⟩
  unfold atI ixN
  rw [if_pos h0, if_pos h1]
  show xs[d.toNat]? = _
  rw [List.getElem?_eq_getElem h2]
theorem body_pick {X : Cx} (c : Ctx X nq_pick lq_pick 1) (zl : X.mg "len" = none) (dT : DefP X.prog X.w X.K X.mg X.base CX0 "_law_take" ["box", "many"] 1 spTake) {vs : List V} {H : Hp} {Q : VK} {E : XK} (h : spPick X.K vs H Q E) :
    RB X (defBody sq_pick) { nx := fun _ H' => Q .non H', rt := Q } (start nq_pick vs) H := by
  obtain ⟨b, hB, p, xs, rfl, hp, hpb, h0, h1, q⟩ := h
  show RB X (defBody sq_pick) _ [some (.ref b), some (.ref p)] H
  walk_at "g0"
  refine re_call c dT (by decide) (by walk_at "gm") ?_
  walk_at "g"
  refine lv_lenL (SqL.of hp) ?_
  walk_at "g"
  refine ⟨b, _, rfl, hB, by omega, by omega, fun d H' d0 d1 f hB' => ?_⟩
  obtain ⟨v, hv, hm⟩ := mem_at (xs := xs) d0 d1
  exact iv_list (SqL.of (f _ _ hpb hp)) hv (q v H' hm f hB')
def oS : Option Str → V
  | none => .non
  | some s => .str s
def lowOk (z : Str) : Option Str → Bool
  | none => true
  | some a => slt a z
def highOk (z : Str) : Option Str → Bool
  | none => true
  | some b => slt z b
def inside (lo : Option Str) (z : Str) (hi : Option Str) : Bool := lowOk z lo && highOk z hi
/-- is_inside: low, high each a text or None -/
def spInside : Sp := fun vs H Q _ => ∃ (lo : Option Str) (z : Str) (hi : Option Str), vs = [oS lo, .str z, oS hi] ∧ Q (.bl (inside lo z hi)) H
theorem body_inside {X : Cx} (c : Ctx X nq_is_inside lq_is_inside 0) {vs : List V} {H : Hp} {Q : VK} {E : XK} (h : spInside vs H Q E) : RB X (defBody sq_is_inside) { nx := fun _ H' => Q .non H', rt := Q } (start nq_is_inside vs) H := by
  obtain ⟨lo, z, hi, rfl, q⟩ := h
  have e2 : ∀ b : Bool, (b && true) = b := fun b => by simp
  cases lo with
  | none =>
    cases hi with
    | none =>
      show RB X (defBody sq_is_inside) _ [some .non, some (.str z), some .non] H
      walk_at "g0"
      exact q
    | some b =>
      show RB X (defBody sq_is_inside) _ [some .non, some (.str z), some (.str b)] H
      walk_at "g0"
      exact q
  | some a =>
    cases hi with
    | none =>
      show RB X (defBody sq_is_inside) _ [some (.str a), some (.str z), some .non] H
      walk_at "g0"
      have q1 : Q (.bl (decide (a.cps.toList < z.cps.toList) && true)) H := q
      refine ite2 (fun e => ?_) (fun e => ?_)
      · walk_at "g"
        rw [e] at q1
        exact q1
      · rw [Bool.eq_false_iff.mpr e] at q1
        exact q1
    | some b =>
      show RB X (defBody sq_is_inside) _ [some (.str a), some (.str z), some (.str b)] H
      walk_at "g0"
      have q1 : Q (.bl (decide (a.cps.toList < z.cps.toList) && slt z b)) H := q
      refine ite2 (fun e => ?_) (fun e => ?_)
      · walk_at "g"
        rw [e] at q1
        exact q1
      · rw [Bool.eq_false_iff.mpr e] at q1
        exact q1
/-- the box of a draw -/
def spBox (K : PySem.W.Frag) : Sp := fun vs H Q _ => ∃ (a : Addr) (ns : List Int) (k : Int), vs = [.ref a, .int k] ∧ SqL K H a (ns.map V.int) ∧ ns.length ≤ 63 ∧ 0 ≤ k ∧ k < 1000 ∧
  ∀ p H', H p = none → Fr NoB H H' → BoxAt H' p → Q (.ref p) H'
theorem body_box {X : Cx} (c : Ctx X nq_box lq_box 0) (zl : X.mg "len" = none) (zi : X.mg "int" = none) (za : X.mg "abs" = none) {vs : List V} {H : Hp} {Q : VK} {E : XK} (h : spBox X.K vs H Q E) :
    RB X (defBody sq_box) { nx := fun _ H' => Q .non H', rt := Q } (start nq_box vs) H := by
  obtain ⟨a, ns, k, rfl, hS, h63, k0, k1, q⟩ := h
  have lm : (ns.map V.int).length = ns.length := List.length_map _
  have item : ∀ i : Int, 0 ≤ i → i < (ns.length : Int) → ∃ v, atI (ns.map V.int) i = some (.int v) := fun i h0 h1 => by
    obtain ⟨v, h2, h3⟩ := mem_at (xs := ns.map V.int) h0 (by rw [lm]; exact h1)
    obtain ⟨w, _, e⟩ := List.mem_map.mp h3
    exact ⟨w, by rw [h2, e]⟩
  have fin : ∀ g z : Int, 0 ≤ g → ∀ p, H p = none → Q (.ref p) (upd H p (.lst [.int g, .int (z % 2147483563 + 1)])) := fun g z hg p hp =>
    q p _ hp (Fr.new hp) ⟨g, _, upd_same, hg, by omega, by omega⟩
  -- behind the choice of the cell
  have rest : ∀ cell : Int, 0 ≤ cell → RB X (List.drop 2 (defBody sq_box)) { nx := fun _ H' => Q .non H', rt := Q } [some (.ref a), some (.int k), some (.int cell), none] H := fun cell hc => by
    walk_at "g0"
    refine ov_pow ⟨by decide, by decide, by decide⟩ ?_
    walk_at "g"
    refine ite2 (fun e => ?_) (fun e => ?_)
    · walk_at "g"
      exact ⟨by show 2 ≤ sizeLine; decide, fun p hp => fin _ _ hc p hp⟩
    · walk_at "g"
      exact ⟨by show 2 ≤ sizeLine; decide, fun p hp => fin _ _ (by decide) p hp⟩
  show RB X (defBody sq_box) _ [some (.ref a), some (.int k), none, none] H
  walk_at "g0"
  refine lv_lenL hS ?_
  walk_at "g"
  refine ite2 (fun e => ?_) (fun e => ?_)
  · obtain ⟨v, hv⟩ := item k k0 (by rw [lm] at e; exact of_decide_eq_true e)
    walk_at "g"
    refine iv_list hS hv ?_
    walk_at "e"
    exact rest _ (by split <;> omega)
  · walk_at "g"
    refine lv_lenL hS ?_
    walk_at "g"
    refine ite2 (fun e => ?_) (fun e => ?_)
    · rw [lm] at e
      have hn : (0 : Int) < ns.length := of_decide_eq_true e
      obtain ⟨v, hv⟩ := item (k % ns.length) (Int.emod_nonneg _ (by omega)) (Int.emod_lt_of_pos _ hn)
      walk_at "g"
      refine lv_lenL hS ?_
      rw [lm]
      walk_at "g"
      refine iv_list hS hv ?_
      walk_at "e"
      exact rest _ (by omega)
    · walk_at "e"
      exact rest _ (by omega)
/-- signs put together -/
theorem joined_signs (cs : List Nat) : Txt.join "" (cs.map fun c => (⟨#[c]⟩ : Str)) = ⟨cs.toArray⟩ := by
  have e := TL.tl_join "" (cs.map fun c => (⟨#[c]⟩ : Str))
  have h : ∀ l : List (List Nat), TL.joinL (TL.tl "") l = l.flatten := fun l => by
    have e0 : TL.tl ("" : Str) = [] := by decide +kernel
    rw [e0]
    induction l with
    | nil => rfl
    | cons p r ih =>
      cases r with
      | nil => simp [TL.joinL]
      | cons q r =>
        show p ++ ([] ++ TL.joinL [] (q :: r)) = _
        rw [ih, List.nil_append]
        rfl
  rw [h, List.map_map] at e
  have e2 : ∀ l : List Nat, (List.map (TL.tl ∘ fun c => (⟨#[c]⟩ : Str)) l).flatten = l := fun l => by
    have e3 : (TL.tl ∘ fun c => (⟨#[c]⟩ : Str)) = fun c => [c] := by funext c; rfl
    rw [e3]
    induction l with
    | nil => rfl
    | cons c r ih => simpa using ih
  rw [e2] at e
  refine TL.ext_tl ?_
  rw [TL.join_eq]
  exact e
def isIn (lo hi : Int) : V → Bool
  | .int i => decide (lo ≤ i) && decide (i ≤ hi)
  | _ => false
def isLow : V → Bool
  | .str s => s.cps.toList.all (fun c => decide (97 ≤ c) && decide (c ≤ 122)) && decide (0 < s.length) && decide (s.length ≤ 30)
  | _ => false
theorem isIn_of {lo hi : Int} {v : V} (h : isIn lo hi v = true) : ∃ i, v = .int i ∧ lo ≤ i ∧ i ≤ hi := by
  cases v <;> simp [isIn] at h
  exact ⟨_, rfl, h.1, h.2⟩
theorem isLow_of {v : V} (h : isLow v = true) : ∃ s, v = .str s ∧ Low s ∧ 0 < s.length ∧ s.length ≤ 30 := by
  cases v with
  | str s =>
    unfold isLow at h
    rw [Bool.and_eq_true, Bool.and_eq_true] at h
    obtain ⟨⟨h1, h2⟩, h3⟩ := h
    refine ⟨s, rfl, fun c hc => ?_, of_decide_eq_true h2, of_decide_eq_true h3⟩
    have := List.all_eq_true.mp h1 c hc
    simpa using this
  | _ => cases h
theorem sz30 {n : Nat} (h : n ≤ 100000) : n ≤ sizeLine := Nat.le_trans h (by decide)
def spLabel : Sp := fun vs H Q _ => ∃ b : Addr, vs = [.ref b] ∧ BoxAt H b ∧ ∀ z H', Lab z → Fr (· = b) H H' → BoxAt H' b → Q (.str z) H'
theorem body_label {X : Cx} (c : Ctx X nq_label lq_label 2) (zl : X.mg "len" = none) (zr : X.mg "range" = none) (dT : DefP X.prog X.w X.K X.mg X.base CX0 "_law_take" ["box", "many"] 1 spTake)
    (dP : DefP X.prog X.w X.K X.mg X.base CX0 "_law_pick" ["box", "some"] 2 (spPick X.K)) {vs : List V} {H : Hp} {Q : VK} {E : XK} (h : spLabel vs H Q E) : RB X (defBody sq_label) { nx := fun _ H' => Q .non H', rt := Q } (start nq_label vs) H := by
  obtain ⟨b, rfl, hB, q⟩ := h
  show RB X (defBody sq_label) _ [some (.ref b), none, none, none] H
  walk_at "g0"
  refine re_call c dP (by decide) (by walk_at "gm") ?_
  walk_at "g"
  refine ⟨by decide, fun p hp => ?_⟩
  walk_at "g"
  refine ⟨b, hB.fr (Fr.new hp), p, _, rfl, upd_same, hB.ne hp, by decide, by decide, fun v H1 hv f1 hB1 => ?_⟩
  obtain ⟨many, rfl, m1, m8⟩ := isIn_of (List.all_eq_true.mp (by decide : ([.int 1, .int 1, .int 2, .int 3, .int 4, .int 5, .int 7, .int 8, .int 8] : List V).all (isIn 1 8) = true) v hv)
  walk_at "g"
  refine re_call c dP (by decide) (by walk_at "gm") ?_
  walk_at "g"
  refine ⟨by decide, fun p2 hp2 => ?_⟩
  walk_at "g"
  refine ⟨b, hB1.fr (Fr.new hp2), p2, _, rfl, upd_same, hB1.ne hp2, by decide, by decide, fun v H2 hv f2 hB2 => ?_⟩
  obtain ⟨z, rfl, sl, s0, s30⟩ := isLow_of (List.all_eq_true.mp (by decide +kernel : ([.str "abz", .str "az", .str "z", .str "a", .str "mn", .str "abcdefghijklmnopqrstuvwxyz", .str "abcdefghijklmnopqrstuvwxyz"] : List V).all isLow = true) v hv)
  walk_at "g"
  refine re_join ?_
  walk_at "g"
  refine re_lc_range c lq_label_c0 (by decide +kernel) (by walk_at "gm") zr ?_
  walk_at "g"
  refine ⟨by omega, by omega, fun Dn hD => ?_⟩
  have ff : Fr (· = b) H H2 := ((Fr.new hp).trans f1).trans ((Fr.new hp2).trans f2)
  refine ⟨fun i H' => ∃ cs : List Nat, cs.length = i ∧ (∀ c ∈ cs, 97 ≤ c ∧ c ≤ 122) ∧ H' Dn = some (.lst (cs.map fun c => V.str ⟨#[c]⟩)) ∧ BoxAt H' b ∧ Fr (· = b) H H', ⟨[], rfl, by simp, upd_same, hB2.fr (Fr.new hD), ff.trans (Fr.new hD)⟩, fun _ _ _ _ => trivial, ?_, ?_⟩
  · rintro i y H' hi rfl ⟨cs, h1, h2, h3, h4, h5⟩
    refine ⟨_, by walk_at "gs", fun s Hb C cl fp cb => rts_nil (iteT fun s Hb C cl fp cb => ?_)⟩
    walk_at "g"
    refine re_call cb dT (by decide) (by walk_at "gm") ?_
    walk_at "g"
    refine lv_lenS (sz30 (by omega)) ?_
    walk_at "g"
    refine ⟨b, _, rfl, h4, by omega, by omega, fun d H'' d0 d1 f3 hB3 => ?_⟩
    obtain ⟨n, hn, hm⟩ := mem_at (xs := z.cps.toList) d0 (by simpa [Str.length] using d1)
    refine iv_str (sz30 (by omega)) hn ?_
    have e : Dn ≠ b := hB2.ne hD
    refine ⟨_, f3 _ _ e h3, by rw [List.length_map]; exact Nat.lt_of_le_of_lt (by omega : cs.length ≤ 8) (by decide), cs ++ [n], by simp [h1], ?_, ?_, ?_, ?_⟩
    · intro c hc
      rcases List.mem_append.mp hc with z | z
      · exact h2 c z
      · obtain rfl := List.mem_singleton.mp z
        exact sl _ hm
    · rw [upd_same, List.map_append]
      rfl
    · exact hB3.put e
    · exact (h5.trans f3).put (ff.gone e hD)
  · rintro H' ⟨cs, h1, h2, h3, h4, h5⟩
    have h8 : cs.length ≤ 8 := by omega
    refine ⟨Dn, cs.map fun c => ⟨#[c]⟩, rfl, .inl (SqL.of ?_), ?_, ?_⟩
    · rw [h3, List.map_map]
      rfl
    · have e1 : (List.map (fun x : Str => x.length) (List.map (fun c => (⟨#[c]⟩ : Str)) cs)).sum = cs.length := by
        rw [List.map_map]
        clear h1 h2 h3 h8
        induction cs with
        | nil => rfl
        | cons c r ih =>
          rw [List.map_cons, List.sum_cons, ih, List.length_cons]
          show 1 + r.length = _
          omega
      rw [e1, List.length_map]
      have e2 : ("" : Str).length = 0 := by decide +kernel
      rw [e2]
      omega
    · rw [joined_signs]
      refine q _ _ ⟨?_, ?_, fun c hc => h2 c (by simpa using hc)⟩ h5 h4
      · show 1 ≤ cs.toArray.size
        simp
        omega
      · show cs.toArray.size ≤ 8
        simp
        omega
/-- _law_less: two texts of small letters, by their letters -/
def spLess : Sp := fun vs H Q _ => ∃ a b : Str, vs = [.str a, .str b] ∧ Low a ∧ Low b ∧ a.length ≤ 1000 ∧ b.length ≤ 1000 ∧ Q (.bl (slt a b)) H
theorem at_nat {α : Type} {xs : List α} {i : Nat} {v : α} (h : xs[i]? = some v) : atI xs (i : Int) = some v := by
  have h2 : i < xs.length := by
    rcases Nat.lt_or_ge i xs.length with z | z
    · exact z
    · rw [List.getElem?_eq_none z] at h; cases h
  unfold atI ixN
  rw [if_pos (Int.natCast_nonneg i), if_pos (by omega)]
  exact h
theorem body_less {X : Cx} (c : Ctx X nq_less lq_less 0) (zl : X.mg "len" = none) (zr : X.mg "range" = none) (zm : X.mg "min" = none) {vs : List V} {H : Hp} {Q : VK} {E : XK} (h : spLess vs H Q E) :
    RB X (defBody sq_less) { nx := fun _ H' => Q .non H', rt := Q } (start nq_less vs) H := by
  obtain ⟨a, b, rfl, la, lb, a1, b1, q⟩ := h
  show RB X (defBody sq_less) _ [some (.str a), some (.str b), none, none] H
  walk_at "g0"
  refine rs_for_range c (by walk_at "gm") .loc (by walk_at "gm") (by walk_at "gm") zr ?_
  walk_at "g"
  refine lv_lenS (sz30 (by omega)) ?_
  walk_at "g"
  refine lv_lenS (sz30 (by omega)) ?_
  walk_at "g"
  have ea : a.cps.toList.length = a.length := by simp [Str.length]
  have eb : b.cps.toList.length = b.length := by simp [Str.length]
  have em : (if (b.length : Int) < (a.length : Int) then (b.length : Int) else (a.length : Int)).toNat = min a.length b.length := by split <;> omega
  refine ⟨by split <;> omega, by split <;> omega, ?_⟩
  rw [em]
  refine ⟨fun i σ H' => H' = H ∧ (∀ j, j < i → a.cps.toList[j]? = b.cps.toList[j]?) ∧ ∃ s : Option V, σ = [some (.str a), some (.str b), some (.str "abcdefghijklmnopqrstuvwxyz"), s], ⟨rfl, fun j hj => absurd hj (by omega), none, rfl⟩, fun _ _ _ _ _ => trivial, ?_, ?_⟩
  · rintro i y σ H' hi rfl ⟨rfl, h1, s, rfl⟩
    refine ⟨_, by walk_at "gs", ?_⟩
    obtain ⟨x, hx⟩ : ∃ x, a.cps.toList[i]? = some x := ⟨_, List.getElem?_eq_getElem (by omega)⟩
    obtain ⟨y, hy⟩ : ∃ y, b.cps.toList[i]? = some y := ⟨_, List.getElem?_eq_getElem (by omega)⟩
    have hxm := la x (List.mem_of_getElem? hx)
    have hym := lb y (List.mem_of_getElem? hy)
    walk_at "g"
    refine iv_str (sz30 (by omega)) (at_nat hx) ?_
    walk_at "g"
    refine iv_str (sz30 (by omega)) (at_nat hy) ?_
    walk_at "g"
    refine ite2 (fun e => ?_) (fun e => ?_)
    · have ne : x ≠ y := fun z => by subst z; simp at e
      walk_at "g"
      refine re_sindex c.calm ?_
      walk_at "g"
      refine iv_str (sz30 (by omega)) (at_nat hx) ?_
      refine ⟨_, _, rfl, abc_at x hxm.1 hxm.2, ?_⟩
      walk_at "g"
      refine re_sindex c.calm ?_
      walk_at "g"
      refine iv_str (sz30 (by omega)) (at_nat hy) ?_
      refine ⟨_, _, rfl, abc_at y hym.1 hym.2, ?_⟩
      walk_at "g"
      have e2 : decide (((x - 97 : Nat) : Int) < ((y - 97 : Nat) : Int)) = slt a b := by
        unfold slt
        rw [decide_eq_decide, lt_at h1 hx hy ne]
        omega
      rw [e2]
      exact q
    · have e3 : x = y := by
        have e' : decide ((⟨#[x]⟩ : Str) = ⟨#[y]⟩) = true := by simpa using e
        have := of_decide_eq_true e'
        injection this with this
        simpa using this
      subst e3
      walk_at "g"
      refine ⟨rfl, fun j hj => ?_, _, rfl⟩
      rcases Nat.lt_or_ge j i with z | z
      · exact h1 j z
      · have : j = i := by omega
        rw [this, hx, hy]
  · rintro σ H' ⟨rfl, h1, s, rfl⟩
    walk_at "g"
    refine lv_lenS (sz30 (by omega)) ?_
    walk_at "g"
    refine lv_lenS (sz30 (by omega)) ?_
    walk_at "g"
    have e2 : decide ((a.length : Int) < (b.length : Int)) = slt a b := by
      unfold slt
      rw [decide_eq_decide, lt_len (by rw [ea, eb]; exact h1), ea, eb]
      omega
    rw [e2]
    exact q
/-- _law_between: as is_inside, by the law's own order -/
def spBetween : Sp := fun vs H Q _ => ∃ (lo : Option Str) (z : Str) (hi : Option Str), vs = [oS lo, .str z, oS hi] ∧ Lab z ∧ (∀ a, lo = some a → Lab a) ∧ (∀ a, hi = some a → Lab a) ∧ Q (.bl (inside lo z hi)) H
theorem body_between {X : Cx} (c : Ctx X nq_between lq_between 1) (dL : DefP X.prog X.w X.K X.mg X.base CX0 "_law_less" ["one", "two"] 1 spLess) {vs : List V} {H : Hp} {Q : VK} {E : XK} (h : spBetween vs H Q E) :
    RB X (defBody sq_between) { nx := fun _ H' => Q .non H', rt := Q } (start nq_between vs) H := by
  obtain ⟨lo, z, hi, rfl, hz, hlo, hhi, q⟩ := h
  have tail : ∀ (x : Option V), (∃ lo' : Option Str, x = some (oS lo') ∧ lowOk z lo' = true ∧ lo' = lo) → RB X (List.drop 1 (defBody sq_between)) { nx := fun _ H' => Q .non H', rt := Q } [x, some (.str z), some (oS hi)] H := by
    rintro x ⟨lo', rfl, h1, rfl⟩
    have q1 : Q (.bl (highOk z hi)) H := by
      have e : inside lo' z hi = highOk z hi := by
        unfold inside
        rw [h1]
        exact Bool.true_and _
      rw [← e]
      exact q
    cases hi with
    | none =>
      show RB X _ _ [_, some (.str z), some .non] H
      walk_at "g0"
      exact q1
    | some b =>
      show RB X _ _ [_, some (.str z), some (.str b)] H
      walk_at "g0"
      refine re_call c dL (by decide) (by walk_at "gm") ?_
      walk_at "g"
      have hb := hhi b rfl
      exact ⟨z, b, rfl, hz.2.2, hb.2.2, by have := hz.2.1; omega, by have := hb.2.1; omega, q1⟩
  cases lo with
  | none =>
    show RB X (defBody sq_between) _ [some .non, some (.str z), some (oS hi)] H
    walk_at "e0"
    exact tail _ ⟨none, rfl, rfl, rfl⟩
  | some a =>
    have ha := hlo a rfl
    show RB X (defBody sq_between) _ [some (.str a), some (.str z), some (oS hi)] H
    walk_at "e0"
    refine re_call c dL (by decide) (by walk_at "gm") ?_
    walk_at "e"
    refine ⟨a, z, rfl, ha.2.2, hz.2.2, by have := ha.2.1; omega, by have := hz.2.1; omega, ?_⟩
    walk_at "e"
    refine ite2 (fun e => ?_) (fun e => ?_)
    · walk_at "g"
      have e1 : slt a z = false := by simpa using e
      have q1 : Q (.bl (slt a z && highOk z hi)) H := q
      rw [e1] at q1
      exact q1
    · walk_at "e"
      have e1 : slt a z = true := by simpa using e
      exact tail _ ⟨some a, rfl, e1, rfl⟩
/-- behind the walk over labels: those below, the label, those above -/
def placed (ls : List Str) (z : Str) : List Str := ls.filter (fun a => slt a z) ++ [z] ++ ls.filter (fun a => slt z a)
theorem filter_str (f : Str → Bool) (g : V → Bool) (h : ∀ s, g (.str s) = f s) : ∀ ls : List Str, (ls.map V.str).filter g = (ls.filter f).map V.str
  | [] => rfl
  | s :: r => by
    rw [List.map_cons, List.filter_cons, List.filter_cons, h, filter_str f g h r]
    split <;> simp
def onS (f : Str → Bool) : V → Bool
  | .str s => f s
  | _ => false
def spPlaced (K : PySem.W.Frag) : Sp := fun vs H Q _ => ∃ (p : Addr) (ls : List Str) (z : Str), vs = [.ref p, .str z] ∧ SqL K H p (ls.map V.str) ∧ (∀ a ∈ ls, Lab a) ∧ Lab z ∧ ls.length ≤ 1000 ∧
  ∀ r H', H r = none → Fr NoB H H' → H' r = some (.lst ((placed ls z).map V.str)) → Q (.ref r) H'
theorem less_in {X : Cx} {N : List Str} {L : List (Str × KN)} {k : Nat} (c : Ctx X N L k) (hk : 1 ≤ k) (dL : DefP X.prog X.w X.K X.mg X.base CX0 "_law_less" ["one", "two"] 1 spLess) {σ : L2.St} {H : Hp} {e1 e2 : Expr} {p1 p2 : Pos} {a b : Str} (ha : Lab a) (hb : Lab b) (hg : (("_law_less" : Str), KN.glob) ∈ L)
    {Q : VK} (q : RA X [e1, e2] σ H fun vs H1 => vs = [.str a, .str b] ∧ Q (.bl (slt a b)) H1) (he : starEach [e1, e2] X.env = (false, eval e1 X.env) :: starEach [e2] X.env := by with_unfolding_all rfl) (hpl : (backTo p2 (starEach [e2] X.env)).any (·.1) = false := by with_unfolding_all rfl) :
    RE X (.Call (.Name "_law_less" p1) [e1, e2] [] p2) σ H Q :=
  re_call c dL hk hg (ra_mono q fun vs H1 ⟨e, d⟩ => ⟨a, b, e, ha.2.2, hb.2.2, by have := ha.2.1; omega, by have := hb.2.1; omega, d⟩) he hpl
theorem body_placed {X : Cx} (c : Ctx X nq_placed lq_placed 1) (dL : DefP X.prog X.w X.K X.mg X.base CX0 "_law_less" ["one", "two"] 1 spLess) {vs : List V} {H : Hp} {Q : VK} {E : XK} (h : spPlaced X.K vs H Q E) :
    RB X (defBody sq_placed) { nx := fun _ H' => Q .non H', rt := Q } (start nq_placed vs) H := by
  obtain ⟨p, ls, z, rfl, hS, hl, hz, hn, q⟩ := h
  have hlen : (ls.map V.str).length < sizeLine := by rw [List.length_map]; exact Nat.lt_of_le_of_lt hn (by decide)
  show RB X (defBody sq_placed) _ [some (.ref p), some (.str z), none, none] H
  refine rb_cons ?_
  refine rs_lc_list c lq_placed_c0 (by decide +kernel) (by walk_at "gm") (by walk_at "gm") ?_
  walk_at "g"
  refine ⟨_, _, rfl, hS, cturns_filter (f := onS fun a => slt a z) hlen hS (by walk_at "gm") (fun y => by walk_at "gs") ?_ ?_⟩
  · rintro y H' hy hf s Hb C cl fp cb
    obtain ⟨a, ha, rfl⟩ := List.mem_map.mp hy
    walk_at "g"
    refine less_in cb (by decide) dL (hl a ha) hz (by walk_at "gm") ?_
    walk_at "g"
    exact ⟨rfl, _, rfl, rfl, Fr.refl⟩
  · rintro Dn H' hD hf hd
    rw [filter_str (fun a => slt a z) _ (fun s => rfl)] at hd
    walk_at "g"
    refine ⟨by show 1 ≤ sizeLine; decide, fun p2 hp2 => ?_⟩
    have f1 : Fr NoB H' (upd H' p2 (.lst [.str z])) := Fr.new hp2
    refine ov_cat (f1 _ _ (fun z => z) hd) upd_same ?_ fun p3 hp3 => ?_
    · rw [List.length_map]
      exact Nat.le_trans (Nat.add_le_add_right (List.length_filter_le _ _) 1) (sz30 (by omega))
    have f2 := f1.trans (Fr.new (o := .lst ((ls.filter fun a => slt a z).map V.str ++ [.str z])) hp3)
    refine re_lc_list c lq_placed_c1 (by decide +kernel) ?_
    walk_at "g"
    have hS2 := (hf.trans f2).seqL (fun z => z) hS
    refine ⟨_, _, rfl, hS2, cturns_filter (f := onS fun a => slt z a) hlen hS2 (by walk_at "gm") (fun y => by walk_at "gs") ?_ ?_⟩
    · rintro y H'' hy hf' s Hb C cl fp cb
      obtain ⟨a, ha, rfl⟩ := List.mem_map.mp hy
      walk_at "g"
      refine less_in cb (by decide) dL hz (hl a ha) (by walk_at "gm") ?_
      walk_at "g"
      exact ⟨rfl, _, rfl, rfl, Fr.refl⟩
    · rintro D2 H2 hD2 hf2 hd2
      rw [filter_str (fun a => slt z a) _ (fun s => rfl)] at hd2
      refine ov_cat (hf2 _ _ (fun z => z) upd_same) hd2 ?_ fun p4 hp4 => ?_
      · rw [List.length_append, List.length_map, List.length_map]
        refine Nat.le_trans (Nat.add_le_add (Nat.add_le_add_right (List.length_filter_le _ _) 1) (List.length_filter_le _ _)) (sz30 (by show ls.length + 1 + ls.length ≤ 100000; omega))
      · have f3 := (hf.trans f2).trans hf2
        refine q p4 _ (f3.free hp4) (f3.trans (Fr.new hp4)) ?_
        rw [upd_same]
        unfold placed
        simp
theorem len_app (a b : Str) : (a ++ b).length = a.length + b.length := by
  show (a ++ b).cps.size = a.cps.size + b.cps.size
  have := congrArg List.length (TL.tl_append a b)
  simpa [TL.tl] using this
theorem low_app {a b : Str} (ha : Low a) (hb : Low b) : Low (a ++ b) := fun c hc => by
  have e : (a ++ b).cps.toList = a.cps.toList ++ b.cps.toList := TL.tl_append a b
  rw [e, List.mem_append] at hc
  exact hc.elim (ha c) (hb c)
theorem low_cut {z : Str} (h : Low z) (lo hi : Option Int) : Low (cutS z lo hi) := fun c hc => by
  refine h c (List.mem_of_mem_drop (List.mem_of_mem_take (i := HT.sIx z.length z.length hi - HT.sIx z.length 0 lo) (l := z.cps.toList.drop (HT.sIx z.length 0 lo)) ?_))
  simpa [cutS] using hc
theorem len_cutTo (z : Str) (k : Nat) : (cutS z none (some (k : Int))).length = min k z.length := by
  show (((z.cps.toList.drop (HT.sIx z.length 0 none)).take (HT.sIx z.length z.length (some (k : Int)) - HT.sIx z.length 0 none)).toArray).size = _
  rw [HT.sIx_nat, HT.sIx_none, List.size_toArray, List.length_take, List.length_drop, Array.length_toList]
  show min (min k z.length - 0) (z.length - 0) = _
  omega
theorem len_cutFrom (z : Str) (k : Nat) : (cutS z (some (k : Int)) none).length = z.length - k := by
  show (((z.cps.toList.drop (HT.sIx z.length 0 (some (k : Int)))).take (HT.sIx z.length z.length none - HT.sIx z.length 0 (some (k : Int)))).toArray).size = _
  rw [HT.sIx_nat, HT.sIx_none, List.size_toArray, List.length_take, List.length_drop, Array.length_toList]
  show min (z.length - min k z.length) (z.length - min k z.length) = _
  omega
def isOne : V → Bool
  | .str s => s.cps.toList.all (fun c => decide (97 ≤ c) && decide (c ≤ 122)) && decide (s.length = 1)
  | _ => false
theorem isOne_of {v : V} (h : isOne v = true) : ∃ s, v = .str s ∧ Low s ∧ s.length = 1 := by
  cases v with
  | str s =>
    unfold isOne at h
    rw [Bool.and_eq_true] at h
    refine ⟨s, rfl, fun c hc => ?_, of_decide_eq_true h.2⟩
    have := List.all_eq_true.mp h.1 c hc
    simpa using this
  | _ => cases h
theorem low_of {s : Str} (h : s.cps.toList.all (fun c => decide (97 ≤ c) && decide (c ≤ 122)) = true) : Low s := fun c hc => by
  have := List.all_eq_true.mp h c hc
  simpa using this
def lowOf (ls : List Str) (z : Str) : Option Str := (ls.filter (fun a => slt a z)).getLast?
def highOf (ls : List Str) (z : Str) : Option Str := (ls.filter (fun a => !slt a z)).head?
/-- gap_of: refused as one of them, else the neighbours -/
def spGap (K : PySem.W.Frag) (CR : Addr) : Sp := fun vs H Q E => ∃ (p : Addr) (ls : List Str) (z : Str), vs = [.ref p, .str z] ∧ SqT K H p (ls.map V.str) ∧
  (z ∈ ls → ∀ d, H d = none → E (.ref CR) (some d) (upd H d (.xd [("value", .str z)]))) ∧
  (z ∉ ls → ∀ p', H p' = none → Q (.ref p') (upd H p' (.tup [oS (lowOf ls z), oS (highOf ls z)])))
theorem head_more {α : Type} (l : List α) (a : α) : (l ++ [a]).head? = some (l.head?.getD a) := by cases l <;> rfl
theorem body_gap {X : Cx} (c : Ctx X nq_gap_of lq_gap_of 2) {CR : Addr} (EC : ErrC X.prog X.w X.K X.mg X.base "Refused" "value" CR) {vs : List V} {H : Hp} {Q : VK} {E : XK} (tk : Takes X (fun cls d _ H' => E cls d H')) (h : spGap X.K CR vs H Q E) :
    RB X (defBody sq_gap_of) { nx := fun _ H' => Q .non H', rt := Q } (start nq_gap_of vs) H := by
  obtain ⟨p, ls, z, rfl, hS, qe, q⟩ := h
  show RB X (defBody sq_gap_of) _ [some (.ref p), some (.str z), none, none, none] H
  refine rb_cons ?_
  refine rs_set2 c (by walk_at "gm") .loc (by walk_at "gm") (by walk_at "gm") .loc (by walk_at "gm") ?_
  walk_at "e"
  refine ⟨_, _, by walk_at "gs", by walk_at "gs", ?_⟩
  refine rb_cons ?_
  refine rs_for_tup c (by walk_at "gm") .loc (by walk_at "gm") ?_
  walk_at "e"
  refine ⟨_, _, rfl, hS, ?_⟩
  refine ⟨fun i σ H' => H' = H ∧ (∀ a ∈ ls.take i, a ≠ z) ∧ ∃ s : Option V, σ = [some (.ref p), some (.str z), some (oS (lowOf (ls.take i) z)), some (oS (highOf (ls.take i) z)), s], ⟨rfl, by simp, none, rfl⟩, fun i σ H' _ h => by rw [h.1]; exact hS, ?_, ?_⟩
  · rintro i y σ H' hi hy ⟨rfl, h1, s, rfl⟩
    obtain ⟨a, ha, rfl⟩ : ∃ a, ls[i]? = some a ∧ y = .str a := by
      rw [List.getElem?_map] at hy
      cases e : ls[i]? with
      | none => rw [e] at hy; cases hy
      | some a => rw [e] at hy; exact ⟨a, rfl, (Option.some.inj hy).symm⟩
    have htake : ls.take (i + 1) = ls.take i ++ [a] := by rw [List.take_succ, ha]; rfl
    refine ⟨_, by walk_at "gs", ?_⟩
    walk_at "e0"
    refine ite2 (fun e => ?_) (fun e => ?_)
    · have ez : a = z := of_decide_eq_true e
      subst ez
      refine rb_cons ?_
      refine rs_raise c EC (by decide) (by walk_at "gm") tk ?_
      walk_at "e"
      exact fun d hd => qe (List.mem_of_getElem? ha) d hd
    · have nz : a ≠ z := by simpa using e
      have h2 : ∀ b ∈ ls.take (i + 1), b ≠ z := by
        intro b hb
        rw [htake, List.mem_append] at hb
        rcases hb with hb | hb
        · exact h1 b hb
        · obtain rfl := List.mem_singleton.mp hb
          exact nz
      walk_at "e"
      walk_at "e0"
      refine ite2 (fun e => ?_) (fun e => ?_)
      · have e1 : slt a z = true := e
        have f1 : lowOf (ls.take (i + 1)) z = some a := by unfold lowOf; rw [htake, List.filter_append]; simp [List.filter, e1]
        have f2 : highOf (ls.take (i + 1)) z = highOf (ls.take i) z := by unfold highOf; rw [htake, List.filter_append]; simp [List.filter, e1]
        walk_at "g"
        exact ⟨rfl, h2, _, by rw [f1, f2]; rfl⟩
      · have e1 : slt a z = false := by simpa [slt] using e
        have f1 : lowOf (ls.take (i + 1)) z = lowOf (ls.take i) z := by unfold lowOf; rw [htake, List.filter_append]; simp [List.filter, e1]
        have f2 : highOf (ls.take (i + 1)) z = some ((highOf (ls.take i) z).getD a) := by unfold highOf; rw [htake, List.filter_append]; simp [List.filter, e1, head_more]
        walk_at "e0"
        cases hh : highOf (ls.take i) z with
        | none =>
          show CpV _ _ V.non V.non _ _
          walk_at "g"
          rw [hh] at f2
          exact ⟨rfl, h2, _, by rw [f1, f2]; rfl⟩
        | some b =>
          show CpV _ _ (V.str b) V.non _ _
          walk_at "g"
          rw [hh] at f2
          exact ⟨rfl, h2, _, by rw [f1, f2]; rfl⟩
  · rintro σ H' ⟨rfl, h1, s, rfl⟩
    rw [List.length_map, List.take_length] at *
    walk_at "g"
    exact ⟨by show 2 ≤ sizeLine; decide, fun p' hp' => q (fun z' => h1 z z' rfl) p' hp'⟩
/-- the same data, of so many levels -/
def spSame (K : PySem.W.Frag) (n : Nat) : Sp := fun vs H Q _ => ∃ (d : D) (u v : V) (B B' : Addr → Prop), vs = [u, v] ∧ Dt K B H u d ∧ Dt K B' H v d ∧ Dep n d ∧ ∀ H', Fr NoB H H' → Q (.bl true) H'
theorem body_same {X : Cx} {n : Nat} (c : Ctx X nq_same lq_same n) (zl : X.mg "len" = none) (zi : X.mg "isinstance" = none) (zt : X.mg "tuple" = none) (zL : X.mg "list" = none) (zz : X.mg "zip" = none) (zb : X.mg "bool" = none) (zI : X.mg "int" = none) (zs : X.mg "str" = none)
    (rec : ∀ m, n = m + 1 → DefP X.prog X.w X.K X.mg X.base CX0 "_law_same" ["told", "due"] (m + 1) (spSame X.K m)) {vs : List V} {H : Hp} {Q : VK} {E : XK} (h : spSame X.K n vs H Q E) :
    RB X (defBody sq_same) { nx := fun _ H' => Q .non H', rt := Q } (start nq_same vs) H := by
  obtain ⟨d, u, v, B, B', rfl, hu, hv, hd, q⟩ := h
  have q0 := q H Fr.refl
  -- behind the kinds: row by row
  have rest : ∀ (a b : Addr) (xs ys : List V) (ds : List D) (m : Nat), n = m + 1 → (∃ Sq : Hp → Addr → List V → Prop, (Sq = (fun H => SqL X.K H) ∨ Sq = fun H => SqT X.K H) ∧ ∀ H', Fr NoB H H' → Sq H' a xs ∧ Sq H' b ys) → Dts X.K B H xs ds → Dts X.K B' H ys ds → (∀ d ∈ ds, Dep m d) →
      ∀ (nx : L2.St → Hp → Prop) (tl : List Stmt), tl = List.drop 1 ((fun s => match s with | Stmt.If _ x _ _ => x | _ => []) ((defBody sq_same).headD (.Pass ⟨0, 0, 0, 0⟩))) →
      RB X tl { nx := nx, rt := Q } [some (.ref a), some (.ref b), some (.bl true), none, none] H := by
    rintro a b xs ys ds m hm ⟨Sq, hSq, sq⟩ hx hy hds nx tl rfl
    have lenQ : ∀ (a : Addr) (xs : List V) (H' : Hp) (Q' : VK), Sq H' a xs → Q' (.int xs.length) H' → ClV X (.builtin "len") [.ref a] H' Q' := fun a xs H' Q' hs hq => by
      rcases hSq with rfl | rfl
      · exact lv_lenL hs hq
      · exact lv_lenT hs hq
    have el : xs.length = ys.length := hx.1.trans hy.1.symm
    walk_at "e0"
    refine lenQ _ _ _ _ (sq H Fr.refl).1 ?_
    walk_at "e"
    refine lenQ _ _ _ _ (sq H Fr.refl).2 ?_
    walk_at "e"
    rw [el]
    simp only [decide_true]
    walk_at "e"
    refine rb_cons ?_
    refine rs_for_zip c (by walk_at "gm") .loc (by walk_at "gm") (by walk_at "gm") .loc (by walk_at "gm") (by walk_at "gm") zz ?_
    walk_at "e"
    refine ⟨a, b, xs, ys, rfl, el, Sq, hSq, (sq H Fr.refl).1, (sq H Fr.refl).2, fun i σ H' => Fr NoB H H' ∧ ∃ s1 s2 : Option V, σ = [some (.ref a), some (.ref b), some (.bl true), s1, s2], ⟨Fr.refl, none, none, rfl⟩, fun i σ H' h => sq H' h.1, ?_, ?_⟩
    · rintro i u v σ H' T hu hv ⟨f, s1, s2, rfl⟩ hT
      refine ⟨_, _, by walk_at "gs", by walk_at "gs", ?_⟩
      walk_at "e0"
      refine re_call c (rec m hm) (by omega) (by walk_at "gm") ?_
      walk_at "e"
      have hi : i < ds.length := by
        rw [← hx.1]
        rcases Nat.lt_or_ge i xs.length with z | z
        · exact z
        · rw [List.getElem?_eq_none z] at hu; cases hu
      have hdi : ds[i]? = some ds[i] := List.getElem?_eq_getElem hi
      have f2 := f.trans (Fr.new (o := .tup [u, v]) hT)
      refine ⟨ds[i], u, v, B, B', rfl, (hx.2 i u _ hu hdi).fr f2.any, (hy.2 i v _ hv hdi).fr f2.any, hds _ (List.getElem_mem hi), fun H'' f3 => ?_⟩
      walk_at "e"
      exact ⟨f2.trans f3, _, _, rfl⟩
    · rintro σ H' ⟨f, s1, s2, rfl⟩
      walk_at "g"
      exact q H' f
  cases hu with
  | non =>
    cases hv
    show RB X (defBody sq_same) _ [some .non, some .non, none, none, none] H
    walk_at "g0"
    exact q0
  | bl =>
    cases hv
    rename_i bb
    show RB X (defBody sq_same) _ [some (.bl bb), some (.bl bb), none, none, none] H
    cases bb
    · walk_at "g0"
      refine iteDN (by decide) ?_
      walk_at "g"
      refine iteD rfl ?_
      walk_at "g"
      refine cv_eq (by rfl) ?_
      rw [decide_eq_true rfl]
      exact q0
    · walk_at "g0"
      refine iteD rfl ?_
      walk_at "g"
      refine cv_eq (by rfl) ?_
      rw [decide_eq_true rfl]
      exact q0
  | int =>
    cases hv
    rename_i ii
    show RB X (defBody sq_same) _ [some (.int ii), some (.int ii), none, none, none] H
    walk_at "g0"
    rw [decide_eq_true rfl]
    exact q0
  | str =>
    cases hv
    rename_i ss
    show RB X (defBody sq_same) _ [some (.str ss), some (.str ss), none, none, none] H
    walk_at "g0"
    rw [decide_eq_true rfl]
    exact q0
  | @lst a xs ds nb ta la ha =>
    cases hv with
    | @lst b ys _ nb' tb lb hb =>
      cases hd with
      | @lst m _ hds =>
        show RB X (defBody sq_same) _ [some (.ref a), some (.ref b), none, none, none] H
        walk_at "e0"
        walk_at "e0"
        refine rest a b xs ys ds m rfl ⟨fun H => SqL X.K H, .inl rfl, fun H' f => ⟨SqL.of (f _ _ (fun z => z) ta), SqL.of (f _ _ (fun z => z) tb)⟩⟩ ⟨la, ha⟩ ⟨lb, hb⟩ hds _ _ rfl
  | @tup a xs ds nb ta la ha =>
    cases hv with
    | @tup b ys _ nb' tb lb hb =>
      cases hd with
      | @tup m _ hds =>
        show RB X (defBody sq_same) _ [some (.ref a), some (.ref b), none, none, none] H
        walk_at "e0"
        walk_at "e0"
        refine rest a b xs ys ds m rfl ⟨fun H => SqT X.K H, .inr rfl, fun H' f => ⟨SqT.of (f _ _ (fun z => z) ta), SqT.of (f _ _ (fun z => z) tb)⟩⟩ ⟨la, ha⟩ ⟨lb, hb⟩ hds _ _ rfl
abbrev bads : List Str := ["BadDeed", "BadEvent", "BadFraction", "BadLabel", "BadName", "BadOctets", "BadRoster", "BadRun", "BadText", "BadView"]
structure HeardC (K : PySem.W.Frag) (mg : Str → Option Value) (CR : Addr) : Prop where
  gR : mg "Refused" = some (.ref CR)
  exm : PySem.W.exmOne K (.ref CR) (.ref CR) = some true
  isi : mg "isinstance" = none
  ve : mg "ValueError" = none
  kv : PySem.W.kitOne K (.ref CR) (.type "ValueError") = some true
  own : ∃ CO : Addr, mg "OwnError" = some (.ref CO) ∧ PySem.W.kitOne K (.ref CR) (.ref CO) = some true
  bad : ∃ Cs : Str → Addr, (∀ n ∈ bads, mg n = some (.ref (Cs n))) ∧ PySem.W.kitAny K (.ref CR) (bads.map fun n => .ref (Cs n)) = some false
  kit : KitC K CR
  xf : XfC K CR
  no : PySem.W.findIn K (.ref CR) "value" = some none
/-- what is heard of a call -/
def THeard (CR : Addr) : (XK → Hp → VK → Prop) → Hp → VK → Prop := fun tl H Q =>
  tl (fun cls d H1 => cls = .ref CR ∧ ∃ (dd : Addr) (v : V), d = some dd ∧ H1 dd = some (.xd [("value", v)]) ∧ ∀ p H2, H1 p = none → Fr NoB H1 H2 → H2 p = some (.tup [.str "none", v, .bl true, .bl true, .bl false]) → Q (.ref p) H2)
    H (fun v H1 => ∀ p H2, H1 p = none → Fr NoB H1 H2 → H2 p = some (.tup [.str "told", v]) → Q (.ref p) H2)
theorem heard_gives {X : Cx} {CR g : Addr} {cdg : Value} {q : Str} (C : HeardC X.K X.mg CR) : LamX.GivesTo X nq_heard "_law_heard" (defScope sq_heard) g cdg (defBody sq_heard) "ask" q (THeard CR) := by
  intro f c' s H Q tl act hc h
  have cS : CtxS (cxOf C8.CX0 X.prog X.w X.K X.mg X.base nq_heard "_law_heard" (defScope sq_heard) g cdg X.A X.stack s H C8.E0).nox nq_heard lq_heard := ⟨rfl, mq_heard.S.nd, knIs_of mq_heard rfl (fun _ => rfl), mq_heard.db⟩
  have rb : RB (cxOf C8.CX0 X.prog X.w X.K X.mg X.base nq_heard "_law_heard" (defScope sq_heard) g cdg X.A X.stack s H C8.E0).nox (defBody sq_heard) { nx := fun _ H' => Q .non H', rt := Q } (start nq_heard [.ref f]) H := by
    refine rb_cons ?_
    refine rs_try_as cS rfl rfl (by walk_at "gm") (by walk_at "gm") ⟨cS.gl (by walk_at "gm"), by decide +kernel, .inl C.gR⟩ ?_
    intro pn xe W tk po hW
    walk_at "g0"
    refine pe_mono (re_of (act W pn xe _ _ _ tk ?_) ⟨rfl, hc, h⟩) fun v H1 k => ?_
    · rintro cls d σ' H1 ⟨rfl, dd, v, rfl, hd, k⟩
      refine hW _ _ _ _ C.exm fun a oe pn2 nx bk ct σa ha hσ hl hz hf c2 => ?_
      obtain rfl := hσ 1 rfl
      obtain ⟨x, y, z, rfl⟩ : ∃ x y z, σ' = [x, y, z] := by
        match σ', hl with
        | [x, y, z], _ => exact ⟨x, y, z, rfl⟩
      obtain ⟨CO, mO, kO⟩ := C.own
      obtain ⟨Cs, mB, kB⟩ := C.bad
      show RB _ _ _ [x, some (.ref a), z] H1
      refine rb_cons ?_
      refine rs_setS c2 (by walk_at "gm") (by walk_at "gm") ?_
      refine re_isX c2 (by walk_at "gm") C.isi ?_
      refine ra_cons ?_
      refine re_nameS c2 (by walk_at "gs") (by walk_at "gm") .loc ?_
      refine ra_cons ?_
      refine re_tup ?_
      repeat (refine ra_cons ?_; refine re_globS c2 (v := .ref (Cs _)) (by walk_at "gm") (mB _ (by walk_at "gm")) rfl ?_)
      refine ra_nil ?_
      refine ⟨by show 10 ≤ sizeLine; decide, fun tp htp => ?_⟩
      refine ra_nil ?_
      have dt : dd ≠ tp := fun e => by rw [e, htp] at hd; cases hd
      refine lv_isXT C.kit hz hf (fs := [("value", v)]) (by rw [upd_ne dt]; exact hd) upd_same (.cons (.own _) (.cons (.own _) (.cons (.own _) (.cons (.own _) (.cons (.own _) (.cons (.own _) (.cons (.own _) (.cons (.own _) (.cons (.own _) (.cons (.own _) .nil)))))))))) kB ?_
      refine ⟨_, by walk_at "gs", ?_⟩
      refine rb_cons ?_
      refine rs_ret ?_
      refine re_tup ?_
      refine ra_cons (re_str ?_)
      refine ra_cons ?_
      refine re_field (fs := [("value", v)]) (v := v) C.xf C.no hz hf ?_
      refine re_nameS c2 (by walk_at "gs") (by walk_at "gm") .loc ?_
      refine ⟨rfl, by rw [upd_ne dt]; exact hd, rfl, ?_⟩
      refine ra_cons ?_
      refine re_isX c2 (by walk_at "gm") C.isi ?_
      refine ra_cons ?_
      refine re_nameS c2 (by walk_at "gs") (by walk_at "gm") .loc ?_
      refine ra_cons ?_
      refine re_globS c2 (v := .ref CO) (by walk_at "gm") mO rfl ?_
      refine ra_nil ?_
      refine lv_isX C.kit hz hf (fs := [("value", v)]) (by rw [upd_ne dt]; exact hd) (.own _) kO ?_
      refine ra_cons ?_
      refine re_isX c2 (by walk_at "gm") C.isi ?_
      refine ra_cons ?_
      refine re_nameS c2 (by walk_at "gs") (by walk_at "gm") .loc ?_
      refine ra_cons ?_
      refine re_bltnS c2 (v := .ty "ValueError") (by walk_at "gm") C.ve (by decide +kernel) rfl ?_
      refine ra_nil ?_
      refine lv_isX C.kit hz hf (fs := [("value", v)]) (by rw [upd_ne dt]; exact hd) (.ty _) C.kv ?_
      refine ra_cons ?_
      refine re_nameS c2 (by walk_at "gs") (by walk_at "gm") .loc ?_
      refine ra_nil ?_
      refine ⟨by show 5 ≤ sizeLine; decide, fun p hp => ?_⟩
      exact k p _ ((Fr.new (B := NoB) htp).free hp) ((Fr.new htp).trans (Fr.new hp)) upd_same
    · refine ra_nil ⟨by show 2 ≤ sizeLine; decide, fun p hp => ?_⟩
      exact k p _ hp (Fr.new hp) upd_same
  exact rb.ex
def dS : Option Str → D
  | none => .non
  | some s => .str s
def gapD (g : Option Str × Option Str) : D := .tup [dS g.1, dS g.2]
theorem dt_oS {K : PySem.W.Frag} {B : Addr → Prop} {H : Hp} (o : Option Str) : Dt K B H (oS o) (dS o) := by
  cases o
  · exact .non
  · exact .str
theorem dt_gap {K : PySem.W.Frag} {B : Addr → Prop} {H : Hp} {t : Addr} {g : Option Str × Option Str} (n : ¬ B t) (h : H t = some (.tup [oS g.1, oS g.2])) : Dt K B H (.ref t) (gapD g) :=
  Dt.ofT n h (.cons (dt_oS _) (.cons (dt_oS _) .nil))
theorem dt_oS_inv {K : PySem.W.Frag} {B : Addr → Prop} {H : Hp} {v : V} {o : Option Str} (h : Dt K B H v (dS o)) : v = oS o := by
  cases o with
  | none => cases h; rfl
  | some s => cases h; rfl
theorem gap_inv {K : PySem.W.Frag} {B : Addr → Prop} {H : Hp} {v : V} {g : Option Str × Option Str} (h : Dt K B H v (gapD g)) : ∃ t, v = .ref t ∧ ¬ B t ∧ H t = some (.tup [oS g.1, oS g.2]) := by
  unfold gapD at h
  cases h with
  | @tup t vs _ n ht hl hh =>
    match vs, hl with
    | [a, b], _ =>
      have ha := dt_oS_inv (hh 0 a _ rfl rfl)
      have hb := dt_oS_inv (hh 1 b _ rfl rfl)
      subst ha hb
      exact ⟨t, rfl, n, ht⟩
theorem dts_app {K : PySem.W.Frag} {B : Addr → Prop} {H : Hp} {vs : List V} {ds : List D} {v : V} {d : D} (h : Dts K B H vs ds) (hv : Dt K B H v d) : Dts K B H (vs ++ [v]) (ds ++ [d]) := by
  refine ⟨by rw [List.length_append, List.length_append, h.1]; rfl, fun i u e h1 h2 => ?_⟩
  rcases Nat.lt_or_ge i vs.length with z | z
  · rw [List.getElem?_append_left z] at h1
    rw [List.getElem?_append_left (by rw [← h.1]; exact z)] at h2
    exact h.2 i u e h1 h2
  · rw [List.getElem?_append_right z] at h1
    rw [List.getElem?_append_right (by rw [← h.1]; exact z)] at h2
    have e0 : i - vs.length = 0 := by
      rcases Nat.eq_zero_or_pos (i - vs.length) with e | e
      · exact e
      · rw [List.getElem?_eq_none (by show 1 ≤ i - vs.length; omega)] at h1; cases h1
    rw [e0] at h1
    rw [← h.1, e0] at h2
    cases h1
    cases h2
    exact hv
theorem at5X {X Xl : Cx} {x : Str} {ps : List Str} {n : Nat} {sp : Sp} (d : DefP X.prog X.w X.K X.mg X.base (L2.CX X.prog X.w) x ps n sp) (a : At5 Xl X.prog X.w X.K X.mg X.base) : DefP Xl.prog Xl.w Xl.K Xl.mg Xl.base (L2.CX Xl.prog Xl.w) x ps n sp := by
  obtain ⟨p1, p2, p3, p4, p5⟩ := a
  rw [p1, p2, p3, p4, p5]
  exact d
theorem dts_filter {K : PySem.W.Frag} {B : Addr → Prop} {H : Hp} {α : Type} {e : α → D} {f : V → Bool} {g : α → Bool} {vs : List V} {ds : List α} (h : Dts K B H vs (ds.map e)) (hf : ∀ v d, Dt K B H v (e d) → f v = g d) : Dts K B H (vs.filter f) ((ds.filter g).map e) := by
  induction ds generalizing vs with
  | nil =>
    have : vs = [] := List.eq_nil_of_length_eq_zero h.1
    subst this
    exact Dts.nil
  | cons d r ih =>
    cases vs with
    | nil => cases h.1
    | cons v t =>
      have hv : Dt K B H v (e d) := h.2 0 v _ rfl rfl
      have ht : Dts K B H t (r.map e) := ⟨by have := h.1; simpa using this, fun i u y a b => h.2 (i + 1) u y a b⟩
      rw [List.filter_cons, List.filter_cons, hf v d hv]
      cases g d with
      | true => exact Dts.cons hv (ih ht)
      | false => exact ih ht
theorem dep_gap {n : Nat} (g : Option Str × Option Str) : Dep (n + 1) (gapD g) := .tup fun d hd => by
  rcases List.mem_cons.mp hd with rfl | hd
  · cases g.1
    · exact .non
    · exact .str
  · obtain rfl := List.mem_singleton.mp hd
    cases g.2
    · exact .non
    · exact .str
theorem len_placed' (ls : List Str) (z : Str) : (placed ls z).length ≤ ls.length + 1 := by
  have key : ∀ l : List Str, (l.filter fun a => slt a z).length + (l.filter fun a => slt z a).length ≤ l.length := fun l => by
    induction l with
    | nil => exact Nat.le_refl _
    | cons a r ih =>
      rw [List.filter_cons, List.filter_cons]
      cases e : slt a z with
      | true =>
        have e2 : slt z a = false := decide_eq_false fun q => absurd (List.lt_trans q (of_decide_eq_true e)) (List.lt_irrefl _)
        rw [e2]
        simp
        omega
      | false =>
        cases slt z a <;> simp <;> omega
  have := key ls
  unfold placed
  rw [List.length_append, List.length_append, List.length_singleton]
  omega
theorem pos_placed (ls : List Str) (z : Str) : 0 < (placed ls z).length := by
  unfold placed
  rw [List.length_append, List.length_append, List.length_singleton]
  omega
theorem lab_placed {ls : List Str} {z : Str} (hl : ∀ a ∈ ls, Lab a) (hz : Lab z) : ∀ a ∈ placed ls z, Lab a := fun a ha => by
  unfold placed at ha
  rcases List.mem_append.mp ha with q | q
  · rcases List.mem_append.mp q with q | q
    · exact hl a (List.mem_filter.mp q).1
    · rw [List.mem_singleton.mp q]; exact hz
  · exact hl a (List.mem_filter.mp q).1
/-- labels of so many letters -/
def Lt (n : Nat) (z : Str) : Prop := z.length = n ∧ Low z
def spAll (K : PySem.W.Frag) : Sp := fun vs H Q _ => ∃ (s : Str) (n : Nat), vs = [.str s, .int (n : Int)] ∧ Low s ∧ 1 ≤ s.length ∧ s.length ≤ 5 ∧ 1 ≤ n ∧ n ≤ 4 ∧
  ∀ (r : Addr) (H' : Hp) (ls : List Str), H r = none → Fr NoB H H' → H' r = some (.lst (ls.map V.str)) → (∀ a ∈ ls, Lab a) → 1 ≤ ls.length → ls.length ≤ 800 → Q (.ref r) H'
theorem fr_set {H H' : Hp} {a : Addr} {o : HO} (f : Fr (· = a) H H') : Fr (· = a) H (upd H' a o) := fun b u n e => by
  rw [upd_ne n]
  exact f b u n e
theorem body_all {X : Cx} (c : Ctx X nq_all lq_all 2) (zr : X.mg "range" = none) (dPl : DefP X.prog X.w X.K X.mg X.base CX0 "_law_placed" ["labels", "label"] 2 (spPlaced X.K)) {vs : List V} {H : Hp} {Q : VK} {E : XK} (h : spAll X.K vs H Q E) :
    RB X (defBody sq_all) { nx := fun _ H' => Q .non H', rt := Q } (start nq_all vs) H := by
  obtain ⟨s, n, rfl, hs, s1, s5, n1, n4, q⟩ := h
  show RB X (defBody sq_all) _ [some (.str s), some (.int (n : Int)), none, none, none, none, none, none] H
  have es : s.cps.toList.length = s.length := by simp [Str.length]
  refine rb_cons ?_
  refine rs_par2 c (by walk_at "gm") (by walk_at "gm") (by walk_at "gm") (by walk_at "gm") (by decide +kernel) ?_
  walk_at "e"
  refine ⟨by show 0 ≤ sizeLine; decide, fun pf hpf => ?_⟩
  walk_at "e"
  refine ⟨by show 1 ≤ sizeLine; decide, fun pl hpl => ?_⟩
  refine ra_nil ?_
  refine ⟨_, _, _, _, rfl, by walk_at "gs", by walk_at "gs", ?_⟩
  have f0 : Fr NoB H (upd (upd H pf (.lst [])) pl (.lst [.str ""])) := (Fr.new hpf).trans (Fr.new hpl)
  have nfl : pf ≠ pl := fun e => by rw [← e, upd_same] at hpl; cases hpl
  have h0f : upd (upd H pf (.lst [])) pl (.lst [.str ""]) pf = some (.lst (([] : List Str).map V.str)) := by rw [upd_ne nfl, upd_same]; rfl
  have h0l : upd (upd H pf (.lst [])) pl (.lst [.str ""]) pl = some (.lst (([""] : List Str).map V.str)) := upd_same
  generalize upd (upd H pf (.lst [])) pl (.lst [.str ""]) = H0 at f0 h0f h0l
  walk_at "e"
  refine rb_cons ?_
  refine rs_for_range c (by walk_at "gm") .loc (by walk_at "gm") (by walk_at "gm") zr ?_
  walk_at "e"
  refine ⟨by omega, by omega, ?_⟩
  rw [Int.toNat_natCast]
  refine ⟨fun t σ H' => ∃ (pf pl : Addr) (ls ws : List Str), ∃ u1 u2 u3 u4 : Option V, Fr NoB H H' ∧ H pf = none ∧ H' pf = some (.lst (ls.map V.str)) ∧ H' pl = some (.lst (ws.map V.str)) ∧ (∀ a ∈ ls, Lab a) ∧ (∀ w ∈ ws, Lt t w) ∧ 1 ≤ ws.length ∧ ws.length ≤ 5 ^ t ∧ 4 * ls.length + 5 ≤ 5 ^ (t + 1) ∧ (1 ≤ t → 1 ≤ ls.length) ∧
      σ = [some (.str s), some (.int (n : Int)), some (.ref pf), some (.ref pl), u1, u2, u3, u4],
    ⟨pf, pl, [], [""], none, none, none, none, f0, hpf, h0f, h0l, by simp, fun w hw => by rw [List.mem_singleton.mp hw]; exact ⟨by decide +kernel, low_of (by decide +kernel)⟩, Nat.le_refl _, Nat.le_refl _, by decide, fun e => absurd e (by decide), rfl⟩, fun _ _ _ _ _ => trivial, ?_, ?_⟩
  · rintro t y σ H1 ht rfl ⟨pf, pl, ls, ws, u1, u2, u3, u4, f1, hpf, h1f, h1l, hl, hw, w1, w5, lb, lp, rfl⟩
    have hw625 : ws.length ≤ 125 := Nat.le_trans w5 (Nat.pow_le_pow_right (by decide) (by omega : t ≤ 3))
    have hlb : 4 * ls.length + 5 ≤ 625 := Nat.le_trans lb (Nat.pow_le_pow_right (by decide) (by omega : t + 1 ≤ 4))
    refine ⟨_, by walk_at "gs", ?_⟩
    walk_at "e0"
    refine ⟨by show 0 ≤ sizeLine; decide, fun lg hlg => ?_⟩
    refine ⟨_, by walk_at "gs", ?_⟩
    have f2 : Fr NoB H1 (upd H1 lg (.lst [])) := Fr.new hlg
    have h2g : upd H1 lg (.lst []) lg = some (.lst (([] : List Str).map V.str)) := upd_same
    generalize upd H1 lg (.lst []) = H2 at f2 h2g
    have nlg : ¬ pl = lg := fun e => by rw [e, hlg] at h1l; cases h1l
    have nfg : ¬ pf = lg := fun e => by rw [e, hlg] at h1f; cases h1f
    refine rb_cons ?_
    refine rs_for_list c (by walk_at "gm") .cell (by walk_at "gm") ?_
    walk_at "e"
    refine ⟨pl, _, rfl, SqL.of (f2 _ _ (fun z => z) h1l), fun i σ H' => ∃ xs : List Str, ∃ u3 u4 : Option V, Fr (· = lg) H2 H' ∧ H' lg = some (.lst (xs.map V.str)) ∧ xs.length = i * s.length ∧ (∀ w ∈ xs, Lt (t + 1) w) ∧
      σ = [some (.str s), some (.int (n : Int)), some (.ref pf), some (.ref pl), some (.int (t : Int)), some (.ref lg), u3, u4], ⟨[], _, _, Fr.refl, h2g, by simp, by simp, rfl⟩, fun i σ H' _ ⟨_, _, _, f, _⟩ => f.seqL nlg (SqL.of (f2 _ _ (fun z => z) h1l)), ?_, ?_⟩
    · rintro i y σ H3 hi hy ⟨xs, u3, u4, f3, h3g, xl, hx, rfl⟩
      rw [List.length_map] at hi
      obtain ⟨w, hwm, rfl⟩ : ∃ w, w ∈ ws ∧ y = .str w := by
        rw [List.getElem?_map] at hy
        cases e : ws[i]? with
        | none => rw [e] at hy; cases hy
        | some w => rw [e] at hy; exact ⟨w, List.mem_of_getElem? e, (Option.some.inj hy).symm⟩
      obtain ⟨wl, wL⟩ := hw w hwm
      have hxl : xs.length ≤ 625 := by
        rw [xl]
        exact Nat.le_trans (Nat.mul_le_mul (by omega : i ≤ 125) s5) (by decide)
      refine ⟨_, by walk_at "gs", ?_⟩
      refine rb_cons (rs_expr (re_extend ?_))
      walk_at "e"
      refine ⟨lg, _, rfl, h3g, ?_⟩
      refine re_lc_str c lq_all_c0 (by decide +kernel) ?_
      walk_at "e"
      refine fun Dn hD => ?_
      have nDg : ¬ lg = Dn := fun e => by rw [e, hD] at h3g; cases h3g
      refine ⟨fun j H' => ∃ ys : List Str, H' Dn = some (.lst (ys.map V.str)) ∧ ys.length = j ∧ (∀ w ∈ ys, Lt (t + 1) w) ∧ Fr NoB H3 H', ⟨[], upd_same, rfl, by simp, Fr.new hD⟩, fun _ _ _ _ => trivial, ?_, ?_⟩
      · rintro j y H4 hj ⟨cz, hcz, rfl⟩ ⟨ys, h4, yl, hys, f4⟩
        have hcm : cz ∈ s.cps.toList := by
          rw [Array.getElem?_toList.symm] at hcz
          exact List.mem_of_getElem? hcz
        have hj5 : j < s.length := hj
        refine ⟨_, by walk_at "gs", fun s' Hb C cl fp cb => rts_nil (iteT fun s' Hb C cl fp cb => ?_)⟩
        walk_at "g"
        have l1 : (⟨#[cz]⟩ : Str).length = 1 := rfl
        have l2 := len_app w ⟨#[cz]⟩
        refine ov_adds (by rw [← len_app]; exact sz30 (by omega)) ?_
        refine ⟨_, h4, by rw [List.length_map]; exact Nat.lt_of_le_of_lt (by omega : ys.length ≤ 100) (by decide), ys ++ [w ++ ⟨#[cz]⟩], by rw [upd_same, List.map_append]; rfl, by rw [List.length_append, yl]; rfl, fun v hv => ?_, f4.put hD⟩
        rcases List.mem_append.mp hv with hv | hv
        · exact hys v hv
        · rw [List.mem_singleton.mp hv]
          exact ⟨by omega, low_app wL fun d hd => by
            have : d = cz := by simpa using hd
            rw [this]; exact hs cz hcm⟩
      · rintro H4 ⟨ys, h4, yl, hys, f4⟩
        have yl' : ys.length = s.length := yl
        refine ⟨Dn, _, _, rfl, f4 _ _ (fun z => z) h3g, h4, by rw [List.length_map, List.length_map]; exact sz30 (by omega), ?_⟩
        refine rb_nil ?_
        refine ⟨xs ++ ys, _, _, ?_, by rw [upd_same, List.map_append], by rw [List.length_append, xl, yl', Nat.succ_mul], fun v hv => ?_, rfl⟩
        · exact fr_set (f3.trans f4.any)
        · rcases List.mem_append.mp hv with hv | hv
          · exact hx v hv
          · exact hys v hv
    · rintro σ H3 ⟨xs, u3, u4, f3, h3g, xl, hx, rfl⟩
      rw [List.length_map] at xl
      have x1 : 1 ≤ xs.length := by rw [xl]; exact Nat.mul_le_mul w1 s1
      have x5 : xs.length ≤ 5 ^ (t + 1) := by rw [xl, Nat.pow_succ]; exact Nat.mul_le_mul w5 s5
      have x625 : xs.length ≤ 625 := by rw [xl]; exact Nat.le_trans (Nat.mul_le_mul hw625 s5) (by decide)
      have h3f := f3 _ _ nfg (f2 _ _ (fun z => z) h1f)
      have g3 : Fr NoB H H3 := fun b o _ e => by
        have n1 : b ≠ lg := fun q => by rw [q] at e; rw [f1 _ _ (fun z => z) e] at hlg; cases hlg
        exact f3 b o n1 (f2 b o (fun z => z) (f1 b o (fun z => z) e))
      refine rb_cons ?_
      refine rs_for_list c (by walk_at "gm") .cell (by walk_at "gm") ?_
      walk_at "e"
      refine ⟨lg, _, rfl, SqL.of h3g, fun i σ H' => ∃ (pf : Addr) (ls' : List Str), ∃ u3 u4 : Option V, Fr NoB H3 H' ∧ H pf = none ∧ H' pf = some (.lst (ls'.map V.str)) ∧ (∀ a ∈ ls', Lab a) ∧ ls'.length ≤ ls.length + i ∧ (1 ≤ i → 1 ≤ ls'.length) ∧
        σ = [some (.str s), some (.int (n : Int)), some (.ref pf), some (.ref pl), some (.int (t : Int)), some (.ref lg), u3, u4], ⟨pf, ls, _, _, Fr.refl, hpf, h3f, hl, Nat.le_refl _, fun e => absurd e (by decide), rfl⟩, fun i σ H' _ ⟨_, _, _, _, f, _⟩ => f.seqL (fun z => z) (SqL.of h3g), ?_, ?_⟩
      · rintro i y σ H4 hi hy ⟨pf', ls', u3, u4, f4, hpf', h4f, hl', ll', lp', rfl⟩
        rw [List.length_map] at hi
        obtain ⟨w, hwm, rfl⟩ : ∃ w, w ∈ xs ∧ y = .str w := by
          rw [List.getElem?_map] at hy
          cases e : xs[i]? with
          | none => rw [e] at hy; cases hy
          | some w => rw [e] at hy; exact ⟨w, List.mem_of_getElem? e, (Option.some.inj hy).symm⟩
        obtain ⟨wl, wL⟩ := hx w hwm
        have wLab : Lab w := ⟨by omega, by omega, wL⟩
        refine ⟨_, by walk_at "gs", ?_⟩
        walk_at "e0"
        refine re_call c dPl (by decide) (by walk_at "gm") ?_
        walk_at "e"
        refine ⟨pf', ls', w, rfl, SqL.of h4f, hl', wLab, by omega, fun r H5 hr f5 h5 => ?_⟩
        walk_at "e"
        have l1 := len_placed' ls' w
        exact ⟨r, placed ls' w, _, _, f4.trans f5, (g3.trans f4).free hr, h5, lab_placed hl' wLab, by omega, fun _ => pos_placed _ _, rfl⟩
      · rintro σ H4 ⟨pf', ls', u3, u4, f4, hpf', h4f, hl', ll', lp', rfl⟩
        rw [List.length_map] at ll' lp'
        walk_at "g"
        have e5 : 5 ^ (t + 1 + 1) = 5 * 5 ^ (t + 1) := by rw [Nat.pow_succ 5 (t + 1)]; omega
        exact ⟨pf', lg, ls', xs, _, _, _, _, g3.trans f4, hpf', h4f, f4 _ _ (fun z => z) h3g, hl', hx, x1, x5, by rw [e5]; omega, fun _ => lp' x1, rfl⟩
  · rintro σ H1 ⟨pf, pl, ls, ws, u1, u2, u3, u4, f1, hpf, h1f, h1l, hl, hw, w1, w5, lb, lp, rfl⟩
    walk_at "g"
    have : 5 ^ (n + 1) ≤ 3125 := Nat.le_trans (Nat.pow_le_pow_right (by decide) (by omega : n + 1 ≤ 5)) (by decide)
    exact q pf H1 ls hpf f1 h1f hl (lp n1) (by omega)
def isUp (a b : Nat) : V → Bool
  | .str s => s.cps.toList.all (fun c => decide (97 ≤ c) && decide (c ≤ 122)) && decide (a ≤ s.length) && decide (s.length ≤ b)
  | _ => false
theorem isUp_of {a b : Nat} {v : V} (h : isUp a b v = true) : ∃ s, v = .str s ∧ Low s ∧ a ≤ s.length ∧ s.length ≤ b := by
  cases v with
  | str s =>
    unfold isUp at h
    rw [Bool.and_eq_true, Bool.and_eq_true] at h
    exact ⟨s, rfl, low_of h.1.1, of_decide_eq_true h.1.2, of_decide_eq_true h.2⟩
  | _ => cases h
def spAlph : Sp := fun vs H Q _ => ∃ b : Addr, vs = [.ref b] ∧ BoxAt H b ∧
  ∀ (r : Addr) (H' : Hp) (ls : List Str), H r = none → Fr (· = b) H H' → BoxAt H' b → H' r = some (.lst (ls.map V.str)) → (∀ a ∈ ls, Lab a) → 1 ≤ ls.length → ls.length ≤ 800 → Q (.ref r) H'
theorem body_alphabet {X : Cx} (c : Ctx X nq_alphabet lq_alphabet 3) (dT : DefP X.prog X.w X.K X.mg X.base CX0 "_law_take" ["box", "many"] 1 spTake) (dP : DefP X.prog X.w X.K X.mg X.base CX0 "_law_pick" ["box", "some"] 2 (spPick X.K))
    (dA : DefP X.prog X.w X.K X.mg X.base CX0 "_law_all" ["some", "depth"] 3 (spAll X.K)) {vs : List V} {H : Hp} {Q : VK} {E : XK} (h : spAlph vs H Q E) : RB X (defBody sq_alphabet) { nx := fun _ H' => Q .non H', rt := Q } (start nq_alphabet vs) H := by
  obtain ⟨b, rfl, hB, q⟩ := h
  show RB X (defBody sq_alphabet) _ [some (.ref b)] H
  have fin : ∀ (H1 H2 : Hp) (p : Addr) (o : HO), Fr (· = b) H H1 → H1 p = none → Fr (· = b) (upd H1 p o) H2 → BoxAt H2 b → ∀ (r : Addr) (H' : Hp) (ls : List Str), H2 r = none → Fr NoB H2 H' → H' r = some (.lst (ls.map V.str)) → (∀ a ∈ ls, Lab a) → 1 ≤ ls.length → ls.length ≤ 800 → Q (.ref r) H' := by
    intro H1 H2 p o f1 hp f2 hB2 r H' ls hr f hls hl l1 l8
    have f12 : Fr (· = b) H H2 := f1.trans ((Fr.new hp).trans f2)
    exact q r H' ls (f12.gone (hB2.ne hr) hr) (f12.trans f.any) (hB2.fr f) hls hl l1 l8
  walk_at "e0"
  refine re_call c dT (by decide) (by walk_at "gm") ?_
  walk_at "e"
  refine ⟨b, 2, rfl, hB, by decide, by decide, fun d H1 d0 d2 f1 hB1 => ?_⟩
  walk_at "e"
  refine ite2 (fun e => ?_) (fun e => ?_)
  · walk_at "e0"
    refine re_call c dA (by decide) (by walk_at "gm") ?_
    refine ra_cons ?_
    refine re_call c dP (by decide) (by walk_at "gm") ?_
    walk_at "e"
    refine ⟨by show 5 ≤ sizeLine; decide, fun p hp => ?_⟩
    walk_at "e"
    refine ⟨b, hB1.fr (Fr.new hp), p, _, rfl, upd_same, hB1.ne hp, by show 0 < 5; decide, by show 5 < 2 ^ 31; decide, fun v H2 hv f2 hB2 => ?_⟩
    obtain ⟨s, rfl, sl, s1, s5⟩ := isUp_of (List.all_eq_true.mp (by decide +kernel : ([.str "ab", .str "az", .str "yz", .str "mz", .str "ac"] : List V).all (isUp 1 5) = true) v hv)
    walk_at "e"
    exact ⟨s, 4, rfl, sl, s1, s5, by decide, by decide, fin H1 H2 p _ f1 hp f2 hB2⟩
  · walk_at "e"
    walk_at "e0"
    refine re_call c dA (by decide) (by walk_at "gm") ?_
    refine ra_cons ?_
    refine re_call c dP (by decide) (by walk_at "gm") ?_
    walk_at "e"
    refine ⟨by show 3 ≤ sizeLine; decide, fun p hp => ?_⟩
    walk_at "e"
    refine ⟨b, hB1.fr (Fr.new hp), p, _, rfl, upd_same, hB1.ne hp, by show 0 < 3; decide, by show 3 < 2 ^ 31; decide, fun v H2 hv f2 hB2 => ?_⟩
    obtain ⟨s, rfl, sl, s1, s5⟩ := isUp_of (List.all_eq_true.mp (by decide +kernel : ([.str "abcyz", .str "aefgz", .str "ghijk"] : List V).all (isUp 1 5) = true) v hv)
    walk_at "e"
    exact ⟨s, 2, rfl, sl, s1, s5, by decide, by decide, fin H1 H2 p _ f1 hp f2 hB2⟩
def spNear : Sp := fun vs H Q _ => ∃ (b : Addr) (m : Int), vs = [.ref b, .int m] ∧ BoxAt H b ∧ 0 ≤ m ∧ m ≤ 40 ∧
  ∀ (r : Addr) (H' : Hp) (ls : List Str), H r = none → Fr (· = b) H H' → BoxAt H' b → H' r = some (.lst (ls.map V.str)) → (∀ a ∈ ls, Lab a) → ls.length ≤ 40 → Q (.ref r) H'
theorem body_near {X : Cx} (c : Ctx X nq_near lq_near 3) (zl : X.mg "len" = none) (zr : X.mg "range" = none) (dT : DefP X.prog X.w X.K X.mg X.base CX0 "_law_take" ["box", "many"] 1 spTake) (dP : DefP X.prog X.w X.K X.mg X.base CX0 "_law_pick" ["box", "some"] 2 (spPick X.K))
    (dB : DefP X.prog X.w X.K X.mg X.base CX0 "_law_label" ["box"] 3 spLabel) (dPl : DefP X.prog X.w X.K X.mg X.base CX0 "_law_placed" ["labels", "label"] 2 (spPlaced X.K)) {vs : List V} {H : Hp} {Q : VK} {E : XK} (h : spNear vs H Q E) :
    RB X (defBody sq_near) { nx := fun _ H' => Q .non H', rt := Q } (start nq_near vs) H := by
  obtain ⟨b, m, rfl, hB, m0, m40, q⟩ := h
  show RB X (defBody sq_near) _ [some (.ref b), some (.int m), none, none, none, none, none] H
  refine rb_cons ?_
  refine rs_par2 c (by walk_at "gm") (by walk_at "gm") (by walk_at "gm") (by walk_at "gm") (by decide +kernel) ?_
  walk_at "e"
  refine ⟨by show 0 ≤ sizeLine; decide, fun pf hpf => ?_⟩
  walk_at "e"
  refine re_call c dB (by decide) (by walk_at "gm") ?_
  walk_at "e"
  refine ⟨b, rfl, hB.fr (Fr.new hpf), fun z H1 hz f1 hB1 => ?_⟩
  refine ra_nil ?_
  refine ⟨_, _, _, _, rfl, by walk_at "gs", by walk_at "gs", ?_⟩
  have npb : ¬ pf = b := hB.ne hpf
  have h1f : H1 pf = some (.lst (([] : List Str).map V.str)) := f1 _ _ npb upd_same
  have f01 : Fr (· = b) H H1 := (Fr.new hpf).trans f1
  walk_at "e"
  refine rb_cons ?_
  refine rs_for_range c (by walk_at "gm") .loc (by walk_at "gm") (by walk_at "gm") zr ?_
  walk_at "e"
  refine ⟨by omega, by omega, ?_⟩
  refine ⟨fun t σ H' => ∃ (pf : Addr) (ls : List Str) (z : Str), ∃ u1 u2 u3 : Option V, Fr (· = b) H H' ∧ BoxAt H' b ∧ H pf = none ∧ H' pf = some (.lst (ls.map V.str)) ∧ (∀ a ∈ ls, Lab a) ∧ Lab z ∧ ls.length ≤ t ∧ σ = [some (.ref b), some (.int m), some (.ref pf), some (.str z), u1, u2, u3],
    ⟨pf, [], z, _, _, _, f01, hB1, hpf, h1f, by simp, hz, Nat.le_refl _, rfl⟩, fun _ _ _ _ _ => trivial, ?_, ?_⟩
  · rintro t y σ H2 ht rfl ⟨pf, ls, z, u1, u2, u3, f2, hB2, hpf, h2f, hl, ⟨z1, z8, zL⟩, ll, rfl⟩
    have ht40 : t < 40 := by omega
    have rest : ∀ (D : Ends), (D.nx = fun σ H' => ∃ (pf : Addr) (ls : List Str) (z : Str), ∃ u1 u2 u3 : Option V, Fr (· = b) H H' ∧ BoxAt H' b ∧ H pf = none ∧ H' pf = some (.lst (ls.map V.str)) ∧ (∀ a ∈ ls, Lab a) ∧ Lab z ∧ ls.length ≤ t + 1 ∧ σ = [some (.ref b), some (.int m), some (.ref pf), some (.str z), u1, u2, u3]) → ∀ (z : Str) (u2 u3 : Option V) (H3 : Hp), Lab z → Fr (· = b) H2 H3 → BoxAt H3 b → RB X (List.drop 2 ((fun s => match s with | Stmt.For _ _ b _ _ => b | _ => []) ((defBody sq_near).getD 1 (.Pass ⟨0, 0, 0, 0⟩)))) D
        [some (.ref b), some (.int m), some (.ref pf), some (.str z), some (.int (t : Int)), u2, u3] H3 := by
      intro D hD z u2 u3 H3 hz f3 hB3
      have npb2 : ¬ pf = b := fun e => by
        obtain ⟨g, r, hg, _⟩ := id hB
        rw [e, hg] at hpf
        cases hpf
      walk_at "e0"
      refine re_call c dPl (by decide) (by walk_at "gm") ?_
      walk_at "e"
      refine ⟨pf, ls, z, rfl, SqL.of (f3 _ _ npb2 h2f), hl, hz, by omega, fun r H4 hr f4 h4 => ?_⟩
      walk_at "e"
      have l1 := len_placed' ls z
      have f24 := (f2.trans f3).trans f4.any
      rw [hD]
      exact ⟨r, placed ls z, z, _, _, _, f24, hB3.fr f4, (f2.trans f3).gone (hB3.ne hr) hr, h4, lab_placed hl hz, hz, by omega, rfl⟩
    refine ⟨_, by walk_at "gs", ?_⟩
    walk_at "e0"
    refine re_call c dT (by decide) (by walk_at "gm") ?_
    walk_at "e"
    refine ⟨b, 5, rfl, hB2, by decide, by decide, fun way H3 w0 w5 f3 hB3 => ?_⟩
    walk_at "e"
    have lz : ¬ ((z.length : Int) = 0) := by omega
    have lab : ∀ (D : Ends) (u3 : Option V) (k : ∀ z' H', Lab z' → Fr (· = b) H2 H' → BoxAt H' b → D.nx [some (.ref b), some (.int m), some (.ref pf), some (.str z'), some (.int (t : Int)), some (.int way), u3] H'),
        RB X ((fun s => match s with | Stmt.If _ x _ _ => x | _ => []) (((fun s => match s with | Stmt.For _ _ b _ _ => b | _ => []) ((defBody sq_near).getD 1 (.Pass ⟨0, 0, 0, 0⟩))).getD 1 (.Pass ⟨0, 0, 0, 0⟩))) D [some (.ref b), some (.int m), some (.ref pf), some (.str z), some (.int (t : Int)), some (.int way), u3] H3 := by
      intro D u3 k
      walk_at "e0"
      refine re_call c dB (by decide) (by walk_at "gm") ?_
      walk_at "e"
      refine ⟨b, rfl, hB3, fun z' H4 hz' f4 hB4 => ?_⟩
      walk_at "e"
      exact k z' H4 hz' (f3.trans f4) hB4
    walk_at "e0"
    refine ite2 (fun e => ?_) (fun e => ?_)
    · exact lab _ _ fun z' H' hz' f' hB' => rest _ rfl z' _ _ H' hz' f' hB'
    · walk_at "e"
      refine lv_lenS (sz30 (by omega)) ?_
      walk_at "e"
      refine iteDN lz ?_
      have last : ∀ (D : Ends) (k : ∀ z' u2 u3 H', Lab z' → Fr (· = b) H2 H' → BoxAt H' b → D.nx [some (.ref b), some (.int m), some (.ref pf), some (.str z'), some (.int (t : Int)), u2, u3] H'), RB X ((fun s => match s with | Stmt.If _ _ x _ => x | _ => []) (((fun s => match s with | Stmt.If _ _ x _ => x | _ => []) (((fun s => match s with | Stmt.If _ _ x _ => x | _ => []) (((fun s => match s with | Stmt.For _ _ b _ _ => b | _ => []) ((defBody sq_near).getD 1 (.Pass ⟨0, 0, 0, 0⟩))).getD 1 (.Pass ⟨0, 0, 0, 0⟩))).headD (.Pass ⟨0, 0, 0, 0⟩))).headD (.Pass ⟨0, 0, 0, 0⟩)))
          D
          [some (.ref b), some (.int m), some (.ref pf), some (.str z), some (.int (t : Int)), some (.int way), u3] H3 := by
        intro D k
        walk_at "e0"
        refine re_call c dT (by decide) (by walk_at "gm") ?_
        walk_at "e"
        refine lv_lenS (sz30 (by omega)) ?_
        walk_at "e"
        refine ⟨b, _, rfl, hB3, by omega, by omega, fun spot H4 s0 s1 f4 hB4 => ?_⟩
        obtain ⟨n, rfl⟩ : ∃ n : Nat, spot = (n : Int) := ⟨spot.toNat, by omega⟩
        walk_at "e"
        walk_at "e0"
        refine sv_str (sz30 (by omega)) ?_
        walk_at "e"
        refine re_call c dT (by decide) (by walk_at "gm") ?_
        walk_at "e"
        refine ⟨b, 26, rfl, hB4, by decide, by decide, fun d H5 d0 d26 f5 hB5 => ?_⟩
        obtain ⟨cz, hcz, hcm⟩ := mem_at (xs := ("abcdefghijklmnopqrstuvwxyz" : Str).cps.toList) d0 (by rw [show ("abcdefghijklmnopqrstuvwxyz" : Str).cps.toList.length = 26 by decide +kernel]; exact d26)
        have hcL : Low (⟨#[cz]⟩ : Str) := fun e he => by
          have : e = cz := by simpa using he
          rw [this]
          exact low_of (s := "abcdefghijklmnopqrstuvwxyz") (by decide +kernel) cz hcm
        refine iv_str (by decide +kernel) hcz ?_
        have l1 := len_cutTo z n
        have l2 := len_cutFrom z (n + 1)
        have l0 : (⟨#[cz]⟩ : Str).length = 1 := rfl
        refine ov_adds (sz30 (by omega)) ?_
        walk_at "e"
        refine sv_str (sz30 (by omega)) ?_
        have e1 : ((n : Int) + 1) = ((n + 1 : Nat) : Int) := by omega
        rw [e1]
        have l3 := len_app (cutS z none (some (n : Int))) ⟨#[cz]⟩
        have l4 := len_app (cutS z none (some (n : Int)) ++ ⟨#[cz]⟩) (cutS z (some ((n + 1 : Nat) : Int)) none)
        refine ov_adds (sz30 (by omega)) ?_
        walk_at "e"
        exact k _ _ _ H5 ⟨by omega, by omega, low_app (low_app (low_cut zL _ _) hcL) (low_cut zL _ _)⟩ ((f3.trans f4).trans f5) hB5
      have third : ∀ (D : Ends) (k : ∀ z' u2 u3 H', Lab z' → Fr (· = b) H2 H' → BoxAt H' b → D.nx [some (.ref b), some (.int m), some (.ref pf), some (.str z'), some (.int (t : Int)), u2, u3] H'), RB X ((fun s => match s with | Stmt.If _ _ x _ => x | _ => []) (((fun s => match s with | Stmt.If _ _ x _ => x | _ => []) (((fun s => match s with | Stmt.For _ _ b _ _ => b | _ => []) ((defBody sq_near).getD 1 (.Pass ⟨0, 0, 0, 0⟩))).getD 1 (.Pass ⟨0, 0, 0, 0⟩))).headD (.Pass ⟨0, 0, 0, 0⟩)))
          D
          [some (.ref b), some (.int m), some (.ref pf), some (.str z), some (.int (t : Int)), some (.int way), u3] H3 := by
        intro D k
        walk_at "e0"
        refine ite2 (fun e => ?_) (fun e => ?_)
        · walk_at "e"
          refine lv_lenS (sz30 (by omega)) ?_
          walk_at "e"
          refine ite2 (fun e => ?_) (fun e => ?_)
          · have e3 := of_decide_eq_true e
            walk_at "e0"
            refine lv_lenS (sz30 (by omega)) ?_
            walk_at "e"
            refine sv_str (sz30 (by omega)) ?_
            have e2 : ((z.length : Int) - 1) = ((z.length - 1 : Nat) : Int) := by omega
            rw [e2]
            have l2 := len_cutTo z (z.length - 1)
            walk_at "e"
            exact k _ _ _ H3 ⟨by omega, by omega, low_cut zL _ _⟩ f3 hB3
          · exact last _ fun z' u2 u3 H' h1 h2 h3 => rb_nil (k z' u2 u3 H' h1 h2 h3)
        · walk_at "e"
          exact last _ fun z' u2 u3 H' h1 h2 h3 => rb_nil (k z' u2 u3 H' h1 h2 h3)
      walk_at "e0"
      refine ite2 (fun e => ?_) (fun e => ?_)
      · walk_at "e"
        refine lv_lenS (sz30 (by omega)) ?_
        walk_at "e"
        refine ite2 (fun e => ?_) (fun e => ?_)
        · have e3 := of_decide_eq_true e
          walk_at "e0"
          refine re_call c dP (by decide) (by walk_at "gm") ?_
          walk_at "e"
          refine ⟨by show 3 ≤ sizeLine; decide, fun p hp => ?_⟩
          walk_at "e"
          refine ⟨b, hB3.fr (Fr.new hp), p, _, rfl, upd_same, hB3.ne hp, by show 0 < 3; decide, by show 3 < 2 ^ 31; decide, fun v H4 hv f4 hB4 => ?_⟩
          obtain ⟨s, rfl, sl, s1⟩ := isOne_of (List.all_eq_true.mp (by decide +kernel : ([.str "a", .str "z", .str "m"] : List V).all isOne = true) v hv)
          have l1 := len_app z s
          refine ov_adds (sz30 (by omega)) ?_
          walk_at "e"
          exact rest _ rfl _ _ _ H4 ⟨by omega, by omega, low_app zL sl⟩ (f3.trans ((Fr.new hp).trans f4)) hB4
        · exact third _ fun z' u2 u3 H' h1 h2 h3 => rb_nil (rest _ rfl z' u2 u3 H' h1 h2 h3)
      · walk_at "e"
        exact third _ fun z' u2 u3 H' h1 h2 h3 => rb_nil (rest _ rfl z' u2 u3 H' h1 h2 h3)
  · rintro σ H2 ⟨pf, ls, z, u1, u2, u3, f2, hB2, hpf, h2f, hl, hz, ll, rfl⟩
    walk_at "g"
    exact q pf H2 ls hpf f2 hB2 h2f hl (by omega)
def dGot (ls : List Str) (z : Str) : D := if z ∈ ls then .tup [.str "none", .str z, .bl true, .bl true, .bl false] else .tup [.str "told", gapD (lowOf ls z, highOf ls z)]
def spNeigh (K : PySem.W.Frag) : Sp := fun vs H Q _ => ∃ (p : Addr) (ls : List Str) (z : Str), vs = [.ref p, .str z] ∧ SqL K H p (ls.map V.str) ∧ (∀ a ∈ ls, Lab a) ∧ Lab z ∧
  (z ∈ ls → ∀ H', Fr NoB H H' → Q .non H') ∧ (z ∉ ls → ∀ p' H', Fr NoB H H' → H' p' = some (.tup [oS (lowOf ls z), oS (highOf ls z)]) → Q (.ref p') H')
theorem body_neighbours {X : Cx} (c : Ctx X nq_neighbours lq_neighbours 1) (dL : DefP X.prog X.w X.K X.mg X.base CX0 "_law_less" ["one", "two"] 1 spLess) {vs : List V} {H : Hp} {Q : VK} {E : XK} (h : spNeigh X.K vs H Q E) :
    RB X (defBody sq_neighbours) { nx := fun _ H' => Q .non H', rt := Q } (start nq_neighbours vs) H := by
  obtain ⟨p, ls, z, rfl, hS0, hl, hz, qe, q⟩ := h
  show RB X (defBody sq_neighbours) _ [some (.ref p), some (.str z), none, none, none] H
  refine rb_cons ?_
  refine rs_tup2 c (by walk_at "gm") .loc (by walk_at "gm") (by walk_at "gm") .loc (by walk_at "gm") ?_ (swapped_folded (by decide +kernel))
  walk_at "e"
  refine ⟨by show 2 ≤ sizeLine; decide, fun t ht => ?_⟩
  refine ⟨t, _, _, rfl, SqT.of upd_same, _, _, by walk_at "gs", by walk_at "gs", ?_⟩
  have f2 : Fr NoB H (upd H t (.tup [.non, .non])) := Fr.new ht
  generalize upd H t (.tup [.non, .non]) = H2 at f2
  have hS := f2.seqL (fun z => z) hS0
  refine rb_cons ?_
  refine rs_for_list c (by walk_at "gm") .loc (by walk_at "gm") ?_
  walk_at "e"
  refine ⟨_, _, rfl, hS, ?_⟩
  refine ⟨fun i σ H' => H' = H2 ∧ (∀ a ∈ ls.take i, a ≠ z) ∧ ∃ s : Option V, σ = [some (.ref p), some (.str z), some (oS (lowOf (ls.take i) z)), some (oS (highOf (ls.take i) z)), s], ⟨rfl, by simp, none, rfl⟩, fun i σ H' _ h => by rw [h.1]; exact hS, ?_, ?_⟩
  · rintro i y σ H' hi hy ⟨rfl, h1, s, rfl⟩
    obtain ⟨a, ha, rfl⟩ : ∃ a, ls[i]? = some a ∧ y = .str a := by
      rw [List.getElem?_map] at hy
      cases e : ls[i]? with
      | none => rw [e] at hy; cases hy
      | some a => rw [e] at hy; exact ⟨a, rfl, (Option.some.inj hy).symm⟩
    have htake : ls.take (i + 1) = ls.take i ++ [a] := by rw [List.take_succ, ha]; rfl
    have hla := hl a (List.mem_of_getElem? ha)
    refine ⟨_, by walk_at "gs", ?_⟩
    walk_at "e0"
    refine ite2 (fun e => ?_) (fun e => ?_)
    · have ez : a = z := of_decide_eq_true e
      subst ez
      walk_at "g"
      exact qe (List.mem_of_getElem? ha) _ f2
    · have nz : a ≠ z := by simpa using e
      have h2 : ∀ b ∈ ls.take (i + 1), b ≠ z := by
        intro b hb
        rw [htake, List.mem_append] at hb
        rcases hb with hb | hb
        · exact h1 b hb
        · obtain rfl := List.mem_singleton.mp hb
          exact nz
      walk_at "e"
      walk_at "e0"
      refine re_call c dL (by decide) (by walk_at "gm") ?_
      walk_at "e"
      refine ⟨a, z, rfl, hla.2.2, hz.2.2, by have := hla.2.1; omega, by have := hz.2.1; omega, ?_⟩
      walk_at "e"
      refine ite2 (fun e1 => ?_) (fun e => ?_)
      · have f1 : lowOf (ls.take (i + 1)) z = some a := by unfold lowOf; rw [htake, List.filter_append]; simp [List.filter, e1]
        have f2 : highOf (ls.take (i + 1)) z = highOf (ls.take i) z := by unfold highOf; rw [htake, List.filter_append]; simp [List.filter, e1]
        walk_at "g"
        exact ⟨rfl, h2, _, by rw [f1, f2]; rfl⟩
      · have e1 : slt a z = false := by simpa using e
        have f1 : lowOf (ls.take (i + 1)) z = lowOf (ls.take i) z := by unfold lowOf; rw [htake, List.filter_append]; simp [List.filter, e1]
        have f2 : highOf (ls.take (i + 1)) z = some ((highOf (ls.take i) z).getD a) := by unfold highOf; rw [htake, List.filter_append]; simp [List.filter, e1, head_more]
        walk_at "e0"
        cases hh : highOf (ls.take i) z with
        | none =>
          show CpV _ _ V.non V.non _ _
          walk_at "g"
          rw [hh] at f2
          exact ⟨rfl, h2, _, by rw [f1, f2]; rfl⟩
        | some b =>
          show CpV _ _ (V.str b) V.non _ _
          walk_at "g"
          rw [hh] at f2
          exact ⟨rfl, h2, _, by rw [f1, f2]; rfl⟩
  · rintro σ H' ⟨rfl, h1, s, rfl⟩
    rw [List.length_map, List.take_length] at *
    walk_at "g"
    exact ⟨by show 2 ≤ sizeLine; decide, fun p' hp' => q (fun z' => h1 z z' rfl) p' _ (f2.trans (Fr.new hp')) upd_same⟩
abbrev qG : Str := "_law_gap_right" ++ ".<locals>." ++ "<lambda>"
def spGapR (K : PySem.W.Frag) (P : Addr) : Sp := fun vs H Q _ => ∃ (p : Addr) (ls : List Str) (z : Str), vs = [.ref p, .str z] ∧ H p = some (.lst (ls.map V.str)) ∧ (∀ a ∈ ls, Lab a) ∧ Lab z ∧ LamX.TabS H P qG ∧
  ∀ H', Fx NoB H H' → LamX.TabS H' P qG → Q (.bl true) H'
theorem body_gap_right {X : Cx} (c : Ctx X nq_gap_right lq_gap_right 5) {cc P CR g : Addr} {fdh : FuncData} (hcode : X.env.code = .ref cc) (hq : X.env.qual = "_law_gap_right" ++ ".<locals>.") (TB : LamX.TabB X.base X.mg cc P) (FH : FnP X.K "_law_heard" sq_heard g fdh) (gx : X.mg "_law_heard" = some (.ref g)) (bH : Binds X.K fdh ["ask"] [])
    (HC : HeardC X.K X.mg CR) (zt : X.mg "tuple" = none) (dG : DefP X.prog X.w X.K X.mg X.base (L2.CX X.prog X.w) "gap_of" ["labels", "label"] 3 (spGap X.K CR)) (dS : DefP X.prog X.w X.K X.mg X.base CX0 "_law_same" ["told", "due"] 3 (spSame X.K 2))
    (dN : DefP X.prog X.w X.K X.mg X.base CX0 "_law_neighbours" ["labels", "label"] 2 (spNeigh X.K)) {vs : List V} {H : Hp} {Q : VK} {E : XK} (h : spGapR X.K P vs H Q E) : RB X (defBody sq_gap_right) { nx := fun _ H' => Q .non H', rt := Q } (start nq_gap_right vs) H := by
  obtain ⟨p, ls, z, rfl, hp, hl, hz, hT, q⟩ := h
  have rest : ∀ (pr : V) (pd : Addr) (H1 : Hp), Fr NoB H H1 → Dt X.K NoB H1 (.ref pd) (dGot ls z) → RB X (List.drop 2 (defBody sq_gap_right)) { nx := fun _ H' => Q .non H', rt := Q } [some (.ref p), some (.str z), some pr, some (.ref pd)] H1 := by
    intro pr pd H1 f1 hd
    have t1 : LamX.TabS H1 P qG := hT.ext fun b o e => f1 b o (fun z => z) e
    walk_at "e0"
    refine re_call c dS (by decide) (by walk_at "gm") ?_
    refine ra_cons ?_
    refine re_lamcall c (T := [(P, qG)]) lq_gap_right_l0 (by decide +kernel) FH gx bH mq_heard.S rfl (Or.inl (by decide +kernel)) (by decide +kernel) (fun cdg => heard_gives HC) TB hcode (by rw [hq]; exact List.mem_singleton.mpr rfl) (fun p hp _ => by rw [hq, List.mem_singleton.mp hp]) (by decide : 3 + 2 ≤ 5) (by walk_at "gm") ?_
    refine ⟨fun p hp => by rw [List.mem_singleton.mp hp]; exact t1, fun H2 e2 t2 => ?_⟩
    have t2 : LamX.TabS H2 P qG := t2 _ (List.mem_singleton.mpr rfl)
    have f2 : Fx NoB H1 H2 := Fx.ext e2
    refine LamR.intro (Ll := lq_gap_right_l0) c (by decide +kernel) fun Xl cl al tkl => ?_
    have zt' : Xl.mg "tuple" = none := by rw [al.m]; exact zt
    refine re_callX cl (at5X dG al) (by decide) (by walk_at "gm") (passes_call tkl (fun cls d σ H h => h)) ?_
    walk_at "e"
    have hp2 := f2.lst (fun z => z) (f1 _ _ (fun z => z) hp)
    refine lv_tupL (SqL.of hp2) fun l hl => ?_
    walk_at "e"
    have f3 : Fr NoB H2 (upd H2 l (.tup (ls.map V.str))) := Fr.new hl
    have fin : ∀ (pg : Addr) (H4 : Hp), Fr NoB (upd H2 l (.tup (ls.map V.str))) H4 → Dt X.K NoB H4 (.ref pg) (dGot ls z) → spSame X.K 2 [.ref pg, .ref pd] H4 Q E0 := by
      intro pg H4 f4 hg
      have fb := f3.trans f4
      refine ⟨dGot ls z, _, _, NoB, NoB, rfl, hg, (f2.dt hd).fr fb, ?_, fun H5 f5 => ?_⟩
      · unfold dGot
        split
        · refine .tup fun d hd => ?_
          simp only [List.mem_cons, List.not_mem_nil, or_false] at hd
          rcases hd with rfl | rfl | rfl | rfl | rfl
          · exact .str
          · exact .str
          · exact .bl
          · exact .bl
          · exact .bl
        · refine .tup fun d hd => ?_
          rcases List.mem_cons.mp hd with rfl | hd
          · exact .str
          · obtain rfl := List.mem_singleton.mp hd
            exact dep_gap _
      · have fc := fb.trans f5
        exact q _ ((f1.fx.trans f2).trans fc.fx) (t2.ext fun b o e => fc b o (fun z => z) e)
    refine ⟨l, ls, z, rfl, SqT.of upd_same, fun hm d hd => ?_, fun hm d hd => ?_⟩
    · refine ⟨rfl, d, .str z, rfl, upd_same, fun pg H4 hpg f4 h4 => ?_⟩
      walk_at "e"
      refine fin pg H4 ((Fr.new (o := .xd [("value", .str z)]) hd).trans f4) ?_
      rw [show dGot ls z = _ from if_pos hm]
      exact Dt.ofT (fun z => z) h4 (.cons .str (.cons .str (.cons .bl (.cons .bl (.cons .bl .nil)))))
    · intro pg H4 hpg f4 h4
      walk_at "e"
      refine fin pg H4 ((Fr.new (o := .tup [oS (lowOf ls z), oS (highOf ls z)]) hd).trans f4) ?_
      rw [show dGot ls z = _ from if_neg hm]
      exact Dt.ofT (fun z => z) h4 (.cons .str (.cons (dt_gap (g := (lowOf ls z, highOf ls z)) (fun z => z) (f4 _ _ (fun z => z) upd_same)) .nil))
  show RB X (defBody sq_gap_right) _ [some (.ref p), some (.str z), none, none] H
  walk_at "e0"
  refine re_call c dN (by decide) (by walk_at "gm") ?_
  walk_at "e"
  refine ⟨p, ls, z, rfl, SqL.of hp, hl, hz, fun hm H1 f1 => ?_, fun hm p' H1 f1 h1 => ?_⟩
  · walk_at "e"
    walk_at "e0"
    refine ⟨by show 5 ≤ sizeLine; decide, fun pd hpd => ?_⟩
    walk_at "e"
    refine rest .non pd _ (f1.trans (Fr.new hpd)) ?_
    rw [show dGot ls z = _ from if_pos hm]
    exact Dt.ofT (fun z => z) upd_same (.cons .str (.cons .str (.cons .bl (.cons .bl (.cons .bl .nil)))))
  · walk_at "e"
    walk_at "e0"
    refine ⟨by show 2 ≤ sizeLine; decide, fun pd hpd => ?_⟩
    walk_at "e"
    have f2 : Fr NoB H1 (upd H1 pd (.tup [.str "told", .ref p'])) := Fr.new hpd
    refine rest (.ref p') pd _ (f1.trans f2) ?_
    rw [show dGot ls z = _ from if_neg hm]
    exact Dt.ofT (fun z => z) upd_same (.cons .str (.cons (dt_gap (g := (lowOf ls z, highOf ls z)) (fun z => z) (f2 _ _ (fun z => z) h1)) .nil))
theorem tab_box {H H' : Hp} {P b : Addr} {q : Str} {xs : List V} (t : LamX.TabS H P q) (hb : H b = some (.lst xs)) (f : Fr (· = b) H H') : LamX.TabS H' P q := by
  obtain ⟨ps, h1, h2, h3⟩ := t
  have n1 : ¬ P = b := fun e => by rw [e, hb] at h1; cases h1
  refine ⟨ps, f _ _ n1 h1, h2, fun pos cv hc => ?_⟩
  obtain ⟨c, e, hco⟩ := h3 pos cv hc
  exact ⟨c, e, f _ _ (fun e2 => by rw [e2, hb] at hco; cases hco) hco⟩
/-- b holds nothing in H0, or a table -/
def Nt (H0 : Hp) (b : Addr) : Prop := ∀ o, (∀ ps, o ≠ .tbl ps) → H0 b ≠ some o
theorem Fx.nt {H0 H : Hp} {b : Addr} (f : Fx NoB H0 H) (h : H b = none) : Nt H0 b := fun o t e => by
  have := f b o (fun z => z) t e
  rw [h] at this
  cases this
theorem fx_box {H0 H H' : Hp} {b : Addr} (f : Fx NoB H0 H) (hb : Nt H0 b) (g : Fr (· = b) H H') : Fx NoB H0 H' := fun a o n t e => g a o (fun q => hb o t (by rw [← q]; exact e)) (f a o n t e)
theorem pick_str {xs : List Str} {v : V} (h : v ∈ xs.map V.str) : ∃ a, a ∈ xs ∧ v = .str a := by
  obtain ⟨a, ha, e⟩ := List.mem_map.mp h
  exact ⟨a, ha, e.symm⟩
def g3 {α : Type} : List α → List α → List α
  | [], [h, l, z] => [l, z, h]
  | _, _ => []
def g2 {α : Type} : List α → List α → List α
  | [], [z, l] => [l, z]
  | _, _ => []
structure KeyC (X : Cx) (CXs : CXT) (x : Str) (ps ks : List Str) (g : List Value → List Value → List Value) (gV : List V → List V → List V) (n : Nat) (sp : Sp) : Prop where
  ex : ∃ (f : Addr) (fd : FuncData), FnOk X.prog X.w X.K X.mg X.base CXs n f fd ps sp ∧ X.mg x = some (.ref f) ∧ PySem.W.keepIn X.K (.ref f) = true ∧ KBinds X.K fd ps ks g gV
def spInsR : Sp := fun vs H Q _ => ∃ (b p : Addr) (ls : List Str), vs = [.ref b, .ref p] ∧ BoxAt H b ∧ H p = some (.lst (ls.map V.str)) ∧ ¬ p = b ∧ 1 ≤ ls.length ∧ ls.length ≤ 1000 ∧ (∀ a ∈ ls, Lab a) ∧ ∀ H', Fr (· = b) H H' → BoxAt H' b → Q (.bl true) H'
def OkO (o : Option Str) : Prop := ∀ a, o = some a → Lab a
theorem pick_o {os : List (Option Str)} (h : ∀ o ∈ os, OkO o) {v : V} (hv : v ∈ os.map oS) : ∃ o, OkO o ∧ v = oS o := by
  obtain ⟨o, ho, e⟩ := List.mem_map.mp hv
  exact ⟨o, h o ho, e.symm⟩
theorem body_inside_right {X : Cx} (c : Ctx X nq_inside_right lq_inside_right 3) (zr : X.mg "range" = none) (dP : DefP X.prog X.w X.K X.mg X.base CX0 "_law_pick" ["box", "some"] 2 (spPick X.K)) (dB : DefP X.prog X.w X.K X.mg X.base CX0 "_law_label" ["box"] 3 spLabel)
    (dW : DefP X.prog X.w X.K X.mg X.base CX0 "_law_between" ["low", "label", "high"] 2 spBetween) (dS : DefP X.prog X.w X.K X.mg X.base CX0 "_law_same" ["told", "due"] 3 (spSame X.K 2)) (dI : DefP X.prog X.w X.K X.mg X.base CX0 "is_inside" ["low", "label", "high"] 1 spInside)
    (kI : KeyC X CX0 "is_inside" ["low", "label", "high"] ["high", "low", "label"] g3 g3 1 spInside) {vs : List V} {H : Hp} {Q : VK} {E : XK} (h : spInsR vs H Q E) : RB X (defBody sq_inside_right) { nx := fun _ H' => Q .non H', rt := Q } (start nq_inside_right vs) H := by
  obtain ⟨b, p, ls, rfl, hB, hp, npb, l1, l1000, hl, q⟩ := h
  show RB X (defBody sq_inside_right) _ [some (.ref b), some (.ref p), none, none, none, none, none, none] H
  walk_at "e0"
  refine re_call c dB (by decide) (by walk_at "gm") ?_
  walk_at "e"
  refine ⟨b, rfl, hB, fun z H1 hz f1 hB1 => ?_⟩
  walk_at "e"
  refine ⟨by show 2 ≤ sizeLine; decide, fun p2 hp2 => ?_⟩
  have hp1 := f1 _ _ npb hp
  have f2 : Fr NoB H1 (upd H1 p2 (.lst [.non, .str z])) := Fr.new hp2
  refine ov_cat (f2 _ _ (fun z => z) hp1) upd_same (sz30 (by rw [List.length_map]; show ls.length + 2 ≤ 100000; omega)) fun ps hps => ?_
  have ee : ls.map V.str ++ [.non, .str z] = (ls.map some ++ [none, some z]).map oS := by simp [oS, Function.comp_def]
  have f3 := f2.trans (Fr.new (B := NoB) (o := .lst (ls.map V.str ++ [.non, .str z])) hps)
  have h3s : upd (upd H1 p2 (.lst [.non, .str z])) ps (.lst (ls.map V.str ++ [.non, .str z])) ps = some (.lst ((ls.map some ++ [none, some z]).map oS)) := by rw [upd_same, ee]
  have nsb : ¬ ps = b := (hB1.fr f2).ne hps
  generalize upd (upd H1 p2 (.lst [.non, .str z])) ps (.lst (ls.map V.str ++ [.non, .str z])) = H3 at f3 h3s
  have hB3 := hB1.fr f3
  have f13 : Fr (· = b) H H3 := f1.trans f3.any
  have hos : ∀ o ∈ ls.map some ++ [none, some z], OkO o := fun o ho a e => by
    subst e
    rcases List.mem_append.mp ho with h | h
    · obtain ⟨w, hw, e⟩ := List.mem_map.mp h
      cases e
      exact hl a hw
    · simp at h
      subst h
      exact hz
  have los : (ls.map some ++ [none, some z]).length = ls.length + 2 := by simp
  generalize ls.map some ++ [none, some z] = os at h3s hos los
  walk_at "e"
  refine rb_cons ?_
  refine rs_for_range c (by walk_at "gm") .loc (by walk_at "gm") (by walk_at "gm") zr ?_
  walk_at "e"
  refine ⟨by decide, by decide, ?_⟩
  refine ⟨fun t σ H' => Fr (· = b) H3 H' ∧ BoxAt H' b ∧ ∃ u1 u2 u3 u4 u5 : Option V, σ = [some (.ref b), some (.ref p), some (.ref ps), u1, u2, u3, u4, u5], ⟨Fr.refl, hB3, _, _, _, _, _, rfl⟩, fun _ _ _ _ _ => trivial, ?_, ?_⟩
  · rintro t y σ H4 ht rfl ⟨f4, hB4, u1, u2, u3, u4, u5, rfl⟩
    refine ⟨_, by walk_at "gs", ?_⟩
    walk_at "e0"
    refine re_call c dP (by decide) (by walk_at "gm") ?_
    walk_at "e"
    have hp4 := f4 _ _ npb (f3 _ _ (fun z => z) hp1)
    refine ⟨b, hB4, p, _, rfl, hp4, npb, by rw [List.length_map]; omega, by rw [List.length_map]; omega, fun v H5 hv f5 hB5 => ?_⟩
    obtain ⟨w, hw, rfl⟩ := pick_str hv
    have hwl := hl w hw
    -- a bound drawn
    have draw : ∀ (y : Str) (σ : L2.St) (H : Hp) (Q' : VK) (p0 p1 p2 p3 p4 p5 p6 p7 p8 p9 pa pb pc pd : Pos) (j : Nat), Slot nq_inside_right σ "box" (.ref b) → Slot nq_inside_right σ "some" (.ref ps) → Slot nq_inside_right σ "label" (.str w) → Fr (· = b) H3 H → BoxAt H b →
        (∀ o H', OkO o → Fr (· = b) H H' → BoxAt H' b → Q' (oS o) H') →
        RE X (.Call (.Name "_law_pick" p0) [.Name "box" p1, .List [.Constant .none j p2, .Name "label" p3, .Call (.Name "_law_pick" p4) [.Name "box" p5, .Name "some" p6] [] p7, .Call (.Name "_law_pick" p8) [.Name "box" p9, .Name "some" pa] [] pb] pc] [] pd) σ H Q' := by
      intro y σ H Q' _ _ _ _ _ _ _ _ _ _ _ _ _ _ _ sb ss sl f hB k
      refine re_call c dP (by decide) (by walk_at "gm") ?_
      refine ra_cons (re_name c sb (by walk_at "gm") .loc ?_)
      refine ra_cons (re_lst ?_)
      refine ra_cons (re_non ?_)
      refine ra_cons (re_name c sl (by walk_at "gm") .loc ?_)
      refine ra_cons ?_
      refine re_call c dP (by decide) (by walk_at "gm") ?_
      refine ra_cons (re_name c sb (by walk_at "gm") .loc ?_)
      refine ra_cons (re_name c ss (by walk_at "gm") .loc ?_)
      refine ra_nil ?_
      refine ⟨b, hB, ps, _, rfl, f _ _ nsb h3s, nsb, by rw [List.length_map]; omega, by rw [List.length_map]; omega, fun v1 H1 hv1 g1 hB1 => ?_⟩
      obtain ⟨o1, ho1, rfl⟩ := pick_o hos hv1
      refine ra_cons ?_
      refine re_call c dP (by decide) (by walk_at "gm") ?_
      refine ra_cons (re_name c sb (by walk_at "gm") .loc ?_)
      refine ra_cons (re_name c ss (by walk_at "gm") .loc ?_)
      refine ra_nil ?_
      refine ⟨b, hB1, ps, _, rfl, (f.trans g1) _ _ nsb h3s, nsb, by rw [List.length_map]; omega, by rw [List.length_map]; omega, fun v2 H2 hv2 g2 hB2 => ?_⟩
      obtain ⟨o2, ho2, rfl⟩ := pick_o hos hv2
      refine ra_nil ?_
      refine ⟨by show 4 ≤ sizeLine; decide, fun pl hpl => ?_⟩
      refine ra_nil ?_
      refine ⟨b, hB2.fr (Fr.new hpl), pl, _, rfl, upd_same, hB2.ne hpl, by show 0 < 4; decide, by show 4 < 2 ^ 31; decide, fun v3 H4 hv3 g4 hB4 => ?_⟩
      have e4 : ([.non, .str w, oS o1, oS o2] : List V) = [none, some w, o1, o2].map oS := rfl
      rw [e4] at hv3
      obtain ⟨o, ho, rfl⟩ := pick_o (fun o h => by
        simp only [List.mem_cons, List.not_mem_nil, or_false] at h
        rcases h with rfl | rfl | rfl | rfl
        · exact fun a e => by cases e
        · exact fun a e => by cases e; exact hwl
        · exact ho1
        · exact ho2) hv3
      exact k o H4 ho ((g1.trans g2).trans ((Fr.new hpl).trans g4)) hB4
    walk_at "e"
    refine rb_cons (rs_set c (by walk_at "gm") .loc (by walk_at "gm") ?_)
    refine draw w _ _ _ _ _ _ _ _ _ _ _ _ _ _ _ _ _ _ (by walk_at "gs") (by walk_at "gs") (by walk_at "gs") (f4.trans f5) hB5 fun lo H6 hlo f6 hB6 => ?_
    refine ⟨_, by walk_at "gs", ?_⟩
    refine rb_cons (rs_set c (by walk_at "gm") .loc (by walk_at "gm") ?_)
    refine draw w _ _ _ _ _ _ _ _ _ _ _ _ _ _ _ _ _ _ (by walk_at "gs") (by walk_at "gs") (by walk_at "gs") ((f4.trans f5).trans f6) hB6 fun hi H7 hhi f7 hB7 => ?_
    refine ⟨_, by walk_at "gs", ?_⟩
    have f47 := ((f4.trans f5).trans f6).trans f7
    walk_at "e0"
    refine re_call c dW (by decide) (by walk_at "gm") ?_
    walk_at "e"
    refine ⟨lo, w, hi, rfl, hwl, hlo, hhi, ?_⟩
    walk_at "e"
    walk_at "e0"
    refine re_call c dS (by decide) (by walk_at "gm") ?_
    refine ra_cons ?_
    refine re_call c dI (by decide) (by walk_at "gm") ?_
    walk_at "e"
    refine ⟨lo, w, hi, rfl, ?_⟩
    walk_at "e"
    refine ⟨.bl (inside lo w hi), _, _, NoB, NoB, rfl, .bl, .bl, .bl, fun H8 f8 => ?_⟩
    walk_at "e"
    refine re_call c dS (by decide) (by walk_at "gm") ?_
    refine ra_cons ?_
    obtain ⟨f, fd, F1, gx, kp, hb⟩ := kI.ex
    refine re_callKO c F1 (by decide) (by walk_at "gm") gx kp hb pass0 ?_
    refine rk_cons ?_
    walk_at "e"
    refine rk_cons ?_
    walk_at "e"
    refine rk_cons ?_
    walk_at "e"
    refine rk_nil ?_
    refine ⟨lo, w, hi, rfl, ?_⟩
    walk_at "e"
    refine ⟨.bl (inside lo w hi), _, _, NoB, NoB, rfl, .bl, .bl, .bl, fun H9 f9 => ?_⟩
    walk_at "e"
    exact ⟨f47.trans (f8.trans f9).any, (hB7.fr f8).fr f9, _, _, _, _, _, rfl⟩
  · rintro σ H4 ⟨f4, hB4, u1, u2, u3, u4, u5, rfl⟩
    walk_at "g"
    exact q _ (f13.trans f4) hB4
structure St5 (P : Addr) (H0 : Hp) (b : Addr) (H : Hp) : Prop where
  fx : Fx NoB H0 H
  tab : LamX.TabS H P qG
  nb : Nt H0 b
  box : BoxAt H b
structure Ls (b r : Addr) (ls : List Str) (H : Hp) : Prop where
  at_ : H r = some (.lst (ls.map V.str))
  ne : ¬ r = b
  lab : ∀ a ∈ ls, Lab a
  len : ls.length ≤ 900
section
variable {P b r : Addr} {H0 H H' : Hp} {ls : List Str}
theorem St5.draw (s : St5 P H0 b H) (f : Fr (· = b) H H') (hb : BoxAt H' b) : St5 P H0 b H' := by
  obtain ⟨g, r, hg, _⟩ := id s.box
  exact ⟨fx_box s.fx s.nb f, tab_box s.tab hg f, s.nb, hb⟩
theorem St5.fr (s : St5 P H0 b H) (f : Fr NoB H H') : St5 P H0 b H' := ⟨s.fx.trans f.fx, s.tab.ext fun b o e => f b o (fun z => z) e, s.nb, s.box.fr f⟩
theorem St5.go (s : St5 P H0 b H) (f : Fx NoB H H') (t : LamX.TabS H' P qG) : St5 P H0 b H' := ⟨s.fx.trans f, t, s.nb, f.box s.box⟩
theorem Ls.draw (s : Ls b r ls H) (f : Fr (· = b) H H') : Ls b r ls H' := { s with at_ := f _ _ s.ne s.at_ }
theorem Ls.fr (s : Ls b r ls H) (f : Fr NoB H H') : Ls b r ls H' := { s with at_ := f _ _ (fun z => z) s.at_ }
theorem Ls.go (s : Ls b r ls H) (f : Fx NoB H H') : Ls b r ls H' := { s with at_ := f.lst (fun z => z) s.at_ }
end
abbrev DT (X : Cx) := DefP X.prog X.w X.K X.mg X.base CX0
structure LawD (X : Cx) (P CR : Addr) : Prop where
  bx : DT X "_law_box" ["script", "k"] 1 (spBox X.K)
  tk : DT X "_law_take" ["box", "many"] 1 spTake
  pk : DT X "_law_pick" ["box", "some"] 2 (spPick X.K)
  lb : DT X "_law_label" ["box"] 3 spLabel
  al : DT X "_law_alphabet" ["box"] 4 spAlph
  nr : DT X "_law_near" ["box", "many"] 4 spNear
  gr : DT X "_law_gap_right" ["labels", "label"] 6 (spGapR X.K P)
  ir : DT X "_law_inside_right" ["box", "labels"] 4 spInsR
  sm : DT X "_law_same" ["told", "due"] 3 (spSame X.K 2)
  gp : DefP X.prog X.w X.K X.mg X.base (L2.CX X.prog X.w) "gap_of" ["labels", "label"] 3 (spGap X.K CR)
  kg : KeyC X (L2.CX X.prog X.w) "gap_of" ["labels", "label"] ["label", "labels"] g2 g2 3 (spGap X.K CR)
  zl : X.mg "len" = none
  zr : X.mg "range" = none
  zm : X.mg "min" = none
  zM : X.mg "max" = none
theorem cutV_mem {xs : List V} {lo hi : Option Int} {v : V} (h : v ∈ cutV xs lo hi) : v ∈ xs := List.mem_of_mem_drop (List.mem_of_mem_take h)
theorem all_str {ls : List Str} : ∀ {xs : List V}, (∀ v ∈ xs, v ∈ ls.map V.str) → ∃ ms : List Str, xs = ms.map V.str ∧ ∀ m ∈ ms, m ∈ ls
  | [], _ => ⟨[], rfl, by simp⟩
  | v :: r, h => by
    obtain ⟨a, ha, e⟩ := pick_str (h v List.mem_cons_self)
    obtain ⟨ms, e2, h2⟩ := all_str (xs := r) fun u hu => h u (List.mem_cons_of_mem _ hu)
    refine ⟨a :: ms, by rw [e, e2]; rfl, fun m hm => ?_⟩
    rcases List.mem_cons.mp hm with q | q
    · rw [q]; exact ha
    · exact h2 m q
def spLaw (K : PySem.W.Frag) (P : Addr) : Sp := fun vs H Q _ => ∃ (a : Addr) (ns : List Int), vs = [.ref a] ∧ SqL K H a (ns.map V.int) ∧ ns.length ≤ 63 ∧ LamX.TabS H P qG ∧ ∀ H', Q (.bl true) H'
theorem body_law {X : Cx} {P CR : Addr} (c : Ctx X nq_law lq_law 6) (F : LawD X P CR) {vs : List V} {H : Hp} {Q : VK} {E : XK} (h : spLaw X.K P vs H Q E) : RB X (defBody sq_law) { nx := fun _ H' => Q .non H', rt := Q } (start nq_law vs) H := by
  obtain ⟨a, ns, rfl, hS, h63, hT, q⟩ := h
  have zl := F.zl
  have zr := F.zr
  have zm := F.zm
  have zM := F.zM
  show RB X (defBody sq_law) _ [some (.ref a), none, none, none, none, none, none, none, none, none] H
  refine rb_cons ?_
  refine rs_for_range c (by walk_at "gm") .loc (by walk_at "gm") (by walk_at "gm") zr ?_
  walk_at "e"
  refine lv_lenL hS ?_
  rw [List.length_map]
  walk_at "e"
  obtain ⟨n, hn, n10⟩ : ∃ n : Nat, (if (if (7 : Int) < (ns.length : Int) then 7 else (ns.length : Int)) > 3 then (if (7 : Int) < (ns.length : Int) then 7 else (ns.length : Int)) else 3) = (n : Int) ∧ n ≤ 7 := by
    refine ⟨(if (if (7 : Int) < (ns.length : Int) then 7 else (ns.length : Int)) > 3 then (if (7 : Int) < (ns.length : Int) then 7 else (ns.length : Int)) else 3).toNat, ?_, ?_⟩
    · split <;> split <;> omega
    · split <;> split <;> omega
  rw [hn]
  refine ⟨by omega, by omega, ?_⟩
  rw [Int.toNat_natCast]
  refine ⟨fun i σ H' => Fx NoB H H' ∧ LamX.TabS H' P qG ∧ ∃ s1 s2 s3 s4 s5 s6 s7 s8 s9 : Option V, σ = [some (.ref a), s1, s2, s3, s4, s5, s6, s7, s8, s9], ⟨Fx.refl, hT, _, _, _, _, _, _, _, _, _, rfl⟩, fun _ _ _ _ _ => trivial, ?_, ?_⟩
  · rintro i y σ H1 hi rfl ⟨f1, t1, s1, s2, s3, s4, s5, s6, s7, s8, s9, rfl⟩
    refine ⟨_, by walk_at "gs", ?_⟩
    walk_at "e0"
    refine re_call c F.bx (by decide) (by walk_at "gm") ?_
    walk_at "e"
    refine ⟨a, ns, i, rfl, f1.seqL (fun z => z) hS, h63, by omega, by omega, fun b H2 hb f2 hB2 => ?_⟩
    have S2 : St5 P H b H2 := ⟨f1.trans f2.fx, t1.ext fun b o e => f2 b o (fun z => z) e, Fx.nt f1 hb, hB2⟩
    walk_at "e"
    walk_at "e0"
    refine re_call c F.al (by decide) (by walk_at "gm") ?_
    walk_at "e"
    refine ⟨b, rfl, S2.box, fun rv H3 ev hrv f3 hB3 h3 hev ev1 ev8 => ?_⟩
    have S3 := S2.draw f3 hB3
    have E3 : Ls b rv ev H3 := ⟨h3, S2.box.ne hrv, hev, by omega⟩
    walk_at "e"
    walk_at "e0"
    refine re_call c F.tk (by decide) (by walk_at "gm") ?_
    walk_at "e"
    refine ⟨b, 5, rfl, S3.box, by decide, by decide, fun sh H4 sh0 sh5 f4 hB4 => ?_⟩
    have S4 := S3.draw f4 hB4
    have E4 := E3.draw f4
    walk_at "e"
    refine rb_cons ?_
    refine rs_lc_list c lq_law_c0 (by decide +kernel) (by walk_at "gm") (by walk_at "gm") ?_
    walk_at "e"
    refine ⟨rv, _, rfl, SqL.of E4.at_, fun Dn hD => ?_⟩
    have nDb := S4.box.ne hD
    refine ⟨fun j H' => ∃ ss : List Str, H' Dn = some (.lst (ss.map V.str)) ∧ (∀ m ∈ ss, Lab m) ∧ ss.length ≤ j ∧ Fr (· = b) H4 H' ∧ BoxAt H' b, ⟨[], upd_same, by simp, Nat.le_refl _, Fr.new hD, S4.box.fr (Fr.new hD)⟩, fun j H' _ ⟨_, _, _, _, f, _⟩ => f.seqL E4.ne (SqL.of E4.at_), ?_, ?_⟩
    · rintro j y H5 hj hy ⟨ss, h5, hss, ssl, f5, hB5⟩
      rw [List.length_map] at hj
      obtain ⟨w, hw, rfl⟩ := pick_str (List.mem_of_getElem? hy)
      refine ⟨_, by walk_at "gs", fun s Hb C cl fp cb => rts_one ?_⟩
      walk_at "g"
      refine re_call cb F.tk (by decide) (by walk_at "gm") ?_
      walk_at "g"
      refine ⟨b, 6, rfl, hB5, by decide, by decide, fun d H6 d0 d6 f6 hB6 => ?_⟩
      walk_at "g"
      have f46 := f5.trans f6
      have h6 := f6 _ _ nDb h5
      refine ite2 (fun e => ?_) (fun e => ?_)
      · intro s Hb C cl fp cb
        walk_at "g"
        refine ⟨_, h6, by rw [List.length_map]; exact Nat.lt_of_le_of_lt (by have := E4.len; omega : ss.length ≤ 2000) (by decide), ss ++ [w], by rw [upd_same, List.map_append]; rfl, fun m hm => ?_, by rw [List.length_append]; show ss.length + 1 ≤ j + 1; omega, f46.put hD, hB6.put nDb⟩
        rcases List.mem_append.mp hm with h | h
        · exact hss m h
        · rw [List.mem_singleton.mp h]; exact hev w hw
      · exact ⟨ss, h6, hss, by omega, f46, hB6⟩
    · rintro H5 ⟨ss, h5, hss, ssl, f5, hB5⟩
      rw [List.length_map] at ssl
      have S5 := S4.draw f5 hB5
      have E5 := E4.draw f5
      have T5 : Ls b Dn ss H5 := ⟨h5, nDb, hss, by have := E4.len; omega⟩
      refine ⟨_, by walk_at "gs", ?_⟩
      refine rb_cons ?_
      refine rs_for_list c (by walk_at "gm") .cell (by walk_at "gm") ?_
      walk_at "e"
      refine ⟨rv, _, rfl, SqL.of E5.at_, fun j σ H' => ∃ u6 u7 u8 u9 : Option V, St5 P H b H' ∧ Ls b rv ev H' ∧ Ls b Dn ss H' ∧ σ = [some (.ref a), some (.int (i : Int)), some (.ref b), some (.ref rv), some (.int (1 + sh)), some (.ref Dn), u6, u7, u8, u9], ⟨_, _, _, _, S5, E5, T5, rfl⟩, fun j σ H' _ ⟨_, _, _, _, _, e, _⟩ => SqL.of e.at_, ?_, ?_⟩
      · rintro j y σ H6 hj hy ⟨u6, u7, u8, u9, S6, E6, T6, rfl⟩
        obtain ⟨w, hw, rfl⟩ := pick_str (List.mem_of_getElem? hy)
        refine ⟨_, by walk_at "gs", ?_⟩
        walk_at "e0"
        refine re_call c F.gr (by decide) (by walk_at "gm") ?_
        walk_at "e"
        refine ⟨Dn, ss, w, rfl, T6.at_, hss, hev w hw, S6.tab, fun H7 f7 t7 => ?_⟩
        walk_at "e"
        exact ⟨_, _, _, _, S6.go f7 t7, E6.go f7, T6.go f7, rfl⟩
      · rintro σ H6 ⟨u6, u7, u8, u9, S6, E6, T6, rfl⟩
        walk_at "e0"
        refine re_call c F.nr (by decide) (by walk_at "gm") ?_
        walk_at "e"
        refine re_call c F.pk (by decide) (by walk_at "gm") ?_
        walk_at "e"
        refine ⟨by show 6 ≤ sizeLine; decide, fun pm hpm => ?_⟩
        walk_at "e"
        have g6 : Fr NoB H6 (upd H6 pm (.lst [.int 0, .int 1, .int 2, .int 5, .int 12, .int 40])) := Fr.new hpm
        refine ⟨b, S6.box.fr g6, pm, _, rfl, upd_same, S6.box.ne hpm, by show 0 < 6; decide, by show 6 < 2 ^ 31; decide, fun v H7 hv f7 hB7 => ?_⟩
        have S7 := (S6.fr g6).draw f7 hB7
        have E7 := (E6.fr g6).draw f7
        obtain ⟨many, rfl, m0, m40⟩ := isIn_of (List.all_eq_true.mp (by decide : ([.int 0, .int 1, .int 2, .int 5, .int 12, .int 40] : List V).all (isIn 0 40) = true) v hv)
        walk_at "e"
        refine ⟨b, many, rfl, S7.box, m0, m40, fun rw_ H8 wd hrw f8 hB8 h8 hwd wd40 => ?_⟩
        have S8 := S7.draw f8 hB8
        have E8 := E7.draw f8
        have W8 : Ls b rw_ wd H8 := ⟨h8, S7.box.ne hrw, hwd, by omega⟩
        walk_at "e"
        refine rb_cons ?_
        refine rs_for_list c (by walk_at "gm") .cell (by walk_at "gm") ?_
        walk_at "e"
        refine sv_list (SqL.of W8.at_) fun pc hpc => ?_
        obtain ⟨cs, hcs, hcm⟩ := all_str (ls := wd) (xs := cutV (wd.map V.str) none (some 12)) fun v hv => cutV_mem hv
        have hcl : cs.length ≤ 40 := by
          have := cutV_length (wd.map V.str) none (some 12)
          rw [hcs, List.length_map, List.length_map] at this
          omega
        rw [hcs]
        have g8 : Fr NoB H8 (upd H8 pc (.lst (cs.map V.str))) := Fr.new hpc
        have S9 := S8.fr g8
        have E9 := E8.fr g8
        have W9 := W8.fr g8
        have C9 : Ls b pc cs (upd H8 pc (.lst (cs.map V.str))) := ⟨upd_same, S8.box.ne hpc, fun m hm => hwd m (hcm m hm), by omega⟩
        generalize upd H8 pc (.lst (cs.map V.str)) = H9 at S9 E9 W9 C9
        refine re_lc_range c lq_law_c1 (by decide +kernel) (by walk_at "gm") zr ?_
        walk_at "e"
        refine ⟨by decide, by decide, fun D2 hD2 => ?_⟩
        have nD2b := S9.box.ne hD2
        refine ⟨fun j H' => ∃ ss : List Str, H' D2 = some (.lst (ss.map V.str)) ∧ (∀ m ∈ ss, Lab m) ∧ ss.length ≤ j ∧ Fr (· = b) H9 H' ∧ BoxAt H' b, ⟨[], upd_same, by simp, Nat.le_refl _, Fr.new hD2, S9.box.fr (Fr.new hD2)⟩, fun _ _ _ _ => trivial, ?_, ?_⟩
        · rintro j y H10 hj rfl ⟨ls, h10, hls, lsl, f10, hB10⟩
          have hj4 : j < 4 := hj
          refine ⟨_, by walk_at "gs", fun s Hb C cl fp cb => rts_nil (iteT fun s Hb C cl fp cb => ?_)⟩
          walk_at "g"
          refine re_call cb F.lb (by decide) (by walk_at "gm") ?_
          walk_at "g"
          refine ⟨b, rfl, hB10, fun z H11 hz f11 hB11 => ?_⟩
          have h11 := f11 _ _ nD2b h10
          refine ⟨_, h11, by rw [List.length_map]; exact Nat.lt_of_le_of_lt (by omega : ls.length ≤ 100) (by decide), ls ++ [z], by rw [upd_same, List.map_append]; rfl, fun m hm => ?_, by rw [List.length_append]; show ls.length + 1 ≤ j + 1; omega, (f10.trans f11).put hD2, hB11.put nD2b⟩
          rcases List.mem_append.mp hm with h | h
          · exact hls m h
          · rw [List.mem_singleton.mp h]; exact hz
        · rintro H10 ⟨ls, h10, hls, lsl, f10, hB10⟩
          have lsl4 : ls.length ≤ 4 := lsl
          have S10 := S9.draw f10 hB10
          have E10 := E9.draw f10
          have W10 := W9.draw f10
          have C10 := C9.draw f10
          refine ov_cat C10.at_ h10 (sz30 (by rw [List.length_map, List.length_map]; omega)) fun pq hpq => ?_
          rw [← List.map_append]
          have g10 : Fr NoB H10 (upd H10 pq (.lst ((cs ++ ls).map V.str))) := Fr.new hpq
          have S11 := S10.fr g10
          have E11 := E10.fr g10
          have W11 := W10.fr g10
          have Q11 : Ls b pq (cs ++ ls) (upd H10 pq (.lst ((cs ++ ls).map V.str))) := ⟨upd_same, S10.box.ne hpq, fun m hm => (List.mem_append.mp hm).elim (C10.lab m) (hls m), by rw [List.length_append]; omega⟩
          generalize upd H10 pq (.lst ((cs ++ ls).map V.str)) = H11 at S11 E11 W11 Q11
          refine ⟨pq, _, rfl, SqL.of Q11.at_, fun j σ H' => ∃ u7 u9 u10 : Option V, St5 P H b H' ∧ Ls b rv ev H' ∧ Ls b rw_ wd H' ∧ Ls b pq (cs ++ ls) H' ∧ σ = [some (.ref a), some (.int (i : Int)), some (.ref b), some (.ref rv), some (.int (1 + sh)), some (.ref Dn), u7, some (.ref rw_), u9, u10],
            ⟨_, _, _, S11, E11, W11, Q11, rfl⟩, fun j σ H' _ ⟨_, _, _, _, _, _, e, _⟩ => SqL.of e.at_, ?_, ?_⟩
          · rintro j y σ H12 hj hy ⟨u7, u9, u10, S12, E12, W12, Q12, rfl⟩
            obtain ⟨w, hw, rfl⟩ := pick_str (List.mem_of_getElem? hy)
            have hwL := Q12.lab w hw
            refine ⟨_, by walk_at "gs", ?_⟩
            walk_at "e0"
            refine re_call c F.gr (by decide) (by walk_at "gm") ?_
            walk_at "e"
            refine ⟨rw_, wd, w, rfl, W12.at_, hwd, hwL, S12.tab, fun H13 f13 t13 => ?_⟩
            have S13 := S12.go f13 t13
            have E13 := E12.go f13
            have W13 := W12.go f13
            have Q13 := Q12.go f13
            walk_at "e"
            refine re_call c F.gr (by decide) (by walk_at "gm") ?_
            refine ra_cons ?_
            have hlen : (wd.map V.str).length < sizeLine := by rw [List.length_map]; exact Nat.lt_of_le_of_lt (by omega : wd.length ≤ 100) (by decide)
            refine re_lc_list c lq_law_c2 (by decide +kernel) ?_
            walk_at "e"
            refine ⟨_, _, rfl, SqL.of W13.at_, cturns_filter (f := onS fun a => !decide (a = w)) hlen (SqL.of W13.at_) (by walk_at "gm") (fun y => by walk_at "gs") ?_ ?_⟩
            · rintro y H' hy hf s Hb C cl fp cb
              obtain ⟨a, ha, rfl⟩ := pick_str hy
              walk_at "g"
              exact ⟨rfl, Fr.refl⟩
            · rintro D3 H14 hD3 f14 hd
              rw [filter_str (fun a => !decide (a = w)) _ (fun s => rfl)] at hd
              have S14 := S13.fr f14
              walk_at "e"
              refine ⟨D3, _, w, rfl, hd, fun m hm => hwd m (List.mem_filter.mp hm).1, hwL, S14.tab, fun H15 f15 t15 => ?_⟩
              walk_at "e"
              exact ⟨_, _, _, S14.go f15 t15, (E13.fr f14).go f15, (W13.fr f14).go f15, (Q13.fr f14).go f15, rfl⟩
          · rintro σ H12 ⟨u7, u9, u10, S12, E12, W12, Q12, rfl⟩
            walk_at "e0"
            refine re_call c F.ir (by decide) (by walk_at "gm") ?_
            walk_at "e"
            refine ⟨b, rv, ev, rfl, S12.box, E12.at_, E12.ne, ev1, by omega, hev, fun H13 f13 hB13 => ?_⟩
            have S13 := S12.draw f13 hB13
            have W13 := W12.draw f13
            walk_at "e"
            refine re_call c F.ir (by decide) (by walk_at "gm") ?_
            walk_at "e"
            refine re_call c F.lb (by decide) (by walk_at "gm") ?_
            walk_at "e"
            refine ⟨b, rfl, S13.box, fun z H14 hz f14 hB14 => ?_⟩
            have S14 := S13.draw f14 hB14
            have W14 := W13.draw f14
            walk_at "e"
            refine ⟨by show 1 ≤ sizeLine; decide, fun p1 hp1 => ?_⟩
            have g14 : Fr NoB H14 (upd H14 p1 (.lst [.str z])) := Fr.new hp1
            have S15 := S14.fr g14
            refine ov_cat (W14.fr g14).at_ upd_same (sz30 (by rw [List.length_map]; show wd.length + 1 ≤ 100000; omega)) fun p2 hp2 => ?_
            have e1 : wd.map V.str ++ [.str z] = (wd ++ [z]).map V.str := by rw [List.map_append]; rfl
            rw [e1]
            have S16 := S15.fr (Fr.new (o := .lst ((wd ++ [z]).map V.str)) hp2)
            walk_at "e"
            refine ⟨b, p2, wd ++ [z], rfl, S16.box, upd_same, S15.box.ne hp2, by rw [List.length_append]; show 1 ≤ wd.length + 1; omega, by rw [List.length_append]; show wd.length + 1 ≤ 1000; omega, fun m hm => ?_, fun H17 f17 hB17 => ?_⟩
            · rcases List.mem_append.mp hm with h | h
              · exact hwd m h
              · rw [List.mem_singleton.mp h]; exact hz
            have S17 := S16.draw f17 hB17
            walk_at "e"
            walk_at "e0"
            refine re_call c F.lb (by decide) (by walk_at "gm") ?_
            walk_at "e"
            refine ⟨b, rfl, S17.box, fun z2 H18 hz2 f18 hB18 => ?_⟩
            have S18 := S17.draw f18 hB18
            walk_at "e"
            walk_at "e0"
            refine re_call c F.sm (by decide) (by walk_at "gm") ?_
            refine ra_cons ?_
            refine re_callX c F.gp (by decide) (by walk_at "gm") passL ?_
            walk_at "e"
            refine ⟨by show 0 ≤ sizeLine; decide, fun p3 hp3 => ?_⟩
            walk_at "e"
            have g18 : Fr NoB H18 (upd H18 p3 (.tup [])) := Fr.new hp3
            have gapnil : ∀ (H20 : Hp) (p3 : Addr) (K2 : VK), H20 p3 = some (.tup []) → (∀ t, H20 t = none → K2 (.ref t) (upd H20 t (.tup [.non, .non]))) → spGap X.K CR [.ref p3, .str z2] H20 K2 E0 := fun H20 p3 K2 h20 k => ⟨p3, [], z2, rfl, SqT.of h20, fun hm => by simp at hm, fun _ t ht => k t ht⟩
            refine gapnil _ p3 _ upd_same fun t ht => ?_
            walk_at "e"
            refine ⟨by show 2 ≤ sizeLine; decide, fun t2 ht2 => ?_⟩
            walk_at "e"
            have g19 := (g18.trans (Fr.new (o := .tup [.non, .non]) ht)).trans (Fr.new (o := .tup [.non, .non]) ht2)
            have dnn : Dep 2 (.tup [.non, .non]) := .tup fun d hd => by
              simp only [List.mem_cons, List.not_mem_nil, or_false] at hd
              rcases hd with rfl | rfl <;> exact .non
            have two : ∀ {K : PySem.W.Frag} {Hz : Hp}, Dts K NoB Hz [.non, .non] [.non, .non] := .cons .non (.cons .non .nil)
            refine ⟨.tup [.non, .non], .ref t, .ref t2, NoB, NoB, rfl, (Dt.ofT (fun z => z) upd_same two).fr (Fr.new ht2), Dt.ofT (fun z => z) upd_same two, dnn, fun H20 f20 => ?_⟩
            have S20 := (S18.fr g19).fr f20
            walk_at "e"
            refine re_call c F.sm (by decide) (by walk_at "gm") ?_
            refine ra_cons ?_
            obtain ⟨f, fd, F1, gx, kp, hb⟩ := F.kg.ex
            refine re_callKO c F1 (by decide) (by walk_at "gm") gx kp hb passL ?_
            refine rk_cons ?_
            walk_at "e"
            refine rk_cons ?_
            walk_at "e"
            refine ⟨by show 0 ≤ sizeLine; decide, fun p4 hp4 => ?_⟩
            refine rk_nil ?_
            refine gapnil _ p4 _ upd_same fun t3 ht3 => ?_
            walk_at "e"
            refine ⟨by show 2 ≤ sizeLine; decide, fun t4 ht4 => ?_⟩
            walk_at "e"
            have g21 := ((Fr.new (B := NoB) (o := .tup []) hp4).trans (Fr.new (o := .tup [.non, .non]) ht3)).trans (Fr.new (o := .tup [.non, .non]) ht4)
            refine ⟨.tup [.non, .non], .ref t3, .ref t4, NoB, NoB, rfl, (Dt.ofT (fun z => z) upd_same two).fr (Fr.new ht4), Dt.ofT (fun z => z) upd_same two, dnn, fun H22 f22 => ?_⟩
            have S22 := (S20.fr g21).fr f22
            walk_at "e"
            exact ⟨S22.fx, S22.tab, _, _, _, _, _, _, _, _, _, rfl⟩
  · rintro σ H1 ⟨f1, t1, s1, s2, s3, s4, s5, s6, s7, s8, s9, rfl⟩
    walk_at "g"
    exact q _
/-! ### the facts of the top -/
def dD (x : Str) (st : Stmt) : He.DefD := ⟨(x, none), x, x, defArgs st, defBody st, defScope st, [], []⟩
abbrev sIni : Stmt := inCls (top 12) 0
def dIni : He.DefD := ⟨("Refused", some "__init__"), "__init__", "Refused.__init__", defArgs sIni, defBody sIni, defScope sIni, [], []⟩
abbrev fns : List He.DefD := [dD "is_inside" sq_is_inside, dD "gap_of" sq_gap_of, dD "_law_box" sq_box, dD "_law_take" sq_take, dD "_law_pick" sq_pick, dD "_law_label" sq_label, dD "_law_less" sq_less, dD "_law_between" sq_between, dD "_law_placed" sq_placed, dD "_law_all" sq_all, dD "_law_alphabet" sq_alphabet, dD "_law_near" sq_near, dD "_law_same" sq_same, dD "_law_heard" sq_heard, dD "_law_neighbours" sq_neighbours, dD "_law_gap_right" sq_gap_right, dD "_law_inside_right" sq_inside_right, dD "law" sq_law]
abbrev fn05 : List He.DefD := dIni :: fns
abbrev fr05 : List Str := ["len", "abs", "int", "min", "max", "range", "isinstance", "tuple", "list", "zip", "bool", "str", "ValueError"]
abbrev cl05 : List Str := "OwnError" :: "Refused" :: bads
abbrev fa05 : List He.Fa := (fns.map fun d => He.Fa.glo d.name) ++ (fr05.map He.Fa.free ++ cl05.map He.Fa.glo)
def ex05 (K : PySem.W.Frag) : Bool := errB K "Refused" "value" && (kitCB K (He.ga K "Refused") && (decide (PySem.W.exmOne K (.ref (He.ga K "Refused")) (.ref (He.ga K "Refused")) = some true) && (decide (PySem.W.kitOne K (.ref (He.ga K "Refused")) (.type "ValueError") = some true) &&
  (decide (PySem.W.kitOne K (.ref (He.ga K "Refused")) (.ref (He.ga K "OwnError")) = some true) && decide (PySem.W.kitAny K (.ref (He.ga K "Refused")) (bads.map fun n => .ref (He.ga K n)) = some false)))))
structure F05 (K : PySem.W.Frag) (mg : Str → Option Value) : Prop where
  fn : ∀ x st, dD x st ∈ fns → ∃ fd, FnP K x st (He.ga K x) fd ∧ mg x = some (.ref (He.ga K x))
  free : ∀ x ∈ fr05, mg x = none
  err : ErrK K (He.ga K "Refused") (He.ma K (He.ga K "Refused") "__init__") "value"
  gR : mg "Refused" = some (.ref (He.ga K "Refused"))
  ini : ∃ fd, FunD K "__init__" "Refused.__init__" (defArgs sIni) (defBody sIni) (defScope sIni) [] [] (He.ma K (He.ga K "Refused") "__init__") fd
  heard : HeardC K mg (He.ga K "Refused")
theorem f05_of {w : World} {h : Heap} {K : PySem.W.Frag} {mg : Str → Option Value} {tf : List He.Defn} (X : K.In h) (G : h.Ns mainGlobals mg) (c : He.SaysX fa05 fn05 [] tf ex05 w h K) : F05 K mg := by
  have hg : ∀ x, He.Fa.glo x ∈ fa05 → mg x = some (.ref (He.ga K x)) := fun x hx => He.glo_ok X G (c.t.d.facts hx)
  have hf : ∀ x ∈ fr05, mg x = none := fun x hx => He.free_ok X G (c.t.d.facts (List.mem_append_right _ (List.mem_append_left _ (List.mem_map.mpr ⟨x, hx, rfl⟩))))
  have hc : ∀ x ∈ cl05, mg x = some (.ref (He.ga K x)) := fun x hx => hg x (List.mem_append_right _ (List.mem_append_right _ (List.mem_map.mpr ⟨x, hx, rfl⟩)))
  obtain ⟨h1, hx⟩ := He.ba (show ex05 K = true from c.more)
  obtain ⟨h2, hx⟩ := He.ba hx
  obtain ⟨h3, hx⟩ := He.ba hx
  obtain ⟨h4, hx⟩ := He.ba hx
  obtain ⟨h5, h6⟩ := He.ba hx
  have er := errB_ok h1
  refine ⟨fun x st hx => ?_, hf, er, hc _ (by walk_at "gm"), ?_, ⟨hc _ (by walk_at "gm"), of_decide_eq_true h3, hf _ (by walk_at "gm"), hf _ (by walk_at "gm"), of_decide_eq_true h4, ⟨_, hc _ (by walk_at "gm"), of_decide_eq_true h5⟩, ⟨He.ga K, fun n hn => hc n (List.mem_cons_of_mem _ (List.mem_cons_of_mem _ hn)), of_decide_eq_true h6⟩, kitCB_ok h2, er.xf, er.no⟩⟩
  · obtain ⟨fd, F⟩ := c.t.d.defs (d := dD x st) (List.mem_cons_of_mem _ hx)
    exact ⟨fd, F, hg x (List.mem_append_left _ (List.mem_map.mpr ⟨_, hx, rfl⟩))⟩
  · exact c.t.d.defs (d := dIni) List.mem_cons_self
theorem mIni : Nms sIni ["self", "value"] ["self", "value"] [("self", .loc), ("value", .loc)] := ⟨⟨rfl, rfl, rfl, by decide +kernel, rfl, by decide +kernel, by decide +kernel⟩, by decide +kernel, by decide +kernel, by decide +kernel⟩
theorem errC_of {P : Program} {w : World} {K : PySem.W.Frag} {mg : Str → Option Value} {base : Heap} (F : F05 K mg) : ErrC P w K mg base "Refused" "value" (He.ga K "Refused") := by
  obtain ⟨fd, Fi⟩ := F.ini
  refine ⟨F.err.oex, F.gR, F.err.no, F.err.xf, _, fd, ["self", "value"], F.err.iC, F.err.tI, ?_, FunD.bindsN Fi fun _ _ _ _ _ _ us hl => match us, hl with | [_, _], _ => rfl⟩
  refine Fi.ok mIni.S (fun vs H Q E h => ?_) (fun cdv A outer s H vs Q E hr h => ?_)
  · obtain ⟨a, C, v, rfl, _⟩ := h
    rfl
  · have c : Ctx (cxOf CX0 P w K mg base ["self", "value"] "Refused.__init__" (defScope sIni) (He.ma K (He.ga K "Refused") "__init__") cdv A outer s H E).nox ["self", "value"] [("self", .loc), ("value", .loc)] 0 := ⟨rfl, mIni.S.nd, knIs_of mIni rfl (fun _ => rfl), mIni.db, rfl, hr, PassesOwn.never, mIni.S.kind⟩
    have rb : RB (cxOf CX0 P w K mg base ["self", "value"] "Refused.__init__" (defScope sIni) (He.ma K (He.ga K "Refused") "__init__") cdv A outer s H E).nox (defBody sIni) { nx := fun _ H' => Q .non H', rt := Q } (start ["self", "value"] vs) H := by
      obtain ⟨a, C, v, rfl, o, n, hh, q⟩ := h
      show RB _ (defBody sIni) _ [some (.ref a), some v] H
      refine rb_cons (rs_ost ?_)
      walk_at "e"
      exact ⟨a, C, rfl, o, n, hh, fun dx h1 h2 => rb_nil (q dx h1 h2)⟩
    obtain ⟨t, ht, q⟩ := rb.ex
    exact ⟨t, ht.nox, q⟩
section
variable {Pg : Program} {w : World} {K : PySem.W.Frag} {mg : Str → Option Value} {base : Heap} {cc P : Addr}
theorem at5Y {X : Cx} {x : Str} {ps : List Str} {n : Nat} {sp : Sp} (d : DefP Pg w K mg base (L2.CX Pg w) x ps n sp) (a : At5 X Pg w K mg base) : DefP X.prog X.w X.K X.mg X.base (L2.CX X.prog X.w) x ps n sp := by
  obtain ⟨p1, p2, p3, p4, p5⟩ := a
  rw [p1, p2, p3, p4, p5]
  exact d
theorem dTake (F : F05 K mg) : DefP Pg w K mg base CX0 "_law_take" ["box", "many"] 1 spTake := by
  obtain ⟨fd, f, g⟩ := F.fn "_law_take" sq_take (by walk_at "gm")
  refine defP_of f g mq_take (FunD.bindsN f fun _ _ _ _ _ _ us hl => match us, hl with | [_, _], _ => rfl) (fun vs H Q E h => ?_) fun X c al vs H Q E h => ?_
  · obtain ⟨_, _, rfl, _⟩ := h; rfl
  · exact body_take c (by rw [al.m]; exact F.free _ (by walk_at "gm")) h
theorem dPick (F : F05 K mg) : DefP Pg w K mg base CX0 "_law_pick" ["box", "some"] 2 (spPick K) := by
  obtain ⟨fd, f, g⟩ := F.fn "_law_pick" sq_pick (by walk_at "gm")
  refine defP_of f g mq_pick (FunD.bindsN f fun _ _ _ _ _ _ us hl => match us, hl with | [_, _], _ => rfl) (fun vs H Q E h => ?_) fun X c al vs H Q E h => ?_
  · obtain ⟨_, _, _, _, rfl, _⟩ := h; rfl
  · exact body_pick c (by rw [al.m]; exact F.free _ (by walk_at "gm")) ((dTake F).at5 al) (by rw [al.k]; exact h)
theorem dBox (F : F05 K mg) : DefP Pg w K mg base CX0 "_law_box" ["script", "k"] 1 (spBox K) := by
  obtain ⟨fd, f, g⟩ := F.fn "_law_box" sq_box (by walk_at "gm")
  refine defP_of f g mq_box (FunD.bindsN f fun _ _ _ _ _ _ us hl => match us, hl with | [_, _], _ => rfl) (fun vs H Q E h => ?_) fun X c al vs H Q E h => ?_
  · obtain ⟨_, _, _, rfl, _⟩ := h; rfl
  · exact body_box c (by rw [al.m]; exact F.free _ (by walk_at "gm")) (by rw [al.m]; exact F.free _ (by walk_at "gm")) (by rw [al.m]; exact F.free _ (by walk_at "gm")) (by rw [al.k]; exact h)
theorem dLabel (F : F05 K mg) : DefP Pg w K mg base CX0 "_law_label" ["box"] 3 spLabel := by
  obtain ⟨fd, f, g⟩ := F.fn "_law_label" sq_label (by walk_at "gm")
  refine defP_of f g mq_label (FunD.bindsN f fun _ _ _ _ _ _ us hl => match us, hl with | [_], _ => rfl) (fun vs H Q E h => ?_) fun X c al vs H Q E h => ?_
  · obtain ⟨_, rfl, _⟩ := h; rfl
  · exact body_label c (by rw [al.m]; exact F.free _ (by walk_at "gm")) (by rw [al.m]; exact F.free _ (by walk_at "gm")) ((dTake F).at5 al) (by rw [al.k]; exact (dPick F).at5 al |> fun d => by rw [al.k] at d; exact d) h
theorem dLess (F : F05 K mg) : DefP Pg w K mg base CX0 "_law_less" ["one", "two"] 1 spLess := by
  obtain ⟨fd, f, g⟩ := F.fn "_law_less" sq_less (by walk_at "gm")
  refine defP_of f g mq_less (FunD.bindsN f fun _ _ _ _ _ _ us hl => match us, hl with | [_, _], _ => rfl) (fun vs H Q E h => ?_) fun X c al vs H Q E h => ?_
  · obtain ⟨_, _, rfl, _⟩ := h; rfl
  · exact body_less c (by rw [al.m]; exact F.free _ (by walk_at "gm")) (by rw [al.m]; exact F.free _ (by walk_at "gm")) (by rw [al.m]; exact F.free _ (by walk_at "gm")) h
theorem dBetween (F : F05 K mg) : DefP Pg w K mg base CX0 "_law_between" ["low", "label", "high"] 2 spBetween := by
  obtain ⟨fd, f, g⟩ := F.fn "_law_between" sq_between (by walk_at "gm")
  refine defP_of f g mq_between (FunD.bindsN f fun _ _ _ _ _ _ us hl => match us, hl with | [_, _, _], _ => rfl) (fun vs H Q E h => ?_) fun X c al vs H Q E h => ?_
  · obtain ⟨_, _, _, rfl, _⟩ := h; rfl
  · exact body_between c ((dLess F).at5 al) h
theorem dInside (F : F05 K mg) : DefP Pg w K mg base CX0 "is_inside" ["low", "label", "high"] 1 spInside := by
  obtain ⟨fd, f, g⟩ := F.fn "is_inside" sq_is_inside (by walk_at "gm")
  refine defP_of f g mq_is_inside (FunD.bindsN f fun _ _ _ _ _ _ us hl => match us, hl with | [_, _, _], _ => rfl) (fun vs H Q E h => ?_) fun X c al vs H Q E h => ?_
  · obtain ⟨_, _, _, rfl, _⟩ := h; rfl
  · exact body_inside c h
theorem dGap (F : F05 K mg) : DefP Pg w K mg base (L2.CX Pg w) "gap_of" ["labels", "label"] 3 (spGap K (He.ga K "Refused")) := by
  obtain ⟨fd, f, g⟩ := F.fn "gap_of" sq_gap_of (by walk_at "gm")
  refine defPX_of f g mq_gap_of (FunD.bindsN f fun _ _ _ _ _ _ us hl => match us, hl with | [_, _], _ => rfl) (fun vs H Q E h => ?_) fun X c al vs H Q E tk h => ?_
  · obtain ⟨_, _, _, rfl, _⟩ := h; rfl
  · exact body_gap c (CR := He.ga K "Refused") (by rw [al.p, al.w, al.k, al.m, al.b]; exact errC_of F) tk (by rw [al.k]; exact h)
theorem dPlaced (F : F05 K mg) : DefP Pg w K mg base CX0 "_law_placed" ["labels", "label"] 2 (spPlaced K) := by
  obtain ⟨fd, f, g⟩ := F.fn "_law_placed" sq_placed (by walk_at "gm")
  refine defP_of f g mq_placed (FunD.bindsN f fun _ _ _ _ _ _ us hl => match us, hl with | [_, _], _ => rfl) (fun vs H Q E h => ?_) fun X c al vs H Q E h => ?_
  · obtain ⟨_, _, _, rfl, _⟩ := h; rfl
  · exact body_placed c ((dLess F).at5 al) (by rw [al.k]; exact h)
theorem dSame (F : F05 K mg) : ∀ n, DefP Pg w K mg base CX0 "_law_same" ["told", "due"] (n + 1) (spSame K n) := by
  intro n
  induction n with
  | zero =>
    obtain ⟨fd, f, g⟩ := F.fn "_law_same" sq_same (by walk_at "gm")
    refine defP_of f g mq_same (FunD.bindsN f fun _ _ _ _ _ _ us hl => match us, hl with | [_, _], _ => rfl) (fun vs H Q E h => ?_) fun X c al vs H Q E h => ?_
    · obtain ⟨_, _, _, _, _, rfl, _⟩ := h; rfl
    · refine body_same c ?_ ?_ ?_ ?_ ?_ ?_ ?_ ?_ (fun m e => by omega) (by rw [al.k]; exact h) <;> (rw [al.m]; exact F.free _ (by walk_at "gm"))
  | succ n ih =>
    obtain ⟨fd, f, g⟩ := F.fn "_law_same" sq_same (by walk_at "gm")
    refine defP_of f g mq_same (FunD.bindsN f fun _ _ _ _ _ _ us hl => match us, hl with | [_, _], _ => rfl) (fun vs H Q E h => ?_) fun X c al vs H Q E h => ?_
    · obtain ⟨_, _, _, _, _, rfl, _⟩ := h; rfl
    · refine body_same c ?_ ?_ ?_ ?_ ?_ ?_ ?_ ?_ (fun m e => ?_) (by rw [al.k]; exact h)
      all_goals first | (rw [al.m]; exact F.free _ (by walk_at "gm")) | skip
      obtain rfl : m = n := by omega
      have d := ih.at5 al
      rw [al.k]
      rw [al.k] at d
      exact d
theorem dAll (F : F05 K mg) : DefP Pg w K mg base CX0 "_law_all" ["some", "depth"] 3 (spAll K) := by
  obtain ⟨fd, f, g⟩ := F.fn "_law_all" sq_all (by walk_at "gm")
  refine defP_of f g mq_all (FunD.bindsN f fun _ _ _ _ _ _ us hl => match us, hl with | [_, _], _ => rfl) (fun vs H Q E h => ?_) fun X c al vs H Q E h => ?_
  · obtain ⟨_, _, rfl, _⟩ := h; rfl
  · exact body_all c (by rw [al.m]; exact F.free _ (by walk_at "gm")) (by have d := (dPlaced (Pg := Pg) (w := w) (base := base) F).at5 al; rw [al.k] at d ⊢; exact d) (by rw [al.k]; exact h)
theorem dAlph (F : F05 K mg) : DefP Pg w K mg base CX0 "_law_alphabet" ["box"] 4 spAlph := by
  obtain ⟨fd, f, g⟩ := F.fn "_law_alphabet" sq_alphabet (by walk_at "gm")
  refine defP_of f g mq_alphabet (FunD.bindsN f fun _ _ _ _ _ _ us hl => match us, hl with | [_], _ => rfl) (fun vs H Q E h => ?_) fun X c al vs H Q E h => ?_
  · obtain ⟨_, rfl, _⟩ := h; rfl
  · exact body_alphabet c ((dTake F).at5 al) (by have d := (dPick (Pg := Pg) (w := w) (base := base) F).at5 al; rw [al.k] at d ⊢; exact d) (by have d := (dAll (Pg := Pg) (w := w) (base := base) F).at5 al; rw [al.k] at d ⊢; exact d) h
theorem dNear (F : F05 K mg) : DefP Pg w K mg base CX0 "_law_near" ["box", "many"] 4 spNear := by
  obtain ⟨fd, f, g⟩ := F.fn "_law_near" sq_near (by walk_at "gm")
  refine defP_of f g mq_near (FunD.bindsN f fun _ _ _ _ _ _ us hl => match us, hl with | [_, _], _ => rfl) (fun vs H Q E h => ?_) fun X c al vs H Q E h => ?_
  · obtain ⟨_, _, rfl, _⟩ := h; rfl
  · exact body_near c (by rw [al.m]; exact F.free _ (by walk_at "gm")) (by rw [al.m]; exact F.free _ (by walk_at "gm")) ((dTake F).at5 al) (by have d := (dPick (Pg := Pg) (w := w) (base := base) F).at5 al; rw [al.k] at d ⊢; exact d) ((dLabel F).at5 al)
      (by have d := (dPlaced (Pg := Pg) (w := w) (base := base) F).at5 al; rw [al.k] at d ⊢; exact d) h
theorem dNeigh (F : F05 K mg) : DefP Pg w K mg base CX0 "_law_neighbours" ["labels", "label"] 2 (spNeigh K) := by
  obtain ⟨fd, f, g⟩ := F.fn "_law_neighbours" sq_neighbours (by walk_at "gm")
  refine defP_of f g mq_neighbours (FunD.bindsN f fun _ _ _ _ _ _ us hl => match us, hl with | [_, _], _ => rfl) (fun vs H Q E h => ?_) fun X c al vs H Q E h => ?_
  · obtain ⟨_, _, _, rfl, _⟩ := h; rfl
  · exact body_neighbours c ((dLess F).at5 al) (by rw [al.k]; exact h)
theorem kbI {f : Addr} {fd : FuncData} (F : FnP K "is_inside" sq_is_inside f fd) : KBinds K fd ["low", "label", "high"] ["high", "low", "label"] g3 g3 := by
  obtain ⟨oc, od, dV, kV, doc, pm, an, cdv, ct, osl, rfl, lk, hcd, hD, hK⟩ := F.ex
  rcases hD with ⟨_, rfl⟩ | ⟨e, _⟩
  · refine ⟨fun s us ws _ hl => ?_, fun {vs us zs ws} r rz => ?_⟩
    · match us, ws, hl with
      | [], [a, b, c], _ => exact .of_eq rfl
    · match vs, us, r with
      | [], [], _ =>
        match zs, ws, rz with
        | [a, b, c], [a', b', c'], .cons h1 (.cons h2 (.cons h3 .nil)) => exact .cons h2 (.cons h3 (.cons h1 .nil))
        | [], _, .nil => exact .nil
        | [_], _, .cons _ .nil => exact .nil
        | [_, _], _, .cons _ (.cons _ .nil) => exact .nil
        | _ :: _ :: _ :: _ :: _, _, .cons _ (.cons _ (.cons _ (.cons _ _))) => exact .nil
      | _ :: _, _, .cons _ _ => exact .nil
  · exact absurd rfl e
theorem kbG {f : Addr} {fd : FuncData} (F : FnP K "gap_of" sq_gap_of f fd) : KBinds K fd ["labels", "label"] ["label", "labels"] g2 g2 := by
  obtain ⟨oc, od, dV, kV, doc, pm, an, cdv, ct, osl, rfl, lk, hcd, hD, hK⟩ := F.ex
  rcases hD with ⟨_, rfl⟩ | ⟨e, _⟩
  · refine ⟨fun s us ws _ hl => ?_, fun {vs us zs ws} r rz => ?_⟩
    · match us, ws, hl with
      | [], [a, b], _ => exact .of_eq rfl
    · match vs, us, r with
      | [], [], _ =>
        match zs, ws, rz with
        | [a, b], [a', b'], .cons h1 (.cons h2 .nil) => exact .cons h2 (.cons h1 .nil)
        | [], _, .nil => exact .nil
        | [_], _, .cons _ .nil => exact .nil
        | _ :: _ :: _ :: _, _, .cons _ (.cons _ (.cons _ _)) => exact .nil
      | _ :: _, _, .cons _ _ => exact .nil
  · exact absurd rfl e
end
section
variable {P : Program} {w : World} {K : PySem.W.Frag} {mg : Str → Option Value} {base : Heap} {x : Str} {st : Stmt} {N ps : List Str} {L : List (Str × KN)} {k : Nat} {sp : Sp} {f : Addr} {fd : FuncData}
theorem fnOk_of (F : FnP K x st f fd) (M : Nms st N ps L) (len : ∀ vs H Q E, sp vs H Q E → vs.length = ps.length)
    (body : ∀ (X : Cx), Ctx X N L k → At5 X P w K mg base → ∀ (vs : List V) (H : Hp) (Q : VK) (E : XK), sp vs H Q E → RB X (defBody st) { nx := fun _ H' => Q .non H', rt := Q } (start N vs) H) : FnOk P w K mg base CX0 (k + 1) f fd ps sp := by
  refine F.ok M.S len (fun cdv A outer s H vs Q E hr h => ?_)
  have c : Ctx (cxOf CX0 P w K mg base N x (defScope st) f cdv A outer s H E).nox N L k := ⟨rfl, M.S.nd, knIs_of M rfl (fun _ => rfl), M.db, rfl, hr, PassesOwn.never, M.S.kind⟩
  obtain ⟨t, ht, q⟩ := (body _ c ⟨rfl, rfl, rfl, rfl, rfl⟩ vs H Q E h).ex
  exact ⟨t, ht.nox, q⟩
theorem fnC_of (F : FnP K x st (He.fAd K (x, none)) fd) : FnC K x st (He.fAd K (x, none)) (He.cT K (x, none)).1 fd := by
  obtain ⟨oc, od, dV, kV, doc, pm, an, cdv, ct, osl, e, lk, hcd, _, _⟩ := F.ex
  obtain ⟨c, rfl⟩ := He.codeIn_ref hcd
  have e2 : (He.cT K (x, none)).1 = c := He.codeOf_eq lk (by rw [e] <;> rfl)
  rw [e2]
  exact ⟨⟨oc, od, dV, kV, doc, pm, an, ct, osl, e, lk, hcd⟩, F.kp⟩
theorem fnOkX_of (F : FnP K x st f fd) (M : Nms st N ps L) (len : ∀ vs H Q E, sp vs H Q E → vs.length = ps.length)
    (body : ∀ (X : Cx), Ctx X N L k → At5 X P w K mg base → ∀ (vs : List V) (H : Hp) (Q : VK) (E : XK), Takes X (fun cls d _ H' => E cls d H') → sp vs H Q E → RB X (defBody st) { nx := fun _ H' => Q .non H', rt := Q } (start N vs) H) : FnOk P w K mg base (L2.CX P w) (k + 1) f fd ps sp := by
  refine F.ok M.S len (fun cdv A outer s H vs Q E hr h => ?_)
  have c : Ctx (cxOf (L2.CX P w) P w K mg base N x (defScope st) f cdv A outer s H E) N L k := ⟨rfl, M.S.nd, knIs_of M rfl (fun _ => rfl), M.db, rfl, hr, passes_of rfl, M.S.kind⟩
  exact (body _ c ⟨rfl, rfl, rfl, rfl, rfl⟩ vs H Q E (takes_of rfl rfl rfl rfl) h).ex
end
section
variable {Pg : Program} {w : World} {K : PySem.W.Frag} {mg : Str → Option Value} {base : Heap} {cc P : Addr}
theorem keyI (F : F05 K mg) {X : Cx} (al : At5 X Pg w K mg base) : KeyC X CX0 "is_inside" ["low", "label", "high"] ["high", "low", "label"] g3 g3 1 spInside := by
  obtain ⟨fd, f, g⟩ := F.fn "is_inside" sq_is_inside (by walk_at "gm")
  refine ⟨He.ga K "is_inside", fd, ?_, by rw [al.m]; exact g, by rw [al.k]; exact f.kp, by rw [al.k]; exact kbI f⟩
  rw [al.p, al.w, al.k, al.m, al.b]
  refine fnOk_of f mq_is_inside (fun vs H Q E h => ?_) fun X c al vs H Q E h => body_inside c h
  obtain ⟨_, _, _, rfl, _⟩ := h; rfl
theorem keyG (F : F05 K mg) {X : Cx} (al : At5 X Pg w K mg base) : KeyC X (L2.CX X.prog X.w) "gap_of" ["labels", "label"] ["label", "labels"] g2 g2 3 (spGap K (He.ga K "Refused")) := by
  obtain ⟨fd, f, g⟩ := F.fn "gap_of" sq_gap_of (by walk_at "gm")
  refine ⟨He.ga K "gap_of", fd, ?_, by rw [al.m]; exact g, by rw [al.k]; exact f.kp, by rw [al.k]; exact kbG f⟩
  rw [al.p, al.w, al.k, al.m, al.b]
  refine fnOkX_of f mq_gap_of (fun vs H Q E h => ?_) fun X c al vs H Q E tk h => body_gap c (CR := He.ga K "Refused") (by rw [al.p, al.w, al.k, al.m, al.b]; exact errC_of F) tk (by rw [al.k]; exact h)
  obtain ⟨_, _, _, rfl, _⟩ := h; rfl
theorem dGapR (F : F05 K mg) {fdA : FuncData} (hA : FnC K "_law_gap_right" sq_gap_right (He.ga K "_law_gap_right") cc fdA) (bA : Binds K fdA ["labels", "label"] []) (TB : LamX.TabB base mg cc P) : DefP Pg w K mg base CX0 "_law_gap_right" ["labels", "label"] 6 (spGapR K P) := by
  obtain ⟨fd0, f0, g0⟩ := F.fn "_law_gap_right" sq_gap_right (by walk_at "gm")
  obtain ⟨fdH, fH, gH⟩ := F.fn "_law_heard" sq_heard (by walk_at "gm")
  refine defPC_of hA g0 mq_gap_right bA (fun vs H Q E h => ?_) fun X c al hc hq vs H Q E h => ?_
  · obtain ⟨_, _, _, rfl, _⟩ := h; rfl
  · have d1 := at5Y (dGap (Pg := Pg) (w := w) (base := base) F) al
    have d2 := (dSame (Pg := Pg) (w := w) (base := base) F 2).at5 al
    have d3 := (dNeigh (Pg := Pg) (w := w) (base := base) F).at5 al
    refine body_gap_right c (CR := He.ga K "Refused") (g := He.ga K "_law_heard") (fdh := fdH) hc hq (by rw [al.b, al.m]; exact TB) (by rw [al.k]; exact fH) (by rw [al.m]; exact gH) ?_ (by rw [al.k, al.m]; exact F.heard) ?_ ?_ ?_ ?_ (by rw [al.k]; exact h)
    · rw [al.k]
      exact FunD.bindsN fH fun _ _ _ _ _ _ us hl => match us, hl with | [_], _ => rfl
    · rw [al.m]; exact F.free _ (by walk_at "gm")
    · rw [al.k] at d1 ⊢; exact d1
    · rw [al.k] at d2 ⊢; exact d2
    · rw [al.k] at d3 ⊢; exact d3
theorem dInsR (F : F05 K mg) : DefP Pg w K mg base CX0 "_law_inside_right" ["box", "labels"] 4 spInsR := by
  obtain ⟨fd, f, g⟩ := F.fn "_law_inside_right" sq_inside_right (by walk_at "gm")
  refine defP_of f g mq_inside_right (FunD.bindsN f fun _ _ _ _ _ _ us hl => match us, hl with | [_, _], _ => rfl) (fun vs H Q E h => ?_) fun X c al vs H Q E h => ?_
  · obtain ⟨_, _, _, rfl, _⟩ := h; rfl
  · exact body_inside_right c (by rw [al.m]; exact F.free _ (by walk_at "gm")) (by have d := (dPick (Pg := Pg) (w := w) (base := base) F).at5 al; rw [al.k] at d ⊢; exact d) ((dLabel F).at5 al) ((dBetween F).at5 al)
      (by have d := (dSame (Pg := Pg) (w := w) (base := base) F 2).at5 al; rw [al.k] at d ⊢; exact d) ((dInside F).at5 al) (keyI F al) h
end
abbrev R05 : PySem.W.OpenRow := PySem.W.OpenLaw.row PySem.Challenge.rw_goodtill_k05_what_lies_between_labels
abbrev tf05 : List He.Defn := [("_law_gap_right", none)]
abbrev hk05 : PySem.W.Hook := He.hookX 5 fa05 fn05 [] tf05 ex05
def ob05 (s : PySem.W.SharedT) : He.AlX := He.obsX 5 fa05 fn05 [] tf05 ex05 (HandSHeadRun.getT s)
theorem ob05_eq (s : PySem.W.SharedT) : ob05 s = hk05.obs s.abs := He.obsX_eq (HandSHeadRun.getT_eq s)
abbrev loose05 : List Str := ["OwnError", "BadFraction", "BadLabel", "BadName", "BadOctets", "BadEvent", "BadView", "BadRoster", "BadRun", "BadDeed", "BadText", "Refused", "is_inside", "gap_of", "_law_box", "_law_take", "_law_pick", "_law_label", "_law_less", "_law_between", "_law_placed", "_law_all", "_law_alphabet", "_law_near", "_law_same", "_law_heard", "_law_neighbours", "_law_gap_right", "_law_inside_right"]
theorem run05 (w : World) : HandSHeadRun.RunEq R05 (PySem.W.view R05.prog [32]) hk05 ob05 4000 loose05 w := by
  intro os
  kernel_rfl
theorem law_facts {Pg : Program} {w : World} {h : Heap} {K : PySem.W.Frag} {mg : Str → Option Value} {fa : Addr} (X : K.In h) (G : h.Ns mainGlobals mg) (hfa : mg "law" = some (.ref fa)) (c : He.SaysX fa05 fn05 [] tf05 ex05 w h K) :
    ∃ fd : FuncData, (∀ (s : Shared) (v : Value), BindsTo s fd ⟨[v], []⟩ [("script", v)]) ∧ ∀ base : Heap, LamX.TabB base mg (He.cT K ("_law_gap_right", none)).1 (He.cT K ("_law_gap_right", none)).2 → FnOk Pg w K mg base CX0 7 fa fd ["script"] (spLaw K (He.cT K ("_law_gap_right", none)).2) := by
  have F := f05_of X G c
  obtain ⟨fd, f, g⟩ := F.fn "law" sq_law (by walk_at "gm")
  obtain ⟨fdA, fA, gA⟩ := F.fn "_law_gap_right" sq_gap_right (by walk_at "gm")
  have e := hfa.symm.trans g
  cases e
  have hA := fnC_of fA
  have bA : Binds K fdA ["labels", "label"] [] := FunD.bindsN fA fun _ _ _ _ _ _ us hl => match us, hl with | [_, _], _ => rfl
  have b := FunD.bindsA (ps := ["script"]) f fun _ _ _ _ _ _ us hl => match us, hl with | [_], _ => rfl
  refine ⟨fd, fun s v => b s [v] rfl, fun base TB => ?_⟩
  refine fnOk_of f mq_law (fun vs H Q E h => ?_) fun X c al vs H Q E h => ?_
  · obtain ⟨_, _, rfl, _⟩ := h; rfl
  · have b1 := (dBox (Pg := Pg) (w := w) (base := base) F).at5 al
    have b2 := (dPick (Pg := Pg) (w := w) (base := base) F).at5 al
    have b3 := (dGapR (Pg := Pg) (w := w) F hA bA TB).at5 al
    have b4 := (dSame (Pg := Pg) (w := w) (base := base) F 2).at5 al
    have b5 := at5Y (dGap (Pg := Pg) (w := w) (base := base) F) al
    have b6 := keyG (Pg := Pg) (w := w) (base := base) F al
    refine body_law c (CR := He.ga K "Refused") ⟨?_, (dTake F).at5 al, ?_, (dLabel F).at5 al, (dAlph F).at5 al, (dNear F).at5 al, ?_, (dInsR F).at5 al, ?_, ?_, ?_, ?_, ?_, ?_, ?_⟩ (by rw [al.k]; exact h)
    · unfold DT; rw [al.k] at b1 ⊢; exact b1
    · unfold DT; rw [al.k] at b2 ⊢; exact b2
    · unfold DT; rw [al.k] at b3 ⊢; exact b3
    · unfold DT; rw [al.k] at b4 ⊢; exact b4
    · rw [al.k] at b5 ⊢; exact b5
    · rw [al.k]; exact b6
    all_goals (rw [al.m]; exact F.free _ (by walk_at "gm"))
end K05
open PySem PySem.W PySem.Calls PyProof.Rows
theorem PySem.Challenge.cw_goodtill_k05_what_lies_between_labels_holds : PySem.Challenge.rw_goodtill_k05_what_lies_between_labels.Holds := by
  w_on; o_law
  refine HandSHeadRun.head_any (r := OpenLaw.row PySem.Challenge.rw_goodtill_k05_what_lies_between_labels) (q := view (OpenLaw.row PySem.Challenge.rw_goodtill_k05_what_lies_between_labels).prog [32]) (H := K05.hk05) (ob := K05.ob05) (M := 4000) (loose := K05.loose05)
    (d := HandSHeadRun.topDef (OpenLaw.row PySem.Challenge.rw_goodtill_k05_what_lies_between_labels).prog 32) (kwd := []) K05.ob05_eq
    (by kernel_rfl) (fun s => by kernel_rfl) K05.run05 (by kernel_rfl) (by kernel_rfl) (by kernel_rfl) (by rfl) (by first | assumption | decide +kernel) (by decide +kernel) ⟨rfl, rfl, rfl, rfl, rfl, by decide +kernel⟩ ?hw ?hc
  case hw => w_witness2
  case hc =>
    refine LamX.walk_ofTsE (l := PySem.Challenge.rw_goodtill_k05_what_lies_between_labels) (n := 63) (k := 7) (x := "script") (CX := fun _ => L2.CX0) rfl (by decide) (by kernel_rfl) ⟨rfl, by decide, by decide⟩ ?F (fun _ _ _ _ _ z => z)
    intro w mg fa h Y G hmg0
    obtain ⟨K, KX, c⟩ := Y
    have hmg : mg ("law" : PySem.Str) = some (.ref fa) := by
      have e : (HandSHeadRun.topDef (OpenLaw.row PySem.Challenge.rw_goodtill_k05_what_lies_between_labels).prog 32).name = ("law" : PySem.Str) := by kernel_rfl
      rw [← e]
      exact hmg0
    obtain ⟨fd, hb, hF⟩ := K05.law_facts (Pg := (PySem.Challenge.rw_goodtill_k05_what_lies_between_labels).prog) KX G hmg c
    have m1 : ∀ p ∈ [He.cT K ("_law_gap_right", none)], p = He.cT K ("_law_gap_right", none) := fun p hp => List.mem_singleton.mp hp
    have mt : (("_law_gap_right", none) : He.Defn) ∈ K05.tf05 := List.mem_singleton.mpr rfl
    refine ⟨K, KX, fd, [He.cT K ("_law_gap_right", none)], K05.spLaw K (He.cT K ("_law_gap_right", none)).2, fun p hp => ?_, fun p hp => ?_, fun p hp => ?_, hb, fun H a ns hl _ hH hS => ?_, fun base _ _ hT => ?_⟩
    · rw [m1 p hp]; exact c.empty _ mt
    · rw [m1 p hp]; exact c.out _ mt
    · rw [m1 p hp]; exact PySem.W.codeHd_of_K KX (c.hd _ mt)
    · exact ⟨a, ns, rfl, hS, hl, LamX.TabS.nil (hH _ (List.mem_singleton.mpr rfl)), fun _ => rfl⟩
    · exact hF base (hT _ (List.mem_singleton.mpr rfl))
namespace K05
end K05
