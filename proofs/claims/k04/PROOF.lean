import PyProof.Rows.All
import Wide.All
import OpenK.AllK
import Wide.FinOn
import HandS.ForMost
import HandS.ForExc
import HandS.Wide
import HandS.Zip
import HandS.Walk
import HandS.IsInst
import HandS.Flow
import HandS.TupAny
import HandS.Defaults
import HandS.Words
import HandS.SortKw
import HandS.StrMore
import HandS.ExcInit
import HandS.ExcField
import HandS.WordsExc
import HandS.Lambda
import KE.KExcIs
import HandS.HeadHook4
import HandS.HeadWalk
import HandS.Head2
import PyProof.Draws
import KE.GoesEnum
import PySem.Challenge.RW_goodtill_k04_labels_and_names
set_option Elab.async false
set_option linter.all false
set_option maxRecDepth 100000
set_option maxHeartbeats 4000000
/-! A core of one's own over the hand layer: what an expression, a test, a block asks, whatever rule serves it; so a def's body is walked from the left, rule by rule. -/
namespace GT
open PySem PySem.Spec PyProof.Rows L2
/-! ### what is asked, whatever rule serves -/
structure RE (X : Cx) (e : Expr) (σ : L2.St) (H : Hp) (Q : VK) : Prop where
  ex : ∃ t, PE X e t ∧ t σ H Q
structure RT (X : Cx) (e : Expr) (σ : L2.St) (H : Hp) (Q : Bool → Hp → Prop) : Prop where
  ex : ∃ t, PT X e t ∧ t σ H Q
structure RW (X : Cx) (e : Expr) (σ : L2.St) (H : Hp) (Q : Bool → Hp → Prop) : Prop where
  ex : ∃ t, PW X e t ∧ t σ H Q
structure RA (X : Cx) (es : List Expr) (σ : L2.St) (H : Hp) (Q : List V → Hp → Prop) : Prop where
  ex : ∃ t, PA X es t ∧ t σ H Q
structure RS (X : Cx) (st : Stmt) (D : Ends) (σ : L2.St) (H : Hp) : Prop where
  ex : ∃ t, PS X st t ∧ t D σ H
structure RB (X : Cx) (st : List Stmt) (D : Ends) (σ : L2.St) (H : Hp) : Prop where
  ex : ∃ t, PSs X st t ∧ t D σ H
structure RO (X : Cx) (e : Option Expr) (σ : L2.St) (H : Hp) (Q : Option Int → Hp → Prop) : Prop where
  ex : ∃ t, PO X e t ∧ t σ H Q
section
variable {X : Cx} {σ : L2.St} {H : Hp}
theorem PE.self {e : Expr} : PE X e (RE X e) := ⟨fun pins s σ H Q I h => by obtain ⟨t, ht, q⟩ := h.ex; exact ht.run pins s σ H Q I q⟩
theorem PT.self {e : Expr} : PT X e (RT X e) := ⟨fun pins s σ H Q I h => by obtain ⟨t, ht, q⟩ := h.ex; exact ht.run pins s σ H Q I q⟩
theorem PW.self {e : Expr} : PW X e (RW X e) := ⟨fun wh pins s σ H Q I h => by obtain ⟨t, ht, q⟩ := h.ex; exact ht.run wh pins s σ H Q I q⟩
theorem PA.self {es : List Expr} : PA X es (RA X es) := ⟨fun pos pins s σ H Q I h => by obtain ⟨t, ht, q⟩ := h.ex; exact ht.run pos pins s σ H Q I q⟩
theorem PS.self {st : Stmt} : PS X st (RS X st) := ⟨fun pins s σ H D I h => by obtain ⟨t, ht, q⟩ := h.ex; exact ht.run pins s σ H D I q⟩
theorem PSs.self {st : List Stmt} : PSs X st (RB X st) := ⟨fun pins s σ H D I h => by obtain ⟨t, ht, q⟩ := h.ex; exact ht.run pins s σ H D I q⟩
theorem re_of {e : Expr} {t : TE} {Q : VK} (h : PE X e t) (q : t σ H Q) : RE X e σ H Q := ⟨⟨t, h, q⟩⟩
theorem rt_of {e : Expr} {t : TT} {Q : Bool → Hp → Prop} (h : PT X e t) (q : t σ H Q) : RT X e σ H Q := ⟨⟨t, h, q⟩⟩
theorem rw_of {e : Expr} {t : TT} {Q : Bool → Hp → Prop} (h : PW X e t) (q : t σ H Q) : RW X e σ H Q := ⟨⟨t, h, q⟩⟩
theorem ra_of {e : List Expr} {t : TA} {Q : List V → Hp → Prop} (h : PA X e t) (q : t σ H Q) : RA X e σ H Q := ⟨⟨t, h, q⟩⟩
theorem rs_of {st : Stmt} {t : TS} {D : Ends} (h : PS X st t) (q : t D σ H) : RS X st D σ H := ⟨⟨t, h, q⟩⟩
theorem rb_of {st : List Stmt} {t : TS} {D : Ends} (h : PSs X st t) (q : t D σ H) : RB X st D σ H := ⟨⟨t, h, q⟩⟩
/-! ### slots by name -/
inductive Slot : List Str → L2.St → Str → V → Prop
  | here {x : Str} {N : List Str} {v : V} {σ : L2.St} : Slot (x :: N) (some v :: σ) x v
  | there {x y : Str} {N : List Str} {v : V} {o : Option V} {σ : L2.St} (h : Slot N σ x v) : Slot (y :: N) (o :: σ) x v
inductive Put : List Str → L2.St → Str → V → L2.St → Prop
  | here {x : Str} {N : List Str} {v : V} {o : Option V} {σ : L2.St} : Put (x :: N) (o :: σ) x v (some v :: σ)
  | there {x y : Str} {N : List Str} {v : V} {o : Option V} {σ σ' : L2.St} (h : Put N σ x v σ') : Put (y :: N) (o :: σ) x v (o :: σ')
theorem Slot.ix {N : List Str} {σ : L2.St} {x : Str} {v : V} (h : Slot N σ x v) : ∃ i : Nat, N[i]? = some x ∧ σ[i]? = some (some v) := by
  induction h with
  | here => exact ⟨0, rfl, rfl⟩
  | there _ ih => obtain ⟨i, h1, h2⟩ := ih; exact ⟨i + 1, h1, h2⟩
theorem Put.ix {N : List Str} {σ σ' : L2.St} {x : Str} {v : V} (h : Put N σ x v σ') : ∃ i : Nat, N[i]? = some x ∧ σ' = σ.set i (some v) := by
  induction h with
  | here => exact ⟨0, rfl, rfl⟩
  | there _ ih => obtain ⟨i, h1, h2⟩ := ih; exact ⟨i + 1, h1, by rw [h2]; rfl⟩
/-- a name: the def's own local, the def's own captured by an inner one, one from around, a global -/
inductive KN where
  | loc | cell | cap | glob
  deriving DecidableEq
def knOf : NameKind → Option KN
  | .local => some .loc
  | .cell => some .cell
  | .free => some .cap
  | .globalImplicit => some .glob
  | _ => none
def knAll : List (Str × NameKind) → List (Str × KN)
  | [] => []
  | (x, j) :: r => match knOf j with
    | some m => (x, m) :: knAll r
    | none => knAll r
inductive Mine : KN → Prop
  | loc : Mine .loc
  | cell : Mine .cell
  | cap : Mine .cap
inductive Own : KN → Prop
  | loc : Own .loc
  | cell : Own .cell
def KnIs (X : Cx) (x : Str) : KN → Prop
  | .loc => X.env.scope.names.lookup x = some .local
  | .cell => X.env.scope.names.lookup x = some .cell ∧ X.fn x = true
  | .cap => X.env.scope.names.lookup x = some .cell ∨ X.env.scope.names.lookup x = some .free
  | .glob => X.env.scope.names.lookup x = some .globalImplicit
def okName (x : Str) : Bool := !(x == ("__debug__" : Str)) && !(x == ("__classdict__" : Str)) && !decide (x = "__name__")
/-- where one stands: the def's names by slot, the scope's names, the room -/
structure Ctx (X : Cx) (N : List Str) (L : List (Str × KN)) (k : Nat) : Prop where
  n : X.N = N
  nd : N.Nodup
  look : ∀ p ∈ L, KnIs X p.1 p.2
  dbg : ∀ p ∈ L, okName p.1 = true
  calm : X.calm = true
  room : Room k X.A
  po : PassesOwn (model X.prog X.w) X.A X.env X.xe
  kind : X.env.scope.kind = .function
theorem lookup_mem {L : List (Str × NameKind)} {x : Str} {k : NameKind} (nd : (L.map (·.1)).Nodup) (h : (x, k) ∈ L) : L.lookup x = some k := by
  induction L with
  | nil => cases h
  | cons p r ih =>
    obtain ⟨y, j⟩ := p
    rw [List.map_cons, List.nodup_cons] at nd
    rcases List.mem_cons.mp h with e | e
    · cases e
      simp [List.lookup]
    · have hne : (x == y) = false := by
        rw [beq_eq_false_iff_ne]
        intro q
        subst q
        exact nd.1 (List.mem_map.mpr ⟨_, e, rfl⟩)
      simp only [List.lookup, hne]
      exact ih nd.2 e
theorem knAll_mem {x : Str} {m : KN} : ∀ {L : List (Str × NameKind)}, (x, m) ∈ knAll L → ∃ j, (x, j) ∈ L ∧ knOf j = some m
  | [], h => by cases h
  | (y, j) :: r, h => by
    unfold knAll at h
    cases e : knOf j with
    | none =>
      rw [e] at h
      obtain ⟨j', h1, h2⟩ := knAll_mem h
      exact ⟨j', List.mem_cons_of_mem _ h1, h2⟩
    | some m' =>
      rw [e] at h
      rcases List.mem_cons.mp h with q | q
      · cases q
        exact ⟨j, List.mem_cons_self, e⟩
      · obtain ⟨j', h1, h2⟩ := knAll_mem q
        exact ⟨j', List.mem_cons_of_mem _ h1, h2⟩
variable {N : List Str} {L : List (Str × KN)} {k : Nat}
theorem okName_of {x : Str} (h : okName x = true) : (x == ("__debug__" : Str)) = false ∧ (x == ("__classdict__" : Str)) = false ∧ x ≠ "__name__" := by
  unfold okName at h
  rw [Bool.and_eq_true, Bool.and_eq_true] at h
  obtain ⟨⟨h1, h2⟩, h3⟩ := h
  exact ⟨by simpa using h1, by simpa using h2, by simpa using h3⟩
theorem Ctx.gl (c : Ctx X N L k) {x : Str} (h : (x, KN.glob) ∈ L) : Gl X x := c.look _ h
theorem Ctx.d1 (c : Ctx X N L k) {x : Str} {j : KN} (h : (x, j) ∈ L) : (x == ("__debug__" : Str)) = false := (okName_of (c.dbg _ h)).1
theorem Ctx.d2 (c : Ctx X N L k) {x : Str} {j : KN} (h : (x, j) ∈ L) : (x == ("__classdict__" : Str)) = false := (okName_of (c.dbg _ h)).2.1
theorem Ctx.d3 (c : Ctx X N L k) {x : Str} {j : KN} (h : (x, j) ∈ L) : x ≠ "__name__" := (okName_of (c.dbg _ h)).2.2
theorem Ctx.vis (c : Ctx X N L k) {x : Str} {j : KN} (h : (x, j) ∈ L) (m : Mine j) : Vis X.env.scope x := by
  have e := c.look _ h
  cases m with
  | loc => exact Or.inl e
  | cell => exact Or.inr (Or.inl e.1)
  | cap => exact Or.inr e
theorem Ctx.loc (c : Ctx X N L k) {x : Str} {j : KN} (h : (x, j) ∈ L) (m : Own j) : Loc X.env.scope x := by
  have e := c.look _ h
  cases m with
  | loc => exact Or.inl e
  | cell => exact Or.inr e.1
theorem Ctx.fn (c : Ctx X N L k) {x : Str} {j : KN} (h : (x, j) ∈ L) (m : Own j) : X.fn x = true ∨ X.env.scope.names.lookup x = some .local := by
  have e := c.look _ h
  cases m with
  | loc => exact Or.inr e
  | cell => exact Or.inl e.2
theorem Ctx.lcl (c : Ctx X N L k) {x : Str} (h : (x, KN.loc) ∈ L) : X.env.scope.names.lookup x = some .local := c.look _ h
/-! ### expressions -/
variable {pos p0 p1 p2 : Pos} {Q : VK} {D : Ends}
theorem re_name (c : Ctx X N L k) {x : Str} {v : V} {j : KN} (s : Slot N σ x v) (h : (x, j) ∈ L) (m : Mine j) (q : Q v H) : RE X (.Name x pos) σ H Q := by
  obtain ⟨i, h1, h2⟩ := s.ix
  rw [← c.n] at h1
  exact re_of (pe_var h1 (c.vis h m) (c.d1 h) (c.d2 h)) ⟨v, h2, q⟩
theorem re_int {i : Int} {j : Nat} (q : Q (.int i) H) : RE X (.Constant (.int i) j pos) σ H Q := re_of pe_int q
theorem re_bl {b : Bool} {j : Nat} (q : Q (.bl b) H) : RE X (.Constant (.bool b) j pos) σ H Q := re_of pe_bl q
theorem re_non {j : Nat} (q : Q .non H) : RE X (.Constant .none j pos) σ H Q := re_of pe_non q
theorem re_str {x : Str} {j : Nat} (q : Q (.str x) H) : RE X (.Constant (.str x) j pos) σ H Q := re_of pe_str q
/-- a class or type of the module, a builtin's name, as a value -/
theorem re_glob (c : Ctx X N L k) {x : Str} {v : V} {u : Value} (h : (x, KN.glob) ∈ L) (hm : X.mg x = some u) (r : RelV v u) (q : Q v H) : RE X (.Name x pos) σ H Q := re_of (pe_glob (c.gl h) hm r (c.d1 h)) q
theorem re_bltn (c : Ctx X N L k) {x : Str} {v : V} {u : Value} (h : (x, KN.glob) ∈ L) (hm : X.mg x = none) (hv : bootBuiltins x = some u) (r : RelV v u) (q : Q v H) : RE X (.Name x pos) σ H Q := re_of (pe_bltn (c.gl h) hm hv r (c.d3 h) (c.d1 h)) q
/-! ### operators by values -/
structure OpV (X : Cx) (op : Operator) (x y : V) (H : Hp) (Q : VK) : Prop where
  ex : ∃ r, OpR X (binaryOp op) r ∧ r x y H Q
structure CpV (X : Cx) (op : CmpOp) (x y : V) (H : Hp) (Q : VK) : Prop where
  ex : ∃ r, OpR X (compareOp op) r ∧ r x y H Q
structure IxV (X : Cx) (x y : V) (H : Hp) (Q : VK) : Prop where
  ex : ∃ r, IxR X r ∧ r x y H Q
structure SlV (X : Cx) (x : V) (a b : Option Int) (H : Hp) (Q : VK) : Prop where
  ex : ∃ r, SlR X r ∧ r x a b H Q
theorem OpR.self {op : Operator} : OpR X (binaryOp op) (OpV X op) := fun pins s σ H x y v u Q I rx ry h => by
  obtain ⟨r, hr, q⟩ := h.ex
  exact hr pins s σ H x y v u Q I rx ry q
theorem CpR.self {op : CmpOp} : OpR X (compareOp op) (CpV X op) := fun pins s σ H x y v u Q I rx ry h => by
  obtain ⟨r, hr, q⟩ := h.ex
  exact hr pins s σ H x y v u Q I rx ry q
theorem IxR.self : IxR X (IxV X) := fun va sl pins s σ H x y v u Q I rx ry h => by
  obtain ⟨r, hr, q⟩ := h.ex
  exact hr va sl pins s σ H x y v u Q I rx ry q
theorem re_bin {a b : Expr} {op : Operator} (q : RE X a σ H fun x H1 => RE X b σ H1 fun y H2 => OpV X op x y H2 Q) : RE X (.BinOp a op b pos) σ H Q := re_of (pe_op OpR.self PE.self PE.self) q
theorem re_cmp {a b : Expr} {op : CmpOp} (q : RE X a σ H fun x H1 => RE X b σ H1 fun y H2 => CpV X op x y H2 Q) (hm : behindInMarks op b = false := by first | exact nobehind _ (by decide) (by decide) | with_unfolding_all rfl) : RE X (.Compare a [op] [b] pos) σ H Q :=
  re_of (pe_cmpR CpR.self PE.self PE.self hm) q
theorem rt_cmp {a b : Expr} {op : CmpOp} {Q : Bool → Hp → Prop} (q : RE X a σ H fun x H1 => RE X b σ H1 fun y H2 => CpV X op x y H2 fun v H3 => ∃ k, v = .bl k ∧ Q k H3) (hm : behindInMarks op b = false := by first | exact nobehind _ (by decide) (by decide) | with_unfolding_all rfl) :
    RT X (.Compare a [op] [b] pos) σ H Q := rt_of (pt_cmpR CpR.self PE.self PE.self hm) q
theorem re_ix {a b : Expr} (q : RE X a σ H fun x H1 => RE X b σ H1 fun y H2 => IxV X x y H2 Q) (hs : PlainIx b := by with_unfolding_all exact fun _ _ => rfl) : RE X (.Subscript a b pos) σ H Q := re_of (pe_ix IxR.self PE.self PE.self hs) q
theorem re_neg {a : Expr} (q : RE X a σ H fun x H1 => ∃ i, x = .int i ∧ Q (.int (-i)) H1) : RE X (.UnaryOp .USub a pos) σ H Q := re_of (pe_un un_neg PE.self) q
variable {i j : Int} {z w : Str} {x y : V}
theorem ov_add (q : Q (.int (i + j)) H) : OpV X .Add (.int i) (.int j) H Q := ⟨⟨_, op_add, i, j, rfl, rfl, q⟩⟩
theorem ov_sub (q : Q (.int (i - j)) H) : OpV X .Sub (.int i) (.int j) H Q := ⟨⟨_, op_sub, i, j, rfl, rfl, q⟩⟩
theorem ov_mul (h : CMul i j) (q : Q (.int (i * j)) H) : OpV X .Mult (.int i) (.int j) H Q := ⟨⟨_, op_mul, i, j, rfl, rfl, h, q⟩⟩
theorem ov_mulR (h : -(2 ^ 64) < j ∧ j < 2 ^ 64) (q : Q (.int (i * j)) H) : OpV X .Mult (.int i) (.int j) H Q := ov_mul (.inr h) q
theorem ov_mulL (h : -(2 ^ 64) < i ∧ i < 2 ^ 64) (q : Q (.int (i * j)) H) : OpV X .Mult (.int i) (.int j) H Q := ov_mul (.inl h) q
theorem ov_mulW (h : CMulW i j) (q : Q (.int (i * j)) H) : OpV X .Mult (.int i) (.int j) H Q := ⟨⟨_, op_mulW, i, j, rfl, rfl, h, q⟩⟩
theorem ov_mod (h : 0 < j) (q : Q (.int (i % j)) H) : OpV X .Mod (.int i) (.int j) H Q := ⟨⟨_, op_mod, i, j, rfl, rfl, h, q⟩⟩
theorem ov_fdiv (h : CDivW i j) (q : Q (.int (i / j)) H) : OpV X .FloorDiv (.int i) (.int j) H Q := ⟨⟨_, op_fdivW, i, j, rfl, rfl, h, q⟩⟩
theorem ov_pow (h : CPow i j) (q : Q (.int (i ^ j.toNat)) H) : OpV X .Pow (.int i) (.int j) H Q := ⟨⟨_, op_pow, i, j, rfl, rfl, h, q⟩⟩
theorem ov_powL {n m : Nat} (h : n ≤ 1000000 ∧ m < 2 ^ 64) (q : Q (.int ((m : Int) ^ n)) H) : OpV X .Pow (.int (m : Int)) (.int (n : Int)) H Q := ov_pow ⟨Int.natCast_nonneg n, by omega, by simpa using h.2⟩ (by simpa using q)
theorem ov_adds (h : z.length + w.length ≤ sizeLine) (q : Q (.str (z ++ w)) H) : OpV X .Add (.str z) (.str w) H Q := ⟨⟨_, op_add_str, z, w, rfl, rfl, h, q⟩⟩
theorem cv_lt (q : Q (.bl (decide (i < j))) H) : CpV X .Lt (.int i) (.int j) H Q := ⟨⟨_, op_lt, i, j, rfl, rfl, q⟩⟩
theorem cv_le (q : Q (.bl (decide (i ≤ j))) H) : CpV X .LtE (.int i) (.int j) H Q := ⟨⟨_, op_le, i, j, rfl, rfl, q⟩⟩
theorem cv_gt (q : Q (.bl (decide (j < i))) H) : CpV X .Gt (.int i) (.int j) H Q := ⟨⟨_, op_gt, i, j, rfl, rfl, q⟩⟩
theorem cv_ge (q : Q (.bl (decide (j ≤ i))) H) : CpV X .GtE (.int i) (.int j) H Q := ⟨⟨_, op_ge, i, j, rfl, rfl, q⟩⟩
theorem cv_eqI (q : Q (.bl (decide (i = j))) H) : CpV X .Eq (.int i) (.int j) H Q := ⟨⟨_, op_eq, rfl, by
  have e : decide (V.int i = V.int j) = decide (i = j) := by simp
  rw [e]; exact q⟩⟩
theorem cv_neI (q : Q (.bl (!decide (i = j))) H) : CpV X .NotEq (.int i) (.int j) H Q := ⟨⟨_, op_ne, rfl, by
  have e : decide (V.int i = V.int j) = decide (i = j) := by simp
  rw [e]; exact q⟩⟩
theorem cv_eqS (q : Q (.bl (decide (z = w))) H) : CpV X .Eq (.str z) (.str w) H Q := ⟨⟨_, op_eq, rfl, by
  have e : decide (V.str z = V.str w) = decide (z = w) := by simp
  rw [e]; exact q⟩⟩
theorem cv_neS (q : Q (.bl (!decide (z = w))) H) : CpV X .NotEq (.str z) (.str w) H Q := ⟨⟨_, op_ne, rfl, by
  have e : decide (V.str z = V.str w) = decide (z = w) := by simp
  rw [e]; exact q⟩⟩
/-- == of scalars (None, bools, ints, texts) -/
theorem cv_eq (h : scal x y = true) (q : Q (.bl (decide (x = y))) H) : CpV X .Eq x y H Q := ⟨⟨_, op_eq, h, q⟩⟩
theorem cv_ne (h : scal x y = true) (q : Q (.bl (!decide (x = y))) H) : CpV X .NotEq x y H Q := ⟨⟨_, op_ne, h, q⟩⟩
theorem cv_ltS (q : Q (.bl (decide (z.cps.toList < w.cps.toList))) H) : CpV X .Lt (.str z) (.str w) H Q := ⟨⟨_, op_lt_str, z, w, rfl, rfl, q⟩⟩
theorem cv_gtS (q : Q (.bl (decide (w.cps.toList < z.cps.toList))) H) : CpV X .Gt (.str z) (.str w) H Q := ⟨⟨_, op_gt_str, z, w, rfl, rfl, q⟩⟩
theorem cv_isN (q : Q (.bl (decide (x = .non))) H) : CpV X .Is x .non H Q := ⟨⟨_, op_isN, rfl, q⟩⟩
theorem cv_notN (q : Q (.bl (!decide (x = .non))) H) : CpV X .IsNot x .non H Q := ⟨⟨_, op_notN, rfl, q⟩⟩
theorem cv_isN_s (q : Q (.bl false) H) : CpV X .Is (.str z) .non H Q := cv_isN (by rw [decide_eq_false (fun e => nomatch e)]; exact q)
theorem cv_notN_s (q : Q (.bl true) H) : CpV X .IsNot (.str z) .non H Q := cv_notN (by rw [decide_eq_false (fun e => nomatch e)]; exact q)
theorem cv_isN_i (q : Q (.bl false) H) : CpV X .Is (.int i) .non H Q := cv_isN (by rw [decide_eq_false (fun e => nomatch e)]; exact q)
theorem cv_notN_i (q : Q (.bl true) H) : CpV X .IsNot (.int i) .non H Q := cv_notN (by rw [decide_eq_false (fun e => nomatch e)]; exact q)
theorem cv_isN_b {b : Bool} (q : Q (.bl false) H) : CpV X .Is (.bl b) .non H Q := cv_isN (by rw [decide_eq_false (fun e => nomatch e)]; exact q)
theorem cv_notN_b {b : Bool} (q : Q (.bl true) H) : CpV X .IsNot (.bl b) .non H Q := cv_notN (by rw [decide_eq_false (fun e => nomatch e)]; exact q)
theorem cv_isN_r {p : Addr} (q : Q (.bl false) H) : CpV X .Is (.ref p) .non H Q := cv_isN (by rw [decide_eq_false (fun e => nomatch e)]; exact q)
theorem cv_notN_r {p : Addr} (q : Q (.bl true) H) : CpV X .IsNot (.ref p) .non H Q := cv_notN (by rw [decide_eq_false (fun e => nomatch e)]; exact q)
theorem cv_isN_n (q : Q (.bl true) H) : CpV X .Is .non .non H Q := cv_isN (by rw [decide_eq_true rfl]; exact q)
theorem cv_notN_n (q : Q (.bl false) H) : CpV X .IsNot .non .non H Q := cv_notN (by rw [decide_eq_true rfl]; exact q)
theorem iv_list {p : Addr} {xs : List V} {v : V} (h : SqL X.K H p xs) (ha : atI xs i = some v) (q : Q v H) : IxV X (.ref p) (.int i) H Q := ⟨⟨_, ix_list, p, xs, i, v, rfl, rfl, h, ha, q⟩⟩
theorem iv_tup {p : Addr} {xs : List V} {v : V} (h : SqT X.K H p xs) (ha : atI xs i = some v) (q : Q v H) : IxV X (.ref p) (.int i) H Q := ⟨⟨_, ix_tup, p, xs, i, v, rfl, rfl, h, ha, q⟩⟩
theorem iv_str {n : Nat} (hz : z.length ≤ sizeLine) (ha : atI z.cps.toList i = some n) (q : Q (.str ⟨#[n]⟩) H) : IxV X (.str z) (.int i) H Q := ⟨⟨_, ix_str, z, i, n, rfl, rfl, hz, ha, q⟩⟩
/-! ### displays, choices -/
theorem ra_nil {Q : List V → Hp → Prop} (q : Q [] H) : RA X [] σ H Q := ra_of pa_nil q
theorem ra_cons {e : Expr} {es : List Expr} {Q : List V → Hp → Prop} (q : RE X e σ H fun x H1 => RA X es σ H1 fun xs H2 => Q (x :: xs) H2) (hs : starEach (e :: es) X.env = (false, eval e X.env) :: starEach es X.env := by with_unfolding_all rfl) : RA X (e :: es) σ H Q :=
  ra_of (pa_cons PE.self PA.self hs) q
theorem re_tup {es : List Expr} {x1} (q : RA X es σ H fun xs H1 => xs.length ≤ sizeLine ∧ ∀ p, H1 p = none → Q (.ref p) (upd H1 p (.tup xs))) : RE X (.Tuple es x1 pos) σ H Q := re_of (pe_tup PA.self) q
theorem re_lst {es : List Expr} (q : RA X es σ H fun xs H1 => xs.length ≤ sizeLine ∧ ∀ p, H1 p = none → Q (.ref p) (upd H1 p (.lst xs))) : RE X (.List es pos) σ H Q := re_of (pe_lst PA.self) q
theorem re_if {t a b : Expr} (q : RT X t σ H fun c H1 => if c = true then RE X a σ H1 Q else RE X b σ H1 Q) : RE X (.IfExp t a b pos) σ H Q := re_of (pe_ifExp PT.self PE.self PE.self) q
theorem re_and {a b : Expr} {rest : List Expr} (q : RE X a σ H fun x H1 => ∃ c, x = .bl c ∧ if c = true then RE X (.BoolOp .And (b :: rest) pos) σ H1 Q else Q (.bl false) H1) : RE X (.BoolOp .And (a :: b :: rest) pos) σ H Q := re_of (pe_and PE.self PE.self) q
theorem re_or {a b : Expr} {rest : List Expr} (q : RE X a σ H fun x H1 => ∃ c, x = .bl c ∧ if c = true then Q (.bl true) H1 else RE X (.BoolOp .Or (b :: rest) pos) σ H1 Q) : RE X (.BoolOp .Or (a :: b :: rest) pos) σ H Q := re_of (pe_or PE.self PE.self) q
theorem re_one {op : BoolOp} {a : Expr} (q : RE X a σ H Q) : RE X (.BoolOp op [a] pos) σ H Q := re_of (pe_one PE.self) q
theorem re_not {a : Expr} (q : RE X a σ H fun x H1 => ∃ c, x = .bl c ∧ Q (.bl (!c)) H1) : RE X (.UnaryOp .Not a pos) σ H Q := re_of (pe_not PE.self) q
/-! ### tests -/
theorem rt_not {a : Expr} {Q : Bool → Hp → Prop} (q : RT X a σ H fun c H1 => Q (!c) H1) : RT X (.UnaryOp .Not a pos) σ H Q := rt_of (pt_not PT.self) q
theorem rt_bool {op : BoolOp} {es : List Expr} {Q : Bool → Hp → Prop} (q : RW X (.BoolOp op es pos) σ H Q) : RT X (.BoolOp op es pos) σ H Q := rt_of (PW.pt PW.self) q
theorem rw_and {a b : Expr} {rest : List Expr} {Q : Bool → Hp → Prop} (q : RT X a σ H fun c H1 => if c = true then RW X (.BoolOp .And (b :: rest) pos) σ H1 Q else Q false H1) : RW X (.BoolOp .And (a :: b :: rest) pos) σ H Q := rw_of (pw_and PT.self PW.self) q
theorem rw_and1 {a : Expr} {Q : Bool → Hp → Prop} (q : RT X a σ H Q) : RW X (.BoolOp .And [a] pos) σ H Q := rw_of (pw_and1 PT.self) q
theorem rw_or {a b : Expr} {rest : List Expr} {Q : Bool → Hp → Prop} (q : RT X a σ H fun c H1 => if c = true then Q true H1 else RW X (.BoolOp .Or (b :: rest) pos) σ H1 Q) : RW X (.BoolOp .Or (a :: b :: rest) pos) σ H Q := rw_of (pw_or PT.self PW.self) q
theorem rw_or1 {a : Expr} {Q : Bool → Hp → Prop} (q : RT X a σ H Q) : RW X (.BoolOp .Or [a] pos) σ H Q := rw_of (pw_or1 PT.self) q
theorem rt_val {e : Expr} {Q : Bool → Hp → Prop} (q : RE X e σ H fun x H1 => ∃ c, x = .bl c ∧ Q c H1) (he : ∀ whole, isTrue e X.env whole = (do let v ← whole; standAt e.pos; holding [v] (truthy v)) := by intro _; with_unfolding_all rfl) : RT X e σ H Q := rt_of (pt_val PE.self he) q
/-! ### blocks -/
theorem rb_nil (q : D.nx σ H) : RB X [] D σ H := rb_of pss_nil q
theorem rb_cons {st : Stmt} {rest : List Stmt} (q : RS X st { D with nx := fun σ1 H1 => RB X rest D σ1 H1 } σ H) : RB X (st :: rest) D σ H := rb_of (pss_cons PS.self PSs.self) q
theorem Ctx.put (c : Ctx X N L k) {x : Str} (hx : x ∈ N) : ∃ i : Nat, X.N[i]? = some x ∧ ∀ {σ σ' : L2.St} {v : V}, Put N σ x v σ' → σ' = σ.set i (some v) := by
  obtain ⟨i, hi, e⟩ := List.mem_iff_getElem.mp hx
  have h1 : N[i]? = some x := by rw [List.getElem?_eq_getElem hi, e]
  refine ⟨i, by rw [c.n]; exact h1, fun {σ σ' v} p => ?_⟩
  obtain ⟨j, h2, h3⟩ := p.ix
  rw [h3, nodup_ix c.nd h1 h2]
theorem Ctx.nodup (c : Ctx X N L k) : X.N.Nodup := by
  rw [c.n]
  exact c.nd
theorem pe_mono {e : Expr} {Q Q' : VK} (q : RE X e σ H Q) (h : ∀ v H1, Q v H1 → Q' v H1) : RE X e σ H Q' := by
  refine ⟨⟨fun σ1 H1 Q1 => ∃ Q0, RE X e σ1 H1 Q0 ∧ ∀ v H2, Q0 v H2 → Q1 v H2, ⟨fun pins s σ1 H1 Q1 I h1 => ?_⟩, Q, q, h⟩⟩
  obtain ⟨Q0, h2, h3⟩ := h1
  exact thn (PE.self.run pins s σ1 H1 Q0 I h2) fun u s' ⟨v, H', I', r, q'⟩ => ⟨v, H', I', r, h3 v H' q'⟩
theorem rt_mono {e : Expr} {Q Q' : Bool → Hp → Prop} (q : RT X e σ H Q) (h : ∀ v H1, Q v H1 → Q' v H1) : RT X e σ H Q' := by
  refine ⟨⟨fun σ1 H1 Q1 => ∃ Q0 : Bool → Hp → Prop, RT X e σ1 H1 Q0 ∧ ∀ v H2, Q0 v H2 → Q1 v H2, ⟨fun pins s σ1 H1 Q1 I h1 => ?_⟩, Q, q, h⟩⟩
  obtain ⟨Q0, h2, h3⟩ := h1
  exact thn (PT.self.run pins s σ1 H1 Q0 I h2) fun u s' ⟨H', I', q'⟩ => ⟨H', I', h3 u H' q'⟩
theorem ra_mono {e : List Expr} {Q Q' : List V → Hp → Prop} (q : RA X e σ H Q) (h : ∀ v H1, Q v H1 → Q' v H1) : RA X e σ H Q' := by
  refine ⟨⟨fun σ1 H1 Q1 => ∃ Q0 : List V → Hp → Prop, RA X e σ1 H1 Q0 ∧ ∀ v H2, Q0 v H2 → Q1 v H2, ⟨fun pos pins s σ1 H1 Q1 I h1 => ?_⟩, Q, q, h⟩⟩
  obtain ⟨Q0, h2, h3⟩ := h1
  exact thn (PA.self.run pos pins s σ1 H1 Q0 I h2) fun u s' ⟨v, H', I', r, q'⟩ => ⟨v, H', I', r, h3 v H' q'⟩
theorem rs_set (c : Ctx X N L k) {x : Str} {e : Expr} {j : KN} {pos' : Pos} (h : (x, j) ∈ L) (m : Own j) (hx : x ∈ N) (q : RE X e σ H fun v H1 => ∃ σ', Put N σ x v σ' ∧ D.nx σ' H1) (hs : swapsWith e (some (.Name x pos')) pos.line X.env = pure false := by with_unfolding_all rfl) :
    RS X (.Assign [.Name x pos'] e pos) D σ H := by
  obtain ⟨i, h1, h2⟩ := c.put hx
  refine rs_of (ps_set (i := i) c.nodup h1 (c.loc h m) PE.self hs (c.fn h m)) (pe_mono q fun v H1 ⟨σ', p, d⟩ => ?_)
  rw [h2 p] at d
  exact d
theorem rs_expr {e : Expr} (q : RE X e σ H fun _ H1 => D.nx σ H1) (hs : swapsWith e none pos.line X.env = pure false := by with_unfolding_all rfl) : RS X (.Expr e pos) D σ H := rs_of (ps_expr PE.self hs) q
theorem rs_ret {e : Expr} (q : RE X e σ H D.rt) : RS X (.Return (some e) pos) D σ H := rs_of (ps_ret PE.self) q
theorem rs_retN (q : D.rt .non H) : RS X (.Return none pos) D σ H := rs_of ps_retN q
theorem rs_pass (q : D.nx σ H) : RS X (.Pass pos) D σ H := rs_of ps_pass q
theorem rs_break (q : D.bk σ H) : RS X (.Break pos) D σ H := rs_of ps_break q
theorem rs_continue (q : D.ct σ H) : RS X (.Continue pos) D σ H := rs_of ps_continue q
theorem rs_doc {x j} (q : D.nx σ H) : RS X (.Expr (.Constant (.str x) j p0) pos) D σ H := rs_of ps_doc q
theorem rs_if {t : Expr} {a b : List Stmt} (q : RT X t σ H fun c H1 => if c = true then RB X a D σ H1 else RB X b D σ H1) : RS X (.If t a b pos) D σ H := rs_of (ps_if PT.self PSs.self PSs.self) q
/-- o[i] = e, o a list -/
theorem rs_sub {o i e : Expr} (q : RE X e σ H fun v H1 => RE X o σ H1 fun x H2 => RE X i σ H2 fun y H3 => ∃ p xs k j, x = .ref p ∧ y = .int k ∧ H3 p = some (.lst xs) ∧ ixN xs.length k = some j ∧ D.nx σ (upd H3 p (.lst (xs.set j v))))
    (ha : ∀ v, assign (.Subscript o i p0) X.env v = (do
      let ov ← holding [v] (eval o X.env)
      let iv ← holding [v, ov] (eval i X.env)
      standAt p0
      holding [v, ov, iv] (setItem ov iv v)
      release [v, ov, iv] []) := by intro _; with_unfolding_all rfl)
    (hs : swapsWithSole [.Subscript o i p0] e pos.line X.env = pure false := by with_unfolding_all rfl) (hw : swappedStores [.Subscript o i p0] e X.env = pure none := by with_unfolding_all rfl)
    (h1 : (assignEach [.Subscript o i p0] X.env).map (·.2) = [assign (.Subscript o i p0) X.env] := by with_unfolding_all rfl) : RS X (.Assign [.Subscript o i p0] e pos) D σ H :=
  rs_of (ps_asg PE.self (pg_sub PE.self PE.self set_list ha) hs hw h1) q
/-- a, b = e1, e2 (two local names) -/
theorem rs_par (c : Ctx X N L k) {x y : Str} {a b : Expr} {px py pt : Pos} {kt k2 pt2} (hx : (x, KN.loc) ∈ L) (hy : (y, KN.loc) ∈ L) (mx : x ∈ N) (my : y ∈ N) (hxy : x ≠ y)
    (q : RA X [a, b] σ H fun vs H1 => ∃ v w σ' σ'', vs = [v, w] ∧ Put N σ x v σ' ∧ Put N σ' y w σ'' ∧ D.nx σ'' H1)
    (hw : swappedStores [.Tuple [.Name x px, .Name y py] kt pt] (.Tuple [a, b] k2 pt2) X.env = pure (some [x, y]) := by with_unfolding_all rfl)
    (hs : swapsWithSole [.Tuple [.Name x px, .Name y py] kt pt] (.Tuple [a, b] k2 pt2) pos.line X.env = pure false := by with_unfolding_all rfl) :
    RS X (.Assign [.Tuple [.Name x px, .Name y py] kt pt] (.Tuple [a, b] k2 pt2) pos) D σ H := by
  obtain ⟨i, h1, h2⟩ := c.put mx
  obtain ⟨j, h3, h4⟩ := c.put my
  have hij : i ≠ j := fun e => hxy (by rw [e, h3] at h1; exact (Option.some.inj h1).symm)
  refine rs_of (ps_par (i := i) (j := j) c.calm c.nodup h1 h3 hij (c.lcl hx) (c.lcl hy) PA.self hw hs) ?_
  refine (ra_mono q fun vs H1 ⟨v, w, σ', σ'', e, p1, p2, d⟩ => ?_)
  rw [h4 p2, h2 p1] at d
  exact ⟨v, w, e, d⟩
end
end GT
namespace GT
open PySem PySem.Spec PyProof.Rows L2
section
variable {X : Cx} {σ : L2.St} {H : Hp} {N : List Str} {L : List (Str × KN)} {k : Nat} {pos p0 p1 p2 : Pos} {Q : VK} {D : Ends}
/-! ### calls of builtins -/
structure ClV (X : Cx) (f : Value) (vs : List V) (H : Hp) (Q : VK) : Prop where
  ex : ∃ r, CallR X f r ∧ r vs H Q
theorem ClR.self {f : Value} : CallR X f (ClV X f) := fun pins s σ H xs us Q I r h => by
  obtain ⟨r', hr, q⟩ := h.ex
  exact hr pins s σ H xs us Q I r q
theorem re_callB (c : Ctx X N L k) {x : Str} {id : String} {e : Expr} {es : List Expr} (h : (x, KN.glob) ∈ L) (hm : X.mg x = none) (hv : bootBuiltins x = some (.builtin id)) (q : RA X (e :: es) σ H fun vs H1 => ClV X (.builtin id) vs H1 Q)
    (he : starEach (e :: es) X.env = (false, eval e X.env) :: starEach es X.env := by with_unfolding_all rfl) (hpl : (backTo pos (starEach es X.env)).any (·.1) = false := by with_unfolding_all rfl) : RE X (.Call (.Name x p0) (e :: es) [] pos) σ H Q :=
  re_of (pe_callB ClR.self (c.gl h) hm hv PA.self (c.d3 h) (c.d1 h) he hpl) q
theorem re_callT (c : Ctx X N L k) {x : Str} {T : String} {e : Expr} {es : List Expr} (h : (x, KN.glob) ∈ L) (hm : X.mg x = none) (hv : bootBuiltins x = some (.type T)) (q : RA X (e :: es) σ H fun vs H1 => ClV X (.type T) vs H1 Q)
    (he : starEach (e :: es) X.env = (false, eval e X.env) :: starEach es X.env := by with_unfolding_all rfl) (hpl : (backTo pos (starEach es X.env)).any (·.1) = false := by with_unfolding_all rfl) : RE X (.Call (.Name x p0) (e :: es) [] pos) σ H Q :=
  re_of (pe_callTy ClR.self (c.gl h) hm hv PA.self (c.d3 h) (c.d1 h) he hpl) q
variable {i j : Int} {z w : Str} {x y : V} {p : Addr} {xs ys : List V}
theorem lv_abs (q : Q (.int (if i < 0 then -i else i)) H) : ClV X (.builtin "abs") [.int i] H Q := ⟨⟨_, call_abs, i, rfl, q⟩⟩
theorem lv_max (hc : X.calm = true) (q : Q (.int (if j > i then j else i)) H) : ClV X (.builtin "max") [.int i, .int j] H Q := ⟨⟨_, call_max2 hc, i, j, rfl, q⟩⟩
theorem lv_min (hc : X.calm = true) (q : Q (.int (if j < i then j else i)) H) : ClV X (.builtin "min") [.int i, .int j] H Q := ⟨⟨_, call_min2 hc, i, j, rfl, q⟩⟩
theorem lv_int (q : Q (.int i) H) : ClV X (.type "int") [.int i] H Q := ⟨⟨_, call_int1, .inl ⟨i, rfl, q⟩⟩⟩
theorem lv_lenL (h : SqL X.K H p xs) (q : Q (.int xs.length) H) : ClV X (.builtin "len") [.ref p] H Q := ⟨⟨_, call_len_seq, p, xs, rfl, .inl h, q⟩⟩
theorem lv_lenT (h : SqT X.K H p xs) (q : Q (.int xs.length) H) : ClV X (.builtin "len") [.ref p] H Q := ⟨⟨_, call_len_seq, p, xs, rfl, .inr h, q⟩⟩
theorem lv_lenS (h : z.length ≤ sizeLine) (q : Q (.int z.length) H) : ClV X (.builtin "len") [.str z] H Q := ⟨⟨_, call_len_str, z, rfl, h, q⟩⟩
theorem lv_isi {t u : Value} {b : Bool} (k : ClsV y u) (ty : TyX X.K H x t) (e : PySem.W.kitOne X.K t u = some b) (q : Q (.bl b) H) : ClV X (.builtin "isinstance") [x, y] H Q := ⟨⟨_, call_isi, x, y, t, u, b, rfl, k, ty, e, q⟩⟩
theorem lv_isiT {t : Value} {us : List Value} {b : Bool} {tp : Addr} {cs : List V} (h : H tp = some (.tup cs)) (k : Paired ClsV cs us) (ty : TyX X.K H x t) (e : PySem.W.kitAny X.K t us = some b) (q : Q (.bl b) H) : ClV X (.builtin "isinstance") [x, .ref tp] H Q :=
  ⟨⟨_, call_isiT, x, tp, cs, t, us, b, rfl, h, k, ty, e, q⟩⟩
theorem lv_tupL (h : SqL X.K H p xs) (q : ∀ l, H l = none → Q (.ref l) (upd H l (.tup xs))) : ClV X (.type "tuple") [.ref p] H Q := ⟨⟨_, call_tuple_of, p, xs, rfl, .inl ⟨h, q⟩⟩⟩
theorem lv_listL (h : SqL X.K H p xs ∨ SqT X.K H p xs) (q : ∀ l, H l = none → Q (.ref l) (upd H l (.lst xs))) : ClV X (.type "list") [.ref p] H Q := ⟨⟨_, call_list_of, p, xs, rfl, h, q⟩⟩
theorem re_c_len (c : Ctx X N L k) {e : Expr} {es : List Expr} (h : (("len" : Str), KN.glob) ∈ L) (hm : X.mg "len" = none) (q : RA X (e :: es) σ H fun vs H1 => ClV X (.builtin "len") vs H1 Q)
    (he : starEach (e :: es) X.env = (false, eval e X.env) :: starEach es X.env := by with_unfolding_all rfl) (hpl : (backTo pos (starEach es X.env)).any (·.1) = false := by with_unfolding_all rfl) : RE X (.Call (.Name "len" p0) (e :: es) [] pos) σ H Q := re_callB c h hm (by decide +kernel) q he hpl
theorem re_c_abs (c : Ctx X N L k) {e : Expr} {es : List Expr} (h : (("abs" : Str), KN.glob) ∈ L) (hm : X.mg "abs" = none) (q : RA X (e :: es) σ H fun vs H1 => ClV X (.builtin "abs") vs H1 Q)
    (he : starEach (e :: es) X.env = (false, eval e X.env) :: starEach es X.env := by with_unfolding_all rfl) (hpl : (backTo pos (starEach es X.env)).any (·.1) = false := by with_unfolding_all rfl) : RE X (.Call (.Name "abs" p0) (e :: es) [] pos) σ H Q := re_callB c h hm (by decide +kernel) q he hpl
theorem re_c_min (c : Ctx X N L k) {e : Expr} {es : List Expr} (h : (("min" : Str), KN.glob) ∈ L) (hm : X.mg "min" = none) (q : RA X (e :: es) σ H fun vs H1 => ClV X (.builtin "min") vs H1 Q)
    (he : starEach (e :: es) X.env = (false, eval e X.env) :: starEach es X.env := by with_unfolding_all rfl) (hpl : (backTo pos (starEach es X.env)).any (·.1) = false := by with_unfolding_all rfl) : RE X (.Call (.Name "min" p0) (e :: es) [] pos) σ H Q := re_callB c h hm (by decide +kernel) q he hpl
theorem re_c_max (c : Ctx X N L k) {e : Expr} {es : List Expr} (h : (("max" : Str), KN.glob) ∈ L) (hm : X.mg "max" = none) (q : RA X (e :: es) σ H fun vs H1 => ClV X (.builtin "max") vs H1 Q)
    (he : starEach (e :: es) X.env = (false, eval e X.env) :: starEach es X.env := by with_unfolding_all rfl) (hpl : (backTo pos (starEach es X.env)).any (·.1) = false := by with_unfolding_all rfl) : RE X (.Call (.Name "max" p0) (e :: es) [] pos) σ H Q := re_callB c h hm (by decide +kernel) q he hpl
theorem re_c_isinstance (c : Ctx X N L k) {e : Expr} {es : List Expr} (h : (("isinstance" : Str), KN.glob) ∈ L) (hm : X.mg "isinstance" = none) (q : RA X (e :: es) σ H fun vs H1 => ClV X (.builtin "isinstance") vs H1 Q)
    (he : starEach (e :: es) X.env = (false, eval e X.env) :: starEach es X.env := by with_unfolding_all rfl) (hpl : (backTo pos (starEach es X.env)).any (·.1) = false := by with_unfolding_all rfl) : RE X (.Call (.Name "isinstance" p0) (e :: es) [] pos) σ H Q := re_callB c h hm (by decide +kernel) q he hpl
theorem re_c_sorted (c : Ctx X N L k) {e : Expr} {es : List Expr} (h : (("sorted" : Str), KN.glob) ∈ L) (hm : X.mg "sorted" = none) (q : RA X (e :: es) σ H fun vs H1 => ClV X (.builtin "sorted") vs H1 Q)
    (he : starEach (e :: es) X.env = (false, eval e X.env) :: starEach es X.env := by with_unfolding_all rfl) (hpl : (backTo pos (starEach es X.env)).any (·.1) = false := by with_unfolding_all rfl) : RE X (.Call (.Name "sorted" p0) (e :: es) [] pos) σ H Q := re_callB c h hm (by decide +kernel) q he hpl
theorem re_c_int (c : Ctx X N L k) {e : Expr} {es : List Expr} (h : (("int" : Str), KN.glob) ∈ L) (hm : X.mg "int" = none) (q : RA X (e :: es) σ H fun vs H1 => ClV X (.type "int") vs H1 Q)
    (he : starEach (e :: es) X.env = (false, eval e X.env) :: starEach es X.env := by with_unfolding_all rfl) (hpl : (backTo pos (starEach es X.env)).any (·.1) = false := by with_unfolding_all rfl) : RE X (.Call (.Name "int" p0) (e :: es) [] pos) σ H Q := re_callT c h hm (by decide +kernel) q he hpl
theorem re_c_tuple (c : Ctx X N L k) {e : Expr} {es : List Expr} (h : (("tuple" : Str), KN.glob) ∈ L) (hm : X.mg "tuple" = none) (q : RA X (e :: es) σ H fun vs H1 => ClV X (.type "tuple") vs H1 Q)
    (he : starEach (e :: es) X.env = (false, eval e X.env) :: starEach es X.env := by with_unfolding_all rfl) (hpl : (backTo pos (starEach es X.env)).any (·.1) = false := by with_unfolding_all rfl) : RE X (.Call (.Name "tuple" p0) (e :: es) [] pos) σ H Q := re_callT c h hm (by decide +kernel) q he hpl
theorem re_c_list (c : Ctx X N L k) {e : Expr} {es : List Expr} (h : (("list" : Str), KN.glob) ∈ L) (hm : X.mg "list" = none) (q : RA X (e :: es) σ H fun vs H1 => ClV X (.type "list") vs H1 Q)
    (he : starEach (e :: es) X.env = (false, eval e X.env) :: starEach es X.env := by with_unfolding_all rfl) (hpl : (backTo pos (starEach es X.env)).any (·.1) = false := by with_unfolding_all rfl) : RE X (.Call (.Name "list" p0) (e :: es) [] pos) σ H Q := re_callT c h hm (by decide +kernel) q he hpl
theorem re_c_str (c : Ctx X N L k) {e : Expr} {es : List Expr} (h : (("str" : Str), KN.glob) ∈ L) (hm : X.mg "str" = none) (q : RA X (e :: es) σ H fun vs H1 => ClV X (.type "str") vs H1 Q)
    (he : starEach (e :: es) X.env = (false, eval e X.env) :: starEach es X.env := by with_unfolding_all rfl) (hpl : (backTo pos (starEach es X.env)).any (·.1) = false := by with_unfolding_all rfl) : RE X (.Call (.Name "str" p0) (e :: es) [] pos) σ H Q := re_callT c h hm (by decide +kernel) q he hpl
theorem re_ty_int (c : Ctx X N L k) (h : (("int" : Str), KN.glob) ∈ L) (hm : X.mg "int" = none) (q : Q (.ty "int") H) : RE X (.Name "int" pos) σ H Q := re_bltn (v := .ty "int") (u := .type "int") c h hm (by decide +kernel) rfl q
theorem re_ty_bool (c : Ctx X N L k) (h : (("bool" : Str), KN.glob) ∈ L) (hm : X.mg "bool" = none) (q : Q (.ty "bool") H) : RE X (.Name "bool" pos) σ H Q := re_bltn (v := .ty "bool") (u := .type "bool") c h hm (by decide +kernel) rfl q
theorem re_ty_str (c : Ctx X N L k) (h : (("str" : Str), KN.glob) ∈ L) (hm : X.mg "str" = none) (q : Q (.ty "str") H) : RE X (.Name "str" pos) σ H Q := re_bltn (v := .ty "str") (u := .type "str") c h hm (by decide +kernel) rfl q
theorem re_ty_tuple (c : Ctx X N L k) (h : (("tuple" : Str), KN.glob) ∈ L) (hm : X.mg "tuple" = none) (q : Q (.ty "tuple") H) : RE X (.Name "tuple" pos) σ H Q := re_bltn (v := .ty "tuple") (u := .type "tuple") c h hm (by decide +kernel) rfl q
theorem re_ty_list (c : Ctx X N L k) (h : (("list" : Str), KN.glob) ∈ L) (hm : X.mg "list" = none) (q : Q (.ty "list") H) : RE X (.Name "list" pos) σ H Q := re_bltn (v := .ty "list") (u := .type "list") c h hm (by decide +kernel) rfl q
theorem re_ty_ValueError (c : Ctx X N L k) (h : (("ValueError" : Str), KN.glob) ∈ L) (hm : X.mg "ValueError" = none) (q : Q (.ty "ValueError") H) : RE X (.Name "ValueError" pos) σ H Q := re_bltn (v := .ty "ValueError") (u := .type "ValueError") c h hm (by decide +kernel) rfl q
/-! ### slices -/
theorem SlR.self : SlR X (SlV X) := by
  intro pins s σ H x v vl vu lo hi sl Q I rx hs h1 h2 h
  obtain ⟨r, hr, q⟩ := h.ex
  exact hr pins s σ H x v vl vu lo hi sl Q I rx hs h1 h2 q
theorem PO.self {e : Option Expr} : PO X e (RO X e) := ⟨fun pins s σ H Q I h => by obtain ⟨t, ht, q⟩ := h.ex; exact ht.run pins s σ H Q I q⟩
theorem ro_none {Q : Option Int → Hp → Prop} (q : Q none H) : RO X none σ H Q := ⟨⟨_, po_none, q⟩⟩
theorem ro_some {e : Expr} {Q : Option Int → Hp → Prop} (q : RE X e σ H fun x H1 => ∃ i, x = .int i ∧ Q (some i) H1) : RO X (some e) σ H Q := ⟨⟨_, po_some PE.self, q⟩⟩
theorem re_slice {e : Expr} {lo hi : Option Expr} (q : RE X e σ H fun x H1 => RO X lo σ H1 fun a H2 => RO X hi σ H2 fun b H3 => SlV X x a b H3 Q) : RE X (.Subscript e (.Slice lo hi none p2) pos) σ H Q := re_of (pe_slice SlR.self PE.self PO.self PO.self) q
theorem sv_str {a b : Option Int} (h : z.length ≤ sizeLine) (q : Q (.str (cutS z a b)) H) : SlV X (.str z) a b H Q := ⟨⟨_, sl_str, z, rfl, h, q⟩⟩
theorem sv_list {a b : Option Int} (h : SqL X.K H p xs) (q : ∀ l, H l = none → Q (.ref l) (upd H l (.lst (cutV xs a b)))) : SlV X (.ref p) a b H Q := ⟨⟨_, sl_list, p, xs, rfl, h, q⟩⟩
/-! ### lists -/
theorem ov_cat {b : Addr} (h1 : H p = some (.lst xs)) (h2 : H b = some (.lst ys)) (hl : xs.length + ys.length ≤ sizeLine) (q : ∀ l, H l = none → Q (.ref l) (upd H l (.lst (xs ++ ys)))) : OpV X .Add (.ref p) (.ref b) H Q := ⟨⟨_, op_cat, p, b, xs, ys, rfl, rfl, h1, h2, hl, q⟩⟩
theorem ov_rep {n : Int} (h1 : H p = some (.lst xs)) (h2 : -(2 ^ 63) ≤ n) (h3 : n < 2 ^ 63) (hl : xs.length * n.toNat ≤ sizeLine) (q : ∀ l, H l = none → Q (.ref l) (upd H l (.lst (List.replicate n.toNat xs).flatten))) : OpV X .Mult (.ref p) (.int n) H Q :=
  ⟨⟨_, op_rep, p, n, xs, rfl, rfl, h1, h2, h3, hl, q⟩⟩
theorem ov_catT {b : Addr} (h1 : SqT X.K H p xs) (h2 : SqT X.K H b ys) (hl : xs.length + ys.length ≤ sizeLine) (qa : xs = [] → Q (.ref b) H) (qb : xs ≠ [] → ys = [] → Q (.ref p) H) (q : xs ≠ [] → ys ≠ [] → ∀ l, H l = none → Q (.ref l) (upd H l (.tup (xs ++ ys)))) :
    OpV X .Add (.ref p) (.ref b) H Q := ⟨⟨_, op_catA, p, b, xs, ys, rfl, rfl, h1, h2, hl, qa, qb, q⟩⟩
/-- xs.append(e) -/
theorem re_append {o e : Expr} {apos : Pos} (q : RE X o σ H fun x H1 => ∃ l xs, x = .ref l ∧ H1 l = some (.lst xs) ∧ RE X e σ H1 fun y H2 => ∃ xs', H2 l = some (.lst xs') ∧ xs'.length < sizeLine ∧ Q .non (upd H2 l (.lst (xs' ++ [y]))))
    (hbase : attributeBase o "append" X.env (eval o X.env) = eval o X.env := by with_unfolding_all rfl)
    (hfew : ((backTo pos (starEach [e] X.env)).all (fun x => !x.1) && (backToKw pos (keywordEach [] X.env)).all (fun x => x.1.isSome) && decide (([e] : List Expr).length + ([] : List Keyword).length + (if ([] : List Keyword).isEmpty then 0 else 1) < 30)) = true := by with_unfolding_all rfl)
    (hline : (apos.endLine == pos.line) = true := by with_unfolding_all rfl) (hs : starEach [e] X.env = (false, eval e X.env) :: starEach [] X.env := by with_unfolding_all rfl) (hplain : (backTo pos (starEach [] X.env)).any (·.1) = false := by with_unfolding_all rfl) :
    RE X (.Call (.Attribute o "append" apos) [e] [] pos) σ H Q := by
  refine re_of (pe_bm PySem.F.plainAttrs_list PySem.F.slot_list_append PySem.F.type_list_append mt_append PE.self PA.self hbase hfew hline hs hplain) ?_
  refine pe_mono q fun x H1 ⟨l, xs, e1, h1, q1⟩ => ?_
  subst e1
  refine ⟨.inl ⟨rfl, _, SqL.of h1⟩, ra_cons (pe_mono q1 fun y H2 ⟨xs', h2, h3, q2⟩ => ra_nil ⟨l, xs', y, rfl, rfl, h2, h3, q2⟩) hs⟩
/-- ''.join(e) -/
theorem re_join {o e : Expr} {apos : Pos} (q : RE X o σ H fun x H1 => ∃ a, x = .str a ∧ RE X e σ H1 fun y H2 => ∃ p, ∃ ys : List Str, y = .ref p ∧ (SqL X.K H2 p (ys.map V.str) ∨ SqT X.K H2 p (ys.map V.str)) ∧ (ys.map (·.length)).sum + ys.length * a.length ≤ 16777216 ∧ Q (.str (Txt.join a ys)) H2)
    (hs : starEach [e] X.env = [(false, eval e X.env)] := by with_unfolding_all rfl) (hbase : attributeBase o "join" X.env (eval o X.env) = eval o X.env := by with_unfolding_all rfl) (hline : (apos.endLine == pos.line) = true := by with_unfolding_all rfl) :
    RE X (.Call (.Attribute o "join" apos) [e] [] pos) σ H Q := by
  refine re_of (pe_join PE.self PE.self hs hbase hline) ?_
  refine pe_mono q fun x H1 ⟨a, e1, q1⟩ => ⟨⟨a, e1⟩, pe_mono q1 fun y H2 ⟨p, ys, e2, h2, h3, q2⟩ => ?_⟩
  exact ⟨a, p, ys, e1, by rw [e2], h2, h3, q2⟩
/-! ### calls of the program's own defs -/
/-- a def that stands in the module: its promise, at most so many calls deep -/
structure DefP (P : Program) (wd : World) (K : PySem.W.Frag) (mg : Str → Option Value) (base : Heap) (CXs : CXT) (x : Str) (ps : List Str) (k : Nat) (sp : Sp) : Prop where
  ex : ∃ f fd, FnOk P wd K mg base CXs k f fd ps sp ∧ mg x = some (.ref f) ∧ PySem.W.keepIn K (.ref f) = true ∧ Binds K fd ps []
theorem re_call (c : Ctx X N L k) {x : Str} {ps : List Str} {n : Nat} {sp : Sp} {e : Expr} {es : List Expr} (F : DefP X.prog X.w X.K X.mg X.base CX0 x ps n sp) (hn : n ≤ k) (h : (x, KN.glob) ∈ L) (q : RA X (e :: es) σ H fun vs H1 => sp vs H1 Q E0)
    (he : starEach (e :: es) X.env = (false, eval e X.env) :: starEach es X.env := by with_unfolding_all rfl) (hpl : (backTo pos (starEach es X.env)).any (·.1) = false := by with_unfolding_all rfl) : RE X (.Call (.Name x p0) (e :: es) [] pos) σ H Q := by
  obtain ⟨f, fd, F1, m, kp, b⟩ := F.ex
  refine re_of (pe_call F1 (c.room.mono hn) (c.gl h) m kp b .nil pass0 PA.self (c.d1 h) he hpl) ?_
  exact ra_mono q fun vs H1 d => by rw [List.append_nil]; exact d
/-! ### for -/
theorem Ctx.pg (c : Ctx X N L k) {x : Str} {j : KN} (h : (x, j) ∈ L) (m : Own j) (hx : x ∈ N) : ∃ i : Nat, PG X (.Name x p0) (gName i) ∧ ∀ {σ σ' : L2.St} {v : V}, Put N σ x v σ' → σ' = σ.set i (some v) := by
  obtain ⟨i, h1, h2⟩ := c.put hx
  exact ⟨i, pg_name c.nodup h1 (c.loc h m) (c.fn h m), h2⟩
/-- what a loop over xs asks: the invariant Pv by the turn -/
def Turns (X : Cx) (N : List Str) (x : Str) (body : List Stmt) (D : Ends) (stand : Hp → Prop) (n : Nat) (it : Nat → V → Prop) (σ : L2.St) (H : Hp) : Prop :=
  ∃ Pv : Nat → L2.St → Hp → Prop, Pv 0 σ H ∧ (∀ i σ H, i ≤ n → Pv i σ H → stand H) ∧
    (∀ i y σ H, i < n → it i y → Pv i σ H → ∃ σ', Put N σ x y σ' ∧ RB X body { D with nx := Pv (i + 1), ct := Pv (i + 1), bk := D.nx } σ' H) ∧ (∀ σ H, Pv n σ H → D.nx σ H)
theorem rs_for_list (c : Ctx X N L k) {x : Str} {l : Expr} {body : List Stmt} {j : KN} (h : (x, j) ∈ L) (m : Own j) (hx : x ∈ N)
    (q : RE X l σ H fun v H1 => ∃ a xs, v = .ref a ∧ SqL X.K H1 a xs ∧ Turns X N x body D (fun H => SqL X.K H a xs) xs.length (fun i y => xs[i]? = some y) σ H1)
    (hs : ∀ x, foldedSetIterable l X.env x = pure x := by intro _; with_unfolding_all rfl) : RS X (.For (.Name x p0) l body [] pos) D σ H := by
  obtain ⟨i, g, h2⟩ := c.pg (p0 := p0) h m hx
  refine rs_of (ps_for c.po c.calm (pi_list PE.self) g PSs.self hs) (pe_mono q fun v H1 ⟨a, xs, e, hq, Pv, p1, p2, p3, p4⟩ => ⟨a, e, ⟨xs, hq⟩, ?_⟩)
  refine for_list (K := X.K) (a := a) (xs := xs) Pv p1 p2 (fun i y σ H e p => ?_) p4
  obtain ⟨σ', hp, r⟩ := p3 i y σ H (by rcases Nat.lt_or_ge i xs.length with z | z; exact z; rw [List.getElem?_eq_none z] at e; cases e) e p
  rw [h2 hp] at r
  exact r
theorem rs_for_tup (c : Ctx X N L k) {x : Str} {l : Expr} {body : List Stmt} {j : KN} (h : (x, j) ∈ L) (m : Own j) (hx : x ∈ N)
    (q : RE X l σ H fun v H1 => ∃ a xs, v = .ref a ∧ SqT X.K H1 a xs ∧ Turns X N x body D (fun H => SqT X.K H a xs) xs.length (fun i y => xs[i]? = some y) σ H1)
    (hs : ∀ x, foldedSetIterable l X.env x = pure x := by intro _; with_unfolding_all rfl) : RS X (.For (.Name x p0) l body [] pos) D σ H := by
  obtain ⟨i, g, h2⟩ := c.pg (p0 := p0) h m hx
  refine rs_of (ps_for c.po c.calm (pi_tup PE.self) g PSs.self hs) (pe_mono q fun v H1 ⟨a, xs, e, hq, Pv, p1, p2, p3, p4⟩ => ⟨a, e, ⟨xs, hq⟩, ?_⟩)
  refine for_tup (K := X.K) (a := a) (xs := xs) Pv p1 p2 (fun i y σ H e p => ?_) p4
  obtain ⟨σ', hp, r⟩ := p3 i y σ H (by rcases Nat.lt_or_ge i xs.length with z | z; exact z; rw [List.getElem?_eq_none z] at e; cases e) e p
  rw [h2 hp] at r
  exact r
theorem rs_for_range (c : Ctx X N L k) {x : Str} {e : Expr} {body : List Stmt} {j : KN} (h : (x, j) ∈ L) (m : Own j) (hx : x ∈ N) (hg : (("range" : Str), KN.glob) ∈ L) (hm : X.mg "range" = none)
    (q : RE X e σ H fun v H1 => ∃ n : Int, v = .int n ∧ -(2 ^ 62) ≤ n ∧ n < 2 ^ 62 ∧ Turns X N x body D (fun _ => True) n.toNat (fun i y => y = .int i) σ H1)
    (hs : ∀ x, foldedSetIterable (.Call (.Name "range" p1) [e] [] p2) X.env x = pure x := by intro _; with_unfolding_all rfl) (hsE : starEach [e] X.env = [(false, eval e X.env)] := by with_unfolding_all rfl) : RS X (.For (.Name x p0) (.Call (.Name "range" p1) [e] [] p2) body [] pos) D σ H := by
  obtain ⟨i, g, h2⟩ := c.pg (p0 := p0) h m hx
  refine rs_of (ps_for c.po c.calm (pi_range1 (c.gl hg) hm PA.self hsE) g PSs.self hs) ?_
  refine ra_cons (pe_mono q fun v H1 ⟨n, e, n1, n2, Pv, p1, _, p3, p4⟩ => ra_nil ⟨n, by rw [e], n1, n2, ?_⟩) hsE
  refine for_range (lo := 0) (n := n.toNat) Pv p1 (fun i σ H e p => ?_) p4
  obtain ⟨σ', hp, r⟩ := p3 i (.int (0 + i)) σ H e (by simp) p
  rw [h2 hp] at r
  exact r
/-- for x, y in zip(a, b), both lists or both tuples, of one length -/
theorem rs_for_zip (c : Ctx X N L k) {x y : Str} {e1 e2 : Expr} {body : List Stmt} {j j' : KN} {kt : Nat} {q0 q1 q2 : Pos} (h : (x, j) ∈ L) (m : Own j) (hx : x ∈ N) (h' : (y, j') ∈ L) (m' : Own j') (hy : y ∈ N) (hg : (("zip" : Str), KN.glob) ∈ L) (hm : X.mg "zip" = none)
    (q : RA X [e1, e2] σ H fun vs H1 => ∃ a b xs ys, vs = [.ref a, .ref b] ∧ xs.length = ys.length ∧ ∃ Sq : Hp → Addr → List V → Prop, (Sq = (fun H => SqL X.K H) ∨ Sq = fun H => SqT X.K H) ∧ Sq H1 a xs ∧ Sq H1 b ys ∧ ∃ Pv : Nat → L2.St → Hp → Prop, Pv 0 σ H1 ∧ (∀ i σ H, Pv i σ H → Sq H a xs ∧ Sq H b ys) ∧
      (∀ i u v σ H T, xs[i]? = some u → ys[i]? = some v → Pv i σ H → H T = none → ∃ σ' σ'', Put N σ x u σ' ∧ Put N σ' y v σ'' ∧ RB X body { D with nx := Pv (i + 1), ct := Pv (i + 1), bk := D.nx } σ'' (upd H T (.tup [u, v]))) ∧ (∀ σ H, Pv xs.length σ H → D.nx σ H))
    (hs : ∀ x, foldedSetIterable (.Call (.Name "zip" p1) [e1, e2] [] p2) X.env x = pure x := by intro _; with_unfolding_all rfl) (he : starEach [e1, e2] X.env = (false, eval e1 X.env) :: starEach [e2] X.env := by with_unfolding_all rfl) (hpl : (backTo p2 (starEach [e2] X.env)).any (·.1) = false := by with_unfolding_all rfl)
    (hn : (assignEach [.Name x q0, .Name y q1] X.env).length = 2 := by with_unfolding_all rfl) (hst : (assignEach [.Name x q0, .Name y q1] X.env).findIdx? (·.1) = none := by with_unfolding_all rfl)
    (ha : (assignEach [.Name x q0, .Name y q1] X.env).map (·.2) = assign (.Name x q0) X.env :: (assignEach [.Name y q1] X.env).map (·.2) := by with_unfolding_all rfl) (hb : (assignEach [.Name y q1] X.env).map (·.2) = assign (.Name y q1) X.env :: (assignEach [] X.env).map (·.2) := by with_unfolding_all rfl) :
    RS X (.For (.Tuple [.Name x q0, .Name y q1] kt q2) (.Call (.Name "zip" p1) [e1, e2] [] p2) body [] pos) D σ H := by
  obtain ⟨i, g, h2⟩ := c.pg (p0 := q0) h m hx
  obtain ⟨i', g', h2'⟩ := c.pg (p0 := q1) h' m' hy
  refine rs_of (ps_for c.po c.calm (RZ.pi_zipA (c.gl hg) hm PA.self he hpl) (pg_tup (n := 2) c.calm (pgs_cons g (pgs_cons g' pgs_nil hb) ha) hn hst) PSs.self hs) ?_
  refine ra_mono q fun vs H1 ⟨a, b, xs, ys, e, hl, Sq, hS, s1, s2, Pv, p1, p2, p3, p4⟩ => ⟨a, b, xs, ys, e, ?_⟩
  have step : ∀ (i : Nat) (u v : V) (T : Addr) (σ : L2.St) (H : Hp), xs[i]? = some u → ys[i]? = some v → Pv i σ H → H T = none → gTup X.K 2 (gCons (gName _) (gCons (gName _) gNil)) (.ref T) σ (upd H T (.tup [u, v])) fun σ2 H2 => RB X body { D with nx := Pv (i + 1), ct := Pv (i + 1), bk := D.nx } σ2 H2 := fun i u v T σ H e1 e2 p hT => by
    obtain ⟨σ', σ'', a1, a2, r⟩ := p3 i u v σ H T e1 e2 p hT
    rw [h2' a2, h2 a1] at r
    exact ⟨T, _, rfl, SqT.of upd_same, rfl, _, _, rfl, _, _, rfl, rfl, r⟩
  rcases hS with rfl | rfl
  · exact .inl ⟨s1, s2, RZ.for_zipL hl Pv p1 p2 step p4⟩
  · exact .inr ⟨s1, s2, RZ.for_zipT hl Pv p1 p2 step p4⟩
end
end GT
namespace GT
open PySem PySem.Spec PyProof.Rows L2
section
variable {X : Cx} {σ : L2.St} {H : Hp} {N : List Str} {L Lc : List (Str × KN)} {k : Nat} {pos p0 p1 p2 : Pos} {Q : VK} {D : Ends} {scope : Scope}
/-! ### comprehensions -/
structure RTs (X : Cx) (ifs : List Expr) (σ : L2.St) (H : Hp) (Q : Bool → Hp → Prop) : Prop where
  ex : ∃ t, PTs X ifs t ∧ t σ H Q
theorem PTs.self {ifs : List Expr} : PTs X ifs (RTs X ifs) := ⟨fun pins s σ H Q I h => by obtain ⟨t, ht, q⟩ := h.ex; exact ht.run pins s σ H Q I q⟩
theorem rts_nil {Q : Bool → Hp → Prop} (q : Q true H) : RTs X [] σ H Q := ⟨⟨_, pts_nil, q⟩⟩
theorem rts_one {t : Expr} {Q : Bool → Hp → Prop} (q : RT X t σ H Q) : RTs X [t] σ H Q := ⟨⟨_, pts_one PT.self, q⟩⟩
/-- what is known of a comprehension's own scope -/
structure Scp (scope : Scope) (Lc : List (Str × KN)) : Prop where
  names : ∀ p ∈ Lc, p ∈ knAll scope.names
  lnd : (scope.names.map (·.1)).Nodup
  dbg : ∀ p ∈ Lc, okName p.1 = true
  kind : scope.kind = .function
/-- a comprehension over x, within names N whose kinds are told by L; Lc tells its own -/
def lcOk (N : List Str) (L : List (Str × KN)) (scope : Scope) (Lc : List (Str × KN)) (x : Str) : Bool :=
  decide (scope.kind = .function) && (Lc.all fun p => decide (p ∈ knAll scope.names)) && decide (scope.names.map (·.1)).Nodup && (Lc.all fun p => okName p.1) &&
    (scope.names.all fun y => !decide (y.2 = .free) || (decide ((y.1, KN.cell) ∈ L) || decide ((y.1, KN.cap) ∈ L))) &&
    (scope.names.all fun y => !(decide (y.2 = .local) || decide (y.2 = .cell)) || (decide (y.1 = x) || !decide (y.1 ∈ N))) && decide (x ∈ N) && decide ((x, KN.loc) ∈ Lc)
theorem lcOk_of {x : Str} (c : Ctx X N L k) (h : lcOk N L scope Lc x = true) : Scp scope Lc ∧ x ∈ N ∧ (x, KN.loc) ∈ Lc ∧ ∀ i : Nat, N[i]? = some x → BlkOk N X.env.scope scope [(x, i)] := by
  unfold lcOk at h
  simp only [Bool.and_eq_true, Bool.or_eq_true, Bool.not_eq_true', decide_eq_true_eq, decide_eq_false_iff_not, List.all_eq_true] at h
  obtain ⟨⟨⟨⟨⟨⟨⟨h1, h2⟩, h3⟩, h4⟩, h5⟩, h6⟩, h7⟩, h8⟩ := h
  refine ⟨⟨h2, h3, h4, h1⟩, h7, h8, fun i hi => ⟨h1, fun y hy => lookup_mem h3 hy, fun p hp => ?_, fun y hy e => ?_, fun y hy e => ?_⟩⟩
  · obtain rfl : p = (x, i) := by simpa using hp
    exact hi
  · rcases h5 y hy with z | z | z
    · exact absurd e z
    · exact .inl (c.look _ z).1
    · exact c.look _ z
  · rcases h6 y hy with z | z | z
    · rcases e with e | e <;> simp [e] at z
    · exact .inl (by simp [z])
    · exact .inr z
theorem relabel_lookup {names : List (Str × NameKind)} {f : NameKind → Bool} {x : Str} {j : NameKind} (g : Str → Bool) (h : names.lookup x = some j) :
    (names.map fun p => if (f p.2 && g p.1) = true then (p.1, NameKind.cell) else p).lookup x = some (if (f j && g x) = true then NameKind.cell else j) := by
  induction names with
  | nil => cases h
  | cons p r ih =>
    obtain ⟨y, i⟩ := p
    rw [List.map_cons]
    by_cases e : x = y
    · subst e
      have e1 : i = j := by simpa [List.lookup] using h
      subst e1
      split <;> simp [List.lookup, *]
    · have hb : (x == y) = false := beq_eq_false_iff_ne.mpr e
      have h' : r.lookup x = some j := by simpa [List.lookup, hb] using h
      have ih' := ih h'
      split
      · simpa [List.lookup, hb] using ih'
      · simpa [List.lookup, hb] using ih'
theorem Ctx.blk (c : Ctx X N L k) (S : Scp scope Lc) (s : Shared) (Hb : Hp) (C : Addr) (cl : List (Str × Addr)) (fp : List Addr) : Ctx (X.blk s Hb scope (compEnvC scope cl C X.env) fp) N Lc k where
  n := c.n
  nd := c.nd
  look := fun p hp => by
    obtain ⟨x, m⟩ := p
    obtain ⟨j, h1, h2⟩ := knAll_mem (S.names _ hp)
    have e := lookup_mem S.lnd h1
    have e2 := relabel_lookup (f := fun k => k == NameKind.free && X.env.scope.kind == .function) (fun n => X.env.kindOf n == some .cell) e
    have e3 : (X.blk s Hb scope (compEnvC scope cl C X.env) fp).env.scope.names.lookup x = some (if ((j == NameKind.free && X.env.scope.kind == .function) && X.env.kindOf x == some .cell) = true then NameKind.cell else j) := e2
    cases j <;> simp only [knOf] at h2 <;> cases h2
    · exact e3
    · refine ⟨e3, ?_⟩
      show (scope.names.lookup x == some .cell) = true
      rw [e]
      rfl
    · show _ ∨ _
      rw [e3]
      split
      · exact .inl rfl
      · exact .inr rfl
    · exact e3
  dbg := S.dbg
  calm := c.calm
  room := c.room
  po := PassesOwn.never
  kind := by
    have e : (compEnvC scope cl C X.env).scope.kind = scope.kind := rfl
    exact e.trans S.kind
def REA (X : Cx) (N : List Str) (Lc : List (Str × KN)) (k : Nat) (scope : Scope) (e : Expr) : TE := fun σ H Q =>
  ∀ (s : Shared) (Hb : Hp) (C : Addr) (cl : List (Str × Addr)) (fp : List Addr), Ctx (X.blk s Hb scope (compEnvC scope cl C X.env) fp) N Lc k → RE (X.blk s Hb scope (compEnvC scope cl C X.env) fp) e σ H Q
def RTA (X : Cx) (N : List Str) (Lc : List (Str × KN)) (k : Nat) (scope : Scope) (ifs : List Expr) : TT := fun σ H Q =>
  ∀ (s : Shared) (Hb : Hp) (C : Addr) (cl : List (Str × Addr)) (fp : List Addr), Ctx (X.blk s Hb scope (compEnvC scope cl C X.env) fp) N Lc k → RTs (X.blk s Hb scope (compEnvC scope cl C X.env) fp) ifs σ H Q
theorem PE.rea (c : Ctx X N L k) (S : Scp scope Lc) {e : Expr} (s : Shared) (Hb : Hp) (C : Addr) (cl : List (Str × Addr)) (fp : List Addr) : PE (X.blk s Hb scope (compEnvC scope cl C X.env) fp) e (REA X N Lc k scope e) :=
  ⟨fun pins s1 σ H Q I h => PE.self.run pins s1 σ H Q I (h s Hb C cl fp (c.blk S s Hb C cl fp))⟩
theorem PTs.rta (c : Ctx X N L k) (S : Scp scope Lc) {ifs : List Expr} (s : Shared) (Hb : Hp) (C : Addr) (cl : List (Str × Addr)) (fp : List Addr) : PTs (X.blk s Hb scope (compEnvC scope cl C X.env) fp) ifs (RTA X N Lc k scope ifs) :=
  ⟨fun pins s1 σ H Q I h => PTs.self.run pins s1 σ H Q I (h s Hb C cl fp (c.blk S s Hb C cl fp))⟩
/-- what a comprehension asks of its turns: y the item, Dn the new list -/
def CTurns (X : Cx) (N : List Str) (Lc : List (Str × KN)) (k : Nat) (scope : Scope) (x : Str) (elt : Expr) (ifs : List Expr) (stand : Hp → Prop) (n : Nat) (it : Nat → V → Prop) (σ : L2.St) (H1 : Hp) (Q : VK) : Prop :=
  ∀ Dn, H1 Dn = none → ∃ Pv : Nat → Hp → Prop, Pv 0 (upd H1 Dn (.lst [])) ∧ (∀ i H, i ≤ n → Pv i H → stand H) ∧
    (∀ i y H2, i < n → it i y → Pv i H2 → ∃ σ', Put N σ x y σ' ∧ RTA X N Lc k scope ifs σ' H2 fun b H3 =>
      if b = true then REA X N Lc k scope elt σ' H3 fun z H4 => ∃ acc, H4 Dn = some (.lst acc) ∧ acc.length < sizeLine ∧ Pv (i + 1) (upd H4 Dn (.lst (acc ++ [z]))) else Pv (i + 1) H3) ∧ ∀ H2, Pv n H2 → Q (.ref Dn) H2
theorem set_back {σ : L2.St} {i : Nat} {v : V} : wipe ((wipe σ [i]).set i (some v)) [i] = wipe σ [i] := by
  show (((σ.set i none).set i (some v)).set i none) = σ.set i none
  rw [List.set_set, List.set_set]
theorem set_on {σ : L2.St} {i : Nat} {v : V} : (wipe σ [i]).set i (some v) = σ.set i (some v) := by
  show ((σ.set i none).set i (some v)) = σ.set i (some v)
  rw [List.set_set]
section
variable {x : Str} {elt : Expr} {ifs : List Expr}
theorem blk_at (c : Ctx X N L k) (S : Scp scope Lc) (hx : x ∈ N) (hl : (x, KN.loc) ∈ Lc) (ok : ∀ i : Nat, N[i]? = some x → BlkOk N X.env.scope scope [(x, i)]) :
    ∃ i : Nat, (∀ {σ σ' : L2.St} {v : V}, Put N σ x v σ' → σ' = σ.set i (some v)) ∧ BlkOk X.N X.env.scope scope [(x, i)] ∧
      ∀ (s : Shared) (Hb : Hp) (C : Addr) (cl : List (Str × Addr)) (fp : List Addr), PG (X.blk s Hb scope (compEnvC scope cl C X.env) fp) (.Name x p0) (gName i) := by
  obtain ⟨i, h1, h2⟩ := c.put hx
  refine ⟨i, h2, ?_, fun s Hb C cl fp => ?_⟩
  · rw [c.n]
    rw [c.n] at h1
    exact ok i h1
  · have cb := c.blk S s Hb C cl fp
    exact pg_name c.nodup h1 (cb.loc hl .loc) (cb.fn hl .loc)
theorem lc_go {Itx : It} {n : Nat} {stand : Hp → Prop} {it : Nat → V → Prop} {H1 : Hp} {i : Nat} (hput : ∀ {σ σ' : L2.St} {v : V}, Put N σ x v σ' → σ' = σ.set i (some v))
    (W : Walk Itx n stand fun j H y H' => H' = H ∧ it j y) (q : CTurns X N Lc k scope x elt ifs stand n it σ H1 Q) :
    ∀ Dn, H1 Dn = none → ∃ W : Nat → Nat → Hp → Prop, (∃ m, W 0 m (upd H1 Dn (.lst []))) ∧ ∀ j m H, W j m H →
      (Itx.stop j H ∧ Q (.ref Dn) H) ∨ (Itx.go j H ∧ ∃ Nx : Hp → Prop, (∀ H', Nx H' → ∃ m', m' < m ∧ W (j + 1) m' H') ∧ ∀ y H', Itx.yld j H y H' → gName i y (wipe σ [i]) H' fun σ2 H2 => wipe σ2 [i] = wipe σ [i] ∧ RTA X N Lc k scope ifs σ2 H2 fun b H3 =>
        if b = true then REA X N Lc k scope elt σ2 H3 fun z H4 => ∃ acc, H4 Dn = some (.lst acc) ∧ acc.length < sizeLine ∧ Nx (upd H4 Dn (.lst (acc ++ [z]))) else Nx H3) := by
  intro Dn hD
  obtain ⟨Pv, p1, p2, p3, p4⟩ := q Dn hD
  refine lc_it W (g := gName i) (tt := RTA X N Lc k scope ifs) (te := REA X N Lc k scope elt) (vs := [i]) (σ := σ) Pv p1 p2 (fun j y H H' hj p hy => ?_) p4
  obtain ⟨rfl, hy⟩ := hy
  obtain ⟨σ', hp, r⟩ := p3 j y H' hj hy p
  refine ⟨set_back, ?_⟩
  rw [set_on, ← hput hp]
  exact r
theorem re_lc_list (c : Ctx X N L k) (Lc : List (Str × KN)) (hok : lcOk N L scope Lc x = true) {l : Expr}
    (q : RE X l σ H fun v H1 => ∃ a xs, v = .ref a ∧ SqL X.K H1 a xs ∧ CTurns X N Lc k scope x elt ifs (fun H => SqL X.K H a xs) xs.length (fun i y => xs[i]? = some y) σ H1 Q)
    (hs : ∀ x, foldedSetIterable l X.env x = pure x := by intro _; with_unfolding_all rfl) : RE X (.ListComp elt [⟨.Name x p0, l, ifs, 0⟩] scope pos) σ H Q := by
  obtain ⟨S, hx, hl, ok⟩ := lcOk_of c hok
  obtain ⟨i, hput, bk, g⟩ := blk_at (p0 := p0) c S hx hl ok
  refine re_of (pe_lc c.calm c.nodup (pi_list PE.self) bk g (fun s H C cl fp => PTs.rta c S s H C cl fp) (fun s H C cl fp => PE.rea c S s H C cl fp) hs) ?_
  refine pe_mono q fun v H1 ⟨a, xs, e, h1, q1⟩ => ⟨a, e, ⟨xs, h1⟩, lc_go hput walk_list q1⟩
theorem re_lc_range (c : Ctx X N L k) (Lc : List (Str × KN)) (hok : lcOk N L scope Lc x = true) {e : Expr} (hg : (("range" : Str), KN.glob) ∈ L) (hm : X.mg "range" = none)
    (q : RE X e σ H fun v H1 => ∃ n : Int, v = .int n ∧ -(2 ^ 62) ≤ n ∧ n < 2 ^ 62 ∧ CTurns X N Lc k scope x elt ifs (fun _ => True) n.toNat (fun i y => y = .int i) σ H1 Q)
    (hs : ∀ x, foldedSetIterable (.Call (.Name "range" p1) [e] [] p2) X.env x = pure x := by intro _; with_unfolding_all rfl) (hsE : starEach [e] X.env = [(false, eval e X.env)] := by with_unfolding_all rfl) : RE X (.ListComp elt [⟨.Name x p0, .Call (.Name "range" p1) [e] [] p2, ifs, 0⟩] scope pos) σ H Q := by
  obtain ⟨S, hx, hl, ok⟩ := lcOk_of c hok
  obtain ⟨i, hput, bk, g⟩ := blk_at (p0 := p0) c S hx hl ok
  refine re_of (pe_lc c.calm c.nodup (pi_range1 (c.gl hg) hm PA.self hsE) bk g (fun s H C cl fp => PTs.rta c S s H C cl fp) (fun s H C cl fp => PE.rea c S s H C cl fp) hs) ?_
  refine ra_cons (pe_mono q fun v H1 ⟨n, e, n1, n2, q1⟩ => ra_nil ⟨n, by rw [e], n1, n2, ?_⟩) hsE
  refine lc_go hput (walk_range.mono (fun _ h => h) fun j H y H' hj _ hy => ?_) q1
  obtain ⟨h1, h2⟩ := hy
  exact ⟨h1, by rw [h2]; simp⟩
/-- y = [..] on one line -/
theorem rs_lc_list (c : Ctx X N L k) (Lc : List (Str × KN)) (hok : lcOk N L scope Lc x = true) {l : Expr} {y : Str} {py cp : Pos} (hy : (y, KN.loc) ∈ L) (my : y ∈ N)
    (q : RE X l σ H fun v H1 => ∃ a xs, v = .ref a ∧ SqL X.K H1 a xs ∧ CTurns X N Lc k scope x elt ifs (fun H => SqL X.K H a xs) xs.length (fun i y => xs[i]? = some y) σ H1 fun v H2 => ∃ σ', Put N σ y v σ' ∧ D.nx σ' H2)
    (hln : (py.line == cp.line) = true := by with_unfolding_all rfl) (ha : (scope.names.any fun (n, k) => n == y && (k == .local || k == .cell)) = false := by decide +kernel)
    (hs : ∀ x, foldedSetIterable l X.env x = pure x := by intro _; with_unfolding_all rfl) : RS X (.Assign [.Name y py] (.ListComp elt [⟨.Name x p0, l, ifs, 0⟩] scope cp) pos) D σ H := by
  obtain ⟨S, hx, hl, ok⟩ := lcOk_of c hok
  obtain ⟨i, hput, bk, g⟩ := blk_at (p0 := p0) c S hx hl ok
  obtain ⟨i2, h1, h2⟩ := c.put my
  refine rs_of (ps_setLc (i := i2) c.calm c.nodup h1 (c.lcl hy) (sw_true c.kind (c.lcl hy) hln ha) (pi_list PE.self) bk g (fun s H C cl fp => PTs.rta c S s H C cl fp) (fun s H C cl fp => PE.rea c S s H C cl fp) hs) ?_
  refine pe_mono q fun v H1 ⟨a, xs, e, h1, q1⟩ => ⟨a, e, ⟨xs, h1⟩, lc_go hput (walk_list (xs := xs)) (Q := fun v H1 => D.nx (σ.set i2 (some v)) H1) (fun Dn hD => ?_ : CTurns X N Lc k scope x elt ifs (fun H => SqL X.K H a xs) xs.length (fun i y => xs[i]? = some y) σ H1 fun v H1 => D.nx (σ.set i2 (some v)) H1)⟩
  obtain ⟨Pv, a1, a2, a3, a4⟩ := q1 Dn hD
  refine ⟨Pv, a1, a2, a3, fun H2 hp => ?_⟩
  obtain ⟨σ', p, d⟩ := a4 H2 hp
  rw [h2 p] at d
  exact d
end
end
end GT
namespace GT
open PySem PySem.Spec PyProof.Rows L2
/-- the def that st says, as it stands behind the top -/
abbrev FnP (K : PySem.W.Frag) (x : Str) (st : Stmt) (f : Addr) (fd : FuncData) : Prop := FunD K x x (defArgs st) (defBody st) (defScope st) [] [] f fd
/-- a context of this program and heap -/
structure At5 (X : Cx) (P : Program) (w : World) (K : PySem.W.Frag) (mg : Str → Option Value) (base : Heap) : Prop where
  p : X.prog = P
  w : X.w = w
  k : X.K = K
  m : X.mg = mg
  b : X.base = base
/-- what is known of a def's names (each line by decide +kernel) -/
structure Nms (st : Stmt) (N ps : List Str) (L : List (Str × KN)) : Prop where
  S : FnScope N ps (defScope st)
  kl : ∀ p ∈ L, p ∈ knAll (defScope st).names
  nd : ((defScope st).names.map (·.1)).Nodup
  db : ∀ p ∈ L, okName p.1 = true
section
variable {P : Program} {w : World} {K : PySem.W.Frag} {mg : Str → Option Value} {base : Heap} {CXs : CXT} {x : Str} {st : Stmt} {N ps : List Str} {L : List (Str × KN)} {k : Nat} {sp : Sp} {f : Addr} {fd : FuncData}
theorem knIs_of {X : Cx} {st : Stmt} (M : Nms st N ps L) (e : X.env.scope = defScope st) (hf : ∀ x, X.fn x = true) : ∀ p ∈ L, KnIs X p.1 p.2 := fun p hp => by
  obtain ⟨x, m⟩ := p
  obtain ⟨j, h1, h2⟩ := knAll_mem (M.kl _ hp)
  have e1 : X.env.scope.names.lookup x = some j := by
    rw [e]
    exact lookup_mem M.nd h1
  cases j <;> simp only [knOf] at h2 <;> cases h2
  · exact e1
  · exact ⟨e1, hf x⟩
  · exact .inr e1
  · exact e1
/-- a def that raises nothing keeps its promise -/
theorem defP_of (F : FnP K x st f fd) (gx : mg x = some (.ref f)) (M : Nms st N ps L) (hb : Binds K fd ps []) (len : ∀ vs H Q E, sp vs H Q E → vs.length = ps.length)
    (body : ∀ (X : Cx), Ctx X N L k → At5 X P w K mg base → ∀ (vs : List V) (H : Hp) (Q : VK) (E : XK), sp vs H Q E → RB X (defBody st) { nx := fun _ H' => Q .non H', rt := Q } (start N vs) H) : DefP P w K mg base CX0 x ps (k + 1) sp := by
  refine ⟨f, fd, F.ok M.S len (fun cdv A outer s H vs Q E hr h => ?_), gx, F.kp, hb⟩
  have c : Ctx (cxOf CX0 P w K mg base N x (defScope st) f cdv A outer s H E).nox N L k := ⟨rfl, M.S.nd, knIs_of M rfl (fun _ => rfl), M.db, rfl, hr, PassesOwn.never, M.S.kind⟩
  obtain ⟨t, ht, q⟩ := (body _ c ⟨rfl, rfl, rfl, rfl, rfl⟩ vs H Q E h).ex
  exact ⟨t, ht.nox, q⟩
theorem DefP.at5 {X : Cx} {n : Nat} (d : DefP P w K mg base CXs x ps n sp) (a : At5 X P w K mg base) : DefP X.prog X.w X.K X.mg X.base CXs x ps n sp := by
  obtain ⟨p1, p2, p3, p4, p5⟩ := a
  rw [p1, p2, p3, p4, p5]
  exact d
end
/-! ### frames -/
/-- what stands outside of the addresses of B is as it was -/
def Fr (B : Addr → Prop) (H H' : Hp) : Prop := ∀ a o, ¬ B a → H a = some o → H' a = some o
abbrev NoB : Addr → Prop := fun _ => False
section
variable {B : Addr → Prop} {K : PySem.W.Frag} {H H1 H2 : Hp} {a p : Addr} {o : HO} {xs : List V}
theorem Fr.refl : Fr B H H := fun _ _ _ h => h
theorem Fr.trans (h : Fr B H H1) (g : Fr B H1 H2) : Fr B H H2 := fun a o n e => g a o n (h a o n e)
theorem Fr.any (h : Fr NoB H H1) : Fr B H H1 := fun a o _ e => h a o (fun z => z) e
theorem Fr.new (h : H p = none) : Fr B H (upd H p o) := fun a u _ e => by
  rw [upd_ne (ne_of_none e h)]
  exact e
theorem Fr.seqL (f : Fr B H H1) (n : ¬ B a) (h : SqL K H a xs) : SqL K H1 a xs := by
  rcases h with (h | ⟨o, h⟩) | h
  · exact .inl (.inl (f _ _ n h))
  · exact .inl (.inr ⟨o, f _ _ n h⟩)
  · exact .inr h
theorem Fr.seqT (f : Fr B H H1) (n : ¬ B a) (h : SqT K H a xs) : SqT K H1 a xs := by
  rcases h with (h | ⟨o, h⟩) | h
  · exact .inl (.inl (f _ _ n h))
  · exact .inl (.inr ⟨o, f _ _ n h⟩)
  · exact .inr h
theorem Fr.free (f : Fr NoB H H1) (h : H1 a = .none) : H a = .none := by
  cases e : H a with
  | none => rfl
  | some o =>
    rw [f a o (fun z => z) e] at h
    cases h
theorem Fr.gone (f : Fr B H H1) (n : ¬ B p) (h : H1 p = .none) : H p = .none := by
  cases e : H p with
  | none => rfl
  | some o =>
    rw [f p o n e] at h
    cases h
/-- an object that was not there at first is written -/
theorem Fr.put (f : Fr B H H1) (h : H p = .none) : Fr B H (upd H1 p o) := fun a u n e => by
  rw [upd_ne (ne_of_none e h)]
  exact f a u n e
end
/-! ### data -/
inductive D where
  | non | bl (b : Bool) | int (i : Int) | str (s : Str) | lst (l : List D) | tup (l : List D)
/-- v bears the data d: what it reaches stands outside of B -/
inductive Dt (K : PySem.W.Frag) (B : Addr → Prop) (H : Hp) : V → D → Prop
  | non : Dt K B H .non .non
  | bl {b : Bool} : Dt K B H (.bl b) (.bl b)
  | int {i : Int} : Dt K B H (.int i) (.int i)
  | str {s : Str} : Dt K B H (.str s) (.str s)
  | lst {a : Addr} {vs : List V} {ds : List D} (n : ¬ B a) (t : H a = some (.lst vs)) (l : vs.length = ds.length) (h : ∀ (i : Nat) v d, vs[i]? = some v → ds[i]? = some d → Dt K B H v d) : Dt K B H (.ref a) (.lst ds)
  | tup {a : Addr} {vs : List V} {ds : List D} (n : ¬ B a) (t : H a = some (.tup vs)) (l : vs.length = ds.length) (h : ∀ (i : Nat) v d, vs[i]? = some v → ds[i]? = some d → Dt K B H v d) : Dt K B H (.ref a) (.tup ds)
theorem Dt.fr {K : PySem.W.Frag} {B : Addr → Prop} {H H' : Hp} {v : V} {d : D} (h : Dt K B H v d) (f : Fr B H H') : Dt K B H' v d := by
  induction h with
  | non => exact .non
  | bl => exact .bl
  | int => exact .int
  | str => exact .str
  | lst n t l _ ih => exact .lst n (f _ _ n t) l ih
  | tup n t l _ ih => exact .tup n (f _ _ n t) l ih
theorem Dt.mono {K : PySem.W.Frag} {B B' : Addr → Prop} {H : Hp} {v : V} {d : D} (h : Dt K B H v d) (s : ∀ a, B' a → B a) : Dt K B' H v d := by
  induction h with
  | non => exact .non
  | bl => exact .bl
  | int => exact .int
  | str => exact .str
  | lst n t l _ ih => exact .lst (fun z => n (s _ z)) t l ih
  | tup n t l _ ih => exact .tup (fun z => n (s _ z)) t l ih
/-- row by row -/
def Dts (K : PySem.W.Frag) (B : Addr → Prop) (H : Hp) (vs : List V) (ds : List D) : Prop := vs.length = ds.length ∧ ∀ (i : Nat) v d, vs[i]? = some v → ds[i]? = some d → Dt K B H v d
theorem Dts.nil {K : PySem.W.Frag} {B : Addr → Prop} {H : Hp} : Dts K B H [] [] := ⟨rfl, fun i v d h => by simp at h⟩
theorem Dts.cons {K : PySem.W.Frag} {B : Addr → Prop} {H : Hp} {v : V} {d : D} {vs : List V} {ds : List D} (h : Dt K B H v d) (t : Dts K B H vs ds) : Dts K B H (v :: vs) (d :: ds) := by
  refine ⟨by rw [List.length_cons, List.length_cons, t.1], fun i u e h1 h2 => ?_⟩
  cases i with
  | zero =>
    simp at h1 h2
    subst h1 h2
    exact h
  | succ i => exact t.2 i u e (by simpa using h1) (by simpa using h2)
theorem Dts.fr {K : PySem.W.Frag} {B : Addr → Prop} {H H' : Hp} {vs : List V} {ds : List D} (h : Dts K B H vs ds) (f : Fr B H H') : Dts K B H' vs ds := ⟨h.1, fun i v d a b => (h.2 i v d a b).fr f⟩
theorem Dt.ofT {K : PySem.W.Frag} {B : Addr → Prop} {H : Hp} {a : Addr} {vs : List V} {ds : List D} (n : ¬ B a) (t : H a = some (.tup vs)) (h : Dts K B H vs ds) : Dt K B H (.ref a) (.tup ds) := .tup n t h.1 h.2
theorem Dt.ofL {K : PySem.W.Frag} {B : Addr → Prop} {H : Hp} {a : Addr} {vs : List V} {ds : List D} (n : ¬ B a) (t : H a = some (.lst vs)) (h : Dts K B H vs ds) : Dt K B H (.ref a) (.lst ds) := .lst n t h.1 h.2
/-- a new tuple, a new list, of data -/
theorem Dt.newT {K : PySem.W.Frag} {B : Addr → Prop} {H : Hp} {p : Addr} {vs : List V} {ds : List D} (hp : H p = none) (n : ¬ B p) (h : Dts K B H vs ds) : Dt K B (upd H p (.tup vs)) (.ref p) (.tup ds) := .ofT n upd_same (h.fr (Fr.new hp))
theorem Dt.newL {K : PySem.W.Frag} {B : Addr → Prop} {H : Hp} {p : Addr} {vs : List V} {ds : List D} (hp : H p = none) (n : ¬ B p) (h : Dts K B H vs ds) : Dt K B (upd H p (.lst vs)) (.ref p) (.lst ds) := .ofL n upd_same (h.fr (Fr.new hp))
/-! ### the box of a law's draws -/
/-- the two numbers: what is left of a great one, and the state of the draws -/
def BoxAt (H : Hp) (b : Addr) : Prop := ∃ g r : Int, H b = some (.lst [.int g, .int r]) ∧ 0 ≤ g ∧ 0 ≤ r ∧ r < 2 ^ 32
theorem BoxAt.fr {H H' : Hp} {b : Addr} (h : BoxAt H b) (f : Fr NoB H H') : BoxAt H' b := by
  obtain ⟨g, r, h1, h2⟩ := h
  exact ⟨g, r, f _ _ (fun z => z) h1, h2⟩
theorem BoxAt.ne {H : Hp} {b p : Addr} (h : BoxAt H b) (hp : H p = none) : ¬ p = b := by
  obtain ⟨g, r, h1, _⟩ := h
  exact fun e => by rw [e, h1] at hp; cases hp
theorem BoxAt.put {H : Hp} {b p : Addr} {o : HO} (h : BoxAt H b) (n : ¬ p = b) : BoxAt (upd H p o) b := by
  obtain ⟨g, r, h1, h2⟩ := h
  exact ⟨g, r, by rw [upd_ne (fun e => n e.symm)]; exact h1, h2⟩
end GT
namespace GT
open PySem PySem.Spec PyProof.Rows L2
section
variable {X : Cx} {σ : L2.St} {H : Hp} {N : List Str} {L Lc : List (Str × KN)} {k : Nat} {pos p0 p1 p2 : Pos} {Q : VK}
/-- s.index(sign), the sign there -/
theorem re_sindex {o e : Expr} {apos : Pos} (hc : X.calm = true) (q : RE X o σ H fun x H1 => ∃ a, x = .str a ∧ RE X e σ H1 fun y H2 => ∃ b k, y = .str b ∧ Txt.index0 a b = some k ∧ Q (.int (k : Nat)) H2)
    (hbase : attributeBase o "index" X.env (eval o X.env) = eval o X.env := by with_unfolding_all rfl)
    (hfew : ((backTo pos (starEach [e] X.env)).all (fun x => !x.1) && (backToKw pos (keywordEach [] X.env)).all (fun x => x.1.isSome) && decide (([e] : List Expr).length + ([] : List Keyword).length + (if ([] : List Keyword).isEmpty then 0 else 1) < 30)) = true := by with_unfolding_all rfl)
    (hline : (apos.endLine == pos.line) = true := by with_unfolding_all rfl) (hs : starEach [e] X.env = (false, eval e X.env) :: starEach [] X.env := by with_unfolding_all rfl) (hplain : (backTo pos (starEach [] X.env)).any (·.1) = false := by with_unfolding_all rfl) :
    RE X (.Call (.Attribute o "index" apos) [e] [] pos) σ H Q := by
  refine re_of (pe_bmS PySem.F.plainAttrs_str PySem.F.slot_str_index PySem.F.type_str_index (mt_indexX hc (W := fun _ _ _ _ => False) L2.takes0) PE.self PA.self hbase hfew hline hs hplain) ?_
  refine pe_mono q fun x H1 ⟨a, e1, q1⟩ => ?_
  subst e1
  refine ⟨rfl, ra_cons (pe_mono q1 fun y H2 ⟨b, k, e2, h2, q2⟩ => ra_nil ⟨a, b, rfl, by rw [e2], fun k' hk => ?_, fun hn => ?_⟩) hs⟩
  · rw [h2] at hk
    cases hk
    exact q2
  · rw [h2] at hn
    cases hn
end
/-! ### texts of small letters -/
def Low (z : Str) : Prop := ∀ c ∈ z.cps.toList, 97 ≤ c ∧ c ≤ 122
/-- a label -/
def Lab (z : Str) : Prop := 1 ≤ z.length ∧ z.length ≤ 8 ∧ Low z
def slt (a b : Str) : Bool := decide (a.cps.toList < b.cps.toList)
theorem lt_at {a b : List Nat} : ∀ {i x y : Nat}, (∀ j, j < i → a[j]? = b[j]?) → a[i]? = some x → b[i]? = some y → x ≠ y → (a < b ↔ x < y) := by
  induction a generalizing b with
  | nil => intro i x y _ h; simp at h
  | cons u a ih =>
    intro i x y h1 h2 h3 h4
    cases b with
    | nil => simp at h3
    | cons v b =>
      cases i with
      | zero =>
        simp at h2 h3
        subst h2 h3
        rw [List.cons_lt_cons_iff]
        constructor
        · rintro (h | ⟨h, _⟩)
          · exact h
          · exact absurd h h4
        · exact Or.inl
      | succ i =>
        have e : u = v := by simpa using h1 0 (by omega)
        subst e
        rw [List.cons_lt_cons_iff]
        have := ih (b := b) (i := i) (x := x) (y := y) (fun j hj => by simpa using h1 (j + 1) (by omega)) (by simpa using h2) (by simpa using h3) h4
        rw [this]
        constructor
        · rintro (h | ⟨_, h⟩)
          · omega
          · exact h
        · exact fun h => Or.inr ⟨rfl, h⟩
theorem lt_len {a b : List Nat} : (∀ j, j < min a.length b.length → a[j]? = b[j]?) → (a < b ↔ a.length < b.length) := by
  induction a generalizing b with
  | nil =>
    intro _
    cases b with
    | nil => simp
    | cons v b => simp
  | cons u a ih =>
    intro h
    cases b with
    | nil => simp
    | cons v b =>
      have e : u = v := by simpa using h 0 (by simp)
      subst e
      rw [List.cons_lt_cons_iff, ih (b := b) (fun j hj => by simpa using h (j + 1) (by simp; omega))]
      simp
theorem abc_at : ∀ c : Nat, 97 ≤ c → c ≤ 122 → Txt.index0 "abcdefghijklmnopqrstuvwxyz" ⟨#[c]⟩ = some (c - 97) := by
  have h : ∀ i : Fin 26, Txt.index0 "abcdefghijklmnopqrstuvwxyz" ⟨#[97 + i.val]⟩ = some i.val := by decide +kernel
  intro c h1 h2
  have := h ⟨c - 97, by omega⟩
  have e : 97 + (c - 97) = c := by omega
  simpa [e] using this
end GT
namespace GT
open PySem PySem.Spec PyProof.Rows L2
theorem Put.slot {N : List Str} {σ σ' : L2.St} {x : Str} {v : V} (h : Put N σ x v σ') : Slot N σ' x v := by
  induction h with
  | here => exact .here
  | there _ ih => exact .there ih
section
variable {X : Cx} {σ : L2.St} {H1 : Hp} {N : List Str} {L Lc : List (Str × KN)} {k : Nat} {pe : Pos} {Q : VK} {scope : Scope} {x : Str} {t : Expr} {a : Addr} {xs : List V}
theorem filter_succ {α : Type} {f : α → Bool} {l : List α} {i : Nat} {y : α} (h : l[i]? = some y) : (l.take (i + 1)).filter f = (l.take i).filter f ++ (if f y = true then [y] else []) := by
  rw [List.take_succ, h, List.filter_append]
  simp [List.filter]
  split <;> simp_all
/-- [x for x in xs if t]: t tells f of the item and changes nothing -/
theorem cturns_filter {f : V → Bool} (hl : xs.length < sizeLine) (hq : SqL X.K H1 a xs) (hx : (x, KN.loc) ∈ Lc) {σf : V → L2.St} (hp : ∀ y, Put N σ x y (σf y))
    (ht : ∀ (y : V) (H' : Hp), y ∈ xs → Fr NoB H1 H' → ∀ (s : Shared) (Hb : Hp) (C : Addr) (cl : List (Str × Addr)) (fp : List Addr), Ctx (X.blk s Hb scope (compEnvC scope cl C X.env) fp) N Lc k →
      RT (X.blk s Hb scope (compEnvC scope cl C X.env) fp) t (σf y) H' fun b H'' => b = f y ∧ Fr NoB H' H'')
    (q : ∀ (Dn : Addr) (H' : Hp), H1 Dn = none → Fr NoB H1 H' → H' Dn = some (.lst (xs.filter f)) → Q (.ref Dn) H') :
    CTurns X N Lc k scope x (.Name x pe) [t] (fun H => SqL X.K H a xs) xs.length (fun i y => xs[i]? = some y) σ H1 Q := by
  intro Dn hD
  refine ⟨fun i H' => H' Dn = some (.lst ((xs.take i).filter f)) ∧ Fr NoB H1 H', ⟨upd_same, Fr.new hD⟩, fun i H _ h => h.2.seqL (fun z => z) hq, ?_, ?_⟩
  · rintro i y H' hi hy ⟨h1, h2⟩
    refine ⟨σf y, hp y, fun s Hb C cl fp cb => rts_one (rt_mono (ht y H' (List.mem_of_getElem? hy) h2 s Hb C cl fp cb) ?_)⟩
    rintro b H'' ⟨e, f2⟩
    have e2 := f2 Dn _ (fun z => z) h1
    cases hb : f y with
    | false =>
      rw [e, hb]
      refine iteF ⟨?_, h2.trans f2⟩
      rw [filter_succ hy, hb, e2]
      simp
    | true =>
      rw [e, hb]
      refine iteT fun s Hb C cl fp cb => re_name cb (hp y).slot hx .loc ?_
      have hlen : ((xs.take i).filter f).length < sizeLine := Nat.lt_of_le_of_lt (Nat.le_trans (List.length_filter_le _ _) (by rw [List.length_take]; omega)) hl
      refine ⟨_, e2, hlen, ?_, (h2.trans f2).put hD⟩
      rw [upd_same, filter_succ hy, hb]
      rfl
  · rintro H' ⟨h1, h2⟩
    rw [List.take_length] at h1
    exact q Dn H' hD h2 h1
end
end GT
namespace GT
open PySem PySem.Spec PyProof.Rows L2
section
variable {X : Cx} {σ : L2.St} {H : Hp} {N : List Str} {L Lc : List (Str × KN)} {k : Nat} {pos p0 p1 p2 p3 : Pos} {Q : VK} {D : Ends}
/-! ### an own exception class with one field that its __init__ lays -/
theorem rs_ost {o e : Expr} {f : Str} {p' : Pos} (q : RE X e σ H fun y H1 => RE X o σ H1 fun x H2 => ∃ a C : Addr, x = .ref a ∧ OexC X.K C ∧ PySem.W.findIn X.K (.ref C) f = some none ∧ H2 a = some (exo a C none) ∧ ∀ dx, H2 dx = none → dx ≠ a → D.nx σ (upd (upd H2 dx (exd dx [(f, y)])) a (exo a C (some dx))))
    (hs : swapsWith e (some (.Attribute o f p')) pos.line X.env = pure false := by with_unfolding_all rfl) : RS X (.Assign [.Attribute o f p'] e pos) D σ H :=
  rs_of (ps_ost PE.self PE.self hs) (pe_mono q fun y H1 q1 => pe_mono q1 fun x H2 ⟨a, C, e1, T, n, h, q2⟩ => ⟨a, C, e1, T, n, .inl ⟨h, q2⟩⟩)
/-- the promise of such an __init__ -/
def spIni (K : PySem.W.Frag) (fl : Str) : Sp := fun vs H Q _ => ∃ (a C : Addr) (v : V), vs = [.ref a, v] ∧ OexC K C ∧ PySem.W.findIn K (.ref C) fl = some none ∧ H a = some (exo a C none) ∧
  ∀ dx, H dx = none → dx ≠ a → Q .non (upd (upd H dx (exd dx [(fl, v)])) a (exo a C (some dx)))
structure ErrC (P : Program) (w : World) (K : PySem.W.Frag) (mg : Str → Option Value) (base : Heap) (nm fl : Str) (C : Addr) : Prop where
  oex : OexC K C
  gC : mg nm = some (.ref C)
  no : PySem.W.findIn K (.ref C) fl = some none
  xf : XfC K C
  ini : ∃ (fI : Addr) (fd : FuncData) (ps : List Str), PySem.W.findIn K (.ref C) "__init__" = some (some (.ref fI)) ∧ PySem.W.typeIn K (.ref fI) = some (.type "function") ∧ FnOk P w K mg base CX0 1 fI fd ps (spIni K fl) ∧ Binds K fd ps []
/-- raise C(e) -/
theorem rs_raise (c : Ctx X N L k) {nm fl : Str} {C : Addr} (EC : ErrC X.prog X.w X.K X.mg X.base nm fl C) (hk : 2 ≤ k) (hg : (nm, KN.glob) ∈ L) {W : WX} (tk : Takes X W) {e : Expr}
    (q : RE X e σ H fun v H1 => ∀ d, H1 d = none → W (.ref C) (some d) σ (upd H1 d (.xd [(fl, v)])))
    (he : starEach (e :: []) X.env = (false, eval e X.env) :: starEach [] X.env := by with_unfolding_all rfl) (hpl : (backTo p1 (starEach [] X.env)).any (·.1) = false := by with_unfolding_all rfl) :
    RS X (.Raise (some (.Call (.Name nm p0) [e] [] p1)) none pos) D σ H := by
  obtain ⟨fI, fd, ps, iC, tI, F1, hb⟩ := EC.ini
  refine rs_of (ps_raise c.calm tk (pmk_oex EC.oex iC tI F1 (c.room.mono hk) hb .nil pass0 (c.gl hg) EC.gC PA.self (c.d1 hg) he hpl)) ?_
  refine ra_cons (pe_mono q fun v H1 q1 => ra_nil ⟨by show 1 ≤ 1000; decide, fun a ha => ⟨a, C, v, rfl, EC.oex, EC.no, upd_same, fun d hd hda => ?_⟩⟩) he
  have hd1 : H1 d = none := by rwa [upd_ne hda] at hd
  refine ⟨rfl, d, [(fl, v)], upd_same, ?_, hd1, ?_⟩
  · rw [upd_ne hda, upd_same]
  · have e1 : upd (del (upd (upd (upd H1 a (exo a C none)) d (exd d [(fl, v)])) a (exo a C (some d))) a) d (.xd [(fl, v)]) = upd H1 d (.xd [(fl, v)]) := by
      funext b
      by_cases hb1 : b = d
      · subst hb1
        rw [upd_same, upd_same]
      · rw [upd_ne hb1, upd_ne hb1]
        by_cases hb2 : b = a
        · subst hb2
          rw [del_same, ha]
        · rw [del_ne hb2, upd_ne hb2, upd_ne hb1, upd_ne hb2]
    rw [e1]
    exact q1 d hd1
/-! ### within an except suite -/
structure CtxS (X : Cx) (N : List Str) (L : List (Str × KN)) : Prop where
  n : X.N = N
  nd : N.Nodup
  look : ∀ p ∈ L, KnIs X p.1 p.2
  dbg : ∀ p ∈ L, okName p.1 = true
theorem CtxS.gl (c : CtxS X N L) {x : Str} (h : (x, KN.glob) ∈ L) : Gl X x := c.look _ h
theorem re_nameS (c : CtxS X N L) {x : Str} {v : V} {j : KN} (s : Slot N σ x v) (h : (x, j) ∈ L) (m : Mine j) (q : Q v H) : RE X (.Name x pos) σ H Q := by
  obtain ⟨i, h1, h2⟩ := s.ix
  rw [← c.n] at h1
  obtain ⟨d1, d2, _⟩ := okName_of (c.dbg _ h)
  refine re_of (pe_var h1 ?_ d1 d2) ⟨_, h2, q⟩
  have e := c.look _ h
  cases m with
  | loc => exact Or.inl e
  | cell => exact Or.inr (Or.inl e.1)
  | cap => exact Or.inr e
theorem re_globS (c : CtxS X N L) {x : Str} {v : V} {u : Value} (h : (x, KN.glob) ∈ L) (hm : X.mg x = some u) (r : RelV v u) (q : Q v H) : RE X (.Name x pos) σ H Q := re_of (pe_glob (c.gl h) hm r (okName_of (c.dbg _ h)).1) q
theorem re_bltnS (c : CtxS X N L) {x : Str} {v : V} {u : Value} (h : (x, KN.glob) ∈ L) (hm : X.mg x = none) (hv : bootBuiltins x = some u) (r : RelV v u) (q : Q v H) : RE X (.Name x pos) σ H Q :=
  re_of (pe_bltn (c.gl h) hm hv r (okName_of (c.dbg _ h)).2.2 (okName_of (c.dbg _ h)).1) q
theorem rs_setS (c : CtxS X N L) {x : Str} {e : Expr} {pos' : Pos} (h : (x, KN.loc) ∈ L) (hx : x ∈ N) (q : RE X e σ H fun v H1 => ∃ σ', Put N σ x v σ' ∧ D.nx σ' H1) (hs : swapsWith e (some (.Name x pos')) pos.line X.env = pure false := by with_unfolding_all rfl) : RS X (.Assign [.Name x pos'] e pos) D σ H := by
  obtain ⟨i, h1⟩ := List.mem_iff_getElem?.mp hx
  have e1 := c.look _ h
  refine rs_of (ps_set (i := i) (by rw [c.n]; exact c.nd) (by rw [c.n]; exact h1) (Or.inl e1) PE.self hs (Or.inr e1)) (pe_mono q fun v H1 ⟨σ', hp, q1⟩ => ?_)
  obtain ⟨i', h2, h3⟩ := hp.ix
  have : i' = i := (List.getElem?_inj (by rcases Nat.lt_or_ge i' N.length with z | z; exact z; rw [List.getElem?_eq_none z] at h2; cases h2) c.nd).mp (h2.trans h1.symm)
  subst this
  subst h3
  exact q1
/-- what the class D says, so that isinstance asks its instances rightly -/
structure KitC (K : PySem.W.Frag) (D : Addr) : Prop where
  cl : (PySem.W.clsIn K D).isSome = true
  ga : PySem.W.findIn K (.ref D) "__getattribute__" = some (some (.builtin "BaseException.__getattribute__"))
  gg : PySem.W.findIn K (.ref D) "__getattr__" = some none
  sb : PySem.W.subIn K (.ref D) (.type "BaseException") = some true
  ca : PySem.W.findIn K (.ref D) "__class__" = some (some (.builtin "object.__class__"))
  gt : PySem.W.specialIn K (.builtin "object.__class__") "__get__" = some (some (.builtin "getset_descriptor.__get__"))
  tk : PySem.W.takesIn K (.builtin "object.__class__") = some true
  mo : PySem.W.mroIn K D (.type "object") = some true
/-- isinstance(e, c) and isinstance(e, (c, ..)), e the exception that the suite holds, with a dict -/
def rIsX (K : PySem.W.Frag) (D a dd : Addr) : List V → Hp → VK → Prop := fun xs H Q => ∃ (c : V) (b : Bool), xs = [.ref a, c] ∧ (∃ fs, H dd = some (.xd fs)) ∧ Q (.bl b) H ∧
  ((∃ u, ClsV c u ∧ PySem.W.kitOne K (.ref D) u = some b) ∨ ∃ (tp : Addr) (cs : List V) (us : List Value), c = .ref tp ∧ H tp = some (.tup cs) ∧ Paired ClsV cs us ∧ PySem.W.kitAny K (.ref D) us = some b)
theorem call_isX {a D dd : Addr} {oe : Obj} {pn : List (Addr × Obj)} (C : KitC X.K D) (hz : Zc (.ref D) (some dd) oe) (hf : ∃ vs, oe.data = .fields vs) : CallR (X.suite a ((a, oe) :: pn)) (.builtin "isinstance") (rIsX X.K D a dd) := by
  intro pins s σ H xs us Q I r h
  obtain ⟨c, b, rfl, ⟨fs, hd⟩, q, h⟩ := h
  cases r with
  | cons rx rr =>
    cases rr with
    | cons rt rr =>
      cases rr
      cases rx
      obtain ⟨hget, _⟩ := I.pin (a, oe) (List.mem_append.mpr (.inl List.mem_cons_self))
      obtain ⟨vs, hv⟩ := hf
      obtain ⟨mA, hns, hr⟩ := (show ObjOk X.prog X.w H s.heap dd (.xd fs) from I.hok dd _ hd)
      obtain ⟨od, ho, hl⟩ := lookIn_ns hns
      have J : PySem.W.InstAt s.heap a oe D (some od) := ⟨hget, hz.1, by unfold PySem.W.notCls; rw [hv] <;> rfl, by rw [hz.2]; exact ho⟩
      have Z := PySem.W.kitx_exc (x := a) (ox := oe) (od := some od) C.cl C.ga C.gg C.sb C.ca C.gt C.tk C.mo
      rcases h with ⟨u, k, e⟩ | ⟨tp, cs, ws, rfl, hT, k, e⟩
      · have e2 := k.eq rt
        subst e2
        exact PySem.W.kia_one Z I.kIn J e (fun z => nomatch z) fun tk => ⟨.bl b, H, I.kept (t' := tk) fun _ _ z => z, rfl, q⟩
      · cases rt
        obtain ⟨_, its, rv, o, h1, h2, n, h3⟩ := (show ObjOk X.prog X.w H s.heap tp (.tup cs) from I.hok tp _ hT)
        have e3 := ClsV.all k rv
        subst e3
        obtain ⟨oc, od', dt, sl⟩ := o
        simp only at h2 h3
        subst h2 h3
        exact PySem.W.kia_tup Z I.kIn J h1 e (fun z => nomatch z) fun tk => ⟨.bl b, H, I.kept (t' := tk) fun _ _ z => z, rfl, q⟩
theorem re_isX (c : CtxS X N L) {e : Expr} {es : List Expr} (h : (("isinstance" : Str), KN.glob) ∈ L) (hm : X.mg "isinstance" = none) (q : RA X (e :: es) σ H fun vs H1 => ClV X (.builtin "isinstance") vs H1 Q)
    (he : starEach (e :: es) X.env = (false, eval e X.env) :: starEach es X.env := by with_unfolding_all rfl) (hpl : (backTo pos (starEach es X.env)).any (·.1) = false := by with_unfolding_all rfl) : RE X (.Call (.Name "isinstance" p0) (e :: es) [] pos) σ H Q :=
  re_of (pe_callB ClR.self (c.gl h) hm (by decide +kernel) PA.self (okName_of (c.dbg _ h)).2.2 (okName_of (c.dbg _ h)).1 he hpl) q
theorem lv_isX {a D dd : Addr} {oe : Obj} {pn : List (Addr × Obj)} {fs : List (Str × V)} {y : V} {u : Value} {b : Bool} (C : KitC X.K D) (hz : Zc (.ref D) (some dd) oe) (hf : ∃ vs, oe.data = .fields vs) (hd : H dd = some (.xd fs)) (k : ClsV y u) (e : PySem.W.kitOne X.K (.ref D) u = some b) (q : Q (.bl b) H) :
    ClV (X.suite a ((a, oe) :: pn)) (.builtin "isinstance") [.ref a, y] H Q := ⟨⟨_, call_isX C hz hf, y, b, rfl, ⟨_, hd⟩, q, .inl ⟨u, k, e⟩⟩⟩
theorem lv_isXT {a D dd tp : Addr} {oe : Obj} {pn : List (Addr × Obj)} {fs : List (Str × V)} {cs : List V} {us : List Value} {b : Bool} (C : KitC X.K D) (hz : Zc (.ref D) (some dd) oe) (hf : ∃ vs, oe.data = .fields vs) (hd : H dd = some (.xd fs)) (hT : H tp = some (.tup cs)) (k : Paired ClsV cs us)
    (e : PySem.W.kitAny X.K (.ref D) us = some b) (q : Q (.bl b) H) : ClV (X.suite a ((a, oe) :: pn)) (.builtin "isinstance") [.ref a, .ref tp] H Q := ⟨⟨_, call_isX C hz hf, .ref tp, b, rfl, ⟨_, hd⟩, q, .inr ⟨tp, cs, us, rfl, hT, k, e⟩⟩⟩
/-- fault.f -/
theorem re_field {a C dd : Addr} {oe : Obj} {pn : List (Addr × Obj)} {e : Expr} {f : Str} {fs : List (Str × V)} {v : V} (T : XfC X.K C) (hno : PySem.W.findIn X.K (.ref C) f = some none) (hz : Zc (.ref C) (some dd) oe) (hf : ∃ vs, oe.data = .fields vs)
    (q : RE (X.suite a ((a, oe) :: pn)) e σ H fun x H1 => x = .ref a ∧ H1 dd = some (.xd fs) ∧ fs.lookup f = some v ∧ Q v H1) (hb : attributeBase e f X.env (eval e X.env) = eval e X.env := by with_unfolding_all rfl) :
    RE (X.suite a ((a, oe) :: pn)) (.Attribute e f pos) σ H Q := re_of (pe_xf T hno hz hf PE.self hb) (pe_mono q fun x H1 ⟨e1, h, l, q1⟩ => ⟨e1, rfl, dd, fs, v, rfl, h, l, q1⟩)
theorem Ctx.tr (c : Ctx X N L k) (pn : List (Addr × Obj)) (xe : Value → Shared → Prop) (po : PassesOwn (model X.prog X.w) X.A X.env xe) : Ctx (X.tr pn xe) N L k := ⟨c.n, c.nd, c.look, c.dbg, c.calm, c.room, po, c.kind⟩
theorem Ctx.suite (c : Ctx X N L k) (a : Addr) (pn : List (Addr × Obj)) : CtxS (X.suite a pn) N L := ⟨c.n, c.nd, c.look, c.dbg⟩
/-- try: body, except x as n: suite (that ends by return) -/
theorem rs_try_as (c : CtxS X N L) (hs : X.stack = X.env :: X.outer) (hf : X.env.frame = some X.env.locals) {x n : Str} {c0 : Value} {b₀ : Stmt} {body suite : List Stmt} {np pos' : Pos} (hn : (n, KN.loc) ∈ L) (mn : n ∈ N) (hc : Names X x c0)
    (q : ∀ (pn : List (Addr × Obj)) (xe : Value → Shared → Prop) (W : WX), Takes (X.tr pn xe) W → PassesOwn (model X.prog X.w) X.A X.env xe →
      (∀ (cls : Value) (d : Option Addr) (σ' : L2.St) (H' : Hp), PySem.W.exmOne X.K cls c0 = some true →
        (∀ (a : Addr) (oe : Obj) (pn2 : List (Addr × Obj)) (nx bk ct : L2.St → Hp → Prop) (σa : L2.St), H' a = none → (∀ i : Nat, N[i]? = some n → σa = σ'.set i (some (.ref a))) → σ'.length = N.length → Zc cls d oe → (∃ vs, oe.data = .fields vs) → CtxS (X.suite a ((a, oe) :: pn2)) N L →
          RB (X.suite a ((a, oe) :: pn2)) (b₀ :: suite) { nx := nx, rt := D.rt, bk := bk, ct := ct } σa H') → W cls d σ' H') →
      RB (X.tr pn xe) body D σ H) :
    RS X (.Try body [.ExceptHandler (some (.Name x np)) (some n) (b₀ :: suite) pos'] [] [] pos) D σ H := by
  obtain ⟨i, h1⟩ := List.mem_iff_getElem?.mp mn
  refine rs_of (ps_try_as (i := i) (c := c0) (Wout := fun _ _ _ _ => False) (tb := fun W D σ H => ∀ (pn : List (Addr × Obj)) (xe : Value → Shared → Prop), Takes (X.tr pn xe) W → PassesOwn (model X.prog X.w) X.A X.env xe → RB (X.tr pn xe) body D σ H)
    (ts := fun a cls d D σ H => ∀ (oe : Obj) (pn2 : List (Addr × Obj)), σ.length = N.length → Zc cls d oe → (∃ vs, oe.data = .fields vs) → RB (X.suite a ((a, oe) :: pn2)) (b₀ :: suite) D σ H)
    hs hf (by rw [c.n]; exact c.nd) (by rw [c.n]; exact h1) (c.look _ hn) hc takes0 (fun W pn xe tk po => ?_) (fun a oe cls d pn hz hd => ?_)) ?_
  · exact ⟨fun pins s σ H D I h => PSs.self.run pins s σ H D I (h pn xe tk po)⟩
  · exact ⟨fun pins s σ H D I h => PSs.self.run pins s σ H D I (h oe pn (by rw [I.len, ← c.n]) hz hd)⟩
  · intro pn xe tk po
    refine q pn xe _ tk po fun cls d σ' H' e r => ⟨true, e, fun _ a ha => ?_, fun z => nomatch z⟩
    exact fun oe pn2 hl hz hd => r a oe pn2 _ _ _ _ ha (fun j hj => by rw [nodup_ix c.nd hj h1]) (by simpa using hl) hz hd ⟨c.n, c.nd, c.look, c.dbg⟩
/-- x = y = e -/
theorem rs_set2 (c : Ctx X N L k) {x y : Str} {e : Expr} {j j' : KN} (h : (x, j) ∈ L) (m : Own j) (hx : x ∈ N) (h' : (y, j') ∈ L) (m' : Own j') (hy : y ∈ N) (q : RE X e σ H fun v H1 => ∃ σ' σ'', Put N σ x v σ' ∧ Put N σ' y v σ'' ∧ D.nx σ'' H1)
    (hs : swapsWithSole [.Name x p0, .Name y p1] e pos.line X.env = pure false := by with_unfolding_all rfl) (hw : swappedStores [.Name x p0, .Name y p1] e X.env = pure none := by with_unfolding_all rfl)
    (h1 : (assignEach [.Name x p0, .Name y p1] X.env).map (·.2) = [assign (.Name x p0) X.env, assign (.Name y p1) X.env] := by with_unfolding_all rfl) : RS X (.Assign [.Name x p0, .Name y p1] e pos) D σ H := by
  obtain ⟨i, g, h2⟩ := c.pg (p0 := p0) h m hx
  obtain ⟨i', g', h2'⟩ := c.pg (p0 := p1) h' m' hy
  refine rs_of (t := fun D σ H => RE X e σ H fun v H1 => ∃ σ' σ'', Put N σ x v σ' ∧ Put N σ' y v σ'' ∧ D.nx σ'' H1) ⟨fun pins s σ H D I h => ?_⟩ q
  refine wpAny_Assign_two (thn (PE.self.run pins s σ H _ I h) fun v s1 ⟨z, H1, I1, r1, σ', σ'', a1, a2, q1⟩ => ?_)
  rw [h2 a1] at a2
  rw [h2' a2] at q1
  exact thn (g.run pins s1 σ H1 z v (fun σ2 H2 => σ2 = σ.set i (some z) ∧ H2 = H1) I1 r1 ⟨rfl, rfl⟩) fun _ s2 ⟨σ2, H2, I2, e1, e2⟩ => by
    subst e1 e2
    exact thn (g'.run pins s2 _ _ z v (fun σ2 H2 => D.nx σ2 H2) I2 r1 q1) fun _ s3 q => q
end
end GT
namespace GT
open PySem PySem.Spec PyProof.Rows L2
section
variable {X : Cx} {σ : L2.St} {H : Hp} {N : List Str} {L Lc : List (Str × KN)} {k : Nat} {pos p0 p1 p2 p3 : Pos} {Q : VK} {D : Ends} {x y : V} {p : Addr} {xs : List V} {b : Bool}
/-- for x, y in l, l a list of pairs -/
theorem rs_for_list2 (c : Ctx X N L k) {x y : Str} {l : Expr} {body : List Stmt} {j j' : KN} {kt : Nat} {q0 q1 q2 : Pos} (h : (x, j) ∈ L) (m : Own j) (hx : x ∈ N) (h' : (y, j') ∈ L) (m' : Own j') (hy : y ∈ N)
    (q : RE X l σ H fun v H1 => ∃ a xs, v = .ref a ∧ SqL X.K H1 a xs ∧ ∃ Pv : Nat → L2.St → Hp → Prop, Pv 0 σ H1 ∧ (∀ i σ H, Pv i σ H → SqL X.K H a xs) ∧
      (∀ i w σ H, xs[i]? = some w → Pv i σ H → ∃ t u v, w = .ref t ∧ SqT X.K H t [u, v] ∧ ∃ σ' σ'', Put N σ x u σ' ∧ Put N σ' y v σ'' ∧ RB X body { D with nx := Pv (i + 1), ct := Pv (i + 1), bk := D.nx } σ'' H) ∧ (∀ σ H, Pv xs.length σ H → D.nx σ H))
    (hs : ∀ x, foldedSetIterable l X.env x = pure x := by intro _; with_unfolding_all rfl)
    (hn : (assignEach [.Name x q0, .Name y q1] X.env).length = 2 := by with_unfolding_all rfl) (hst : (assignEach [.Name x q0, .Name y q1] X.env).findIdx? (·.1) = none := by with_unfolding_all rfl)
    (ha : (assignEach [.Name x q0, .Name y q1] X.env).map (·.2) = assign (.Name x q0) X.env :: (assignEach [.Name y q1] X.env).map (·.2) := by with_unfolding_all rfl) (hb : (assignEach [.Name y q1] X.env).map (·.2) = assign (.Name y q1) X.env :: (assignEach [] X.env).map (·.2) := by with_unfolding_all rfl) :
    RS X (.For (.Tuple [.Name x q0, .Name y q1] kt q2) l body [] pos) D σ H := by
  obtain ⟨i, g, h2⟩ := c.pg (p0 := q0) h m hx
  obtain ⟨i', g', h2'⟩ := c.pg (p0 := q1) h' m' hy
  refine rs_of (ps_for c.po c.calm (pi_list PE.self) (pg_tup (n := 2) c.calm (pgs_cons g (pgs_cons g' pgs_nil hb) ha) hn hst) PSs.self hs) (pe_mono q fun v H1 ⟨a, xs, e, hq, Pv, p1, p2, p3, p4⟩ => ⟨a, e, ⟨xs, hq⟩, ?_⟩)
  refine for_list (K := X.K) (a := a) (xs := xs) Pv p1 (fun i σ H _ p => p2 i σ H p) (fun i w σ H e p => ?_) p4
  obtain ⟨t, u, v, rfl, hT, σ', σ'', a1, a2, r⟩ := p3 i w σ H e p
  rw [h2' a2, h2 a1] at r
  exact ⟨t, _, rfl, hT, rfl, _, _, rfl, _, _, rfl, rfl, r⟩
/-- x is True, x is False; x no reference -/
theorem op_isB : OpR X (compareOp .Is) (fun x y H Q => ∃ b, y = .bl b ∧ (x = .non ∨ (∃ c, x = .bl c) ∨ (∃ i, x = .int i) ∨ (∃ z, x = .str z)) ∧ Q (.bl (decide (x = .bl b))) H) := by
  intro pins s σ H x y v u Q I rx ry h
  obtain ⟨b, rfl, hx, q⟩ := h
  cases ry
  have g : ∀ r, r = decide (x = .bl b) → (L2.EP X pins σ Q (.bool r) s) := fun r e => fin_bl I q e.symm
  rcases hx with rfl | ⟨c, rfl⟩ | ⟨i, rfl⟩ | ⟨z, rfl⟩
  · cases rx
    exact wpAny_pure (g _ rfl)
  · cases rx
    refine wpAny_pure (g _ ?_)
    cases b <;> cases c <;> rfl
  · obtain ⟨t, rfl⟩ := rx
    exact wpAny_pure (g _ rfl)
  · obtain ⟨t, rfl⟩ := rx
    exact wpAny_pure (g _ rfl)
theorem cv_isB_b {c : Bool} (q : Q (.bl (decide (c = b))) H) : CpV X .Is (.bl c) (.bl b) H Q := ⟨⟨_, op_isB, b, rfl, .inr (.inl ⟨c, rfl⟩), by
  have e : decide (V.bl c = V.bl b) = decide (c = b) := by simp
  rw [e]
  exact q⟩⟩
theorem cv_isB_i {i : Int} (q : Q (.bl false) H) : CpV X .Is (.int i) (.bl b) H Q := ⟨⟨_, op_isB, b, rfl, .inr (.inr (.inl ⟨i, rfl⟩)), by rw [decide_eq_false (fun e => nomatch e)]; exact q⟩⟩
theorem cv_isB_s {z : Str} (q : Q (.bl false) H) : CpV X .Is (.str z) (.bl b) H Q := ⟨⟨_, op_isB, b, rfl, .inr (.inr (.inr ⟨z, rfl⟩)), by rw [decide_eq_false (fun e => nomatch e)]; exact q⟩⟩
theorem cv_isB_n (q : Q (.bl false) H) : CpV X .Is .non (.bl b) H Q := ⟨⟨_, op_isB, b, rfl, .inl rfl, by rw [decide_eq_false (fun e => nomatch e)]; exact q⟩⟩
/-- isinstance(x, T), T a built-in type -/
theorem lv_isT {t T : String} (ty : TyX X.K H x (.type t)) (e : kitB t T = some b) (q : Q (.bl b) H) : ClV X (.builtin "isinstance") [x, .ty T] H Q := lv_isi (.ty T) ty (kit_ty e) q
theorem lv_isT_n {T : String} (e : kitB "NoneType" T = some b) (q : Q (.bl b) H) : ClV X (.builtin "isinstance") [.non, .ty T] H Q := lv_isT (.base .non) e q
theorem lv_isT_b {T : String} {c : Bool} (e : kitB "bool" T = some b) (q : Q (.bl b) H) : ClV X (.builtin "isinstance") [.bl c, .ty T] H Q := lv_isT (.base (.bl c)) e q
theorem lv_isT_i {T : String} {i : Int} (e : kitB "int" T = some b) (q : Q (.bl b) H) : ClV X (.builtin "isinstance") [.int i, .ty T] H Q := lv_isT (.base (.int i)) e q
theorem lv_isT_s {T : String} {z : Str} (e : kitB "str" T = some b) (q : Q (.bl b) H) : ClV X (.builtin "isinstance") [.str z, .ty T] H Q := lv_isT (.base (.str z)) e q
theorem lv_isT_l {T : String} (h : H p = some (.lst xs)) (e : kitB "list" T = some b) (q : Q (.bl b) H) : ClV X (.builtin "isinstance") [.ref p, .ty T] H Q := lv_isT (.base (.lst h)) e q
theorem lv_isT_t {T : String} (h : H p = some (.tup xs)) (e : kitB "tuple" T = some b) (q : Q (.bl b) H) : ClV X (.builtin "isinstance") [.ref p, .ty T] H Q := lv_isT (.base (.tup h)) e q
theorem iteNT {A B : Prop} (h : B) : if (!true) = true then A else B := h
theorem iteNF {A B : Prop} (h : A) : if (!false) = true then A else B := h
theorem iteD {p : Prop} [Decidable p] {A B : Prop} (hp : p) (h : A) : if decide p = true then A else B := by
  rw [decide_eq_true hp]
  exact h
theorem iteDN {p : Prop} [Decidable p] {A B : Prop} (hp : ¬ p) (h : B) : if decide p = true then A else B := by
  rw [decide_eq_false hp]
  exact h
/-! ### a def that may raise, called where it doesn't -/
theorem re_callX (c : Ctx X N L k) {x : Str} {ps : List Str} {n : Nat} {sp : Sp} {e : Expr} {es : List Expr} (F : DefP X.prog X.w X.K X.mg X.base (L2.CX X.prog X.w) x ps n sp) (hn : n ≤ k) (h : (x, KN.glob) ∈ L) {E : XK} (hx : Passes (L2.CX X.prog X.w) X E) (q : RA X (e :: es) σ H fun vs H1 => sp vs H1 Q E)
    (he : starEach (e :: es) X.env = (false, eval e X.env) :: starEach es X.env := by with_unfolding_all rfl) (hpl : (backTo pos (starEach es X.env)).any (·.1) = false := by with_unfolding_all rfl) : RE X (.Call (.Name x p0) (e :: es) [] pos) σ H Q := by
  obtain ⟨f, fd, F1, m, kp, b⟩ := F.ex
  refine re_of (pe_call F1 (c.room.mono hn) (c.gl h) m kp b .nil hx PA.self (c.d1 h) he hpl) ?_
  exact ra_mono q fun vs H1 d => by rw [List.append_nil]; exact d
end
section
variable {P : Program} {w : World} {K : PySem.W.Frag} {mg : Str → Option Value} {base : Heap} {x : Str} {st : Stmt} {N ps : List Str} {L : List (Str × KN)} {k : Nat} {sp : Sp} {f : Addr} {fd : FuncData}
/-- a def that may raise keeps its promise -/
theorem defPX_of (F : FnP K x st f fd) (gx : mg x = some (.ref f)) (M : Nms st N ps L) (hb : Binds K fd ps []) (len : ∀ vs H Q E, sp vs H Q E → vs.length = ps.length)
    (body : ∀ (X : Cx), Ctx X N L k → At5 X P w K mg base → ∀ (vs : List V) (H : Hp) (Q : VK) (E : XK), Takes X (fun cls d _ H' => E cls d H') → sp vs H Q E → RB X (defBody st) { nx := fun _ H' => Q .non H', rt := Q } (start N vs) H) : DefP P w K mg base (L2.CX P w) x ps (k + 1) sp := by
  refine ⟨f, fd, F.ok M.S len (fun cdv A outer s H vs Q E hr h => ?_), gx, F.kp, hb⟩
  have c : Ctx (cxOf (L2.CX P w) P w K mg base N x (defScope st) f cdv A outer s H E) N L k := ⟨rfl, M.S.nd, knIs_of M rfl (fun _ => rfl), M.db, rfl, hr, passes_of rfl, M.S.kind⟩
  exact (body _ c ⟨rfl, rfl, rfl, rfl, rfl⟩ vs H Q E (takes_of rfl rfl rfl rfl) h).ex
end
/-- the depth of data -/
inductive Dep : Nat → D → Prop
  | non {n : Nat} : Dep n .non
  | bl {n : Nat} {b : Bool} : Dep n (.bl b)
  | int {n : Nat} {i : Int} : Dep n (.int i)
  | str {n : Nat} {z : Str} : Dep n (.str z)
  | lst {n : Nat} {l : List D} (h : ∀ d ∈ l, Dep n d) : Dep (n + 1) (.lst l)
  | tup {n : Nat} {l : List D} (h : ∀ d ∈ l, Dep n d) : Dep (n + 1) (.tup l)
end GT
namespace GT
open PySem PySem.Spec PyProof.Rows L2
/-! ### frames that let the code tables grow -/
def Fx (B : Addr → Prop) (H H' : Hp) : Prop := ∀ a o, ¬ B a → (∀ ps, o ≠ .tbl ps) → H a = some o → H' a = some o
section
variable {B : Addr → Prop} {K : PySem.W.Frag} {H H1 H2 : Hp} {a p : Addr} {o : HO} {xs : List V}
theorem Fr.fx (f : Fr B H H1) : Fx B H H1 := fun a o n _ e => f a o n e
theorem Fx.ext (f : LamX.ExtN H H1) : Fx NoB H H1 := fun a o _ n e => f a o e n
theorem Fx.refl : Fx B H H := fun _ _ _ _ h => h
theorem Fx.trans (h : Fx B H H1) (g : Fx B H1 H2) : Fx B H H2 := fun a o n t e => g a o n t (h a o n t e)
theorem Fx.any (h : Fx NoB H H1) : Fx B H H1 := fun a o _ t e => h a o (fun z => z) t e
theorem Fx.lst (f : Fx B H H1) (n : ¬ B a) (h : H a = some (.lst xs)) : H1 a = some (.lst xs) := f _ _ n (fun _ z => by cases z) h
theorem Fx.tup (f : Fx B H H1) (n : ¬ B a) (h : H a = some (.tup xs)) : H1 a = some (.tup xs) := f _ _ n (fun _ z => by cases z) h
theorem Fx.xd {fs : List (Str × V)} (f : Fx B H H1) (n : ¬ B a) (h : H a = some (.xd fs)) : H1 a = some (.xd fs) := f _ _ n (fun _ z => by cases z) h
theorem Fx.seqL (f : Fx B H H1) (n : ¬ B a) (h : SqL K H a xs) : SqL K H1 a xs := by
  rcases h with (h | ⟨o, h⟩) | h
  · exact .inl (.inl (f _ _ n (fun _ z => by cases z) h))
  · exact .inl (.inr ⟨o, f _ _ n (fun _ z => by cases z) h⟩)
  · exact .inr h
theorem Fx.dt {v : V} {d : D} (f : Fx B H H1) (h : Dt K B H v d) : Dt K B H1 v d := by
  induction h with
  | non => exact .non
  | bl => exact .bl
  | int => exact .int
  | str => exact .str
  | lst n t l _ ih => exact .lst n (f.lst n t) l ih
  | tup n t l _ ih => exact .tup n (f.tup n t) l ih
theorem Fx.dts {vs : List V} {ds : List D} (f : Fx B H H1) (h : Dts K B H vs ds) : Dts K B H1 vs ds := ⟨h.1, fun i v d a b => f.dt (h.2 i v d a b)⟩
theorem Fx.box {b : Addr} (f : Fx NoB H H1) (h : BoxAt H b) : BoxAt H1 b := by
  obtain ⟨g, r, h1, h2⟩ := h
  exact ⟨g, r, f.lst (fun z => z) h1, h2⟩
theorem Fx.put (f : Fx B H H1) (h : H p = none) : Fx B H (upd H1 p o) := fun a u n t e => by
  rw [upd_ne (ne_of_none e h)]
  exact f a u n t e
theorem tabs_fr {T : List (Addr × Str)} (t : LamX.Tabs T H) (f : Fr NoB H H1) : LamX.Tabs T H1 := t.ext fun b o e => f b o (fun z => z) e
end
/-! ### a def of whose code one knows where it stands -/
structure FnC (K : PySem.W.Frag) (x : Str) (st : Stmt) (f cc : Addr) (fd : FuncData) : Prop where
  ex : ∃ (oc : Value) (od : Option Addr) (dV kV doc pm : Value) (an : Option Addr) (ct : Value) (osl : Array (Option Value)),
    fd = PySem.W.fnOf x x (defArgs st) (defBody st) (defScope st) dV kV doc pm an (.ref cc) ct ∧ K.lookup f = some ⟨oc, od, .func fd, osl⟩ ∧ PySem.W.codeIn K (.ref cc) x = true
  kp : PySem.W.keepIn K (.ref f) = true
section
variable {P : Program} {w : World} {K : PySem.W.Frag} {mg : Str → Option Value} {base : Heap} {x : Str} {st : Stmt} {N ps : List Str} {L : List (Str × KN)} {k : Nat} {sp : Sp} {f cc : Addr} {fd : FuncData}
theorem defPC_of (F : FnC K x st f cc fd) (gx : mg x = some (.ref f)) (M : Nms st N ps L) (hb : Binds K fd ps []) (len : ∀ vs H Q E, sp vs H Q E → vs.length = ps.length)
    (body : ∀ (X : Cx), Ctx X N L k → At5 X P w K mg base → X.env.code = .ref cc → X.env.qual = x ++ ".<locals>." → ∀ (vs : List V) (H : Hp) (Q : VK) (E : XK), sp vs H Q E → RB X (defBody st) { nx := fun _ H' => Q .non H', rt := Q } (start N vs) H) : DefP P w K mg base CX0 x ps (k + 1) sp := by
  obtain ⟨oc, od, dV, kV, doc, pm, an, ct, osl, rfl, lk, hcd⟩ := F.ex
  refine ⟨f, _, fn_of lk hcd M.S len (fun A outer s H vs Q E hr h => ?_), gx, F.kp, hb⟩
  have c : Ctx (cxOf CX0 P w K mg base N x (defScope st) f (.ref cc) A outer s H E).nox N L k := ⟨rfl, M.S.nd, knIs_of M rfl (fun _ => rfl), M.db, rfl, hr, PassesOwn.never, M.S.kind⟩
  obtain ⟨t, ht, q⟩ := (body _ c ⟨rfl, rfl, rfl, rfl, rfl⟩ rfl rfl vs H Q E h).ex
  exact ⟨t, ht.nox, q⟩
end
/-! ### a lambda handed to a def -/
/-- the lambda's own scope within a def of the names L; Ll its names -/
def lamOk (L : List (Str × KN)) (scope : Scope) (Ll : List (Str × KN)) : Bool :=
  decide (scope.kind = .function) && !scope.isCoroutine && !scope.isGenerator && (scope.names.all fun y => !decide (y.2 = .local) && !decide (y.2 = .cell) && (!decide (y.2 = .free) || (decide ((y.1, KN.cell) ∈ L) || decide ((y.1, KN.cap) ∈ L)))) &&
    (Ll.all fun p => decide (p ∈ knAll scope.names)) && decide (scope.names.map (·.1)).Nodup && (Ll.all fun p => okName p.1) && (Ll.all fun p => decide (p.2 = .cap) || decide (p.2 = .glob))
section
variable {X : Cx} {σ : L2.St} {H : Hp} {N : List Str} {L Ll : List (Str × KN)} {k : Nat} {pos p0 p1 : Pos} {Q : VK} {scope : Scope}
def LamR (X : Cx) (scope : Scope) (body : Expr) (kl : Nat) (σ : L2.St) : XK → Hp → VK → Prop := fun E H Q => ∀ (A : Around) (outer : List Env) (s : Shared) (H0 : Hp) (f c' : Addr), Room kl (A.deeper (LamX.lamEnv X scope s.heap.objs.size f c')) → RE (LamX.lamCx X A outer s H0 E scope f c') body σ H Q
theorem lamOk_of (c : Ctx X N L k) (h : lamOk L scope Ll = true) : LamX.LamS X.env.scope scope ∧ (∀ p ∈ Ll, p ∈ knAll scope.names) ∧ (scope.names.map (·.1)).Nodup ∧ (∀ p ∈ Ll, okName p.1 = true) ∧ ∀ p ∈ Ll, p.2 = .cap ∨ p.2 = .glob := by
  unfold lamOk at h
  simp only [Bool.and_eq_true, Bool.or_eq_true, Bool.not_eq_true', decide_eq_true_eq, decide_eq_false_iff_not, List.all_eq_true] at h
  obtain ⟨⟨⟨⟨⟨⟨⟨h1, h2⟩, h3⟩, h4⟩, h5⟩, h6⟩, h7⟩, h8⟩ := h
  refine ⟨⟨h1, h2, h3, fun y hy => ⟨(h4 y hy).1.1, (h4 y hy).1.2⟩, fun y hy e => ?_⟩, h5, h6, h7, h8⟩
  rcases (h4 y hy).2 with z | z | z
  · exact absurd e z
  · exact .inl (c.look _ z).1
  · exact c.look _ z
theorem LamR.intro (c : Ctx X N L k) (h : lamOk L scope Ll = true) {body : Expr} {kl : Nat} {E : XK} (q : ∀ Xl : Cx, Ctx Xl N Ll kl → At5 Xl X.prog X.w X.K X.mg X.base → Takes Xl (fun cls d _ H' => E cls d H') → RE Xl body σ H Q) : LamR X scope body kl σ E H Q := by
  obtain ⟨S, h5, h6, h7, h8⟩ := lamOk_of c h
  intro A outer s H0 f c' hr
  refine q _ ⟨c.n, c.nd, fun p hp => ?_, h7, rfl, hr, passes_of rfl, S.kind⟩ ⟨rfl, rfl, rfl, rfl, rfl⟩ (takes_of rfl rfl rfl rfl)
  obtain ⟨y, m⟩ := p
  obtain ⟨j, h1, h2⟩ := knAll_mem (h5 _ hp)
  have e1 : (LamX.lamCx X A outer s H0 E scope f c').env.scope.names.lookup y = some j := lookup_mem h6 h1
  cases j <;> simp only [knOf] at h2 <;> cases h2
  · exact absurd rfl (S.own _ h1).1
  · exact absurd rfl (S.own _ h1).2
  · exact .inr e1
  · exact e1
theorem re_lamcall (c : Ctx X N L k) {T : List (Addr × Str)} {TT : (XK → Hp → VK → Prop) → Hp → VK → Prop} {x a : Str} {sth : Stmt} {g cc P : Addr} {fdh : FuncData} {Ng : List Str} {params : Arguments} {body : Expr} {kl : Nat} (Ll : List (Str × KN)) (hok : lamOk L scope Ll = true)
    (FH : FnP X.K x sth g fdh) (gx : X.mg x = some (.ref g)) (bH : Binds X.K fdh [a] []) (Sg : FnScope Ng [a] (defScope sth)) (hNg : Ng[0]? = some a) (hva : Vis (defScope sth) a) (ha : okName a = true) (hG : ∀ cdg, LamX.GivesTo X Ng x (defScope sth) g cdg (defBody sth) a (X.env.qual ++ "<lambda>") TT)
    (TB : LamX.TabB X.base X.mg cc P) (hcode : X.env.code = .ref cc) (hmT : (P, X.env.qual ++ "<lambda>") ∈ T) (hu : ∀ p ∈ T, p.1 = P → p.2 = X.env.qual ++ "<lambda>") (hk : kl + 2 ≤ k) (hgl : (x, KN.glob) ∈ L)
    (q : LamX.Tabs T H ∧ ∀ H1, LamX.ExtN H H1 → LamX.Tabs T H1 → TT (LamR X scope body kl σ) H1 Q)
    (hdef : defaultsOf params X.env = ([], []) := by with_unfolding_all rfl) (hbind : ∀ (q : Str) (cl : List (Str × Addr)) (pm cv ctv : Value), bindArgs (PySem.W.kla_fn "<lambda>" q params body scope cl pm cv ctv) ⟨[], []⟩ = pure [] := by intros; with_unfolding_all rfl) :
    RE X (.Call (.Name x p0) [.Lambda params body scope p1] [] pos) σ H Q := by
  obtain ⟨oc, od, dV, kV, doc, pm, an, cdv, ct, osl, rfl, lk, hcd, _, _⟩ := FH.ex
  obtain ⟨d1, d2, d3⟩ := okName_of ha
  refine re_of (LamX.pe_lamcall (t := fun E σ H Q => LamR X scope body kl σ E H Q) (c.gl hgl) gx FH.kp lk hcd bH Sg hNg hva (hG cdv) TB hcode hmT hu (c.room.mono hk) (lamOk_of c hok).1 hdef hbind (fun A outer s H E f c' hr => ?_) (c.d1 hgl) d1 d2) q
  exact ⟨fun pins s' σ H' Q' I h => PE.self.run pins s' σ H' Q' I (h A outer s H f c' hr)⟩
/-- a pair of constants is stored as one folded tuple -/
theorem swapped_folded {x y : Expr} {a b : Expr} {kt k2 : Nat} {q1 q2 : Pos} {env : Env} (h : [a, b].all (foldedForSure 8) = true) : swappedStores [.Tuple [x, y] kt q1] (.Tuple [a, b] k2 q2) env = pure none := by
  unfold swappedStores
  dsimp only
  rw [h]
  repeat' first
    | rfl
    | (rename_i hh _; exact absurd rfl hh)
    | split
/-- x, y = e, e a pair -/
theorem rs_tup2 (c : Ctx X N L k) {x y : Str} {e : Expr} {j j' : KN} {kt : Nat} {q0 q1 q2 : Pos} (h : (x, j) ∈ L) (m : Own j) (hx : x ∈ N) (h' : (y, j') ∈ L) (m' : Own j') (hy : y ∈ N) {D : Ends}
    (q : RE X e σ H fun w H1 => ∃ t u v, w = .ref t ∧ SqT X.K H1 t [u, v] ∧ ∃ σ' σ'', Put N σ x u σ' ∧ Put N σ' y v σ'' ∧ D.nx σ'' H1)
    (hw : swappedStores [.Tuple [.Name x q0, .Name y q1] kt q2] e X.env = pure none) (hs : swapsWithSole [.Tuple [.Name x q0, .Name y q1] kt q2] e pos.line X.env = pure false := by with_unfolding_all rfl)
    (h1 : (assignEach [.Tuple [.Name x q0, .Name y q1] kt q2] X.env).map (·.2) = [assign (.Tuple [.Name x q0, .Name y q1] kt q2) X.env] := by with_unfolding_all rfl)
    (hn : (assignEach [.Name x q0, .Name y q1] X.env).length = 2 := by with_unfolding_all rfl) (hst : (assignEach [.Name x q0, .Name y q1] X.env).findIdx? (·.1) = none := by with_unfolding_all rfl)
    (ha : (assignEach [.Name x q0, .Name y q1] X.env).map (·.2) = assign (.Name x q0) X.env :: (assignEach [.Name y q1] X.env).map (·.2) := by with_unfolding_all rfl) (hb : (assignEach [.Name y q1] X.env).map (·.2) = assign (.Name y q1) X.env :: (assignEach [] X.env).map (·.2) := by with_unfolding_all rfl) :
    RS X (.Assign [.Tuple [.Name x q0, .Name y q1] kt q2] e pos) D σ H := by
  obtain ⟨i, g, h2⟩ := c.pg (p0 := q0) h m hx
  obtain ⟨i', g', h2'⟩ := c.pg (p0 := q1) h' m' hy
  refine rs_of (ps_asg PE.self (pg_tup (n := 2) c.calm (pgs_cons g (pgs_cons g' pgs_nil hb) ha) hn hst) hs hw h1) (pe_mono q fun w H1 ⟨t, u, v, e1, hT, σ', σ'', a1, a2, r⟩ => ?_)
  subst e1
  rw [h2' a2, h2 a1] at r
  exact ⟨t, _, rfl, hT, rfl, _, _, rfl, _, _, rfl, rfl, r⟩
/-- x, y = a, b: not all of it constants -/
theorem swapped_two {x y : Str} {a b : Expr} {px py q1 q2 : Pos} {kt k2 : Nat} {env : Env} (hb : env.blockKind = .function) (hx : env.kindOf x = some .local) (hy : env.kindOf y = some .local) (hl : (px.line == py.line) = true) (hd : ([x, y] : List Str).eraseDups = [x, y])
    (ha : ∀ v p, a ≠ .Starred v p) (hb2 : ∀ v p, b ≠ .Starred v p) (h1 : [a, b].all (foldedForSure 8) = false) (h2 : [a, b].all (constantsAlone 8) = false) :
    swappedStores [.Tuple [.Name x px, .Name y py] kt q1] (.Tuple [a, b] k2 q2) env = pure (some [x, y]) := by
  have hl' : px.line = py.line := by simpa using hl
  unfold swappedStores
  dsimp only
  rw [h1, h2]
  simp only [Bool.false_eq_true, if_false]
  rw [if_neg (by simp [hb])]
  have hstar : ∀ (f : Expr → Bool), (∀ e, (∀ v p, e ≠ .Starred v p) → f e = false) → [a, b].any f = false := fun f hf => by
    simp [hf a ha, hf b hb2]
  rw [hstar _ (fun e he => by
    split
    · exact absurd rfl (he _ _)
    · rfl)]
  simp [hx, hy, hl', hd, Expr.pos]
theorem Ctx.bk (c : Ctx X N L k) : X.env.blockKind = .function := by
  unfold Env.blockKind
  rw [c.kind]
  rfl
theorem rs_par2 (c : Ctx X N L k) {x y : Str} {a b : Expr} {px py pt : Pos} {kt k2 : Nat} {pt2 : Pos} {D : Ends} (hx : (x, KN.loc) ∈ L) (hy : (y, KN.loc) ∈ L) (mx : x ∈ N) (my : y ∈ N) (hxy : x ≠ y)
    (q : RA X [a, b] σ H fun vs H1 => ∃ v w σ' σ'', vs = [v, w] ∧ Put N σ x v σ' ∧ Put N σ' y w σ'' ∧ D.nx σ'' H1)
    (hl : (px.line == py.line) = true := by decide +kernel) (hd : ([x, y] : List Str).eraseDups = [x, y] := by decide +kernel) (ha : ∀ v p, a ≠ .Starred v p := by intros; nofun) (hb2 : ∀ v p, b ≠ .Starred v p := by intros; nofun)
    (h1 : [a, b].all (foldedForSure 8) = false := by decide +kernel) (h2 : [a, b].all (constantsAlone 8) = false := by decide +kernel)
    (hs : swapsWithSole [.Tuple [.Name x px, .Name y py] kt pt] (.Tuple [a, b] k2 pt2) pos.line X.env = pure false := by with_unfolding_all rfl) :
    RS X (.Assign [.Tuple [.Name x px, .Name y py] kt pt] (.Tuple [a, b] k2 pt2) pos) D σ H :=
  rs_par c hx hy mx my hxy q (swapped_two c.bk (c.lcl hx) (c.lcl hy) hl hd ha hb2 h1 h2) hs
end
end GT
namespace GT
open PySem PySem.Spec PyProof.Rows L2
/-! ### Bools of the head that tell an own exception class -/
def oexB (K : PySem.W.Frag) (C : Addr) : Bool := match K.lookup C with
  | some ⟨.type "type", _, .cls cd, sl⟩ => (match cd.mro, sl.toList with
    | .ref C' :: bm, [_, _, _, _, some (.builtin n), _] => C' == C && n == "ValueError.__new__" && !cd.hasDel && cd.hasDict && PySem.HandSPX.refsVE bm
    | _, _ => false)
  | _ => false
theorem oexB_ok {K : PySem.W.Frag} {C : Addr} (q : oexB K C = true) : ∃ nm q N bs bm sn sub ab col dd k0 k1 k2 k3 k5, K.lookup C = some (excClassObj nm q C N bs bm true sn sub ab col dd k0 k1 k2 k3 k5 "ValueError.__new__") ∧ PySem.HandSPX.refsVE bm = true := by
  unfold oexB at q
  split at q
  · rename_i dd cd sl ho
    split at q
    · rename_i C' bm k0 k1 k2 k3 n k5 hm hs
      simp only [Bool.and_eq_true, beq_iff_eq, Bool.not_eq_true'] at q
      obtain ⟨⟨⟨⟨rfl, rfl⟩, hdel⟩, hdict⟩, ht⟩ := q
      obtain ⟨nm, bs, mro, ns, qn, hd, sn, sub, ab, col, del⟩ := cd
      dsimp only at hm hdel hdict
      subst hm hdel hdict
      have hsl : sl = #[k0, k1, k2, k3, some (.builtin "ValueError.__new__"), k5] := by
        obtain ⟨l⟩ := sl
        simp only at hs
        rw [hs]
      subst hsl
      exact ⟨nm, qn, ns, bs, bm, sn, sub, ab, col, dd, k0, k1, k2, k3, k5, ho, ht⟩
    · cases q
  · cases q
def kitCB (K : PySem.W.Frag) (D : Addr) : Bool := (PySem.W.clsIn K D).isSome && (He.eqO (PySem.W.findIn K (.ref D) "__getattribute__") (some (some (.builtin "BaseException.__getattribute__"))) && (He.eqO (PySem.W.findIn K (.ref D) "__getattr__") (some none) && (decide (PySem.W.subIn K (.ref D) (.type "BaseException") = some true) &&
  (He.eqO (PySem.W.findIn K (.ref D) "__class__") (some (some (.builtin "object.__class__"))) && (He.eqO (PySem.W.specialIn K (.builtin "object.__class__") "__get__") (some (some (.builtin "getset_descriptor.__get__"))) && (decide (PySem.W.takesIn K (.builtin "object.__class__") = some true) && decide (PySem.W.mroIn K D (.type "object") = some true)))))))
theorem kitCB_ok {K : PySem.W.Frag} {D : Addr} (h : kitCB K D = true) : KitC K D := by
  obtain ⟨h1, h⟩ := He.ba h
  obtain ⟨h2, h⟩ := He.ba h
  obtain ⟨h3, h⟩ := He.ba h
  obtain ⟨h4, h⟩ := He.ba h
  obtain ⟨h5, h⟩ := He.ba h
  obtain ⟨h6, h⟩ := He.ba h
  obtain ⟨h7, h8⟩ := He.ba h
  exact ⟨h1, He.eqO_ok h2, He.eqO_ok h3, of_decide_eq_true h4, He.eqO_ok h5, He.eqO_ok h6, of_decide_eq_true h7, of_decide_eq_true h8⟩
/-- the class nm, its field fl -/
def errB (K : PySem.W.Frag) (nm fl : Str) : Bool := oexB K (He.ga K nm) && (He.eqO (PySem.W.findIn K (.ref (He.ga K nm)) "__setattr__") (some (some (.builtin "object.__setattr__"))) && (decide (PySem.W.subIn K (.ref (He.ga K nm)) (.type "BaseException") = some true) && (decide (PySem.W.typeIn K (.ref (He.ga K nm)) = some (.type "type")) &&
  (PySem.W.keepIn K (.ref (He.ga K nm)) && (He.eqO (PySem.W.findIn K (.ref (He.ga K nm)) "__init__") (some (some (.ref (He.ma K (He.ga K nm) "__init__")))) && (decide (PySem.W.typeIn K (.ref (He.ma K (He.ga K nm) "__init__")) = some (.type "function")) && (He.eqO (PySem.W.findIn K (.ref (He.ga K nm)) fl) (some none) && xfB K (He.ga K nm))))))))
structure ErrK (K : PySem.W.Frag) (C fI : Addr) (fl : Str) : Prop where
  oex : OexC K C
  iC : PySem.W.findIn K (.ref C) "__init__" = some (some (.ref fI))
  tI : PySem.W.typeIn K (.ref fI) = some (.type "function")
  no : PySem.W.findIn K (.ref C) fl = some none
  xf : XfC K C
theorem errB_ok {K : PySem.W.Frag} {nm fl : Str} (h : errB K nm fl = true) : ErrK K (He.ga K nm) (He.ma K (He.ga K nm) "__init__") fl := by
  obtain ⟨h1, h⟩ := He.ba h
  obtain ⟨h2, h⟩ := He.ba h
  obtain ⟨h3, h⟩ := He.ba h
  obtain ⟨h4, h⟩ := He.ba h
  obtain ⟨h5, h⟩ := He.ba h
  obtain ⟨h6, h⟩ := He.ba h
  obtain ⟨h7, h⟩ := He.ba h
  obtain ⟨h8, h9⟩ := He.ba h
  exact ⟨⟨oexB_ok h1, He.eqO_ok h2, of_decide_eq_true h3, of_decide_eq_true h4, h5⟩, He.eqO_ok h6, of_decide_eq_true h7, He.eqO_ok h8, xfB_ok h9⟩
/-- the i-th statement of a class -/
def inCls (st : Stmt) (i : Nat) : Stmt := match st with
  | .ClassDef _ _ _ b _ _ _ _ _ _ _ => b.getD i (.Pass ⟨0, 0, 0, 0⟩)
  | _ => .Pass ⟨0, 0, 0, 0⟩
end GT
namespace GT
open PySem PySem.Spec PyProof.Rows L2
section
variable {X : Cx} {σ : L2.St} {H : Hp} {N : List Str} {L Lc : List (Str × KN)} {k : Nat} {pos p0 p1 p2 : Pos} {Q : VK} {D : Ends} {scope : Scope} {x : Str} {elt : Expr} {ifs : List Expr}
/-- [.. for x in z], z a text -/
theorem re_lc_str (c : Ctx X N L k) (Lc : List (Str × KN)) (hok : lcOk N L scope Lc x = true) {l : Expr}
    (q : RE X l σ H fun v H1 => ∃ z, v = .str z ∧ CTurns X N Lc k scope x elt ifs (fun _ => True) z.cps.size (fun i y => ∃ c, z.cps[i]? = some c ∧ y = .str ⟨#[c]⟩) σ H1 Q)
    (hs : ∀ x, foldedSetIterable l X.env x = pure x := by intro _; with_unfolding_all rfl) : RE X (.ListComp elt [⟨.Name x p0, l, ifs, 0⟩] scope pos) σ H Q := by
  obtain ⟨S, hx, hl, ok⟩ := lcOk_of c hok
  obtain ⟨i, hput, bk, g⟩ := blk_at (p0 := p0) c S hx hl ok
  refine re_of (pe_lc c.calm c.nodup (pi_str PE.self) bk g (fun s H C cl fp => PTs.rta c S s H C cl fp) (fun s H C cl fp => PE.rea c S s H C cl fp) hs) ?_
  exact pe_mono q fun v H1 ⟨z, e, q1⟩ => ⟨z, e, lc_go hput walk_str q1⟩
/-- xs.extend(e), e a list -/
theorem re_extend {o e : Expr} {apos : Pos} (q : RE X o σ H fun x H1 => ∃ l xs, x = .ref l ∧ H1 l = some (.lst xs) ∧ RE X e σ H1 fun y H2 => ∃ b xs' zs, y = .ref b ∧ H2 l = some (.lst xs') ∧ H2 b = some (.lst zs) ∧ xs'.length + zs.length ≤ sizeLine ∧ Q .non (upd H2 l (.lst (xs' ++ zs))))
    (hbase : attributeBase o "extend" X.env (eval o X.env) = eval o X.env := by with_unfolding_all rfl)
    (hfew : ((backTo pos (starEach [e] X.env)).all (fun x => !x.1) && (backToKw pos (keywordEach [] X.env)).all (fun x => x.1.isSome) && decide (([e] : List Expr).length + ([] : List Keyword).length + (if ([] : List Keyword).isEmpty then 0 else 1) < 30)) = true := by with_unfolding_all rfl)
    (hline : (apos.endLine == pos.line) = true := by with_unfolding_all rfl) (hs : starEach [e] X.env = (false, eval e X.env) :: starEach [] X.env := by with_unfolding_all rfl) (hplain : (backTo pos (starEach [] X.env)).any (·.1) = false := by with_unfolding_all rfl) :
    RE X (.Call (.Attribute o "extend" apos) [e] [] pos) σ H Q := by
  refine re_of (pe_bm PySem.F.plainAttrs_list PySem.F.slot_list_extend PySem.F.type_list_extend mt_extend PE.self PA.self hbase hfew hline hs hplain) ?_
  refine pe_mono q fun x H1 ⟨l, xs, e1, h1, q1⟩ => ?_
  subst e1
  refine ⟨.inl ⟨rfl, _, SqL.of h1⟩, ra_cons (pe_mono q1 fun y H2 ⟨b, xs', zs, e2, h2, h3, h4, q2⟩ => ra_nil ⟨l, b, xs', zs, rfl, by rw [e2], h2, h3, h4, q2⟩) hs⟩
/-! ### keywords alone -/
structure RK (X : Cx) (kws : List Keyword) (σ : L2.St) (H : Hp) (Q : List V → Hp → Prop) : Prop where
  ex : ∃ t, PK X kws t ∧ t σ H Q
theorem PK.self {kws : List Keyword} : PK X kws (RK X kws) := ⟨fun pos pins s σ H Q I h => by obtain ⟨t, ht, q⟩ := h.ex; exact ht.run pos pins s σ H Q I q⟩
theorem rk_nil {Q : List V → Hp → Prop} (q : Q [] H) : RK X [] σ H Q := ⟨⟨_, pk_nil, q⟩⟩
theorem rk_cons {nm : Option Str} {e : Expr} {kpos : Pos} {kws : List Keyword} {Q : List V → Hp → Prop} (q : RE X e σ H fun x H1 => RK X kws σ H1 fun xs H2 => Q (x :: xs) H2) : RK X (⟨nm, e, kpos⟩ :: kws) σ H Q := ⟨⟨_, pk_cons PE.self PK.self, q⟩⟩
/-- f(k = e, ..) -/
theorem re_callKO (c : Ctx X N L k) {CXs : CXT} {x : Str} {n : Nat} {f : Addr} {fd : FuncData} {ps ks : List Str} {sp : Sp} {g : List Value → List Value → List Value} {gV : List V → List V → List V} {kws : List Keyword} (F : FnOk X.prog X.w X.K X.mg X.base CXs n f fd ps sp) (hn : n ≤ k) (h : (x, KN.glob) ∈ L)
    (hm : X.mg x = some (.ref f)) (hk : PySem.W.keepIn X.K (.ref f) = true) (hb : KBinds X.K fd ps ks g gV) {E : XK} (hx : Passes CXs X E) (q : RK X kws σ H fun zs H1 => sp (gV [] zs) H1 Q E)
    (hall : (backToKw pos (keywordEach kws X.env)).all (·.1.isSome) = true := by with_unfolding_all rfl) (hks : (backToKw pos (keywordEach kws X.env)).filterMap (·.1) = ks := by with_unfolding_all rfl)
    (hpl : ((backTo pos (starEach [] X.env)).any (·.1) || (backToKw pos (keywordEach kws X.env)).any (·.1.isNone)) = false := by with_unfolding_all rfl) : RE X (.Call (.Name x p0) [] kws pos) σ H Q := by
  refine re_of (t := fun σ H Q => RK X kws σ H fun zs H1 => sp (gV [] zs) H1 Q E) ⟨fun pins s σ H Q I h' => ?_⟩ q
  refine wpAny_Call_Name_kw (ld_glob I (c.gl h) hm ?_ (c.d1 h))
  refine PySem.W.callWith_KW0 (h₀ := X.base) I.ok.mod.kin hk hall ?_ hpl
  refine thn (PK.self.run pos pins s σ H _ I h') fun ws s2 ⟨zs, H2, I2, rz, q2⟩ => ⟨I2.kIn, ?_⟩
  rw [hks]
  exact run_fnk (us := []) (vs := []) F (c.room.mono hn) hb hx I2 .nil rz q2
end
end GT
namespace GT
open PySem PySem.Spec PyProof.Rows L2
/-! ### enumerate of a text -/
def IteS (x : Str) : It := ⟨fun i _ => i < x.cps.size, fun i H v H' => ∃ T c, v = .ref T ∧ H T = none ∧ H' = upd H T (.tup [.int (i : Nat), .str ⟨#[c]⟩]) ∧ x.cps[i]? = some c, fun i _ => i = x.cps.size⟩
theorem turn_enumS {P : Program} {w : World} {K : PySem.W.Frag} {elts : List Expr} {kk : Nat} {tpos : Pos} (e it : Addr) (x : Str) (t : Tok) (ty : String) (hty : ty = "str_ascii_iterator" ∨ ty = "str_iterator") :
    Turn P w K (.Tuple elts kk tpos) (IteS x) [e, it] e (fun i h => (∃ old, IsEnum h e it ((i : Nat) : Int) old) ∧ h.IsStrIter it ty x t i ∧ e ≠ it) where
  mem := by simp
  obj := fun i h st b hb => by
    obtain ⟨⟨old, he⟩, ⟨o, ho, hc, hd⟩, _⟩ := st
    have e' : b = e ∨ b = it := by simpa using hb
    rcases e' with z | z
    · rw [z]; exact ⟨_, he, fun v q => nomatch q⟩
    · rw [z]; exact ⟨o, ho, fun v q => by rw [hd] at q; cases q⟩
  keep := fun i h h' st k => let ⟨⟨old, he⟩, hi, hne⟩ := st; ⟨⟨old, k e (by simp) _ he⟩, (by obtain ⟨o, ho, hc, hd⟩ := hi; exact ⟨o, k it (by simp) _ ho, hc, hd⟩), hne⟩
  item := by
    intro X hP hw hK hc i pins s σ H E I hf st hg
    subst hP hw hK
    obtain ⟨⟨old, he⟩, hit, hne⟩ := st
    have hel : e < s.heap.objs.size := Heap.lt_size he
    have hil : it < s.heap.objs.size := by obtain ⟨_, q, _⟩ := hit; exact Heap.lt_size q
    have hh : X.A.in1.handled = none := I.ok.hd hc
    have D : Draws X.prog X.w X.A.in1 it [it] x.cps.size (fun i v => ∃ c u, x.cps[i]? = some c ∧ v = .str ⟨#[c]⟩ u) (fun i h => h.IsStrIter it ty x t i) := by
      rcases hty with e | e
      · rw [e]; exact Draws.strAscii hh it x t
      · rw [e]; exact Draws.strWide hh it x t
    refine wpAny_pyNext_enum_itemD D he hit hg hne (by simpa using hne) fun v h' tk hv ho hit' hT hsz hk => ?_
    obtain ⟨c, u, hcx, rfl⟩ := hv
    refine ⟨_, rfl, wpAny_letOwnedTupleGo_enum (s := { s with heap := h', toks := tk + 1 }) ho fun h'' he' sb => ?_⟩
    have hT2 : h''.get? s.heap.objs.size = some { cls := .type "tuple", data := .seq #[.int i tk, .str ⟨#[c]⟩ u] } := (sb.2 _ (Nat.ne_of_gt hel)).trans hT
    have new : ObjOk X.prog X.w (upd H s.heap.objs.size (.tup [.int (i : Nat), .str ⟨#[c]⟩])) h'' s.heap.objs.size (.tup [.int (i : Nat), .str ⟨#[c]⟩]) :=
      ⟨by show 2 ≤ sizeLine; decide, [.int i tk, .str ⟨#[c]⟩ u], .cons ⟨_, rfl⟩ (.cons ⟨_, rfl⟩ .nil), ⟨_, hT2, rfl, _, rfl⟩⟩
    have I1 : Inv X pins σ (upd H s.heap.objs.size (.tup [.int (i : Nat), .str ⟨#[c]⟩])) { s with heap := h'', toks := tk + 1 } :=
      I.turnedNew (ch := [e, it]) (fun b ob hb q => (sb.2 b (fun z => hb (by simp [z]))).trans (hk b ob (fun z => hb (by simp [z])) (fun z => hb (by simp [z])) q)) hf (Nat.le_refl _) new
    refine ⟨.ref s.heap.objs.size, _, I1, rfl, ⟨_, c, rfl, I.hok.fresh (Nat.le_refl _), rfl, hcx⟩, ⟨⟨.str ⟨#[c]⟩ u, ?_⟩, ?_, hne⟩, fun b hb => ?_⟩
    · have e1 : ((i + 1 : Nat) : Int) = (i : Int) + 1 := by omega
      rw [e1]; exact he'
    · obtain ⟨o, ho2, hc2, hd2⟩ := hit'
      exact ⟨o, (sb.2 it (Ne.symm hne)).trans ho2, hc2, hd2⟩
    · have hb' : b < s.heap.objs.size := by
        have e' : b = e ∨ b = it := by simpa using hb
        rcases e' with z | z
        · rw [z]; exact hel
        · rw [z]; exact hil
      rw [upd_ne (Nat.ne_of_lt hb')]
      exact (hf b hb).1
  done := by
    intro X hP hw hK hc i pins s σ H E I hf st hg
    subst hP hw hK
    obtain ⟨⟨old, he⟩, hit, hne⟩ := st
    obtain ⟨f0, f1, f2, f3, f4, f5⟩ := hf it (by simp)
    have hh : X.A.in1.handled = none := I.ok.hd hc
    have D : Draws X.prog X.w X.A.in1 it [it] x.cps.size (fun i v => ∃ c u, x.cps[i]? = some c ∧ v = .str ⟨#[c]⟩ u) (fun i h => h.IsStrIter it ty x t i) := by
      rcases hty with e | e
      · rw [e]; exact Draws.strAscii hh it x t
      · rw [e]; exact Draws.strWide hh it x t
    have e1 : i = x.cps.size := hg
    rw [e1] at hit
    exact wpAny_pyNext_enum_endD D he hit fun h' eb => ⟨rfl, I.turned (t' := s.toks) (fun b o hb q => eb b o hb q) f0 f1 f3 f4 f5⟩
  self := fun A i s Q E st h => let ⟨⟨_, he⟩, _⟩ := st; wpAny_pyIter_enum he h
theorem iterTy (x : Str) : strIterType x = "str_ascii_iterator" ∨ strIterType x = "str_iterator" := by
  unfold strIterType
  split
  · exact .inl rfl
  · exact .inr rfl
def iEnumS (ta : TA) : TI := fun σ H R => ta σ H fun vs H1 => ∃ x, vs = [.str x] ∧ R (IteS x) H1
theorem pi_enumS {X : Cx} {e : Expr} {ta : TA} {p pos tpos : Pos} {elts : List Expr} {kk : Nat} (hg : Gl X "enumerate") (hm : X.mg "enumerate" = none) (ha : PA X [e] ta) (hs : starEach [e] X.env = [(false, eval e X.env)] := by rfl) :
    PI X (.Tuple elts kk tpos) (.Call (.Name "enumerate" p) [e] [] pos) (iEnumS ta) := by
  refine ⟨fun pins s σ H R I h => ?_⟩
  refine Call_ (ld_blt I hg hm boot_enumerate (PyProof.Rows.callWith_type1 (thn (ha.run pos pins s σ H _ I h) fun us s1 ⟨vs, H1, I1, r1, q1⟩ => ?_) hs rfl))
  obtain ⟨x, ex, q⟩ := q1
  subst ex
  cases r1 with
  | cons r rr =>
    cases rr
    obtain ⟨t, rfl⟩ := r
    refine call_enumerate_str fun h' he hit hsz hk => wpAny_pyIter_enum he ?_
    have I2 : Inv X pins σ H1 { s1 with heap := h' } := I1.kept (t' := s1.toks) hk
    refine ⟨s1.heap.objs.size + 1, [s1.heap.objs.size + 1, s1.heap.objs.size], _, _, H1, rfl, I2, turn_enumS (s1.heap.objs.size + 1) s1.heap.objs.size x t _ (iterTy x), ⟨⟨.none, he⟩, hit, Nat.succ_ne_self _⟩, fun b hb => ?_, q⟩
    have e' : b = s1.heap.objs.size + 1 ∨ b = s1.heap.objs.size := by simpa using hb
    have hle : s1.heap.objs.size ≤ b := by
      rcases e' with z | z
      · rw [z]; exact Nat.le_add_right _ _
      · rw [z]; exact Nat.le_refl _
    exact I1.fpOk hle (I1.hok.fresh hle)
end GT
namespace GT
open PySem
open Sem (wp)
/-! ### enumerate(v), v told by how its iterator begins -/
theorem meets_enum1 {v : Value} {o : Obj} {G : Heap → Prop} (B : Begins v o G) :
    Meets (Builtin.«enumerate.__new__» ⟨[.type "enumerate", v], []⟩) (fun _ R s => G s.heap ∧
      R (.ok (.ret (.ref (s.heap.push o).objs.size))) { s with heap := (s.heap.push o).push { cls := .type "enumerate", data := .fields #[.none, .bool false, .ref s.heap.objs.size, rawInt 0, .none, .none] } }) :=
  .of_wp fun prog w A R s h => by
    obtain ⟨hp, g, d, tk, os⟩ := s
    obtain ⟨h1, h⟩ := h
    have hsub := sub_enumerate
    have q1 : ∀ {A' : Around} {E : Value → Shared → Prop} {Q : Value → Shared → Prop}, Q (.ref hp.objs.size) ⟨hp.push o, g, d, tk, os⟩ → wpAny (model prog w) A' (pyIter v) Q E ⟨hp, g, d, tk, os⟩ :=
      fun q => B.iter prog w _ _ ⟨hp, g, d, tk, os⟩ _ h1 q
    wp_walk using q1
    refine wpAny_stack_any fun st => wpAny_pure ?_
    split
    · rename_i c _ _ _ _ _
      cases (c == Value.type "enumerate") <;> (wp_walk using q1; exact ⟨_, rfl, h⟩)
    · wp_walk using q1
      exact ⟨_, rfl, h⟩
theorem call_enum1 {prog : Program} {w : World} {A : Around} {E : Value → Shared → Prop} {s : Shared} {v : Value} {o : Obj} {G : Heap → Prop} {Q : Value → Shared → Prop} (B : Begins v o G) (h1 : G s.heap)
    (h : ∀ h', IsEnum h' (s.heap.objs.size + 1) s.heap.objs.size 0 .none → h'.get? s.heap.objs.size = some o → (∀ b o, s.heap.get? b = some o → h'.get? b = some o) → Q (.ref (s.heap.objs.size + 1)) { s with heap := h' }) :
    wpAny (model prog w) A (call (.type "enumerate") [v]) Q E s := by
  refine callType_new F.called_enumerate (by decide) (F.typeCall_enumerate_1 _) (F.newCall_enumerate_1 _) (fun obj => F.args_object_init_2 obj _) F.entry_enumerate_new (meets_enum1 B) ⟨h1, ?_⟩
  have hz : (s.heap.push o).objs.size = s.heap.objs.size + 1 := Heap.size_push ..
  show _ ∧ _
  rw [hz]
  have he : IsEnum ((s.heap.push o).push { cls := .type "enumerate", data := .fields #[.none, .bool false, .ref s.heap.objs.size, rawInt 0, .none, .none] }) (s.heap.objs.size + 1) s.heap.objs.size 0 .none := by
    have e := Heap.get?_push_size (s.heap.push o) (o := { cls := .type "enumerate", data := .fields #[.none, .bool false, .ref s.heap.objs.size, rawInt 0, .none, .none] }) rfl
    rw [hz] at e
    exact e
  exact ⟨⟨_, he, rfl⟩, h _ he (Heap.get?_push_of_some _ (Heap.get?_push_size _ B.free)) fun b o x => Heap.get?_push_of_some _ (Heap.get?_push_of_some _ x)⟩
theorem nextEnd_tuple {prog : Program} {w : World} {A : Around} {E : Value → Shared → Prop} {s : Shared} {e it l : Addr} {i : Nat} {n : Int} {items : Array Value} {old : Value} {Q : Option Value → Shared → Prop} (hh : A.in1.handled = none)
    (he : IsEnum s.heap e it n old) (hit : s.heap.IsTupleIter it l i) (hl : s.heap.IsTuple l items) (hx : items[i]? = none)
    (hQ : ∀ h', Heap.ExtBut it s.heap h' → Q none { s with heap := h' }) : wpAny (model prog w) A (pyNext (.ref e)) Q E s := by
  have hT : s.TypeIs (.ref e) "enumerate" := ⟨_, he, rfl⟩
  unfold pyNext
  refine wpAny_bind (wpAny_attempt (wpAny_callSpecial?_slot (name := Str.ofString "__next__") hT F.slot_enumerate_next (wpAny_call_entry F.slot_enumerate_next hT F.entry_enumerate_next ?_ (F.args_enumerate_next_1 _))))
  show wpAny _ _ (field (.ref e) 2 >>= _) _ _ _
  refine wpAny_bind (wpAny_field he rfl (x := .ref it) rfl (wpAny_bind (wpAny_nextOf_tuple_end hh hit hl hx fun h' x he' hx' => ?_)))
  obtain ⟨o, ho, hc⟩ := hx'
  exact wpAny_bind (wpAny_isInstance (T := "StopIteration") (b := true) ⟨o, ho, hc⟩ isSubtype_stop (wpAny_pure (hQ _ he')))
end GT
namespace GT
open PySem PySem.Spec PyProof.Rows L2
/-! ### enumerate of a tuple -/
def IteT (K : PySem.W.Frag) (a : Addr) : It :=
  ⟨fun i H => ∃ (xs : List V) (x : V), SqT K H a xs ∧ xs[i]? = some x, fun i H v H' => ∃ T x, v = .ref T ∧ H T = none ∧ H' = upd H T (.tup [.int (i : Nat), x]) ∧ ∀ xs, SqT K H a xs → xs[i]? = some x, fun i H => ∃ xs : List V, SqT K H a xs ∧ xs.length ≤ i⟩
theorem turn_enumT {P : Program} {w : World} {K : PySem.W.Frag} {elts : List Expr} {kk : Nat} {tpos : Pos} (a e it : Addr) :
    Turn P w K (.Tuple elts kk tpos) (IteT K a) [e, it] e (fun i h => (∃ old, IsEnum h e it ((i : Nat) : Int) old) ∧ h.IsTupleIter it a i ∧ e ≠ it) where
  mem := by simp
  obj := fun i h st b hb => by
    obtain ⟨⟨old, he⟩, ⟨o, ho, hc, hd⟩, _⟩ := st
    have e' : b = e ∨ b = it := by simpa using hb
    rcases e' with z | z <;> subst z
    · exact ⟨_, he, fun v q => nomatch q⟩
    · exact ⟨o, ho, fun v q => by rw [hd] at q; cases q⟩
  keep := fun i h h' st k => by
    obtain ⟨⟨old, he⟩, hi, hne⟩ := st
    exact ⟨⟨old, k e (by simp) _ he⟩, hi.at fun o q => k it (by simp) o q, hne⟩
  item := by
    intro X hP hw hK hc i pins s σ H E I hf st hg
    subst hP hw hK
    obtain ⟨⟨old, he⟩, hit, hne⟩ := st
    obtain ⟨xs, x, hq, hx⟩ := hg
    obtain ⟨its, rv, p, hz⟩ := I.tuple hq
    have p : s.heap.IsTuple a its.toArray := p
    obtain ⟨oa, hoa, hca, _⟩ := id p
    obtain ⟨oi, hoi, hci, _⟩ := id hit
    have n1 : a ≠ it := fun q => by
      rw [q, hoi] at hoa
      cases hoa
      rw [hci] at hca
      exact absurd hca (by decide)
    have n2 : e ≠ a := fun q => by
      rw [← q, he] at hoa
      cases hoa
      exact absurd (show Value.type "enumerate" = Value.type "tuple" from hca) (by decide)
    have hel : e < s.heap.objs.size := Heap.lt_size he
    have hil : it < s.heap.objs.size := Heap.lt_size hoi
    have hh : X.A.in1.handled = none := I.ok.hd hc
    have D := Draws.tuple (prog := X.prog) (w := X.w) (A := X.A.in1) hh it a n1 its.toArray
    have hlt : i < its.toArray.size := by
      obtain ⟨u, hu, _⟩ := rv.get hx
      rcases Nat.lt_or_ge i its.length with z | z
      · simpa using z
      · rw [List.getElem?_eq_none z] at hu; cases hu
    refine wpAny_pyNext_enum_itemD D he ⟨hit, p⟩ hlt hne (by simp [hne, n2]) fun v h' tk hv ho hit' hT hsz hk => ?_
    obtain ⟨u, hu, ru⟩ := rv.get hx
    have ev : v = u := by
      have h2 : its.toArray[i]? = some u := by simpa using hu
      exact Option.some.inj ((show its.toArray[i]? = some v from hv).symm.trans h2)
    subst ev
    refine ⟨_, rfl, wpAny_letOwnedTupleGo_enum (s := { s with heap := h', toks := tk + 1 }) ho fun h'' he' sb => ?_⟩
    have hT2 : h''.get? s.heap.objs.size = some { cls := .type "tuple", data := .seq #[.int i tk, v] } := (sb.2 _ (Nat.ne_of_gt hel)).trans hT
    have new : ObjOk X.prog X.w (upd H s.heap.objs.size (.tup [.int (i : Nat), x])) h'' s.heap.objs.size (.tup [.int (i : Nat), x]) :=
      ⟨by show 2 ≤ sizeLine; decide, [.int i tk, v], .cons ⟨_, rfl⟩ (.cons ru .nil), ⟨_, hT2, rfl, _, rfl⟩⟩
    have I1 : Inv X pins σ (upd H s.heap.objs.size (.tup [.int (i : Nat), x])) { s with heap := h'', toks := tk + 1 } :=
      I.turnedNew (ch := [e, it]) (fun b ob hb q => (sb.2 b (fun z => hb (by simp [z]))).trans (hk b ob (fun z => hb (by simp [z])) (fun z => hb (by simp [z])) q)) hf (Nat.le_refl _) new
    refine ⟨.ref s.heap.objs.size, _, I1, rfl, ⟨_, x, rfl, I.hok.fresh (Nat.le_refl _), rfl, fun ys hy => by rw [I.tuple_inj hy hq]; exact hx⟩, ⟨⟨v, ?_⟩, hit'.1.at fun o q => (sb.2 it (Ne.symm hne)).trans q, hne⟩, fun b hb => ?_⟩
    · have e1 : ((i + 1 : Nat) : Int) = (i : Int) + 1 := by omega
      rw [e1]; exact he'
    · have hb' : b < s.heap.objs.size := by
        have e' : b = e ∨ b = it := by simpa using hb
        rcases e' with z | z <;> subst z <;> assumption
      rw [upd_ne (Nat.ne_of_lt hb')]
      exact (hf b hb).1
  done := by
    intro X hP hw hK hc i pins s σ H E I hf st hg
    subst hP hw hK
    obtain ⟨⟨old, he⟩, hit, hne⟩ := st
    obtain ⟨xs, hq, hx⟩ := hg
    obtain ⟨its, rv, p, hz⟩ := I.tuple hq
    have p : s.heap.IsTuple a its.toArray := p
    obtain ⟨oa, hoa, hca, _⟩ := id p
    obtain ⟨oi, hoi, hci, hdi⟩ := id hit
    have n1 : a ≠ it := fun q => by
      rw [q, hoi] at hoa
      cases hoa
      rw [hci] at hca
      exact absurd hca (by decide)
    obtain ⟨f0, f1, f2, f3, f4, f5⟩ := hf it (by simp)
    have hl := rv.length
    have hh : X.A.in1.handled = none := I.ok.hd hc
    refine nextEnd_tuple hh he hit p (by simp; omega) fun h' eb => ?_
    exact ⟨rfl, I.turned (t' := s.toks) (fun b o hb q => eb b o hb q) f0 f1 f3 f4 f5⟩
  self := fun A i s Q E st h => by
    obtain ⟨⟨_, he⟩, _⟩ := st
    exact wpAny_pyIter_enum he h
def iEnumT (K : PySem.W.Frag) (ta : TA) : TI := fun σ H R => ta σ H fun vs H1 => ∃ a xs, vs = [.ref a] ∧ SqT K H1 a xs ∧ R (IteT K a) H1
theorem pi_enumT {X : Cx} {e : Expr} {ta : TA} {p pos tpos : Pos} {elts : List Expr} {kk : Nat} (hg : Gl X "enumerate") (hm : X.mg "enumerate" = none) (ha : PA X [e] ta) (hs : starEach [e] X.env = [(false, eval e X.env)] := by rfl) :
    PI X (.Tuple elts kk tpos) (.Call (.Name "enumerate" p) [e] [] pos) (iEnumT X.K ta) := by
  refine ⟨fun pins s σ H R I h => ?_⟩
  refine Call_ (ld_blt I hg hm boot_enumerate (PyProof.Rows.callWith_type1 (thn (ha.run pos pins s σ H _ I h) fun us s1 ⟨vs, H1, I1, r1, q1⟩ => ?_) hs rfl))
  obtain ⟨a, xs, ex, hq, q⟩ := q1
  subst ex
  cases r1 with
  | cons r rr =>
    cases rr
    cases r
    obtain ⟨its, rv, p', hz⟩ := I1.tuple hq
    refine call_enum1 (begins_tuple a its.toArray) (show s1.heap.IsTuple a its.toArray from p') fun h' he hit hk => wpAny_pyIter_enum he ?_
    have I2 : Inv X pins σ H1 { s1 with heap := h' } := I1.kept (t' := s1.toks) hk
    refine ⟨s1.heap.objs.size + 1, [s1.heap.objs.size + 1, s1.heap.objs.size], _, _, H1, rfl, I2, turn_enumT a (s1.heap.objs.size + 1) s1.heap.objs.size, ⟨⟨.none, he⟩, ⟨_, hit, rfl, rfl⟩, Nat.succ_ne_self _⟩, fun b hb => ?_, q⟩
    have e' : b = s1.heap.objs.size + 1 ∨ b = s1.heap.objs.size := by simpa using hb
    have hle : s1.heap.objs.size ≤ b := by rcases e' with z | z <;> subst z <;> simp
    exact I1.fpOk hle (I1.hok.fresh hle)
/-! ### walks over them -/
theorem walk_enumS {z : Str} : Walk (IteS z) z.cps.size (fun _ => True) (YPair (fun i => some (.int (i : Nat))) (fun i => z.cps[i]?.map fun c => .str ⟨#[c]⟩)) := by
  refine ⟨fun _ _ hi _ => hi, fun _ _ => rfl, fun i H v H' _ _ y => ?_⟩
  obtain ⟨T, c, h1, h2, h3, h4⟩ := y
  exact ⟨T, .int (i : Nat), .str ⟨#[c]⟩, h1, h2, h3, rfl, by show Option.map _ _ = _; rw [h4]; rfl⟩
theorem walk_enumT {K : PySem.W.Frag} {a : Addr} {xs : List V} : Walk (IteT K a) xs.length (fun H => SqT K H a xs) (YPair (fun i => some (.int (i : Nat))) (fun i => xs[i]?)) := by
  refine ⟨fun i _ hi q => ⟨xs, xs[i], q, by simp [hi]⟩, fun _ q => ⟨xs, q, Nat.le_refl _⟩, fun i H v H' _ q y => ?_⟩
  obtain ⟨T, x, h1, h2, h3, h4⟩ := y
  exact ⟨T, .int (i : Nat), x, h1, h2, h3, rfl, h4 xs q⟩
section
variable {X : Cx} {σ : L2.St} {H : Hp} {N : List Str} {L Lc : List (Str × KN)} {k : Nat} {pos p0 p1 p2 p3 : Pos} {Q : VK} {D : Ends}
/-- what a loop over pairs asks: u i, v i the pair's parts, T its own new tuple -/
def PTurns (X : Cx) (N : List Str) (x y : Str) (body : List Stmt) (D : Ends) (stand : Hp → Prop) (n : Nat) (u v : Nat → Option V) (σ : L2.St) (H : Hp) : Prop :=
  ∃ Pv : Nat → L2.St → Hp → Prop, Pv 0 σ H ∧ (∀ i σ H, i ≤ n → Pv i σ H → stand H) ∧
    (∀ i a b σ H T, i < n → u i = some a → v i = some b → Pv i σ H → H T = none → ∃ σ' σ'', Put N σ x a σ' ∧ Put N σ' y b σ'' ∧ RB X body { D with nx := Pv (i + 1), ct := Pv (i + 1), bk := D.nx } σ'' (upd H T (.tup [a, b]))) ∧ (∀ σ H, Pv n σ H → D.nx σ H)
theorem pturns_go {J : It} {x y : Str} {body : List Stmt} {stand : Hp → Prop} {n : Nat} {u v : Nat → Option V} {i i' : Nat} (W : Walk J n stand (YPair u v)) (h2 : ∀ {σ σ' : L2.St} {v : V}, Put N σ x v σ' → σ' = σ.set i (some v)) (h2' : ∀ {σ σ' : L2.St} {v : V}, Put N σ y v σ' → σ' = σ.set i' (some v))
    (q : PTurns X N x y body D stand n u v σ H) :
    ∃ W : Nat → Nat → L2.St → Hp → Prop, (∃ m, W 0 m σ H) ∧ ∀ j m σ H, W j m σ H → (J.stop j H ∧ D.nx σ H) ∨ (J.go j H ∧ ∃ Nx : L2.St → Hp → Prop, (∀ σ' H', Nx σ' H' → ∃ m', m' < m ∧ W (j + 1) m' σ' H') ∧ ∀ w H', J.yld j H w H' →
      gTup X.K 2 (gCons (gName i) (gCons (gName i') gNil)) w σ H' fun σ2 H2 => RB X body { D with nx := Nx, ct := Nx, bk := D.nx } σ2 H2) := by
  obtain ⟨Pv, a1, a2, a3, a4⟩ := q
  refine for_it W (tb := fun D σ H => RB X body D σ H) (g := gTup X.K 2 (gCons (gName i) (gCons (gName i') gNil))) Pv a1 a2 (fun j w σ H H' hj p yy => ?_) a4
  obtain ⟨T, a, b, rfl, hT, rfl, e1, e2⟩ := yy
  obtain ⟨σ', σ'', b1, b2, r⟩ := a3 j a b σ H T hj e1 e2 p hT
  rw [h2' b2, h2 b1] at r
  exact ⟨T, _, rfl, SqT.of upd_same, rfl, _, _, rfl, _, _, rfl, rfl, r⟩
section
variable {x y : Str} {e : Expr} {body : List Stmt} {j j' : KN} {kt : Nat} {q0 q1 q2 : Pos}
theorem rs_for_enumS (c : Ctx X N L k) (h : (x, j) ∈ L) (m : Own j) (hx : x ∈ N) (h' : (y, j') ∈ L) (m' : Own j') (hy : y ∈ N) (hg : (("enumerate" : Str), KN.glob) ∈ L) (hm : X.mg "enumerate" = none)
    (q : RE X e σ H fun v H1 => ∃ z, v = .str z ∧ PTurns X N x y body D (fun _ => True) z.cps.size (fun i => some (.int (i : Nat))) (fun i => z.cps[i]?.map fun c => .str ⟨#[c]⟩) σ H1)
    (hs : ∀ x, foldedSetIterable (.Call (.Name "enumerate" p1) [e] [] p2) X.env x = pure x := by intro _; with_unfolding_all rfl) (hsE : starEach [e] X.env = [(false, eval e X.env)] := by with_unfolding_all rfl)
    (hn : (assignEach [.Name x q0, .Name y q1] X.env).length = 2 := by with_unfolding_all rfl) (hst : (assignEach [.Name x q0, .Name y q1] X.env).findIdx? (·.1) = none := by with_unfolding_all rfl)
    (ha : (assignEach [.Name x q0, .Name y q1] X.env).map (·.2) = assign (.Name x q0) X.env :: (assignEach [.Name y q1] X.env).map (·.2) := by with_unfolding_all rfl) (hb : (assignEach [.Name y q1] X.env).map (·.2) = assign (.Name y q1) X.env :: (assignEach [] X.env).map (·.2) := by with_unfolding_all rfl) :
    RS X (.For (.Tuple [.Name x q0, .Name y q1] kt q2) (.Call (.Name "enumerate" p1) [e] [] p2) body [] pos) D σ H := by
  obtain ⟨i, g, h2⟩ := c.pg (p0 := q0) h m hx
  obtain ⟨i', g', h2'⟩ := c.pg (p0 := q1) h' m' hy
  refine rs_of (ps_for c.po c.calm (pi_enumS (c.gl hg) hm PA.self hsE) (pg_tup (n := 2) c.calm (pgs_cons g (pgs_cons g' pgs_nil hb) ha) hn hst) PSs.self hs) ?_
  exact ra_cons (pe_mono q fun v H1 ⟨z, e1, t⟩ => ra_nil ⟨z, by rw [e1], pturns_go walk_enumS h2 h2' t⟩) hsE
theorem rs_for_enumT (c : Ctx X N L k) (h : (x, j) ∈ L) (m : Own j) (hx : x ∈ N) (h' : (y, j') ∈ L) (m' : Own j') (hy : y ∈ N) (hg : (("enumerate" : Str), KN.glob) ∈ L) (hm : X.mg "enumerate" = none)
    (q : RE X e σ H fun v H1 => ∃ a xs, v = .ref a ∧ SqT X.K H1 a xs ∧ PTurns X N x y body D (fun H => SqT X.K H a xs) xs.length (fun i => some (.int (i : Nat))) (fun i => xs[i]?) σ H1)
    (hs : ∀ x, foldedSetIterable (.Call (.Name "enumerate" p1) [e] [] p2) X.env x = pure x := by intro _; with_unfolding_all rfl) (hsE : starEach [e] X.env = [(false, eval e X.env)] := by with_unfolding_all rfl)
    (hn : (assignEach [.Name x q0, .Name y q1] X.env).length = 2 := by with_unfolding_all rfl) (hst : (assignEach [.Name x q0, .Name y q1] X.env).findIdx? (·.1) = none := by with_unfolding_all rfl)
    (ha : (assignEach [.Name x q0, .Name y q1] X.env).map (·.2) = assign (.Name x q0) X.env :: (assignEach [.Name y q1] X.env).map (·.2) := by with_unfolding_all rfl) (hb : (assignEach [.Name y q1] X.env).map (·.2) = assign (.Name y q1) X.env :: (assignEach [] X.env).map (·.2) := by with_unfolding_all rfl) :
    RS X (.For (.Tuple [.Name x q0, .Name y q1] kt q2) (.Call (.Name "enumerate" p1) [e] [] p2) body [] pos) D σ H := by
  obtain ⟨i, g, h2⟩ := c.pg (p0 := q0) h m hx
  obtain ⟨i', g', h2'⟩ := c.pg (p0 := q1) h' m' hy
  refine rs_of (ps_for c.po c.calm (pi_enumT (c.gl hg) hm PA.self hsE) (pg_tup (n := 2) c.calm (pgs_cons g (pgs_cons g' pgs_nil hb) ha) hn hst) PSs.self hs) ?_
  exact ra_cons (pe_mono q fun v H1 ⟨a, xs, e1, hq, t⟩ => ra_nil ⟨a, xs, by rw [e1], hq, pturns_go walk_enumT h2 h2' t⟩) hsE
theorem rs_for_enumL (c : Ctx X N L k) (h : (x, j) ∈ L) (m : Own j) (hx : x ∈ N) (h' : (y, j') ∈ L) (m' : Own j') (hy : y ∈ N) (hg : (("enumerate" : Str), KN.glob) ∈ L) (hm : X.mg "enumerate" = none)
    (q : RE X e σ H fun v H1 => ∃ a xs, v = .ref a ∧ SqL X.K H1 a xs ∧ PTurns X N x y body D (fun H => SqL X.K H a xs) xs.length (fun i => some (.int (i : Nat))) (fun i => xs[i]?) σ H1)
    (hs : ∀ x, foldedSetIterable (.Call (.Name "enumerate" p1) [e] [] p2) X.env x = pure x := by intro _; with_unfolding_all rfl) (hsE : starEach [e] X.env = [(false, eval e X.env)] := by with_unfolding_all rfl)
    (hn : (assignEach [.Name x q0, .Name y q1] X.env).length = 2 := by with_unfolding_all rfl) (hst : (assignEach [.Name x q0, .Name y q1] X.env).findIdx? (·.1) = none := by with_unfolding_all rfl)
    (ha : (assignEach [.Name x q0, .Name y q1] X.env).map (·.2) = assign (.Name x q0) X.env :: (assignEach [.Name y q1] X.env).map (·.2) := by with_unfolding_all rfl) (hb : (assignEach [.Name y q1] X.env).map (·.2) = assign (.Name y q1) X.env :: (assignEach [] X.env).map (·.2) := by with_unfolding_all rfl) :
    RS X (.For (.Tuple [.Name x q0, .Name y q1] kt q2) (.Call (.Name "enumerate" p1) [e] [] p2) body [] pos) D σ H := by
  obtain ⟨i, g, h2⟩ := c.pg (p0 := q0) h m hx
  obtain ⟨i', g', h2'⟩ := c.pg (p0 := q1) h' m' hy
  refine rs_of (ps_for c.po c.calm (pi_enum (c.gl hg) hm PA.self hsE) (pg_tup (n := 2) c.calm (pgs_cons g (pgs_cons g' pgs_nil hb) ha) hn hst) PSs.self hs) ?_
  exact ra_cons (pe_mono q fun v H1 ⟨a, xs, e1, hq, t⟩ => ra_nil ⟨a, xs, by rw [e1], hq, pturns_go walk_enum h2 h2' t⟩) hsE
end
/-! ### texts -/
theorem cv_notInC {ch : Nat} {z : Str} (q : Q (.bl (!decide (ch ∈ z.cps.toList))) H) : CpV X .NotIn (.str ⟨#[ch]⟩) (.str z) H Q := ⟨⟨_, op_notIn_sign, ch, z, rfl, rfl, q⟩⟩
theorem cv_inC {ch : Nat} {z : Str} (q : Q (.bl (decide (ch ∈ z.cps.toList))) H) : CpV X .In (.str ⟨#[ch]⟩) (.str z) H Q := ⟨⟨_, op_in_sign, ch, z, rfl, rfl, q⟩⟩
theorem op_mulS : OpR X (binaryOp .Mult) (fun x y H Q => ∃ z n, x = .str z ∧ y = .int n ∧ MulOk z n ∧ Q (.str (Txt.mul z n)) H) := by
  intro pins s σ H x y v u Q I rx ry h
  obtain ⟨z, n, rfl, rfl, hok, q⟩ := h
  obtain ⟨t, rfl⟩ := rx
  obtain ⟨t', rfl⟩ := ry
  exact PySem.SB.mul hok fun t2 k => ⟨.str _, H, I.tok k, ⟨t2, rfl⟩, q⟩
theorem len_rep (a : Array Nat) : ∀ (n : Nat) (b : Array Nat), ((List.replicate n a).foldl (· ++ ·) b).size = b.size + n * a.size
  | 0, b => by simp
  | n + 1, b => by
    rw [List.replicate_succ, List.foldl_cons, len_rep a n (b ++ a), Array.size_append, Nat.succ_mul]
    omega
theorem len_mulS (z : Str) (n : Int) : (Txt.mul z n).length ≤ z.length * n.toNat := by
  unfold Txt.mul
  split
  · show 0 ≤ _
    exact Nat.zero_le _
  · rename_i h
    split
    · rename_i h2
      rcases (by simpa using h2 : n = 1 ∨ z.length = 0) with e | e
      · subst e
        simp
      · rw [e]
        exact Nat.zero_le _
    · show Array.size _ ≤ _
      rw [len_rep]
      show 0 + n.toNat * z.cps.size ≤ z.cps.size * n.toNat
      rw [Nat.mul_comm]
      omega
theorem mulOk_of {z : Str} {n : Int} (h1 : z.length ≤ 1000) (h2 : -1000 ≤ n) (h3 : n ≤ 1000) : MulOk z n := by
  refine ⟨?_, fun hn _ => ?_, fun hn _ => ?_⟩
  · rw [Bool.or_eq_false_iff]
    exact ⟨decide_eq_false (by omega), decide_eq_false (by omega)⟩
  · have h4 : (9223372036854775 : Int) ≤ (2 ^ 63 - 1) / n := by
      rw [Int.le_ediv_iff_mul_le (by omega)]
      omega
    omega
  · refine PyProof.Rows.short24 (Nat.le_trans (Nat.mul_le_mul h1 (show n.toNat ≤ 1000 by omega)) (by decide))
theorem ov_mulS {z : Str} {n : Int} (h1 : z.length ≤ 1000) (h2 : -1000 ≤ n) (h3 : n ≤ 1000) (q : ∀ w : Str, w.length ≤ z.length * n.toNat → Q (.str w) H) : OpV X .Mult (.str z) (.int n) H Q := ⟨⟨_, op_mulS, z, n, rfl, rfl, mulOk_of h1 h2 h3, q _ (len_mulS z n)⟩⟩
theorem re_upper {o : Expr} {apos : Pos} (q : RE X o σ H fun x H1 => ∃ a, x = .str a ∧ a.length ≤ 1000 ∧ ∀ w : Str, w.length ≤ 3 * a.length → Q (.str w) H1)
    (hbase : attributeBase o "upper" X.env (eval o X.env) = eval o X.env := by with_unfolding_all rfl) (hline : (apos.endLine == pos.line) = true := by with_unfolding_all rfl) : RE X (.Call (.Attribute o "upper" apos) [] [] pos) σ H Q :=
  re_of (pe_upper PE.self hbase hline) (pe_mono q fun x H1 ⟨a, e, h, q⟩ => ⟨⟨a, e⟩, a, e, rfl, by omega, q _ (PyProof.Rows.len_upper a)⟩)
/-! ### a number that stands in the module -/
theorem re_gint (c : Ctx X N L k) {x : Str} {i : Int} (h : (x, KN.glob) ∈ L) (hm : ∃ t, X.mg x = some (.int i t)) (q : Q (.int i) H) : RE X (.Name x pos) σ H Q := by
  obtain ⟨t, e⟩ := hm
  exact re_glob (v := .int i) c h e ⟨t, rfl⟩ q
end
/-! ### the first place at fault -/
def ff {α : Type} (p : Nat → α → Bool) : Nat → List α → Option Nat
  | _, [] => none
  | i, x :: r => if p i x = true then some i else ff p (i + 1) r
theorem ff_at {α : Type} {p : Nat → α → Bool} {l : List α} {i : Nat} {x : α} (h : l[i]? = some x) : ff p i (l.drop i) = if p i x = true then some i else ff p (i + 1) (l.drop (i + 1)) := by
  have hi : i < l.length := by
    rcases Nat.lt_or_ge i l.length with z | z
    · exact z
    · rw [List.getElem?_eq_none z] at h; cases h
  rw [List.drop_eq_getElem_cons hi]
  rw [List.getElem?_eq_getElem hi] at h
  rw [Option.some.inj h]
  rfl
theorem ff_end {α : Type} {p : Nat → α → Bool} {l : List α} : ff p l.length (l.drop l.length) = none := by
  rw [List.drop_length]
  rfl
def oI : Option Int → V
  | none => .non
  | some i => .int i
def oN (o : Option Nat) : Option Int := o.map fun n => (n : Int)
end GT
namespace K04
open PySem PySem.Spec PyProof.Rows L2 GT
def top (i : Nat) : Stmt := PySem.Challenge.pw_goodtill_k04_labels_and_names.main.body.getD i (.Pass ⟨0, 0, 0, 0⟩)
/-! label_fault -/
abbrev sq_label_fault : Stmt := top 16
abbrev nq_label_fault : List Str := ["value", "at", "letter"]
abbrev lq_label_fault : List (Str × KN) := [("value", .loc), ("isinstance", .glob), ("str", .glob), ("at", .loc), ("letter", .loc), ("enumerate", .glob), ("LABEL_LETTERS", .glob)]
theorem mq_label_fault : Nms sq_label_fault nq_label_fault ["value"] lq_label_fault := ⟨⟨rfl, rfl, rfl, by decide +kernel, rfl, by decide +kernel, by decide +kernel⟩, by decide +kernel, by decide +kernel, by decide +kernel⟩
/-! is_label -/
abbrev sq_is_label : Stmt := top 17
abbrev nq_is_label : List Str := ["value"]
abbrev lq_is_label : List (Str × KN) := [("value", .loc), ("label_fault", .glob)]
theorem mq_is_label : Nms sq_is_label nq_is_label ["value"] lq_is_label := ⟨⟨rfl, rfl, rfl, by decide +kernel, rfl, by decide +kernel, by decide +kernel⟩, by decide +kernel, by decide +kernel, by decide +kernel⟩
/-! check_label -/
abbrev sq_check_label : Stmt := top 18
abbrev nq_check_label : List Str := ["value", "fault"]
abbrev lq_check_label : List (Str × KN) := [("value", .loc), ("fault", .loc), ("label_fault", .glob), ("BadLabel", .glob)]
theorem mq_check_label : Nms sq_check_label nq_check_label ["value"] lq_check_label := ⟨⟨rfl, rfl, rfl, by decide +kernel, rfl, by decide +kernel, by decide +kernel⟩, by decide +kernel, by decide +kernel, by decide +kernel⟩
/-! name_fault -/
abbrev sq_name_fault : Stmt := top 19
abbrev nq_name_fault : List Str := ["value", "at", "label"]
abbrev lq_name_fault : List (Str × KN) := [("value", .loc), ("isinstance", .glob), ("tuple", .glob), ("len", .glob), ("at", .loc), ("label", .loc), ("enumerate", .glob), ("NAME_LABELS", .glob), ("is_label", .glob)]
theorem mq_name_fault : Nms sq_name_fault nq_name_fault ["value"] lq_name_fault := ⟨⟨rfl, rfl, rfl, by decide +kernel, rfl, by decide +kernel, by decide +kernel⟩, by decide +kernel, by decide +kernel, by decide +kernel⟩
/-! check_name -/
abbrev sq_check_name : Stmt := top 20
abbrev nq_check_name : List Str := ["value", "fault"]
abbrev lq_check_name : List (Str × KN) := [("value", .loc), ("fault", .loc), ("name_fault", .glob), ("BadName", .glob)]
theorem mq_check_name : Nms sq_check_name nq_check_name ["value"] lq_check_name := ⟨⟨rfl, rfl, rfl, by decide +kernel, rfl, by decide +kernel, by decide +kernel⟩, by decide +kernel, by decide +kernel, by decide +kernel⟩
/-! joined_name -/
abbrev sq_joined_name : Stmt := top 21
abbrev nq_joined_name : List Str := ["target", "rest"]
abbrev lq_joined_name : List (Str × KN) := [("target", .loc), ("rest", .loc), ("len", .glob), ("NAME_LABELS", .glob)]
theorem mq_joined_name : Nms sq_joined_name nq_joined_name ["target", "rest"] lq_joined_name := ⟨⟨rfl, rfl, rfl, by decide +kernel, rfl, by decide +kernel, by decide +kernel⟩, by decide +kernel, by decide +kernel, by decide +kernel⟩
/-! _law_box -/
abbrev sq_box : Stmt := top 23
abbrev nq_box : List Str := ["script", "k", "cell", "great"]
abbrev lq_box : List (Str × KN) := [("script", .loc), ("k", .loc), ("cell", .loc), ("len", .glob), ("abs", .glob), ("int", .glob), ("great", .loc)]
theorem mq_box : Nms sq_box nq_box ["script", "k"] lq_box := ⟨⟨rfl, rfl, rfl, by decide +kernel, rfl, by decide +kernel, by decide +kernel⟩, by decide +kernel, by decide +kernel, by decide +kernel⟩
/-! _law_take -/
abbrev sq_take : Stmt := top 24
abbrev nq_take : List Str := ["box", "many", "digit", "raw"]
abbrev lq_take : List (Str × KN) := [("box", .loc), ("many", .loc), ("digit", .loc), ("int", .glob), ("raw", .loc)]
theorem mq_take : Nms sq_take nq_take ["box", "many"] lq_take := ⟨⟨rfl, rfl, rfl, by decide +kernel, rfl, by decide +kernel, by decide +kernel⟩, by decide +kernel, by decide +kernel, by decide +kernel⟩
/-! _law_pick -/
abbrev sq_pick : Stmt := top 25
abbrev nq_pick : List Str := ["box", "some"]
abbrev lq_pick : List (Str × KN) := [("box", .loc), ("some", .loc), ("_law_take", .glob), ("len", .glob)]
theorem mq_pick : Nms sq_pick nq_pick ["box", "some"] lq_pick := ⟨⟨rfl, rfl, rfl, by decide +kernel, rfl, by decide +kernel, by decide +kernel⟩, by decide +kernel, by decide +kernel, by decide +kernel⟩
/-! _law_label -/
abbrev sq_label : Stmt := top 26
abbrev nq_label : List Str := ["box", "many", "some", "turn"]
abbrev lq_label : List (Str × KN) := [("box", .cell), ("many", .loc), ("_law_pick", .glob), ("some", .cell), ("range", .glob)]
theorem mq_label : Nms sq_label nq_label ["box"] lq_label := ⟨⟨rfl, rfl, rfl, by decide +kernel, rfl, by decide +kernel, by decide +kernel⟩, by decide +kernel, by decide +kernel, by decide +kernel⟩
abbrev lq_label_c0 : List (Str × KN) := [("turn", .loc), ("some", .cap), ("_law_take", .glob), ("box", .cap), ("len", .glob)]
/-! _law_sign -/
abbrev sq_sign : Stmt := top 27
abbrev nq_sign : List Str := ["box"]
abbrev lq_sign : List (Str × KN) := [("box", .loc), ("_law_pick", .glob)]
theorem mq_sign : Nms sq_sign nq_sign ["box"] lq_sign := ⟨⟨rfl, rfl, rfl, by decide +kernel, rfl, by decide +kernel, by decide +kernel⟩, by decide +kernel, by decide +kernel, by decide +kernel⟩
/-! _law_bent -/
abbrev sq_bent : Stmt := top 28
abbrev nq_bent : List Str := ["box", "label", "way", "spot", "long", "place"]
abbrev lq_bent : List (Str × KN) := [("box", .loc), ("label", .loc), ("way", .loc), ("spot", .loc), ("_law_take", .glob), ("len", .glob), ("_law_sign", .glob), ("_law_pick", .glob), ("long", .loc), ("place", .loc)]
theorem mq_bent : Nms sq_bent nq_bent ["box", "label"] lq_bent := ⟨⟨rfl, rfl, rfl, by decide +kernel, rfl, by decide +kernel, by decide +kernel⟩, by decide +kernel, by decide +kernel, by decide +kernel⟩
/-! _law_odd -/
abbrev sq_odd : Stmt := top 29
abbrev nq_odd : List Str := ["box"]
abbrev lq_odd : List (Str × KN) := [("box", .loc), ("_law_pick", .glob)]
theorem mq_odd : Nms sq_odd nq_odd ["box"] lq_odd := ⟨⟨rfl, rfl, rfl, by decide +kernel, rfl, by decide +kernel, by decide +kernel⟩, by decide +kernel, by decide +kernel, by decide +kernel⟩
/-! _law_text_fault -/
abbrev sq_text_fault : Stmt := top 30
abbrev nq_text_fault : List Str := ["value", "spot"]
abbrev lq_text_fault : List (Str × KN) := [("value", .loc), ("isinstance", .glob), ("str", .glob), ("len", .glob), ("spot", .loc), ("range", .glob)]
theorem mq_text_fault : Nms sq_text_fault nq_text_fault ["value"] lq_text_fault := ⟨⟨rfl, rfl, rfl, by decide +kernel, rfl, by decide +kernel, by decide +kernel⟩, by decide +kernel, by decide +kernel, by decide +kernel⟩
/-! _law_name_fault -/
abbrev sq_name_faultL : Stmt := top 31
abbrev nq_name_faultL : List Str := ["value", "spot"]
abbrev lq_name_faultL : List (Str × KN) := [("value", .loc), ("isinstance", .glob), ("tuple", .glob), ("len", .glob), ("spot", .loc), ("range", .glob), ("_law_text_fault", .glob)]
theorem mq_name_faultL : Nms sq_name_faultL nq_name_faultL ["value"] lq_name_faultL := ⟨⟨rfl, rfl, rfl, by decide +kernel, rfl, by decide +kernel, by decide +kernel⟩, by decide +kernel, by decide +kernel, by decide +kernel⟩
/-! _law_same -/
abbrev sq_same : Stmt := top 32
abbrev nq_same : List Str := ["told", "due", "is_kind", "one", "other"]
abbrev lq_same : List (Str × KN) := [("told", .loc), ("due", .loc), ("isinstance", .glob), ("tuple", .glob), ("list", .glob), ("is_kind", .loc), ("len", .glob), ("one", .loc), ("other", .loc), ("zip", .glob), ("_law_same", .glob), ("bool", .glob), ("int", .glob), ("str", .glob)]
theorem mq_same : Nms sq_same nq_same ["told", "due"] lq_same := ⟨⟨rfl, rfl, rfl, by decide +kernel, rfl, by decide +kernel, by decide +kernel⟩, by decide +kernel, by decide +kernel, by decide +kernel⟩
/-! _law_heard_label -/
abbrev sq_heard_label : Stmt := top 33
abbrev nq_heard_label : List Str := ["ask", "fault", "other"]
abbrev lq_heard_label : List (Str × KN) := [("ask", .loc), ("BadLabel", .glob), ("fault", .loc), ("other", .loc), ("isinstance", .glob), ("BadDeed", .glob), ("BadEvent", .glob), ("BadFraction", .glob), ("BadName", .glob), ("BadOctets", .glob), ("BadRoster", .glob), ("BadRun", .glob), ("BadText", .glob), ("BadView", .glob), ("Refused", .glob), ("OwnError", .glob), ("ValueError", .glob)]
theorem mq_heard_label : Nms sq_heard_label nq_heard_label ["ask"] lq_heard_label := ⟨⟨rfl, rfl, rfl, by decide +kernel, rfl, by decide +kernel, by decide +kernel⟩, by decide +kernel, by decide +kernel, by decide +kernel⟩
/-! _law_heard_name -/
abbrev sq_heard_name : Stmt := top 34
abbrev nq_heard_name : List Str := ["ask", "fault", "other"]
abbrev lq_heard_name : List (Str × KN) := [("ask", .loc), ("BadName", .glob), ("fault", .loc), ("other", .loc), ("isinstance", .glob), ("BadDeed", .glob), ("BadEvent", .glob), ("BadFraction", .glob), ("BadLabel", .glob), ("BadOctets", .glob), ("BadRoster", .glob), ("BadRun", .glob), ("BadText", .glob), ("BadView", .glob), ("Refused", .glob), ("OwnError", .glob), ("ValueError", .glob)]
theorem mq_heard_name : Nms sq_heard_name nq_heard_name ["ask"] lq_heard_name := ⟨⟨rfl, rfl, rfl, by decide +kernel, rfl, by decide +kernel, by decide +kernel⟩, by decide +kernel, by decide +kernel, by decide +kernel⟩
/-! _law_label_right -/
abbrev sq_label_right : Stmt := top 35
abbrev nq_label_right : List Str := ["value", "place", "due"]
abbrev lq_label_right : List (Str × KN) := [("value", .cell), ("place", .loc), ("_law_text_fault", .glob), ("due", .loc), ("_law_same", .glob), ("_law_heard_label", .glob)]
theorem mq_label_right : Nms sq_label_right nq_label_right ["value"] lq_label_right := ⟨⟨rfl, rfl, rfl, by decide +kernel, rfl, by decide +kernel, by decide +kernel⟩, by decide +kernel, by decide +kernel, by decide +kernel⟩
abbrev lq_label_right_l0 : List (Str × KN) := [("check_label", .glob), ("value", .cap)]
/-! _law_name_right -/
abbrev sq_name_right : Stmt := top 36
abbrev nq_name_right : List Str := ["value", "place", "due"]
abbrev lq_name_right : List (Str × KN) := [("value", .cell), ("place", .loc), ("_law_name_fault", .glob), ("due", .loc), ("_law_same", .glob), ("_law_heard_name", .glob)]
theorem mq_name_right : Nms sq_name_right nq_name_right ["value"] lq_name_right := ⟨⟨rfl, rfl, rfl, by decide +kernel, rfl, by decide +kernel, by decide +kernel⟩, by decide +kernel, by decide +kernel, by decide +kernel⟩
abbrev lq_name_right_l0 : List (Str × KN) := [("check_name", .glob), ("value", .cap)]
/-! _law_labels -/
abbrev sq_labels : Stmt := top 37
abbrev nq_labels : List Str := ["box", "many", "turn"]
abbrev lq_labels : List (Str × KN) := [("box", .cell), ("many", .loc), ("range", .glob)]
theorem mq_labels : Nms sq_labels nq_labels ["box", "many"] lq_labels := ⟨⟨rfl, rfl, rfl, by decide +kernel, rfl, by decide +kernel, by decide +kernel⟩, by decide +kernel, by decide +kernel, by decide +kernel⟩
abbrev lq_labels_c0 : List (Str × KN) := [("turn", .loc), ("_law_label", .glob), ("box", .cap)]
/-! _law_joined -/
abbrev sq_joined : Stmt := top 38
abbrev nq_joined : List Str := ["box", "target", "rest", "some", "due"]
abbrev lq_joined : List (Str × KN) := [("box", .loc), ("target", .loc), ("rest", .loc), ("_law_labels", .glob), ("_law_take", .glob), ("some", .loc), ("due", .loc), ("len", .glob), ("tuple", .glob), ("_law_same", .glob), ("joined_name", .glob)]
theorem mq_joined : Nms sq_joined nq_joined ["box"] lq_joined := ⟨⟨rfl, rfl, rfl, by decide +kernel, rfl, by decide +kernel, by decide +kernel⟩, by decide +kernel, by decide +kernel, by decide +kernel⟩
/-! _law_spoilt -/
abbrev sq_spoilt : Stmt := top 39
abbrev nq_spoilt : List Str := ["box", "labels", "found", "turn", "spot"]
abbrev lq_spoilt : List (Str × KN) := [("box", .loc), ("labels", .loc), ("_law_take", .glob), ("_law_pick", .glob), ("list", .glob), ("tuple", .glob), ("found", .loc), ("turn", .loc), ("range", .glob), ("spot", .loc), ("len", .glob), ("_law_odd", .glob), ("_law_bent", .glob)]
theorem mq_spoilt : Nms sq_spoilt nq_spoilt ["box", "labels"] lq_spoilt := ⟨⟨rfl, rfl, rfl, by decide +kernel, rfl, by decide +kernel, by decide +kernel⟩, by decide +kernel, by decide +kernel, by decide +kernel⟩
/-! law -/
abbrev sq_law : Stmt := top 40
abbrev nq_law : List Str := ["script", "value", "labels", "k", "box", "turn", "label"]
abbrev lq_law : List (Str × KN) := [("script", .loc), ("value", .loc), ("_law_label_right", .glob), ("_law_name_right", .glob), ("labels", .loc), ("tuple", .glob), ("k", .loc), ("range", .glob), ("max", .glob), ("min", .glob), ("len", .glob), ("box", .loc), ("_law_box", .glob), ("turn", .loc), ("label", .loc), ("_law_label", .glob), ("_law_bent", .glob), ("_law_odd", .glob), ("_law_labels", .glob), ("_law_take", .glob), ("_law_spoilt", .glob), ("_law_joined", .glob), ("_law_same", .glob), ("check_label", .glob), ("check_name", .glob)]
theorem mq_law : Nms sq_law nq_law ["script"] lq_law := ⟨⟨rfl, rfl, rfl, by decide +kernel, rfl, by decide +kernel, by decide +kernel⟩, by decide +kernel, by decide +kernel, by decide +kernel⟩
end K04
namespace K04
open PySem PySem.Spec PyProof.Rows L2 GT
local macro_rules | `(tactic| walk_at "gm") => `(tactic| with_reducible (repeat (first | exact List.mem_cons_self | apply List.mem_cons_of_mem)))
local macro_rules | `(tactic| walk_at "gs") => `(tactic| with_reducible (repeat (first | exact Slot.here | exact Put.here | apply Slot.there | apply Put.there)))
local macro_rules | `(tactic| walk_at "gCall") => `(tactic| first
  | (show RE _ (.Call (.Name "len" _) _ _ _) _ _ _; refine re_c_len (by assumption) (by walk_at "gm") (by assumption) ?_)
  | (show RE _ (.Call (.Name "isinstance" _) _ _ _) _ _ _; refine re_c_isinstance (by assumption) (by walk_at "gm") (by assumption) ?_)
  | (show RE _ (.Call (.Name "int" _) _ _ _) _ _ _; refine re_c_int (by assumption) (by walk_at "gm") (by assumption) ?_)
  | (show RE _ (.Call (.Name "abs" _) _ _ _) _ _ _; refine re_c_abs (by assumption) (by walk_at "gm") (by assumption) ?_)
  | (show RE _ (.Call (.Name "min" _) _ _ _) _ _ _; refine re_c_min (by assumption) (by walk_at "gm") (by assumption) ?_)
  | (show RE _ (.Call (.Name "max" _) _ _ _) _ _ _; refine re_c_max (by assumption) (by walk_at "gm") (by assumption) ?_)
  | (show RE _ (.Call (.Name "tuple" _) _ _ _) _ _ _; refine re_c_tuple (by assumption) (by walk_at "gm") (by assumption) ?_)
  | (show RE _ (.Call (.Name "list" _) _ _ _) _ _ _; refine re_c_list (by assumption) (by walk_at "gm") (by assumption) ?_))
local macro_rules | `(tactic| walk_at "gName") => `(tactic| first
  | refine re_name (by assumption) (by walk_at "gs") (by walk_at "gm") (by constructor) ?_
  | (show RE _ (.Name "int" _) _ _ _; refine re_ty_int (by assumption) (by walk_at "gm") (by assumption) ?_)
  | (show RE _ (.Name "bool" _) _ _ _; refine re_ty_bool (by assumption) (by walk_at "gm") (by assumption) ?_)
  | (show RE _ (.Name "str" _) _ _ _; refine re_ty_str (by assumption) (by walk_at "gm") (by assumption) ?_)
  | (show RE _ (.Name "tuple" _) _ _ _; refine re_ty_tuple (by assumption) (by walk_at "gm") (by assumption) ?_)
  | (show RE _ (.Name "list" _) _ _ _; refine re_ty_list (by assumption) (by walk_at "gm") (by assumption) ?_)
  | (show RE _ (.Name "ValueError" _) _ _ _; refine re_ty_ValueError (by assumption) (by walk_at "gm") (by assumption) ?_))
local macro_rules | `(tactic| walk_at "gRE") => `(tactic| first
  | (show RE _ (.Name _ _) _ _ _; walk_at "gName")
  | (show RE _ (.Constant _ _ _) _ _ _; first | refine re_int ?_ | refine re_str ?_ | refine re_non ?_ | refine re_bl ?_)
  | (show RE _ (.BinOp _ _ _ _) _ _ _; refine re_bin ?_)
  | (show RE _ (.Compare _ [_] [_] _) _ _ _; refine re_cmp ?_)
  | (show RE _ (.Subscript _ (.Slice _ _ _ _) _) _ _ _; refine re_slice ?_)
  | (show RE _ (.Subscript _ _ _) _ _ _; refine re_ix ?_)
  | (show RE _ (.Call (.Name _ _) _ _ _) _ _ _; walk_at "gCall")
  | (show RE _ (.Tuple _ _ _) _ _ _; refine re_tup ?_)
  | (show RE _ (.List _ _) _ _ _; refine re_lst ?_)
  | (show RE _ (.IfExp _ _ _ _) _ _ _; refine re_if ?_)
  | (show RE _ (.BoolOp _ _ _) _ _ _; first | refine re_one ?_ | refine re_and ?_ | refine re_or ?_)
  | (show RE _ (.UnaryOp _ _ _) _ _ _; first | refine re_not ?_ | refine re_neg ?_))
local macro_rules | `(tactic| walk_at "gRT") => `(tactic| first
  | (show RT _ (.Compare _ [_] [_] _) _ _ _; refine rt_cmp ?_)
  | (show RT _ (.BoolOp _ _ _) _ _ _; refine rt_bool ?_)
  | (show RT _ (.UnaryOp .Not _ _) _ _ _; refine rt_not ?_)
  | (show RT _ (.Call _ _ _ _) _ _ _; refine rt_val ?_)
  | (show RT _ (.Name _ _) _ _ _; refine rt_val ?_))
local macro_rules | `(tactic| walk_at "gRS") => `(tactic| first
  | (show RS _ (.Return (some _) _) _ _ _; refine rs_ret ?_)
  | (show RS _ (.If _ _ _ _) _ _ _; refine rs_if ?_)
  | (show RS _ (.Assign [.Subscript _ _ _] _ _) _ _ _; refine rs_sub ?_)
  | (show RS _ (.Assign [.Name _ _] (.ListComp _ _ _ _) _) _ _ _; fail)
  | (show RS _ (.Assign [.Name _ _] _ _) _ _ _; refine rs_set (by assumption) (by walk_at "gm") (by constructor) (by walk_at "gm") ?_)
  | (show RS _ (.Expr _ _) _ _ _; refine rs_expr ?_)
  | (show RS _ (.Pass _) _ _ _; refine rs_pass ?_)
  | (show RS _ (.Break _) _ _ _; refine rs_break ?_)
  | (show RS _ (.Continue _) _ _ _; refine rs_continue ?_))
local macro_rules | `(tactic| walk_at "gV") => `(tactic| first
  | (show OpV _ _ _ _ _ _; first | refine ov_add ?_ | refine ov_sub ?_ | refine ov_mulR (by decide) ?_ | refine ov_mulL (by decide) ?_ | refine ov_mod (by first | decide | assumption) ?_)
  | (show CpV _ _ _ _ _ _; first | refine cv_lt ?_ | refine cv_le ?_ | refine cv_gt ?_ | refine cv_ge ?_ | refine cv_eqI ?_ | refine cv_neI ?_ | refine cv_eqS ?_ | refine cv_neS ?_ | refine cv_isN_n ?_ | refine cv_isN_s ?_ | refine cv_isN_i ?_ | refine cv_isN_b ?_ | refine cv_isN_r ?_ | refine cv_notN_n ?_ | refine cv_notN_s ?_ | refine cv_notN_i ?_ | refine cv_notN_b ?_ | refine cv_notN_r ?_ | refine cv_ltS ?_ | refine cv_gtS ?_ | refine cv_isB_b ?_ | refine cv_isB_i ?_ | refine cv_isB_s ?_ | refine cv_isB_n ?_)
  | (show IxV _ _ _ _ _; first | refine iv_list (by assumption) (by with_unfolding_all exact rfl) ?_ | refine iv_list (SqL.of (by assumption)) (by with_unfolding_all exact rfl) ?_ | refine iv_tup (SqT.of (by assumption)) (by with_unfolding_all exact rfl) ?_)
  | (show ClV _ _ _ _ _; first | refine lv_isT_n (b := false) (by decide +kernel) ?_ | refine lv_isT_n (b := true) (by decide +kernel) ?_ | refine lv_isT_b (b := false) (by decide +kernel) ?_ | refine lv_isT_b (b := true) (by decide +kernel) ?_ | refine lv_isT_i (b := false) (by decide +kernel) ?_ | refine lv_isT_i (b := true) (by decide +kernel) ?_ | refine lv_isT_s (b := false) (by decide +kernel) ?_ | refine lv_isT_s (b := true) (by decide +kernel) ?_ | refine lv_isT_l (b := false) (by assumption) (by decide +kernel) ?_ | refine lv_isT_l (b := true) (by assumption) (by decide +kernel) ?_ | refine lv_isT_t (b := false) (by assumption) (by decide +kernel) ?_ | refine lv_isT_t (b := true) (by assumption) (by decide +kernel) ?_ | refine lv_int ?_ | refine lv_abs ?_ | refine lv_max (Ctx.calm (by assumption)) ?_ | refine lv_min (Ctx.calm (by assumption)) ?_))
local macro_rules | `(tactic| walk_at "e1") => `(tactic| with_reducible first
  | (show RE _ _ _ _ _; walk_at "gRE")
  | (show RA _ _ _ _ _; first | refine ra_cons ?_ | refine ra_nil ?_)
  | (show RT _ _ _ _ _; walk_at "gRT")
  | (show RW _ _ _ _ _; first | refine rw_and1 ?_ | refine rw_or1 ?_ | refine rw_and ?_ | refine rw_or ?_)
  | (show RS _ _ _ _ _; walk_at "gRS")
  | refine rb_nil ?_
  | (show RO _ _ _ _ _; first | refine ro_none ?_ | refine ro_some ?_)
  | (show if true = true then _ else _; refine iteT ?_)
  | (show if false = true then _ else _; refine iteF ?_)
  | (show if (!true) = true then _ else _; refine iteNT ?_)
  | (show if (!false) = true then _ else _; refine iteNF ?_)
  | walk_at "gV"
  | refine ⟨_, rfl, ?_⟩
  | refine ⟨_, by walk_at "gs", ?_⟩)
local macro_rules | `(tactic| walk_at "e") => `(tactic| repeat walk_at "e1")
local macro_rules | `(tactic| walk_at "g1") => `(tactic| first | walk_at "e1" | with_reducible refine rb_cons ?_)
local macro_rules | `(tactic| walk_at "g") => `(tactic| repeat walk_at "g1")
local macro_rules | `(tactic| walk_at "g0") => `(tactic| (refine rb_cons ?_; walk_at "g"))
local macro_rules | `(tactic| walk_at "e0") => `(tactic| (refine rb_cons ?_; walk_at "e"))
/-- a draw: below many -/
def spTake : Sp := fun vs H Q _ => ∃ (b : Addr) (n : Int), vs = [.ref b, .int n] ∧ BoxAt H b ∧ 0 < n ∧ n < 2 ^ 31 ∧
  ∀ (d : Int) (H' : Hp), 0 ≤ d → d < n → Fr (· = b) H H' → BoxAt H' b → Q (.int d) H'
theorem fr_box {H : Hp} {b : Addr} {o : HO} : Fr (· = b) H (upd H b o) := fun a u n e => by
  rw [upd_ne n]
  exact e
theorem body_take {X : Cx} (c : Ctx X nq_take lq_take 0) (zi : X.mg "int" = none) {vs : List V} {H : Hp} {Q : VK} {E : XK} (h : spTake vs H Q E) : RB X (defBody sq_take) { nx := fun _ H' => Q .non H', rt := Q } (start nq_take vs) H := by
  obtain ⟨b, n, rfl, hB, h0, h1, q⟩ := h
  obtain ⟨g, r, hb, g0, r0, r1⟩ := id hB
  show RB X (defBody sq_take) _ [some (.ref b), some (.int n), none, none] H
  walk_at "g0"
  refine ite2 (fun e => ?_) (fun e => ?_)
  · walk_at "g"
    refine ov_fdiv (wide_div (b := 32) h0 (by omega) (by decide) (by decide)) ?_
    walk_at "g"
    refine ⟨b, [.int g, .int r], 0, 0, rfl, rfl, hb, rfl, ?_⟩
    walk_at "g"
    exact q _ _ (Int.emod_nonneg _ (by omega)) (Int.emod_lt_of_pos _ h0) fr_box ⟨g / n, r, upd_same, Int.ediv_nonneg g0 (by omega), r0, r1⟩
  · walk_at "g"
    refine ⟨b, [.int g, .int r], 1, 1, rfl, rfl, hb, rfl, ?_⟩
    walk_at "g"
    refine iv_list (SqL.of upd_same) (by exact rfl) ?_
    walk_at "g"
    refine ov_fdiv (wide_div (b := 32) (by decide) (by decide) (by decide) (by decide)) ?_
    walk_at "g"
    have m1 : ∀ z : Int, 0 ≤ z % 2147483563 + 1 ∧ z % 2147483563 + 1 < 2 ^ 32 := fun z => by omega
    exact q _ _ (Int.emod_nonneg _ (by omega)) (Int.emod_lt_of_pos _ h0) fr_box ⟨g, _, upd_same, g0, (m1 _).1, (m1 _).2⟩
/-- an item of a list, or a sign of a text, by a draw -/
def spPick (K : PySem.W.Frag) : Sp := fun vs H Q _ => ∃ (b : Addr), BoxAt H b ∧
  ((∃ p xs, vs = [.ref b, .ref p] ∧ H p = some (.lst xs) ∧ p ≠ b ∧ 0 < xs.length ∧ xs.length < 2 ^ 31 ∧ ∀ v H', v ∈ xs → Fr (· = b) H H' → BoxAt H' b → Q v H'))
theorem mem_at {α : Type} {xs : List α} {d : Int} (h0 : 0 ≤ d) (h1 : d < (xs.length : Int)) : ∃ v, atI xs d = some v ∧ v ∈ xs := by
  have h2 : d.toNat < xs.length := by omega
  refine ⟨xs[d.toNat], ?_, List.getElem_mem h2⟩
  unfold atI ixN
  rw [if_pos h0, if_pos h1]
  show xs[d.toNat]? = _
  rw [List.getElem?_eq_getElem h2]
theorem body_pick {X : Cx} (c : Ctx X nq_pick lq_pick 1) (zl : X.mg "len" = none) (dT : DefP X.prog X.w X.K X.mg X.base CX0 "_law_take" ["box", "many"] 1 spTake) {vs : List V} {H : Hp} {Q : VK} {E : XK} (h : spPick X.K vs H Q E) :
    RB X (defBody sq_pick) { nx := fun _ H' => Q .non H', rt := Q } (start nq_pick vs) H := by
  obtain ⟨b, hB, p, xs, rfl, hp, hpb, h0, h1, q⟩ := h
  show RB X (defBody sq_pick) _ [some (.ref b), some (.ref p)] H
  walk_at "g0"
  refine re_call c dT (by decide) (by walk_at "gm") ?_
  walk_at "g"
  refine lv_lenL (SqL.of hp) ?_
  walk_at "g"
  refine ⟨b, _, rfl, hB, by omega, by omega, fun d H' d0 d1 f hB' => ?_⟩
  obtain ⟨v, hv, hm⟩ := mem_at (xs := xs) d0 d1
  exact iv_list (SqL.of (f _ _ hpb hp)) hv (q v H' hm f hB')
/-- the box of a draw -/
def spBox (K : PySem.W.Frag) : Sp := fun vs H Q _ => ∃ (a : Addr) (ns : List Int) (k : Int), vs = [.ref a, .int k] ∧ SqL K H a (ns.map V.int) ∧ ns.length ≤ 63 ∧ 0 ≤ k ∧ k < 1000 ∧
  ∀ p H', H p = none → Fr NoB H H' → BoxAt H' p → Q (.ref p) H'
theorem body_box {X : Cx} (c : Ctx X nq_box lq_box 0) (zl : X.mg "len" = none) (zi : X.mg "int" = none) (za : X.mg "abs" = none) {vs : List V} {H : Hp} {Q : VK} {E : XK} (h : spBox X.K vs H Q E) :
    RB X (defBody sq_box) { nx := fun _ H' => Q .non H', rt := Q } (start nq_box vs) H := by
  obtain ⟨a, ns, k, rfl, hS, h63, k0, k1, q⟩ := h
  have lm : (ns.map V.int).length = ns.length := List.length_map _
  have item : ∀ i : Int, 0 ≤ i → i < (ns.length : Int) → ∃ v, atI (ns.map V.int) i = some (.int v) := fun i h0 h1 => by
    obtain ⟨v, h2, h3⟩ := mem_at (xs := ns.map V.int) h0 (by rw [lm]; exact h1)
    obtain ⟨w, _, e⟩ := List.mem_map.mp h3
    exact ⟨w, by rw [h2, e]⟩
  have fin : ∀ g z : Int, 0 ≤ g → ∀ p, H p = none → Q (.ref p) (upd H p (.lst [.int g, .int (z % 2147483563 + 1)])) := fun g z hg p hp =>
    q p _ hp (Fr.new hp) ⟨g, _, upd_same, hg, by omega, by omega⟩
  -- behind the choice of the cell
  have rest : ∀ cell : Int, 0 ≤ cell → RB X (List.drop 2 (defBody sq_box)) { nx := fun _ H' => Q .non H', rt := Q } [some (.ref a), some (.int k), some (.int cell), none] H := fun cell hc => by
    walk_at "g0"
    refine ov_pow ⟨by decide, by decide, by decide⟩ ?_
    walk_at "g"
    refine ite2 (fun e => ?_) (fun e => ?_)
    · walk_at "g"
      exact ⟨by show 2 ≤ sizeLine; decide, fun p hp => fin _ _ hc p hp⟩
    · walk_at "g"
      exact ⟨by show 2 ≤ sizeLine; decide, fun p hp => fin _ _ (by decide) p hp⟩
  show RB X (defBody sq_box) _ [some (.ref a), some (.int k), none, none] H
  walk_at "g0"
  refine lv_lenL hS ?_
  walk_at "g"
  refine ite2 (fun e => ?_) (fun e => ?_)
  · obtain ⟨v, hv⟩ := item k k0 (by rw [lm] at e; exact of_decide_eq_true e)
    walk_at "g"
    refine iv_list hS hv ?_
    walk_at "e"
    exact rest _ (by split <;> omega)
  · walk_at "g"
    refine lv_lenL hS ?_
    walk_at "g"
    refine ite2 (fun e => ?_) (fun e => ?_)
    · rw [lm] at e
      have hn : (0 : Int) < ns.length := of_decide_eq_true e
      obtain ⟨v, hv⟩ := item (k % ns.length) (Int.emod_nonneg _ (by omega)) (Int.emod_lt_of_pos _ hn)
      walk_at "g"
      refine lv_lenL hS ?_
      rw [lm]
      walk_at "g"
      refine iv_list hS hv ?_
      walk_at "e"
      exact rest _ (by omega)
    · walk_at "e"
      exact rest _ (by omega)
/-- signs put together -/
theorem joined_signs (cs : List Nat) : Txt.join "" (cs.map fun c => (⟨#[c]⟩ : Str)) = ⟨cs.toArray⟩ := by
  have e := TL.tl_join "" (cs.map fun c => (⟨#[c]⟩ : Str))
  have h : ∀ l : List (List Nat), TL.joinL (TL.tl "") l = l.flatten := fun l => by
    have e0 : TL.tl ("" : Str) = [] := by decide +kernel
    rw [e0]
    induction l with
    | nil => rfl
    | cons p r ih =>
      cases r with
      | nil => simp [TL.joinL]
      | cons q r =>
        show p ++ ([] ++ TL.joinL [] (q :: r)) = _
        rw [ih, List.nil_append]
        rfl
  rw [h, List.map_map] at e
  have e2 : ∀ l : List Nat, (List.map (TL.tl ∘ fun c => (⟨#[c]⟩ : Str)) l).flatten = l := fun l => by
    have e3 : (TL.tl ∘ fun c => (⟨#[c]⟩ : Str)) = fun c => [c] := by funext c; rfl
    rw [e3]
    induction l with
    | nil => rfl
    | cons c r ih => simpa using ih
  rw [e2] at e
  refine TL.ext_tl ?_
  rw [TL.join_eq]
  exact e
def isIn (lo hi : Int) : V → Bool
  | .int i => decide (lo ≤ i) && decide (i ≤ hi)
  | _ => false
def isLow : V → Bool
  | .str s => s.cps.toList.all (fun c => decide (97 ≤ c) && decide (c ≤ 122)) && decide (0 < s.length) && decide (s.length ≤ 30)
  | _ => false
theorem isIn_of {lo hi : Int} {v : V} (h : isIn lo hi v = true) : ∃ i, v = .int i ∧ lo ≤ i ∧ i ≤ hi := by
  cases v <;> simp [isIn] at h
  exact ⟨_, rfl, h.1, h.2⟩
theorem isLow_of {v : V} (h : isLow v = true) : ∃ s, v = .str s ∧ Low s ∧ 0 < s.length ∧ s.length ≤ 30 := by
  cases v with
  | str s =>
    unfold isLow at h
    rw [Bool.and_eq_true, Bool.and_eq_true] at h
    obtain ⟨⟨h1, h2⟩, h3⟩ := h
    refine ⟨s, rfl, fun c hc => ?_, of_decide_eq_true h2, of_decide_eq_true h3⟩
    have := List.all_eq_true.mp h1 c hc
    simpa using this
  | _ => cases h
theorem sz30 {n : Nat} (h : n ≤ 100000) : n ≤ sizeLine := Nat.le_trans h (by decide)
def spLabel : Sp := fun vs H Q _ => ∃ b : Addr, vs = [.ref b] ∧ BoxAt H b ∧ ∀ z H', Lab z → Fr (· = b) H H' → BoxAt H' b → Q (.str z) H'
theorem body_label {X : Cx} (c : Ctx X nq_label lq_label 2) (zl : X.mg "len" = none) (zr : X.mg "range" = none) (dT : DefP X.prog X.w X.K X.mg X.base CX0 "_law_take" ["box", "many"] 1 spTake)
    (dP : DefP X.prog X.w X.K X.mg X.base CX0 "_law_pick" ["box", "some"] 2 (spPick X.K)) {vs : List V} {H : Hp} {Q : VK} {E : XK} (h : spLabel vs H Q E) : RB X (defBody sq_label) { nx := fun _ H' => Q .non H', rt := Q } (start nq_label vs) H := by
  obtain ⟨b, rfl, hB, q⟩ := h
  show RB X (defBody sq_label) _ [some (.ref b), none, none, none] H
  walk_at "g0"
  refine re_call c dP (by decide) (by walk_at "gm") ?_
  walk_at "g"
  refine ⟨by decide, fun p hp => ?_⟩
  walk_at "g"
  refine ⟨b, hB.fr (Fr.new hp), p, _, rfl, upd_same, hB.ne hp, by decide, by decide, fun v H1 hv f1 hB1 => ?_⟩
  obtain ⟨many, rfl, m1, m8⟩ := isIn_of (List.all_eq_true.mp (by decide : ([.int 1, .int 1, .int 2, .int 3, .int 4, .int 5, .int 7, .int 8, .int 8] : List V).all (isIn 1 8) = true) v hv)
  walk_at "g"
  refine re_call c dP (by decide) (by walk_at "gm") ?_
  walk_at "g"
  refine ⟨by decide, fun p2 hp2 => ?_⟩
  walk_at "g"
  refine ⟨b, hB1.fr (Fr.new hp2), p2, _, rfl, upd_same, hB1.ne hp2, by decide, by decide, fun v H2 hv f2 hB2 => ?_⟩
  obtain ⟨z, rfl, sl, s0, s30⟩ := isLow_of (List.all_eq_true.mp (by decide +kernel : ([.str "abz", .str "az", .str "z", .str "a", .str "mn", .str "abcdefghijklmnopqrstuvwxyz", .str "abcdefghijklmnopqrstuvwxyz"] : List V).all isLow = true) v hv)
  walk_at "g"
  refine re_join ?_
  walk_at "g"
  refine re_lc_range c lq_label_c0 (by decide +kernel) (by walk_at "gm") zr ?_
  walk_at "g"
  refine ⟨by omega, by omega, fun Dn hD => ?_⟩
  have ff : Fr (· = b) H H2 := ((Fr.new hp).trans f1).trans ((Fr.new hp2).trans f2)
  refine ⟨fun i H' => ∃ cs : List Nat, cs.length = i ∧ (∀ c ∈ cs, 97 ≤ c ∧ c ≤ 122) ∧ H' Dn = some (.lst (cs.map fun c => V.str ⟨#[c]⟩)) ∧ BoxAt H' b ∧ Fr (· = b) H H', ⟨[], rfl, by simp, upd_same, hB2.fr (Fr.new hD), ff.trans (Fr.new hD)⟩, fun _ _ _ _ => trivial, ?_, ?_⟩
  · rintro i y H' hi rfl ⟨cs, h1, h2, h3, h4, h5⟩
    refine ⟨_, by walk_at "gs", fun s Hb C cl fp cb => rts_nil (iteT fun s Hb C cl fp cb => ?_)⟩
    walk_at "g"
    refine re_call cb dT (by decide) (by walk_at "gm") ?_
    walk_at "g"
    refine lv_lenS (sz30 (by omega)) ?_
    walk_at "g"
    refine ⟨b, _, rfl, h4, by omega, by omega, fun d H'' d0 d1 f3 hB3 => ?_⟩
    obtain ⟨n, hn, hm⟩ := mem_at (xs := z.cps.toList) d0 (by simpa [Str.length] using d1)
    refine iv_str (sz30 (by omega)) hn ?_
    have e : Dn ≠ b := hB2.ne hD
    refine ⟨_, f3 _ _ e h3, by rw [List.length_map]; exact Nat.lt_of_le_of_lt (by omega : cs.length ≤ 8) (by decide), cs ++ [n], by simp [h1], ?_, ?_, ?_, ?_⟩
    · intro c hc
      rcases List.mem_append.mp hc with z | z
      · exact h2 c z
      · obtain rfl := List.mem_singleton.mp z
        exact sl _ hm
    · rw [upd_same, List.map_append]
      rfl
    · exact hB3.put e
    · exact (h5.trans f3).put (ff.gone e hD)
  · rintro H' ⟨cs, h1, h2, h3, h4, h5⟩
    have h8 : cs.length ≤ 8 := by omega
    refine ⟨Dn, cs.map fun c => ⟨#[c]⟩, rfl, .inl (SqL.of ?_), ?_, ?_⟩
    · rw [h3, List.map_map]
      rfl
    · have e1 : (List.map (fun x : Str => x.length) (List.map (fun c => (⟨#[c]⟩ : Str)) cs)).sum = cs.length := by
        rw [List.map_map]
        clear h1 h2 h3 h8
        induction cs with
        | nil => rfl
        | cons c r ih =>
          rw [List.map_cons, List.sum_cons, ih, List.length_cons]
          show 1 + r.length = _
          omega
      rw [e1, List.length_map]
      have e2 : ("" : Str).length = 0 := by decide +kernel
      rw [e2]
      omega
    · rw [joined_signs]
      refine q _ _ ⟨?_, ?_, fun c hc => h2 c (by simpa using hc)⟩ h5 h4
      · show 1 ≤ cs.toArray.size
        simp
        omega
      · show cs.toArray.size ≤ 8
        simp
        omega
theorem at_nat {α : Type} {xs : List α} {i : Nat} {v : α} (h : xs[i]? = some v) : atI xs (i : Int) = some v := by
  have h2 : i < xs.length := by
    rcases Nat.lt_or_ge i xs.length with z | z
    · exact z
    · rw [List.getElem?_eq_none z] at h; cases h
  unfold atI ixN
  rw [if_pos (Int.natCast_nonneg i), if_pos (by omega)]
  exact h
/-! ### labels and names -/
def badC (i c : Nat) : Bool := decide (i = 8) || (decide (c < 97) || decide (122 < c))
def tf : D → Option Int
  | .str s => if s.length = 0 then some (-1) else oN (ff badC 0 s.cps.toList)
  | _ => some (-1)
def badL (i : Nat) (d : D) : Bool := decide (i = 6) || (tf d).isSome
def nf : D → Option Int
  | .tup ds => if ds.length = 0 then some (-1) else oN (ff badL 0 ds)
  | _ => some (-1)
/-- texts not too long -/
def Sm (d : D) : Prop := ∀ s, d = .str s → s.length ≤ 1000
def SmN (d : D) : Prop := ∀ ds, d = .tup ds → ds.length ≤ 1000 ∧ ∀ e ∈ ds, Sm e
theorem lt_a (ch : Nat) : decide ((⟨#[ch]⟩ : Str).cps.toList < ("a" : Str).cps.toList) = decide (ch < 97) := by
  have e : ("a" : Str).cps.toList = [97] := by decide +kernel
  rw [e]
  show decide ([ch] < [97]) = _
  rw [decide_eq_decide, List.cons_lt_cons_iff]
  simp
theorem gt_z (ch : Nat) : decide (("z" : Str).cps.toList < (⟨#[ch]⟩ : Str).cps.toList) = decide (122 < ch) := by
  have e : ("z" : Str).cps.toList = [122] := by decide +kernel
  rw [e]
  show decide ([122] < [ch]) = _
  rw [decide_eq_decide, List.cons_lt_cons_iff]
  simp
theorem len0 {s : Str} : s.length = 0 ↔ s = "" := by
  constructor
  · intro h
    have h2 : s.cps.size = 0 := h
    refine TL.ext_tl ?_
    have e : TL.tl ("" : Str) = [] := by decide +kernel
    rw [e]
    show s.cps.toList = []
    exact List.eq_nil_of_length_eq_zero (by simpa using h2)
  · rintro rfl
    decide +kernel
def spLF (K : PySem.W.Frag) : Sp := fun vs H Q _ => ∃ (B : Addr → Prop) (v : V) (d : D), vs = [v] ∧ Dt K B H v d ∧ Sm d ∧ ∀ H', Fr NoB H H' → Q (oI (tf d)) H'
theorem body_label_fault {X : Cx} (c : Ctx X nq_label_fault lq_label_fault 0) (zi : X.mg "isinstance" = none) (zs : X.mg "str" = none) (ze : X.mg "enumerate" = none) (gl : ∃ t, X.mg "LABEL_LETTERS" = some (.int 8 t)) {vs : List V} {H : Hp} {Q : VK} {E : XK} (h : spLF X.K vs H Q E) :
    RB X (defBody sq_label_fault) { nx := fun _ H' => Q .non H', rt := Q } (start nq_label_fault vs) H := by
  obtain ⟨B, v, d, rfl, hv, hs, q⟩ := h
  cases hv with
  | non =>
    show RB X (defBody sq_label_fault) _ [some .non, none, none] H
    walk_at "g0"
    exact q H Fr.refl
  | bl =>
    rename_i b
    show RB X (defBody sq_label_fault) _ [some (.bl b), none, none] H
    walk_at "g0"
    exact q H Fr.refl
  | int =>
    rename_i b
    show RB X (defBody sq_label_fault) _ [some (.int b), none, none] H
    walk_at "g0"
    exact q H Fr.refl
  | @lst a vs ds n t l hh =>
    show RB X (defBody sq_label_fault) _ [some (.ref a), none, none] H
    walk_at "g0"
    exact q H Fr.refl
  | @tup a vs ds n t l hh =>
    show RB X (defBody sq_label_fault) _ [some (.ref a), none, none] H
    walk_at "g0"
    exact q H Fr.refl
  | str =>
    rename_i s
    have s1000 := hs s rfl
    show RB X (defBody sq_label_fault) _ [some (.str s), none, none] H
    walk_at "e0"
    refine ite2 (fun e => ?_) (fun e => ?_)
    · walk_at "g"
      have e1 : tf (.str s) = some (-1) := if_pos (len0.mpr (of_decide_eq_true e))
      have q1 := q H Fr.refl
      rw [e1] at q1
      exact q1
    · walk_at "e"
      have ne : s.length ≠ 0 := fun z => by rw [len0] at z; simp [z] at e
      have q1 : ∀ H', Fr NoB H H' → Q (oI (oN (ff badC 0 s.cps.toList))) H' := fun H' f => by
        have e1 : tf (.str s) = oN (ff badC 0 s.cps.toList) := if_neg ne
        have q2 := q H' f
        rw [e1] at q2
        exact q2
      have es : s.cps.size = s.cps.toList.length := by simp
      refine rb_cons ?_
      refine rs_for_enumS c (by walk_at "gm") .loc (by walk_at "gm") (by walk_at "gm") .loc (by walk_at "gm") (by walk_at "gm") ze ?_
      walk_at "e"
      refine ⟨fun i σ H' => Fr NoB H H' ∧ ff badC 0 s.cps.toList = ff badC i (s.cps.toList.drop i) ∧ ∃ s1 s2 : Option V, σ = [some (.str s), s1, s2], ⟨Fr.refl, rfl, none, none, rfl⟩, fun _ _ _ _ _ => trivial, ?_, ?_⟩
      · rintro i a b σ H' T hi ea eb ⟨f, hff, s1, s2, rfl⟩ hT
        cases ea
        obtain ⟨ch, hc, rfl⟩ : ∃ ch, s.cps.toList[i]? = some ch ∧ V.str ⟨#[ch]⟩ = b := by
          have eb : Option.map (fun c => V.str ⟨#[c]⟩) s.cps[i]? = some b := eb
          cases hh : s.cps[i]? with
          | none => rw [hh] at eb; cases eb
          | some ch => rw [hh] at eb; exact ⟨ch, by simpa using hh, Option.some.inj eb⟩
        have f2 := f.trans (Fr.new (o := .tup [.int (i : Nat), .str ⟨#[ch]⟩]) hT)
        generalize upd H' T (.tup [.int (i : Nat), .str ⟨#[ch]⟩]) = H2 at f2
        have hst := ff_at (p := badC) hc
        have bad : badC i ch = true → Q (.int (i : Nat)) H2 := fun z => by
          have q2 := q1 H2 f2
          rw [hff, hst, if_pos z] at q2
          exact q2
        refine ⟨_, _, by walk_at "gs", by walk_at "gs", ?_⟩
        walk_at "e0"
        refine re_gint c (by walk_at "gm") gl ?_
        walk_at "e"
        refine ite2 (fun e1 => ?_) (fun e1 => ?_)
        · walk_at "g"
          exact bad (by unfold badC; rw [decide_eq_true (by have := of_decide_eq_true e1; omega)]; rfl)
        · walk_at "e"
          rw [lt_a]
          refine ite2 (fun e2 => ?_) (fun e2 => ?_)
          · walk_at "g"
            exact bad (by unfold badC; rw [e2]; simp)
          · walk_at "e"
            rw [gt_z]
            refine ite2 (fun e3 => ?_) (fun e3 => ?_)
            · walk_at "g"
              exact bad (by unfold badC; rw [e3]; simp)
            · walk_at "g"
              refine ⟨f2, ?_, _, _, rfl⟩
              have z : badC i ch = false := by
                unfold badC
                rw [Bool.eq_false_iff.mpr e2, Bool.eq_false_iff.mpr e3, decide_eq_false (fun z => e1 (decide_eq_true (by omega)))]
                rfl
              rw [hff, hst, if_neg (by rw [z]; exact Bool.false_ne_true)]
      · rintro σ H' ⟨f, hff, s1, s2, rfl⟩
        walk_at "g"
        have q2 := q1 H' f
        rw [hff, es, ff_end] at q2
        exact q2
def spIL (K : PySem.W.Frag) : Sp := fun vs H Q _ => ∃ (B : Addr → Prop) (v : V) (d : D), vs = [v] ∧ Dt K B H v d ∧ Sm d ∧ ∀ H', Fr NoB H H' → Q (.bl (tf d).isNone) H'
theorem body_is_label {X : Cx} (c : Ctx X nq_is_label lq_is_label 1) (dF : DefP X.prog X.w X.K X.mg X.base CX0 "label_fault" ["value"] 1 (spLF X.K)) {vs : List V} {H : Hp} {Q : VK} {E : XK} (h : spIL X.K vs H Q E) :
    RB X (defBody sq_is_label) { nx := fun _ H' => Q .non H', rt := Q } (start nq_is_label vs) H := by
  obtain ⟨B, v, d, rfl, hv, hs, q⟩ := h
  show RB X (defBody sq_is_label) _ [some v] H
  walk_at "e0"
  refine re_call c dF (by decide) (by walk_at "gm") ?_
  walk_at "e"
  refine ⟨B, v, d, rfl, hv, hs, fun H' f => ?_⟩
  have q1 := q H' f
  walk_at "e"
  cases hd : tf d with
  | none =>
    rw [hd] at q1
    show CpV _ _ V.non V.non _ _
    walk_at "g"
    exact q1
  | some i =>
    rw [hd] at q1
    show CpV _ _ (V.int i) V.non _ _
    walk_at "g"
    exact q1
/-- a check: the very value, or the class with its place -/
def spCk (K : PySem.W.Frag) (C : Addr) (fu : D → Option Int) (ok : D → Prop) : Sp := fun vs H Q E => ∃ (B : Addr → Prop) (v : V) (d : D), vs = [v] ∧ Dt K B H v d ∧ ok d ∧
  (fu d = none → ∀ H', Fr NoB H H' → Q v H') ∧ (∀ i, fu d = some i → ∀ H' x, Fr NoB H H' → H' x = none → E (.ref C) (some x) (upd H' x (.xd [("at", .int i)])))
theorem body_check_label {X : Cx} (c : Ctx X nq_check_label lq_check_label 2) {CL : Addr} (EC : ErrC X.prog X.w X.K X.mg X.base "BadLabel" "at" CL) (dF : DefP X.prog X.w X.K X.mg X.base CX0 "label_fault" ["value"] 1 (spLF X.K)) {vs : List V} {H : Hp} {Q : VK} {E : XK} (tk : Takes X (fun cls d _ H' => E cls d H'))
    (h : spCk X.K CL tf Sm vs H Q E) : RB X (defBody sq_check_label) { nx := fun _ H' => Q .non H', rt := Q } (start nq_check_label vs) H := by
  obtain ⟨B, v, d, rfl, hv, hs, q, qe⟩ := h
  show RB X (defBody sq_check_label) _ [some v, none] H
  walk_at "e0"
  refine re_call c dF (by decide) (by walk_at "gm") ?_
  walk_at "e"
  refine ⟨B, v, d, rfl, hv, hs, fun H' f => ?_⟩
  walk_at "e"
  walk_at "e0"
  cases hd : tf d with
  | none =>
    show CpV _ _ V.non V.non _ _
    walk_at "g"
    exact q hd _ f
  | some i =>
    show CpV _ _ (V.int i) V.non _ _
    walk_at "e"
    refine rb_cons ?_
    refine rs_raise c EC (by decide) (by walk_at "gm") tk ?_
    walk_at "e"
    exact fun x hx => qe i hd _ x f hx
def spNF (K : PySem.W.Frag) : Sp := fun vs H Q _ => ∃ (B : Addr → Prop) (v : V) (d : D), vs = [v] ∧ Dt K B H v d ∧ SmN d ∧ ∀ H', Fr NoB H H' → Q (oI (nf d)) H'
theorem body_name_fault {X : Cx} (c : Ctx X nq_name_fault lq_name_fault 2) (zi : X.mg "isinstance" = none) (zl : X.mg "len" = none) (zt : X.mg "tuple" = none) (ze : X.mg "enumerate" = none) (gl : ∃ t, X.mg "NAME_LABELS" = some (.int 6 t))
    (dI : DefP X.prog X.w X.K X.mg X.base CX0 "is_label" ["value"] 2 (spIL X.K)) {vs : List V} {H : Hp} {Q : VK} {E : XK} (h : spNF X.K vs H Q E) :
    RB X (defBody sq_name_fault) { nx := fun _ H' => Q .non H', rt := Q } (start nq_name_fault vs) H := by
  obtain ⟨B, v, d, rfl, hv, hs, q⟩ := h
  cases hv with
  | non =>
    show RB X (defBody sq_name_fault) _ [some .non, none, none] H
    walk_at "g0"
    exact q H Fr.refl
  | bl =>
    rename_i b
    show RB X (defBody sq_name_fault) _ [some (.bl b), none, none] H
    walk_at "g0"
    exact q H Fr.refl
  | int =>
    rename_i b
    show RB X (defBody sq_name_fault) _ [some (.int b), none, none] H
    walk_at "g0"
    exact q H Fr.refl
  | str =>
    rename_i b
    show RB X (defBody sq_name_fault) _ [some (.str b), none, none] H
    walk_at "g0"
    exact q H Fr.refl
  | @lst a vs ds n t l hh =>
    show RB X (defBody sq_name_fault) _ [some (.ref a), none, none] H
    walk_at "g0"
    exact q H Fr.refl
  | @tup a vs ds n t l hh =>
    obtain ⟨d1000, hsm⟩ := hs ds rfl
    show RB X (defBody sq_name_fault) _ [some (.ref a), none, none] H
    walk_at "e0"
    refine lv_lenT (SqT.of t) ?_
    walk_at "e"
    refine ite2 (fun e => ?_) (fun e => ?_)
    · walk_at "g"
      have e1 : nf (.tup ds) = some (-1) := if_pos (by have := of_decide_eq_true e; omega)
      have q1 := q H Fr.refl
      rw [e1] at q1
      exact q1
    · walk_at "e"
      have ne : ds.length ≠ 0 := fun z => e (decide_eq_true (by omega))
      have q1 : ∀ H', Fr NoB H H' → Q (oI (oN (ff badL 0 ds))) H' := fun H' f => by
        have e1 : nf (.tup ds) = oN (ff badL 0 ds) := if_neg ne
        have q2 := q H' f
        rw [e1] at q2
        exact q2
      refine rb_cons ?_
      refine rs_for_enumT c (by walk_at "gm") .loc (by walk_at "gm") (by walk_at "gm") .loc (by walk_at "gm") (by walk_at "gm") ze ?_
      walk_at "e"
      refine ⟨a, vs, rfl, SqT.of t, fun i σ H' => Fr NoB H H' ∧ ff badL 0 ds = ff badL i (ds.drop i) ∧ ∃ s1 s2 : Option V, σ = [some (.ref a), s1, s2], ⟨Fr.refl, rfl, none, none, rfl⟩, fun _ _ _ _ h => SqT.of (h.1 _ _ (fun z => z) t), ?_, ?_⟩
      · rintro i x b σ H' T hi ea eb ⟨f, hff, s1, s2, rfl⟩ hT
        cases ea
        have hi2 : i < ds.length := by omega
        have hc : ds[i]? = some ds[i] := List.getElem?_eq_getElem hi2
        have f2 := f.trans (Fr.new (o := .tup [.int (i : Nat), b]) hT)
        generalize upd H' T (.tup [.int (i : Nat), b]) = H2 at f2
        have hst := ff_at (p := badL) hc
        have bad : ∀ H3, Fr NoB H H3 → badL i ds[i] = true → Q (.int (i : Nat)) H3 := fun H3 f3 z => by
          have q2 := q1 H3 f3
          rw [hff, hst, if_pos z] at q2
          exact q2
        refine ⟨_, _, by walk_at "gs", by walk_at "gs", ?_⟩
        walk_at "e0"
        refine re_gint c (by walk_at "gm") gl ?_
        walk_at "e"
        refine ite2 (fun e1 => ?_) (fun e1 => ?_)
        · walk_at "g"
          exact bad _ f2 (by unfold badL; rw [decide_eq_true (by have := of_decide_eq_true e1; omega)]; rfl)
        · walk_at "e"
          refine re_call c dI (by decide) (by walk_at "gm") ?_
          walk_at "e"
          refine ⟨B, b, ds[i], rfl, (hh i b _ eb hc).fr f2.any, hsm _ (List.getElem_mem hi2), fun H3 f3 => ?_⟩
          walk_at "e"
          cases hd : tf ds[i] with
          | none =>
            show if (!true) = true then _ else _
            walk_at "g"
            refine ⟨f2.trans f3, ?_, _, _, rfl⟩
            have z : badL i ds[i] = false := by
              unfold badL
              rw [hd, decide_eq_false (fun z => e1 (decide_eq_true (by omega)))]
              rfl
            rw [hff, hst, if_neg (by rw [z]; exact Bool.false_ne_true)]
          | some k =>
            show if (!false) = true then _ else _
            walk_at "g"
            exact bad _ (f2.trans f3) (by unfold badL; rw [hd]; simp)
      · rintro σ H' ⟨f, hff, s1, s2, rfl⟩
        walk_at "g"
        have q2 := q1 H' f
        rw [hff, l, ff_end] at q2
        exact q2
theorem body_check_name {X : Cx} (c : Ctx X nq_check_name lq_check_name 3) {CL : Addr} (EC : ErrC X.prog X.w X.K X.mg X.base "BadName" "at" CL) (dF : DefP X.prog X.w X.K X.mg X.base CX0 "name_fault" ["value"] 3 (spNF X.K)) {vs : List V} {H : Hp} {Q : VK} {E : XK} (tk : Takes X (fun cls d _ H' => E cls d H'))
    (h : spCk X.K CL nf SmN vs H Q E) : RB X (defBody sq_check_name) { nx := fun _ H' => Q .non H', rt := Q } (start nq_check_name vs) H := by
  obtain ⟨B, v, d, rfl, hv, hs, q, qe⟩ := h
  show RB X (defBody sq_check_name) _ [some v, none] H
  walk_at "e0"
  refine re_call c dF (by decide) (by walk_at "gm") ?_
  walk_at "e"
  refine ⟨B, v, d, rfl, hv, hs, fun H' f => ?_⟩
  walk_at "e"
  walk_at "e0"
  cases hd : nf d with
  | none =>
    show CpV _ _ V.non V.non _ _
    walk_at "g"
    exact q hd _ f
  | some i =>
    show CpV _ _ (V.int i) V.non _ _
    walk_at "e"
    refine rb_cons ?_
    refine rs_raise c EC (by decide) (by walk_at "gm") tk ?_
    walk_at "e"
    exact fun x hx => qe i hd _ x f hx
/-- joined_name: two tuples of texts -/
def spJoin (K : PySem.W.Frag) : Sp := fun vs H Q _ => ∃ (a b : Addr) (xs ys : List V), vs = [.ref a, .ref b] ∧ H a = some (.tup xs) ∧ H b = some (.tup ys) ∧ xs.length ≤ 1000 ∧ ys.length ≤ 1000 ∧
  (6 < xs.length + ys.length → Q .non H) ∧ (xs.length + ys.length ≤ 6 → ∀ r H', Fr NoB H H' → H' r = some (.tup (xs ++ ys)) → Q (.ref r) H')
theorem body_joined_name {X : Cx} (c : Ctx X nq_joined_name lq_joined_name 0) (zl : X.mg "len" = none) (gl : ∃ t, X.mg "NAME_LABELS" = some (.int 6 t)) {vs : List V} {H : Hp} {Q : VK} {E : XK} (h : spJoin X.K vs H Q E) :
    RB X (defBody sq_joined_name) { nx := fun _ H' => Q .non H', rt := Q } (start nq_joined_name vs) H := by
  obtain ⟨a, b, xs, ys, rfl, ha, hb, x1000, y1000, q1, q2⟩ := h
  show RB X (defBody sq_joined_name) _ [some (.ref a), some (.ref b)] H
  walk_at "e0"
  refine lv_lenT (SqT.of ha) ?_
  walk_at "e"
  refine lv_lenT (SqT.of hb) ?_
  walk_at "e"
  refine re_gint c (by walk_at "gm") gl ?_
  walk_at "e"
  refine ite2 (fun e => ?_) (fun e => ?_)
  · walk_at "g"
    exact q1 (by have := of_decide_eq_true e; omega)
  · have e2 : xs.length + ys.length ≤ 6 := by
      have e3 : ¬ ((6 : Int) < (xs.length : Int) + (ys.length : Int)) := fun z => e (decide_eq_true z)
      omega
    walk_at "g"
    refine ov_catT (SqT.of ha) (SqT.of hb) (sz30 (by omega)) (fun z => ?_) (fun z z2 => ?_) (fun z z2 l hl => ?_)
    · exact q2 e2 b _ Fr.refl (by rw [z]; exact hb)
    · exact q2 e2 a _ Fr.refl (by rw [z2, List.append_nil]; exact ha)
    · exact q2 e2 l _ (Fr.new hl) upd_same
/-- the same data, of so many levels -/
def spSame (K : PySem.W.Frag) (n : Nat) : Sp := fun vs H Q _ => ∃ (d : D) (u v : V) (B B' : Addr → Prop), vs = [u, v] ∧ Dt K B H u d ∧ Dt K B' H v d ∧ Dep n d ∧ ∀ H', Fr NoB H H' → Q (.bl true) H'
theorem body_same {X : Cx} {n : Nat} (c : Ctx X nq_same lq_same n) (zl : X.mg "len" = none) (zi : X.mg "isinstance" = none) (zt : X.mg "tuple" = none) (zL : X.mg "list" = none) (zz : X.mg "zip" = none) (zb : X.mg "bool" = none) (zI : X.mg "int" = none) (zs : X.mg "str" = none)
    (rec : ∀ m, n = m + 1 → DefP X.prog X.w X.K X.mg X.base CX0 "_law_same" ["told", "due"] (m + 1) (spSame X.K m)) {vs : List V} {H : Hp} {Q : VK} {E : XK} (h : spSame X.K n vs H Q E) :
    RB X (defBody sq_same) { nx := fun _ H' => Q .non H', rt := Q } (start nq_same vs) H := by
  obtain ⟨d, u, v, B, B', rfl, hu, hv, hd, q⟩ := h
  have q0 := q H Fr.refl
  -- behind the kinds: row by row
  have rest : ∀ (a b : Addr) (xs ys : List V) (ds : List D) (m : Nat), n = m + 1 → (∃ Sq : Hp → Addr → List V → Prop, (Sq = (fun H => SqL X.K H) ∨ Sq = fun H => SqT X.K H) ∧ ∀ H', Fr NoB H H' → Sq H' a xs ∧ Sq H' b ys) → Dts X.K B H xs ds → Dts X.K B' H ys ds → (∀ d ∈ ds, Dep m d) →
      ∀ (nx : L2.St → Hp → Prop) (tl : List Stmt), tl = List.drop 1 ((fun s => match s with | Stmt.If _ x _ _ => x | _ => []) ((defBody sq_same).headD (.Pass ⟨0, 0, 0, 0⟩))) →
      RB X tl { nx := nx, rt := Q } [some (.ref a), some (.ref b), some (.bl true), none, none] H := by
    rintro a b xs ys ds m hm ⟨Sq, hSq, sq⟩ hx hy hds nx tl rfl
    have lenQ : ∀ (a : Addr) (xs : List V) (H' : Hp) (Q' : VK), Sq H' a xs → Q' (.int xs.length) H' → ClV X (.builtin "len") [.ref a] H' Q' := fun a xs H' Q' hs hq => by
      rcases hSq with rfl | rfl
      · exact lv_lenL hs hq
      · exact lv_lenT hs hq
    have el : xs.length = ys.length := hx.1.trans hy.1.symm
    walk_at "e0"
    refine lenQ _ _ _ _ (sq H Fr.refl).1 ?_
    walk_at "e"
    refine lenQ _ _ _ _ (sq H Fr.refl).2 ?_
    walk_at "e"
    rw [el]
    simp only [decide_true]
    walk_at "e"
    refine rb_cons ?_
    refine rs_for_zip c (by walk_at "gm") .loc (by walk_at "gm") (by walk_at "gm") .loc (by walk_at "gm") (by walk_at "gm") zz ?_
    walk_at "e"
    refine ⟨a, b, xs, ys, rfl, el, Sq, hSq, (sq H Fr.refl).1, (sq H Fr.refl).2, fun i σ H' => Fr NoB H H' ∧ ∃ s1 s2 : Option V, σ = [some (.ref a), some (.ref b), some (.bl true), s1, s2], ⟨Fr.refl, none, none, rfl⟩, fun i σ H' h => sq H' h.1, ?_, ?_⟩
    · rintro i u v σ H' T hu hv ⟨f, s1, s2, rfl⟩ hT
      refine ⟨_, _, by walk_at "gs", by walk_at "gs", ?_⟩
      walk_at "e0"
      refine re_call c (rec m hm) (by omega) (by walk_at "gm") ?_
      walk_at "e"
      have hi : i < ds.length := by
        rw [← hx.1]
        rcases Nat.lt_or_ge i xs.length with z | z
        · exact z
        · rw [List.getElem?_eq_none z] at hu; cases hu
      have hdi : ds[i]? = some ds[i] := List.getElem?_eq_getElem hi
      have f2 := f.trans (Fr.new (o := .tup [u, v]) hT)
      refine ⟨ds[i], u, v, B, B', rfl, (hx.2 i u _ hu hdi).fr f2.any, (hy.2 i v _ hv hdi).fr f2.any, hds _ (List.getElem_mem hi), fun H'' f3 => ?_⟩
      walk_at "e"
      exact ⟨f2.trans f3, _, _, rfl⟩
    · rintro σ H' ⟨f, s1, s2, rfl⟩
      walk_at "g"
      exact q H' f
  cases hu with
  | non =>
    cases hv
    show RB X (defBody sq_same) _ [some .non, some .non, none, none, none] H
    walk_at "g0"
    exact q0
  | bl =>
    cases hv
    rename_i bb
    show RB X (defBody sq_same) _ [some (.bl bb), some (.bl bb), none, none, none] H
    cases bb
    · walk_at "g0"
      refine iteDN (by decide) ?_
      walk_at "g"
      refine iteD rfl ?_
      walk_at "g"
      refine cv_eq (by rfl) ?_
      rw [decide_eq_true rfl]
      exact q0
    · walk_at "g0"
      refine iteD rfl ?_
      walk_at "g"
      refine cv_eq (by rfl) ?_
      rw [decide_eq_true rfl]
      exact q0
  | int =>
    cases hv
    rename_i ii
    show RB X (defBody sq_same) _ [some (.int ii), some (.int ii), none, none, none] H
    walk_at "g0"
    rw [decide_eq_true rfl]
    exact q0
  | str =>
    cases hv
    rename_i ss
    show RB X (defBody sq_same) _ [some (.str ss), some (.str ss), none, none, none] H
    walk_at "g0"
    rw [decide_eq_true rfl]
    exact q0
  | @lst a xs ds nb ta la ha =>
    cases hv with
    | @lst b ys _ nb' tb lb hb =>
      cases hd with
      | @lst m _ hds =>
        show RB X (defBody sq_same) _ [some (.ref a), some (.ref b), none, none, none] H
        walk_at "e0"
        walk_at "e0"
        refine rest a b xs ys ds m rfl ⟨fun H => SqL X.K H, .inl rfl, fun H' f => ⟨SqL.of (f _ _ (fun z => z) ta), SqL.of (f _ _ (fun z => z) tb)⟩⟩ ⟨la, ha⟩ ⟨lb, hb⟩ hds _ _ rfl
  | @tup a xs ds nb ta la ha =>
    cases hv with
    | @tup b ys _ nb' tb lb hb =>
      cases hd with
      | @tup m _ hds =>
        show RB X (defBody sq_same) _ [some (.ref a), some (.ref b), none, none, none] H
        walk_at "e0"
        walk_at "e0"
        refine rest a b xs ys ds m rfl ⟨fun H => SqT X.K H, .inr rfl, fun H' f => ⟨SqT.of (f _ _ (fun z => z) ta), SqT.of (f _ _ (fun z => z) tb)⟩⟩ ⟨la, ha⟩ ⟨lb, hb⟩ hds _ _ rfl
/-! ### the law's draws -/
theorem len_app (a b : Str) : (a ++ b).length = a.length + b.length := by
  show (a ++ b).cps.size = a.cps.size + b.cps.size
  have := congrArg List.length (TL.tl_append a b)
  simpa [TL.tl] using this
theorem len_cut (z : Str) (a b : Option Int) : (cutS z a b).length ≤ z.length := by
  show (((z.cps.toList.drop (HT.sIx z.length 0 a)).take (HT.sIx z.length z.length b - HT.sIx z.length 0 a)).toArray).size ≤ _
  rw [List.size_toArray, List.length_take, List.length_drop, Array.length_toList]
  show min _ (z.length - _) ≤ z.length
  omega
theorem len_cutTo (z : Str) (k : Nat) : (cutS z none (some (k : Int))).length = min k z.length := by
  show (((z.cps.toList.drop (HT.sIx z.length 0 none)).take (HT.sIx z.length z.length (some (k : Int)) - HT.sIx z.length 0 none)).toArray).size = _
  rw [HT.sIx_nat, HT.sIx_none, List.size_toArray, List.length_take, List.length_drop, Array.length_toList]
  show min (min k z.length - 0) (z.length - 0) = _
  omega
theorem len_cutFrom (z : Str) (k : Nat) : (cutS z (some (k : Int)) none).length = z.length - k := by
  show (((z.cps.toList.drop (HT.sIx z.length 0 (some (k : Int)))).take (HT.sIx z.length z.length none - HT.sIx z.length 0 (some (k : Int)))).toArray).size = _
  rw [HT.sIx_nat, HT.sIx_none, List.size_toArray, List.length_take, List.length_drop, Array.length_toList]
  show min (z.length - min k z.length) (z.length - min k z.length) = _
  omega
/-- a sign of those that no label has -/
def spSign : Sp := fun vs H Q _ => ∃ b : Addr, vs = [.ref b] ∧ BoxAt H b ∧ ∀ (z : Str) H', z.length = 1 → Fr (· = b) H H' → BoxAt H' b → Q (.str z) H'
theorem body_sign {X : Cx} (c : Ctx X nq_sign lq_sign 2) (dP : DefP X.prog X.w X.K X.mg X.base CX0 "_law_pick" ["box", "some"] 2 (spPick X.K)) {vs : List V} {H : Hp} {Q : VK} {E : XK} (h : spSign vs H Q E) :
    RB X (defBody sq_sign) { nx := fun _ H' => Q .non H', rt := Q } (start nq_sign vs) H := by
  obtain ⟨b, rfl, hB, q⟩ := h
  show RB X (defBody sq_sign) _ [some (.ref b)] H
  walk_at "g0"
  refine re_call c dP (by decide) (by walk_at "gm") ?_
  walk_at "g"
  refine ⟨by decide, fun p hp => ?_⟩
  walk_at "g"
  refine ⟨b, hB.fr (Fr.new hp), p, _, rfl, upd_same, hB.ne hp, by decide, by decide, fun v H1 hv f1 hB1 => ?_⟩
  obtain ⟨i, rfl, i0, i17⟩ := isIn_of (List.all_eq_true.mp (by decide : ([.int 0, .int 1, .int 2, .int 3, .int 5, .int 6, .int 7, .int 8, .int 9, .int 10, .int 11, .int 12, .int 13, .int 14, .int 15, .int 16, .int 17] : List V).all (isIn 0 17) = true) v hv)
  have hz : ∀ (z : Str), z.length = 18 → ∃ n, atI z.cps.toList i = some n := fun z hz => by
    obtain ⟨n, h, _⟩ := mem_at (xs := z.cps.toList) i0 (by
      have : z.cps.toList.length = z.length := by simp [Str.length]
      omega)
    exact ⟨n, h⟩
  refine (fun (w : Str) (hw : w.length = 18) => ?_ : ∀ w : Str, w.length = 18 → IxV X (.str w) (.int i) H1 Q) _ (by decide +kernel)
  obtain ⟨n, hn⟩ := hz w hw
  exact iv_str (sz30 (by omega)) hn (q _ _ rfl ((Fr.new hp).trans f1) hB1)
def Tx (z : Str) : Prop := z.length ≤ 100
def isTx : V → Bool
  | .str s => decide (s.length ≤ 100)
  | _ => false
/-- a label that is no more one, or still one -/
def spBent : Sp := fun vs H Q _ => ∃ (b : Addr) (z : Str), vs = [.ref b, .str z] ∧ z.length ≤ 8 ∧ BoxAt H b ∧ ∀ (w : Str) H', w.length ≤ 100 → Fr (· = b) H H' → BoxAt H' b → Q (.str w) H'
theorem body_bent {X : Cx} (c : Ctx X nq_bent lq_bent 3) (zl : X.mg "len" = none) (dT : DefP X.prog X.w X.K X.mg X.base CX0 "_law_take" ["box", "many"] 1 spTake)
    (dP : DefP X.prog X.w X.K X.mg X.base CX0 "_law_pick" ["box", "some"] 2 (spPick X.K)) (dS : DefP X.prog X.w X.K X.mg X.base CX0 "_law_sign" ["box"] 3 spSign) {vs : List V} {H : Hp} {Q : VK} {E : XK} (h : spBent vs H Q E) :
    RB X (defBody sq_bent) { nx := fun _ H' => Q .non H', rt := Q } (start nq_bent vs) H := by
  obtain ⟨b, z, rfl, z8, hB, q⟩ := h
  show RB X (defBody sq_bent) _ [some (.ref b), some (.str z), none, none, none, none] H
  refine rb_cons ?_
  refine rs_par2 c (by walk_at "gm") (by walk_at "gm") (by walk_at "gm") (by walk_at "gm") (by decide) ?_
  walk_at "e"
  refine re_call c dT (by decide) (by walk_at "gm") ?_
  walk_at "e"
  refine ⟨b, 7, rfl, hB, by decide, by decide, fun way H1 w0 w7 f1 hB1 => ?_⟩
  walk_at "e"
  refine re_call c dT (by decide) (by walk_at "gm") ?_
  walk_at "e"
  refine lv_lenS (sz30 (by omega)) ?_
  walk_at "e"
  refine ⟨b, _, rfl, hB1, by omega, by omega, fun spot H2 s0 s9 f2 hB2 => ?_⟩
  walk_at "e"
  refine ⟨.int way, .int spot, _, _, rfl, by walk_at "gs", by walk_at "gs", ?_⟩
  have f12 := f1.trans f2
  walk_at "e0"
  refine ite2 (fun e => ?_) (fun e => ?_)
  · walk_at "e0"
    refine sv_str (sz30 (by omega)) ?_
    walk_at "e"
    refine re_call c dS (by decide) (by walk_at "gm") ?_
    walk_at "e"
    refine ⟨b, rfl, hB2, fun sg H3 hsg f3 hB3 => ?_⟩
    have l1 := len_cut z none (some spot)
    refine ov_adds (sz30 (by omega)) ?_
    walk_at "e"
    refine sv_str (sz30 (by omega)) ?_
    have l2 := len_cut z (some (spot + way)) none
    refine ov_adds (sz30 (by rw [len_app]; omega)) ?_
    exact q _ _ (by rw [len_app, len_app]; omega) (f12.trans f3) hB3
  · walk_at "e"
    walk_at "e0"
    refine ite2 (fun e2 => ?_) (fun e2 => ?_)
    · walk_at "e0"
      refine re_call c dP (by decide) (by walk_at "gm") ?_
      walk_at "e"
      refine lv_lenS (sz30 (by omega)) ?_
      walk_at "e"
      refine lv_lenS (sz30 (by omega)) ?_
      walk_at "e"
      refine ⟨by show 5 ≤ sizeLine; decide, fun p hp => ?_⟩
      walk_at "e"
      refine ⟨b, hB2.fr (Fr.new hp), p, _, rfl, upd_same, hB2.ne hp, by show 0 < 5; decide, by show 5 < 2 ^ 31; decide, fun v H3 hv f3 hB3 => ?_⟩
      obtain ⟨n, rfl, n0, n12⟩ : ∃ n : Int, v = .int n ∧ 0 ≤ n ∧ n ≤ 12 := by
        simp only [List.mem_cons, List.not_mem_nil, or_false] at hv
        rcases hv with rfl | rfl | rfl | rfl | rfl
        · exact ⟨1, rfl, by omega, by omega⟩
        · exact ⟨2, rfl, by omega, by omega⟩
        · exact ⟨_, rfl, by omega, by omega⟩
        · exact ⟨_, rfl, by omega, by omega⟩
        · exact ⟨12, rfl, by omega, by omega⟩
      have a1 : ("a" : Str).length = 1 := by decide +kernel
      refine ov_mulS (by omega) (by omega) (by omega) fun w hw => ?_
      rw [a1] at hw
      refine ov_adds (sz30 (by omega)) ?_
      exact q _ _ (by rw [len_app]; omega) (f12.trans ((Fr.new hp).trans f3)) hB3
    · walk_at "e"
      walk_at "e0"
      refine ite2 (fun e3 => ?_) (fun e3 => ?_)
      · have a10 : ("qrstuvwxyz" : Str).length = 10 := by decide +kernel
        walk_at "e0"
        refine ov_adds (sz30 (by omega)) ?_
        walk_at "e"
        refine re_call c dT (by decide) (by walk_at "gm") ?_
        walk_at "e"
        refine ⟨b, 2, rfl, hB2, by decide, by decide, fun t H3 t0 t2 f3 hB3 => ?_⟩
        walk_at "e"
        refine sv_str (sz30 (by rw [len_app]; omega)) ?_
        obtain ⟨k, hk, hk2⟩ : ∃ k : Nat, 9 + t = (k : Int) ∧ 9 ≤ k := ⟨(9 + t).toNat, by omega, by omega⟩
        have ll : (cutS (z ++ "qrstuvwxyz") none (some (9 + t))).length = min k (z ++ "qrstuvwxyz" : Str).length := by rw [hk]; exact len_cutTo _ _
        have la := len_app z "qrstuvwxyz"
        generalize cutS (z ++ "qrstuvwxyz") none (some (9 + t)) = lg at ll
        walk_at "e"
        walk_at "e0"
        refine re_call c dT (by decide) (by walk_at "gm") ?_
        walk_at "e"
        refine lv_lenS (sz30 (by omega)) ?_
        walk_at "e"
        refine ⟨b, _, rfl, hB3, by omega, by omega, fun pl H4 p0 p2 f4 hB4 => ?_⟩
        walk_at "e"
        walk_at "e0"
        refine sv_str (sz30 (by omega)) ?_
        walk_at "e"
        refine re_call c dS (by decide) (by walk_at "gm") ?_
        walk_at "e"
        refine ⟨b, rfl, hB4, fun sg H5 hsg f5 hB5 => ?_⟩
        have l1 := len_cut lg none (some pl)
        refine ov_adds (sz30 (by omega)) ?_
        walk_at "e"
        refine sv_str (sz30 (by omega)) ?_
        have l2 := len_cut lg (some (pl + 1)) none
        refine ov_adds (sz30 (by rw [len_app]; omega)) ?_
        exact q _ _ (by rw [len_app, len_app]; omega) (((f12.trans f3).trans f4).trans f5) hB5
      · walk_at "e"
        walk_at "e0"
        refine ite2 (fun e4 => ?_) (fun e4 => ?_)
        · walk_at "e0"
          refine sv_str (sz30 (by omega)) ?_
          have l1 := len_cut z none (some spot)
          exact q _ _ (by omega) f12 hB2
        · walk_at "e"
          walk_at "e0"
          refine ite2 (fun e5 => ?_) (fun e5 => ?_)
          · walk_at "e0"
            refine re_upper ?_
            walk_at "e"
            refine ⟨by omega, fun w hw => ?_⟩
            exact q _ _ (by omega) f12 hB2
          · walk_at "e"
            walk_at "e0"
            have s1 : (" " : Str).length = 1 := by decide +kernel
            refine re_call c dP (by decide) (by walk_at "gm") ?_
            walk_at "e"
            refine ov_adds (sz30 (by omega)) ?_
            walk_at "e"
            refine ov_adds (sz30 (by omega)) ?_
            walk_at "e"
            refine re_call c dS (by decide) (by walk_at "gm") ?_
            walk_at "e"
            refine ⟨b, rfl, hB2, fun sg H3 hsg f3 hB3 => ?_⟩
            walk_at "e"
            refine ⟨by show 5 ≤ sizeLine; decide, fun p hp => ?_⟩
            walk_at "e"
            refine ⟨b, hB3.fr (Fr.new hp), p, _, rfl, upd_same, hB3.ne hp, by show 0 < 5; decide, by show 5 < 2 ^ 31; decide, fun v H4 hv f4 hB4 => ?_⟩
            obtain ⟨w, rfl, hw⟩ : ∃ w : Str, v = .str w ∧ w.length ≤ 100 := by
              simp only [List.mem_cons, List.not_mem_nil, or_false] at hv
              rcases hv with rfl | rfl | rfl | rfl | rfl
              · exact ⟨_, rfl, by decide +kernel⟩
              · exact ⟨_, rfl, by omega⟩
              · exact ⟨_, rfl, by rw [len_app]; omega⟩
              · exact ⟨_, rfl, by rw [len_app]; omega⟩
              · exact ⟨_, rfl, by omega⟩
            exact q _ _ hw ((f12.trans f3).trans ((Fr.new hp).trans f4)) hB4
/-- what is no label and no name -/
def OddD (d : D) : Prop := Dep 1 d ∧ Sm d ∧ SmN d
theorem oddT {l : List D} (h : ∀ d ∈ l, ∃ s : Str, d = .str s ∧ s.length ≤ 100) (hl : l.length ≤ 1000) : OddD (.tup l) :=
  ⟨.tup fun d hd => by obtain ⟨s, rfl, _⟩ := h d hd; exact .str, fun s e => (nomatch e), fun ds e => by
    cases e
    exact ⟨hl, fun d hd s e => by obtain ⟨s', rfl, h2⟩ := h d hd; cases e; omega⟩⟩
theorem oddL {l : List D} (h : ∀ d ∈ l, ∃ s : Str, d = .str s) : OddD (.lst l) := ⟨.lst fun d hd => by obtain ⟨s, rfl⟩ := h d hd; exact .str, fun s e => (nomatch e), fun s e => (nomatch e)⟩
theorem oddS {s : Str} (h : s.length ≤ 100) : OddD (.str s) := ⟨.str, fun s' e => by cases e; omega, fun s e => (nomatch e)⟩
/-- what holds something -/
def Old (H : Hp) : Addr → Prop := fun a => H a ≠ none
theorem Fr.sub {B B' : Addr → Prop} {H H' : Hp} (f : GT.Fr B H H') (s : ∀ a, B a → B' a) : GT.Fr B' H H' := fun a o n e => f a o (fun z => n (s a z)) e
theorem old_box {H : Hp} {b : Addr} (h : BoxAt H b) : Old H b := by
  obtain ⟨g, r, h1, _⟩ := h
  intro e
  rw [h1] at e
  cases e
def spOdd (K : PySem.W.Frag) : Sp := fun vs H Q _ => ∃ b : Addr, vs = [.ref b] ∧ BoxAt H b ∧ ∀ (v : V) (d : D) H', OddD d → Dt K (Old H) H' v d → Fr (· = b) H H' → BoxAt H' b → Q v H'
theorem body_odd {X : Cx} (c : Ctx X nq_odd lq_odd 2) (dP : DefP X.prog X.w X.K X.mg X.base CX0 "_law_pick" ["box", "some"] 2 (spPick X.K)) {vs : List V} {H : Hp} {Q : VK} {E : XK} (h : spOdd X.K vs H Q E) :
    RB X (defBody sq_odd) { nx := fun _ H' => Q .non H', rt := Q } (start nq_odd vs) H := by
  obtain ⟨b, rfl, hB, q⟩ := h
  show RB X (defBody sq_odd) _ [some (.ref b)] H
  walk_at "g0"
  refine re_call c dP (by decide) (by walk_at "gm") ?_
  walk_at "g"
  refine ⟨by show 1 ≤ sizeLine; decide, fun p1 h1 => ?_⟩
  walk_at "g"
  refine ⟨by show 1 ≤ sizeLine; decide, fun p2 h2 => ?_⟩
  walk_at "g"
  refine ⟨by show 0 ≤ sizeLine; decide, fun p3 h3 => ?_⟩
  walk_at "g"
  refine ⟨by show 0 ≤ sizeLine; decide, fun p4 h4 => ?_⟩
  walk_at "g"
  refine ⟨by show 2 ≤ sizeLine; decide, fun p5 h5 => ?_⟩
  walk_at "g"
  refine ⟨by show 9 ≤ sizeLine; decide, fun p6 h6 => ?_⟩
  walk_at "g"
  have n1 : ¬ Old H p1 := fun z => z h1
  have g1 : Fr NoB H (upd H p1 (.lst [.str "a"])) := Fr.new h1
  have d1 : Dt X.K (Old H) (upd H p1 (.lst [.str "a"])) (.ref p1) (.lst [.str "a"]) := Dt.newL h1 n1 (.cons .str .nil)
  have hB1 := hB.fr g1
  generalize upd H p1 (.lst [.str "a"]) = H1 at *
  have n2 : ¬ Old H p2 := fun z => z (g1.free h2)
  have g2 : Fr NoB H1 (upd H1 p2 (.tup [.str "a"])) := Fr.new h2
  have d2 : Dt X.K (Old H) (upd H1 p2 (.tup [.str "a"])) (.ref p2) (.tup [.str "a"]) := Dt.newT h2 n2 (.cons .str .nil)
  have hB2 := hB1.fr g2
  generalize upd H1 p2 (.tup [.str "a"]) = H2 at *
  have n3 : ¬ Old H p3 := fun z => z ((g1.trans g2).free h3)
  have g3 : Fr NoB H2 (upd H2 p3 (.tup [])) := Fr.new h3
  have d3 : Dt X.K (Old H) (upd H2 p3 (.tup [])) (.ref p3) (.tup []) := Dt.newT h3 n3 .nil
  have hB3 := hB2.fr g3
  generalize upd H2 p3 (.tup []) = H3 at *
  have n4 : ¬ Old H p4 := fun z => z (((g1.trans g2).trans g3).free h4)
  have g4 : Fr NoB H3 (upd H3 p4 (.lst [])) := Fr.new h4
  have d4 : Dt X.K (Old H) (upd H3 p4 (.lst [])) (.ref p4) (.lst []) := Dt.newL h4 n4 .nil
  have hB4 := hB3.fr g4
  generalize upd H3 p4 (.lst []) = H4 at *
  have n5 : ¬ Old H p5 := fun z => z ((((g1.trans g2).trans g3).trans g4).free h5)
  have g5 : Fr NoB H4 (upd H4 p5 (.tup [.str "a", .str "b"])) := Fr.new h5
  have d5 : Dt X.K (Old H) (upd H4 p5 (.tup [.str "a", .str "b"])) (.ref p5) (.tup [.str "a", .str "b"]) := Dt.newT h5 n5 (.cons .str (.cons .str .nil))
  have hB5 := hB4.fr g5
  generalize upd H4 p5 (.tup [.str "a", .str "b"]) = H5 at *
  have n6 := hB5.ne h6
  have g6 : Fr NoB H5 (upd H5 p6 (.lst [.non, .int 7, .bl true, .int 0, .ref p1, .ref p2, .ref p3, .ref p4, .ref p5])) := Fr.new h6
  refine ⟨b, hB5.fr g6, p6, _, rfl, upd_same, n6, by show 0 < 9; decide, by show 9 < 2 ^ 31; decide, fun v H7 hv f7 hB7 => ?_⟩
  have ff : Fr (· = b) H H7 := (((((g1.trans g2).trans g3).trans g4).trans g5).trans g6).any.trans f7
  have k5 : ∀ {v : V} {d : D}, Dt X.K (Old H) H5 v d → Dt X.K (Old H) H7 v d := fun h => (h.fr g6.any).fr (Fr.sub f7 fun a e => by subst e; exact old_box hB)
  have a1 : ("a" : Str).length ≤ 100 := by decide +kernel
  have b1 : ("b" : Str).length ≤ 100 := by decide +kernel
  simp only [List.mem_cons, List.not_mem_nil, or_false] at hv
  rcases hv with rfl | rfl | rfl | rfl | rfl | rfl | rfl | rfl | rfl
  · exact q _ .non _ ⟨.non, fun s e => (nomatch e), fun s e => (nomatch e)⟩ .non ff hB7
  · exact q _ (.int 7) _ ⟨.int, fun s e => (nomatch e), fun s e => (nomatch e)⟩ .int ff hB7
  · exact q _ (.bl true) _ ⟨.bl, fun s e => (nomatch e), fun s e => (nomatch e)⟩ .bl ff hB7
  · exact q _ (.int 0) _ ⟨.int, fun s e => (nomatch e), fun s e => (nomatch e)⟩ .int ff hB7
  · exact q _ _ _ (oddL fun d hd => ⟨"a", List.mem_singleton.mp hd⟩) (k5 ((((d1.fr g2.any).fr g3.any).fr g4.any).fr g5.any)) ff hB7
  · exact q _ _ _ (oddT (fun d hd => ⟨"a", List.mem_singleton.mp hd, a1⟩) (by show 1 ≤ 1000; decide)) (k5 (((d2.fr g3.any).fr g4.any).fr g5.any)) ff hB7
  · exact q _ _ _ (oddT (fun d hd => by cases hd) (by show 0 ≤ 1000; decide)) (k5 ((d3.fr g4.any).fr g5.any)) ff hB7
  · exact q _ _ _ (oddL (fun d hd => by cases hd)) (k5 (d4.fr g5.any)) ff hB7
  · refine q _ _ _ (oddT (fun d hd => ?_) (by show 2 ≤ 1000; decide)) (k5 d5) ff hB7
    rcases List.mem_cons.mp hd with rfl | hd
    · exact ⟨_, rfl, a1⟩
    · obtain rfl := List.mem_singleton.mp hd
      exact ⟨_, rfl, b1⟩
/-! ### the law's own reading -/
theorem abc_in (ch : Nat) : decide (ch ∈ ("abcdefghijklmnopqrstuvwxyz" : Str).cps.toList) = !(decide (ch < 97) || decide (122 < ch)) := by
  have e : ("abcdefghijklmnopqrstuvwxyz" : Str).cps.toList = (List.range 26).map (· + 97) := by decide +kernel
  rw [e]
  have e2 : (ch ∈ (List.range 26).map (· + 97)) ↔ (97 ≤ ch ∧ ch ≤ 122) := by
    rw [List.mem_map]
    constructor
    · rintro ⟨a, ha, rfl⟩
      rw [List.mem_range] at ha
      omega
    · rintro ⟨h1, h2⟩
      exact ⟨ch - 97, by rw [List.mem_range]; omega, by omega⟩
  rw [decide_eq_decide.mpr e2]
  by_cases h1 : ch < 97
  · rw [decide_eq_false (by omega), decide_eq_true h1]
    rfl
  · by_cases h2 : 122 < ch
    · rw [decide_eq_false (by omega), decide_eq_false h1, decide_eq_true h2]
      rfl
    · rw [decide_eq_true (by omega), decide_eq_false h1, decide_eq_false h2]
      rfl
def spTF (K : PySem.W.Frag) : Sp := fun vs H Q _ => ∃ (B : Addr → Prop) (v : V) (d : D), vs = [v] ∧ Dt K B H v d ∧ Sm d ∧ Q (oI (tf d)) H
theorem body_text_fault {X : Cx} (c : Ctx X nq_text_fault lq_text_fault 0) (zi : X.mg "isinstance" = none) (zs : X.mg "str" = none) (zl : X.mg "len" = none) (zr : X.mg "range" = none) {vs : List V} {H : Hp} {Q : VK} {E : XK} (h : spTF X.K vs H Q E) :
    RB X (defBody sq_text_fault) { nx := fun _ H' => Q .non H', rt := Q } (start nq_text_fault vs) H := by
  obtain ⟨B, v, d, rfl, hv, hs, q⟩ := h
  cases hv with
  | non =>
    show RB X (defBody sq_text_fault) _ [some .non, none] H
    walk_at "g0"
    exact q
  | bl =>
    rename_i b
    show RB X (defBody sq_text_fault) _ [some (.bl b), none] H
    walk_at "g0"
    exact q
  | int =>
    rename_i b
    show RB X (defBody sq_text_fault) _ [some (.int b), none] H
    walk_at "g0"
    exact q
  | @lst a vs ds n t l hh =>
    show RB X (defBody sq_text_fault) _ [some (.ref a), none] H
    walk_at "g0"
    exact q
  | @tup a vs ds n t l hh =>
    show RB X (defBody sq_text_fault) _ [some (.ref a), none] H
    walk_at "g0"
    exact q
  | str =>
    rename_i s
    have s1000 := hs s rfl
    show RB X (defBody sq_text_fault) _ [some (.str s), none] H
    walk_at "e0"
    refine lv_lenS (sz30 (by omega)) ?_
    walk_at "e"
    refine ite2 (fun e => ?_) (fun e => ?_)
    · walk_at "g"
      have e1 : tf (.str s) = some (-1) := if_pos (by have := of_decide_eq_true e; omega)
      rw [e1] at q
      exact q
    · walk_at "e"
      have ne : s.length ≠ 0 := fun z => e (decide_eq_true (by omega))
      have e1 : tf (.str s) = oN (ff badC 0 s.cps.toList) := if_neg ne
      rw [e1] at q
      have es : s.length = s.cps.toList.length := by simp [Str.length]
      refine rb_cons ?_
      refine rs_for_range c (by walk_at "gm") .loc (by walk_at "gm") (by walk_at "gm") zr ?_
      walk_at "e"
      refine lv_lenS (sz30 (by omega)) ?_
      walk_at "e"
      refine ⟨by omega, by omega, fun i σ H' => H' = H ∧ ff badC 0 s.cps.toList = ff badC i (s.cps.toList.drop i) ∧ ∃ s1 : Option V, σ = [some (.str s), s1], ⟨rfl, rfl, none, rfl⟩, fun _ _ _ _ _ => trivial, ?_, ?_⟩
      · rintro i y σ H' hi rfl ⟨rfl, hff, s1, rfl⟩
        have hi2 : i < s.cps.toList.length := by omega
        have hc : s.cps.toList[i]? = some s.cps.toList[i] := List.getElem?_eq_getElem hi2
        generalize s.cps.toList[i] = ch at hc
        have hst := ff_at (p := badC) hc
        have bad : badC i ch = true → Q (.int (i : Nat)) H' := fun z => by
          rw [hff, hst, if_pos z] at q
          exact q
        refine ⟨_, by walk_at "gs", ?_⟩
        walk_at "e0"
        refine ite2 (fun e1 => ?_) (fun e1 => ?_)
        · walk_at "g"
          exact bad (by unfold badC; rw [decide_eq_true (by have := of_decide_eq_true e1; omega)]; rfl)
        · walk_at "e"
          refine iv_str (sz30 (by omega)) (at_nat hc) ?_
          walk_at "e"
          refine cv_notInC ?_
          walk_at "e"
          rw [abc_in, Bool.not_not]
          have z0 : decide (i = 8) = false := decide_eq_false (fun z => e1 (decide_eq_true (by omega)))
          refine ite2 (fun e2 => ?_) (fun e2 => ?_)
          · walk_at "g"
            exact bad (by unfold badC; rw [e2]; simp)
          · walk_at "g"
            refine ⟨rfl, ?_, _, rfl⟩
            have z : badC i ch = false := by
              unfold badC
              rw [Bool.eq_false_iff.mpr e2, z0]
              rfl
            rw [hff, hst, if_neg (by rw [z]; exact Bool.false_ne_true)]
      · rintro σ H' ⟨rfl, hff, s1, rfl⟩
        walk_at "g"
        rw [hff] at q
        have e3 : ((s.length : Int)).toNat = s.cps.toList.length := by omega
        rw [e3, ff_end] at q
        exact q
def spNFL (K : PySem.W.Frag) : Sp := fun vs H Q _ => ∃ (B : Addr → Prop) (v : V) (d : D), vs = [v] ∧ Dt K B H v d ∧ SmN d ∧ Q (oI (nf d)) H
theorem body_name_faultL {X : Cx} (c : Ctx X nq_name_faultL lq_name_faultL 1) (zi : X.mg "isinstance" = none) (zl : X.mg "len" = none) (zt : X.mg "tuple" = none) (zr : X.mg "range" = none)
    (dT : DefP X.prog X.w X.K X.mg X.base CX0 "_law_text_fault" ["value"] 1 (spTF X.K)) {vs : List V} {H : Hp} {Q : VK} {E : XK} (h : spNFL X.K vs H Q E) :
    RB X (defBody sq_name_faultL) { nx := fun _ H' => Q .non H', rt := Q } (start nq_name_faultL vs) H := by
  obtain ⟨B, v, d, rfl, hv, hs, q⟩ := h
  cases hv with
  | non =>
    show RB X (defBody sq_name_faultL) _ [some .non, none] H
    walk_at "g0"
    exact q
  | bl =>
    rename_i b
    show RB X (defBody sq_name_faultL) _ [some (.bl b), none] H
    walk_at "g0"
    exact q
  | int =>
    rename_i b
    show RB X (defBody sq_name_faultL) _ [some (.int b), none] H
    walk_at "g0"
    exact q
  | str =>
    rename_i b
    show RB X (defBody sq_name_faultL) _ [some (.str b), none] H
    walk_at "g0"
    exact q
  | @lst a vs ds n t l hh =>
    show RB X (defBody sq_name_faultL) _ [some (.ref a), none] H
    walk_at "g0"
    exact q
  | @tup a vs ds n t l hh =>
    obtain ⟨d1000, hsm⟩ := hs ds rfl
    show RB X (defBody sq_name_faultL) _ [some (.ref a), none] H
    walk_at "e0"
    refine lv_lenT (SqT.of t) ?_
    walk_at "e"
    refine ite2 (fun e => ?_) (fun e => ?_)
    · walk_at "g"
      have e1 : nf (.tup ds) = some (-1) := if_pos (by have := of_decide_eq_true e; omega)
      rw [e1] at q
      exact q
    · walk_at "e"
      have ne : ds.length ≠ 0 := fun z => e (decide_eq_true (by omega))
      have e1 : nf (.tup ds) = oN (ff badL 0 ds) := if_neg ne
      rw [e1] at q
      refine rb_cons ?_
      refine rs_for_range c (by walk_at "gm") .loc (by walk_at "gm") (by walk_at "gm") zr ?_
      walk_at "e"
      refine lv_lenT (SqT.of t) ?_
      walk_at "e"
      refine ⟨by omega, by omega, fun i σ H' => H' = H ∧ ff badL 0 ds = ff badL i (ds.drop i) ∧ ∃ s1 : Option V, σ = [some (.ref a), s1], ⟨rfl, rfl, none, rfl⟩, fun _ _ _ _ _ => trivial, ?_, ?_⟩
      · rintro i y σ H' hi rfl ⟨rfl, hff, s1, rfl⟩
        have hi1 : i < vs.length := by omega
        have hi2 : i < ds.length := by omega
        have hc : ds[i]? = some ds[i] := List.getElem?_eq_getElem hi2
        have hw : vs[i]? = some vs[i] := List.getElem?_eq_getElem hi1
        have hst := ff_at (p := badL) hc
        have bad : badL i ds[i] = true → Q (.int (i : Nat)) H' := fun z => by
          rw [hff, hst, if_pos z] at q
          exact q
        refine ⟨_, by walk_at "gs", ?_⟩
        walk_at "e0"
        refine ite2 (fun e1 => ?_) (fun e1 => ?_)
        · walk_at "g"
          exact bad (by unfold badL; rw [decide_eq_true (by have := of_decide_eq_true e1; omega)]; rfl)
        · have z0 : decide (i = 6) = false := decide_eq_false (fun z => e1 (decide_eq_true (by omega)))
          walk_at "e"
          refine re_call c dT (by decide) (by walk_at "gm") ?_
          walk_at "e"
          refine iv_tup (SqT.of t) (at_nat hw) ?_
          walk_at "e"
          refine ⟨B, vs[i], ds[i], rfl, hh i _ _ hw hc, hsm _ (List.getElem_mem hi2), ?_⟩
          walk_at "e"
          cases hd : tf ds[i] with
          | none =>
            show CpV _ _ V.non V.non _ _
            walk_at "g"
            refine ⟨rfl, ?_, _, rfl⟩
            have z : badL i ds[i] = false := by
              unfold badL
              rw [hd, z0]
              rfl
            rw [hff, hst, if_neg (by rw [z]; exact Bool.false_ne_true)]
          | some k =>
            show CpV _ _ (V.int k) V.non _ _
            walk_at "g"
            exact bad (by unfold badL; rw [hd]; simp)
      · rintro σ H' ⟨rfl, hff, s1, rfl⟩
        walk_at "g"
        rw [hff] at q
        have e3 : ((vs.length : Int)).toNat = ds.length := by omega
        rw [e3, ff_end] at q
        exact q
structure HeardC (K : PySem.W.Frag) (mg : Str → Option Value) (nm fl : Str) (bads : List Str) (CR : Addr) : Prop where
  gR : mg nm = some (.ref CR)
  exm : PySem.W.exmOne K (.ref CR) (.ref CR) = some true
  isi : mg "isinstance" = none
  ve : mg "ValueError" = none
  kv : PySem.W.kitOne K (.ref CR) (.type "ValueError") = some true
  own : ∃ CO : Addr, mg "OwnError" = some (.ref CO) ∧ PySem.W.kitOne K (.ref CR) (.ref CO) = some true
  bad : ∃ Cs : Str → Addr, (∀ n ∈ bads, mg n = some (.ref (Cs n))) ∧ PySem.W.kitAny K (.ref CR) (bads.map fun n => .ref (Cs n)) = some false
  kit : KitC K CR
  xf : XfC K CR
  no : PySem.W.findIn K (.ref CR) fl = some none
/-- what is heard of a call -/
def THeard (fl : Str) (CR : Addr) : (XK → Hp → VK → Prop) → Hp → VK → Prop := fun tl H Q =>
  tl (fun cls d H1 => cls = .ref CR ∧ ∃ (dd : Addr) (v : V), d = some dd ∧ H1 dd = some (.xd [(fl, v)]) ∧ ∀ p H2, H1 p = none → Fr NoB H1 H2 → H2 p = some (.tup [.str "none", v, .bl true, .bl true, .bl false]) → Q (.ref p) H2)
    H (fun v H1 => ∀ p H2, H1 p = none → Fr NoB H1 H2 → H2 p = some (.tup [.str "told", v]) → Q (.ref p) H2)
abbrev bads_label : List Str := ["BadDeed", "BadEvent", "BadFraction", "BadName", "BadOctets", "BadRoster", "BadRun", "BadText", "BadView", "Refused"]
theorem heard_label_gives {X : Cx} {CR g : Addr} {cdg : Value} {q : Str} (C : HeardC X.K X.mg "BadLabel" "at" bads_label CR) : LamX.GivesTo X nq_heard_label "_law_heard_label" (defScope sq_heard_label) g cdg (defBody sq_heard_label) "ask" q (THeard "at" CR) := by
  intro f c' s H Q tl act hc h
  have cS : CtxS (cxOf C8.CX0 X.prog X.w X.K X.mg X.base nq_heard_label "_law_heard_label" (defScope sq_heard_label) g cdg X.A X.stack s H C8.E0).nox nq_heard_label lq_heard_label := ⟨rfl, mq_heard_label.S.nd, knIs_of mq_heard_label rfl (fun _ => rfl), mq_heard_label.db⟩
  have rb : RB (cxOf C8.CX0 X.prog X.w X.K X.mg X.base nq_heard_label "_law_heard_label" (defScope sq_heard_label) g cdg X.A X.stack s H C8.E0).nox (defBody sq_heard_label) { nx := fun _ H' => Q .non H', rt := Q } (start nq_heard_label [.ref f]) H := by
    refine rb_cons ?_
    refine rs_try_as cS rfl rfl (by walk_at "gm") (by walk_at "gm") ⟨cS.gl (by walk_at "gm"), by decide +kernel, .inl C.gR⟩ ?_
    intro pn xe W tk po hW
    walk_at "g0"
    refine pe_mono (re_of (act W pn xe _ _ _ tk ?_) ⟨rfl, hc, h⟩) fun v H1 k => ?_
    · rintro cls d σ' H1 ⟨rfl, dd, v, rfl, hd, k⟩
      refine hW _ _ _ _ C.exm fun a oe pn2 nx bk ct σa ha hσ hl hz hf c2 => ?_
      obtain rfl := hσ 1 rfl
      obtain ⟨x, y, z, rfl⟩ : ∃ x y z, σ' = [x, y, z] := by
        match σ', hl with
        | [x, y, z], _ => exact ⟨x, y, z, rfl⟩
      obtain ⟨CO, mO, kO⟩ := C.own
      obtain ⟨Cs, mB, kB⟩ := C.bad
      show RB _ _ _ [x, some (.ref a), z] H1
      refine rb_cons ?_
      refine rs_setS c2 (by walk_at "gm") (by walk_at "gm") ?_
      refine re_isX c2 (by walk_at "gm") C.isi ?_
      refine ra_cons ?_
      refine re_nameS c2 (by walk_at "gs") (by walk_at "gm") .loc ?_
      refine ra_cons ?_
      refine re_tup ?_
      repeat (refine ra_cons ?_; refine re_globS c2 (v := .ref (Cs _)) (by walk_at "gm") (mB _ (by walk_at "gm")) rfl ?_)
      refine ra_nil ?_
      refine ⟨by show 10 ≤ sizeLine; decide, fun tp htp => ?_⟩
      refine ra_nil ?_
      have dt : dd ≠ tp := fun e => by rw [e, htp] at hd; cases hd
      refine lv_isXT C.kit hz hf (fs := [("at", v)]) (by rw [upd_ne dt]; exact hd) upd_same (.cons (.own _) (.cons (.own _) (.cons (.own _) (.cons (.own _) (.cons (.own _) (.cons (.own _) (.cons (.own _) (.cons (.own _) (.cons (.own _) (.cons (.own _) .nil)))))))))) kB ?_
      refine ⟨_, by walk_at "gs", ?_⟩
      refine rb_cons ?_
      refine rs_ret ?_
      refine re_tup ?_
      refine ra_cons (re_str ?_)
      refine ra_cons ?_
      refine re_field (fs := [("at", v)]) (v := v) C.xf C.no hz hf ?_
      refine re_nameS c2 (by walk_at "gs") (by walk_at "gm") .loc ?_
      refine ⟨rfl, by rw [upd_ne dt]; exact hd, rfl, ?_⟩
      refine ra_cons ?_
      refine re_isX c2 (by walk_at "gm") C.isi ?_
      refine ra_cons ?_
      refine re_nameS c2 (by walk_at "gs") (by walk_at "gm") .loc ?_
      refine ra_cons ?_
      refine re_globS c2 (v := .ref CO) (by walk_at "gm") mO rfl ?_
      refine ra_nil ?_
      refine lv_isX C.kit hz hf (fs := [("at", v)]) (by rw [upd_ne dt]; exact hd) (.own _) kO ?_
      refine ra_cons ?_
      refine re_isX c2 (by walk_at "gm") C.isi ?_
      refine ra_cons ?_
      refine re_nameS c2 (by walk_at "gs") (by walk_at "gm") .loc ?_
      refine ra_cons ?_
      refine re_bltnS c2 (v := .ty "ValueError") (by walk_at "gm") C.ve (by decide +kernel) rfl ?_
      refine ra_nil ?_
      refine lv_isX C.kit hz hf (fs := [("at", v)]) (by rw [upd_ne dt]; exact hd) (.ty _) C.kv ?_
      refine ra_cons ?_
      refine re_nameS c2 (by walk_at "gs") (by walk_at "gm") .loc ?_
      refine ra_nil ?_
      refine ⟨by show 5 ≤ sizeLine; decide, fun p hp => ?_⟩
      exact k p _ ((Fr.new (B := NoB) htp).free hp) ((Fr.new htp).trans (Fr.new hp)) upd_same
    · refine ra_nil ⟨by show 2 ≤ sizeLine; decide, fun p hp => ?_⟩
      exact k p _ hp (Fr.new hp) upd_same
  exact rb.ex
abbrev bads_name : List Str := ["BadDeed", "BadEvent", "BadFraction", "BadLabel", "BadOctets", "BadRoster", "BadRun", "BadText", "BadView", "Refused"]
theorem heard_name_gives {X : Cx} {CR g : Addr} {cdg : Value} {q : Str} (C : HeardC X.K X.mg "BadName" "at" bads_name CR) : LamX.GivesTo X nq_heard_name "_law_heard_name" (defScope sq_heard_name) g cdg (defBody sq_heard_name) "ask" q (THeard "at" CR) := by
  intro f c' s H Q tl act hc h
  have cS : CtxS (cxOf C8.CX0 X.prog X.w X.K X.mg X.base nq_heard_name "_law_heard_name" (defScope sq_heard_name) g cdg X.A X.stack s H C8.E0).nox nq_heard_name lq_heard_name := ⟨rfl, mq_heard_name.S.nd, knIs_of mq_heard_name rfl (fun _ => rfl), mq_heard_name.db⟩
  have rb : RB (cxOf C8.CX0 X.prog X.w X.K X.mg X.base nq_heard_name "_law_heard_name" (defScope sq_heard_name) g cdg X.A X.stack s H C8.E0).nox (defBody sq_heard_name) { nx := fun _ H' => Q .non H', rt := Q } (start nq_heard_name [.ref f]) H := by
    refine rb_cons ?_
    refine rs_try_as cS rfl rfl (by walk_at "gm") (by walk_at "gm") ⟨cS.gl (by walk_at "gm"), by decide +kernel, .inl C.gR⟩ ?_
    intro pn xe W tk po hW
    walk_at "g0"
    refine pe_mono (re_of (act W pn xe _ _ _ tk ?_) ⟨rfl, hc, h⟩) fun v H1 k => ?_
    · rintro cls d σ' H1 ⟨rfl, dd, v, rfl, hd, k⟩
      refine hW _ _ _ _ C.exm fun a oe pn2 nx bk ct σa ha hσ hl hz hf c2 => ?_
      obtain rfl := hσ 1 rfl
      obtain ⟨x, y, z, rfl⟩ : ∃ x y z, σ' = [x, y, z] := by
        match σ', hl with
        | [x, y, z], _ => exact ⟨x, y, z, rfl⟩
      obtain ⟨CO, mO, kO⟩ := C.own
      obtain ⟨Cs, mB, kB⟩ := C.bad
      show RB _ _ _ [x, some (.ref a), z] H1
      refine rb_cons ?_
      refine rs_setS c2 (by walk_at "gm") (by walk_at "gm") ?_
      refine re_isX c2 (by walk_at "gm") C.isi ?_
      refine ra_cons ?_
      refine re_nameS c2 (by walk_at "gs") (by walk_at "gm") .loc ?_
      refine ra_cons ?_
      refine re_tup ?_
      repeat (refine ra_cons ?_; refine re_globS c2 (v := .ref (Cs _)) (by walk_at "gm") (mB _ (by walk_at "gm")) rfl ?_)
      refine ra_nil ?_
      refine ⟨by show 10 ≤ sizeLine; decide, fun tp htp => ?_⟩
      refine ra_nil ?_
      have dt : dd ≠ tp := fun e => by rw [e, htp] at hd; cases hd
      refine lv_isXT C.kit hz hf (fs := [("at", v)]) (by rw [upd_ne dt]; exact hd) upd_same (.cons (.own _) (.cons (.own _) (.cons (.own _) (.cons (.own _) (.cons (.own _) (.cons (.own _) (.cons (.own _) (.cons (.own _) (.cons (.own _) (.cons (.own _) .nil)))))))))) kB ?_
      refine ⟨_, by walk_at "gs", ?_⟩
      refine rb_cons ?_
      refine rs_ret ?_
      refine re_tup ?_
      refine ra_cons (re_str ?_)
      refine ra_cons ?_
      refine re_field (fs := [("at", v)]) (v := v) C.xf C.no hz hf ?_
      refine re_nameS c2 (by walk_at "gs") (by walk_at "gm") .loc ?_
      refine ⟨rfl, by rw [upd_ne dt]; exact hd, rfl, ?_⟩
      refine ra_cons ?_
      refine re_isX c2 (by walk_at "gm") C.isi ?_
      refine ra_cons ?_
      refine re_nameS c2 (by walk_at "gs") (by walk_at "gm") .loc ?_
      refine ra_cons ?_
      refine re_globS c2 (v := .ref CO) (by walk_at "gm") mO rfl ?_
      refine ra_nil ?_
      refine lv_isX C.kit hz hf (fs := [("at", v)]) (by rw [upd_ne dt]; exact hd) (.own _) kO ?_
      refine ra_cons ?_
      refine re_isX c2 (by walk_at "gm") C.isi ?_
      refine ra_cons ?_
      refine re_nameS c2 (by walk_at "gs") (by walk_at "gm") .loc ?_
      refine ra_cons ?_
      refine re_bltnS c2 (v := .ty "ValueError") (by walk_at "gm") C.ve (by decide +kernel) rfl ?_
      refine ra_nil ?_
      refine lv_isX C.kit hz hf (fs := [("at", v)]) (by rw [upd_ne dt]; exact hd) (.ty _) C.kv ?_
      refine ra_cons ?_
      refine re_nameS c2 (by walk_at "gs") (by walk_at "gm") .loc ?_
      refine ra_nil ?_
      refine ⟨by show 5 ≤ sizeLine; decide, fun p hp => ?_⟩
      exact k p _ ((Fr.new (B := NoB) htp).free hp) ((Fr.new htp).trans (Fr.new hp)) upd_same
    · refine ra_nil ⟨by show 2 ≤ sizeLine; decide, fun p hp => ?_⟩
      exact k p _ hp (Fr.new hp) upd_same
  exact rb.ex
abbrev qL : Str := "_law_label_right" ++ ".<locals>." ++ "<lambda>"
abbrev qN : Str := "_law_name_right" ++ ".<locals>." ++ "<lambda>"
abbrev TT (P1 P2 : Addr) : List (Addr × Str) := [(P1, qL), (P2, qN)]
theorem hu1 {P1 P2 : Addr} (n : P1 ≠ P2) {p : Addr × Str} (h : p ∈ TT P1 P2) (e : p.1 = P1) : p.2 = qL := by
  rcases List.mem_cons.mp h with rfl | h
  · rfl
  · obtain rfl := List.mem_singleton.mp h
    exact absurd e.symm n
theorem hu2 {P1 P2 : Addr} (n : P1 ≠ P2) {p : Addr × Str} (h : p ∈ TT P1 P2) (e : p.1 = P2) : p.2 = qN := by
  rcases List.mem_cons.mp h with rfl | h
  · exact absurd e n
  · obtain rfl := List.mem_singleton.mp h
    rfl
def dGot (fu : D → Option Int) (d : D) : D := match fu d with
  | none => .tup [.str "told", d]
  | some i => .tup [.str "none", .int i, .bl true, .bl true, .bl false]
theorem got_none {fu : D → Option Int} {d : D} (h : fu d = none) : dGot fu d = .tup [.str "told", d] := by
  unfold dGot
  rw [h]
theorem got_some {fu : D → Option Int} {d : D} {i : Int} (h : fu d = some i) : dGot fu d = .tup [.str "none", .int i, .bl true, .bl true, .bl false] := by
  unfold dGot
  rw [h]
theorem dep_got {fu : D → Option Int} {n : Nat} {d : D} (h : Dep n d) : Dep (n + 1) (dGot fu d) := by
  cases e : fu d with
  | none =>
    rw [got_none e]
    refine .tup fun d' hd => ?_
    rcases List.mem_cons.mp hd with rfl | hd
    · exact .str
    · obtain rfl := List.mem_singleton.mp hd
      exact h
  | some i =>
    rw [got_some e]
    refine .tup fun d' hd => ?_
    simp only [List.mem_cons, List.not_mem_nil, or_false] at hd
    rcases hd with rfl | rfl | rfl | rfl | rfl
    · exact .str
    · exact .int
    · exact .bl
    · exact .bl
    · exact .bl
theorem at5X {X Xl : Cx} {x : Str} {ps : List Str} {n : Nat} {sp : Sp} (d : DefP X.prog X.w X.K X.mg X.base (L2.CX X.prog X.w) x ps n sp) (a : At5 Xl X.prog X.w X.K X.mg X.base) : DefP Xl.prog Xl.w Xl.K Xl.mg Xl.base (L2.CX Xl.prog Xl.w) x ps n sp := by
  obtain ⟨p1, p2, p3, p4, p5⟩ := a
  rw [p1, p2, p3, p4, p5]
  exact d
def spR_label (K : PySem.W.Frag) (P1 P2 : Addr) : Sp := fun vs H Q _ => ∃ (B : Addr → Prop) (v : V) (d : D), vs = [v] ∧ Dt K B H v d ∧ Sm d ∧ Dep 2 d ∧ LamX.Tabs (TT P1 P2) H ∧ ∀ H', Fx NoB H H' → LamX.Tabs (TT P1 P2) H' → Q (.bl true) H'
theorem body_label_right {X : Cx} (c : Ctx X nq_label_right lq_label_right 5) {cc P1 P2 CR g : Addr} {fdh : FuncData} (n12 : P1 ≠ P2) (hcode : X.env.code = .ref cc) (hq : X.env.qual = "_law_label_right" ++ ".<locals>.") (TB : LamX.TabB X.base X.mg cc P1) (FH : FnP X.K "_law_heard_label" sq_heard_label g fdh) (gx : X.mg "_law_heard_label" = some (.ref g)) (bH : Binds X.K fdh ["ask"] [])
    (HC : HeardC X.K X.mg "BadLabel" "at" bads_label CR) (dC : DefP X.prog X.w X.K X.mg X.base (L2.CX X.prog X.w) "check_label" ["value"] 3 (spCk X.K CR tf Sm)) (dS : DefP X.prog X.w X.K X.mg X.base CX0 "_law_same" ["told", "due"] 4 (spSame X.K 3))
    (dF : DefP X.prog X.w X.K X.mg X.base CX0 "_law_text_fault" ["value"] 1 (spTF X.K)) {vs : List V} {H : Hp} {Q : VK} {E : XK} (h : spR_label X.K P1 P2 vs H Q E) : RB X (defBody sq_label_right) { nx := fun _ H' => Q .non H', rt := Q } (start nq_label_right vs) H := by
  obtain ⟨B0, v, d, rfl, hv0, ho, hdp, hT, q⟩ := h
  have hv : Dt X.K NoB H v d := hv0.mono (fun _ z => z.elim)
  have rest : ∀ (pr : V) (pd : Addr) (H1 : Hp), Fr NoB H H1 → Dt X.K NoB H1 (.ref pd) (dGot tf d) → RB X (List.drop 2 (defBody sq_label_right)) { nx := fun _ H' => Q .non H', rt := Q } [some v, some pr, some (.ref pd)] H1 := by
    intro pr pd H1 f1 hd
    have t1 : LamX.Tabs (TT P1 P2) H1 := hT.ext fun b o e => f1 b o (fun z => z) e
    walk_at "e0"
    refine re_call c dS (by decide) (by walk_at "gm") ?_
    refine ra_cons ?_
    refine re_lamcall c (T := TT P1 P2) lq_label_right_l0 (by decide +kernel) FH gx bH mq_heard_label.S rfl (Or.inl (by decide +kernel)) (by decide +kernel) (fun cdg => heard_label_gives HC) TB hcode (by rw [hq]; walk_at "gm") (fun p hp e => by rw [hq]; exact hu1 n12 hp e) (by decide : 3 + 2 ≤ 5) (by walk_at "gm") ?_
    refine ⟨t1, fun H2 e2 t2 => ?_⟩
    have f2 : Fx NoB H1 H2 := Fx.ext e2
    refine LamR.intro (Ll := lq_label_right_l0) c (by decide +kernel) fun Xl cl al tkl => ?_
    refine re_callX cl (at5X dC al) (by decide) (by walk_at "gm") (passes_call tkl (fun cls d σ H h => h)) ?_
    walk_at "e"
    have hv2 : Dt X.K NoB H2 v d := f2.dt (hv.fr f1.any)
    have fin : ∀ (pg : Addr) (H4 : Hp), Fr NoB H2 H4 → Dt X.K NoB H4 (.ref pg) (dGot tf d) → spSame X.K 3 [.ref pg, .ref pd] H4 Q E0 := by
      intro pg H4 f4 hg
      refine ⟨dGot tf d, _, _, NoB, NoB, rfl, hg, (f2.dt hd).fr f4, dep_got hdp, fun H5 f5 => ?_⟩
      have fc := f4.trans f5
      exact q _ ((f1.fx.trans f2).trans fc.fx) (t2.ext fun b o e => fc b o (fun z => z) e)
    refine ⟨NoB, v, d, rfl, hv2, ho, fun hn H3 f3 => ?_, fun i hi H3 x f3 hx => ?_⟩
    · intro pg H4 hpg f4 h4
      walk_at "e"
      refine fin pg H4 (f3.trans f4) ?_
      rw [got_none hn]
      exact Dt.ofT (fun z => z) h4 (.cons .str (.cons (hv2.fr (f3.trans f4)) .nil))
    · refine ⟨rfl, x, .int i, rfl, upd_same, fun pg H4 hpg f4 h4 => ?_⟩
      walk_at "e"
      refine fin pg H4 ((f3.trans (Fr.new (o := .xd [("at", .int i)]) hx)).trans f4) ?_
      rw [got_some hi]
      exact Dt.ofT (fun z => z) h4 (.cons .str (.cons .int (.cons .bl (.cons .bl (.cons .bl .nil)))))
  show RB X (defBody sq_label_right) _ [some v, none, none] H
  walk_at "e0"
  refine re_call c dF (by decide) (by walk_at "gm") ?_
  walk_at "e"
  refine ⟨NoB, v, d, rfl, hv, ho, ?_⟩
  walk_at "e"
  walk_at "e0"
  cases hd : tf d with
  | none =>
    show CpV _ _ V.non V.non _ _
    walk_at "e"
    refine ⟨by show 2 ≤ sizeLine; decide, fun pd hpd => ?_⟩
    walk_at "e"
    have f2 : Fr NoB H (upd H pd (.tup [.str "told", v])) := Fr.new hpd
    refine rest .non pd _ f2 ?_
    rw [got_none hd]
    exact Dt.ofT (fun z => z) upd_same (.cons .str (.cons (hv.fr f2) .nil))
  | some i =>
    show CpV _ _ (V.int i) V.non _ _
    walk_at "e"
    refine ⟨by show 5 ≤ sizeLine; decide, fun pd hpd => ?_⟩
    walk_at "e"
    refine rest (.int i) pd _ (Fr.new hpd) ?_
    rw [got_some hd]
    exact Dt.ofT (fun z => z) upd_same (.cons .str (.cons .int (.cons .bl (.cons .bl (.cons .bl .nil)))))
def spR_name (K : PySem.W.Frag) (P1 P2 : Addr) : Sp := fun vs H Q _ => ∃ (B : Addr → Prop) (v : V) (d : D), vs = [v] ∧ Dt K B H v d ∧ SmN d ∧ Dep 2 d ∧ LamX.Tabs (TT P1 P2) H ∧ ∀ H', Fx NoB H H' → LamX.Tabs (TT P1 P2) H' → Q (.bl true) H'
theorem body_name_right {X : Cx} (c : Ctx X nq_name_right lq_name_right 6) {cc P1 P2 CR g : Addr} {fdh : FuncData} (n12 : P1 ≠ P2) (hcode : X.env.code = .ref cc) (hq : X.env.qual = "_law_name_right" ++ ".<locals>.") (TB : LamX.TabB X.base X.mg cc P2) (FH : FnP X.K "_law_heard_name" sq_heard_name g fdh) (gx : X.mg "_law_heard_name" = some (.ref g)) (bH : Binds X.K fdh ["ask"] [])
    (HC : HeardC X.K X.mg "BadName" "at" bads_name CR) (dC : DefP X.prog X.w X.K X.mg X.base (L2.CX X.prog X.w) "check_name" ["value"] 4 (spCk X.K CR nf SmN)) (dS : DefP X.prog X.w X.K X.mg X.base CX0 "_law_same" ["told", "due"] 4 (spSame X.K 3))
    (dF : DefP X.prog X.w X.K X.mg X.base CX0 "_law_name_fault" ["value"] 2 (spNFL X.K)) {vs : List V} {H : Hp} {Q : VK} {E : XK} (h : spR_name X.K P1 P2 vs H Q E) : RB X (defBody sq_name_right) { nx := fun _ H' => Q .non H', rt := Q } (start nq_name_right vs) H := by
  obtain ⟨B0, v, d, rfl, hv0, ho, hdp, hT, q⟩ := h
  have hv : Dt X.K NoB H v d := hv0.mono (fun _ z => z.elim)
  have rest : ∀ (pr : V) (pd : Addr) (H1 : Hp), Fr NoB H H1 → Dt X.K NoB H1 (.ref pd) (dGot nf d) → RB X (List.drop 2 (defBody sq_name_right)) { nx := fun _ H' => Q .non H', rt := Q } [some v, some pr, some (.ref pd)] H1 := by
    intro pr pd H1 f1 hd
    have t1 : LamX.Tabs (TT P1 P2) H1 := hT.ext fun b o e => f1 b o (fun z => z) e
    walk_at "e0"
    refine re_call c dS (by decide) (by walk_at "gm") ?_
    refine ra_cons ?_
    refine re_lamcall c (T := TT P1 P2) lq_name_right_l0 (by decide +kernel) FH gx bH mq_heard_name.S rfl (Or.inl (by decide +kernel)) (by decide +kernel) (fun cdg => heard_name_gives HC) TB hcode (by rw [hq]; walk_at "gm") (fun p hp e => by rw [hq]; exact hu2 n12 hp e) (by decide : 4 + 2 ≤ 6) (by walk_at "gm") ?_
    refine ⟨t1, fun H2 e2 t2 => ?_⟩
    have f2 : Fx NoB H1 H2 := Fx.ext e2
    refine LamR.intro (Ll := lq_name_right_l0) c (by decide +kernel) fun Xl cl al tkl => ?_
    refine re_callX cl (at5X dC al) (by decide) (by walk_at "gm") (passes_call tkl (fun cls d σ H h => h)) ?_
    walk_at "e"
    have hv2 : Dt X.K NoB H2 v d := f2.dt (hv.fr f1.any)
    have fin : ∀ (pg : Addr) (H4 : Hp), Fr NoB H2 H4 → Dt X.K NoB H4 (.ref pg) (dGot nf d) → spSame X.K 3 [.ref pg, .ref pd] H4 Q E0 := by
      intro pg H4 f4 hg
      refine ⟨dGot nf d, _, _, NoB, NoB, rfl, hg, (f2.dt hd).fr f4, dep_got hdp, fun H5 f5 => ?_⟩
      have fc := f4.trans f5
      exact q _ ((f1.fx.trans f2).trans fc.fx) (t2.ext fun b o e => fc b o (fun z => z) e)
    refine ⟨NoB, v, d, rfl, hv2, ho, fun hn H3 f3 => ?_, fun i hi H3 x f3 hx => ?_⟩
    · intro pg H4 hpg f4 h4
      walk_at "e"
      refine fin pg H4 (f3.trans f4) ?_
      rw [got_none hn]
      exact Dt.ofT (fun z => z) h4 (.cons .str (.cons (hv2.fr (f3.trans f4)) .nil))
    · refine ⟨rfl, x, .int i, rfl, upd_same, fun pg H4 hpg f4 h4 => ?_⟩
      walk_at "e"
      refine fin pg H4 ((f3.trans (Fr.new (o := .xd [("at", .int i)]) hx)).trans f4) ?_
      rw [got_some hi]
      exact Dt.ofT (fun z => z) h4 (.cons .str (.cons .int (.cons .bl (.cons .bl (.cons .bl .nil)))))
  show RB X (defBody sq_name_right) _ [some v, none, none] H
  walk_at "e0"
  refine re_call c dF (by decide) (by walk_at "gm") ?_
  walk_at "e"
  refine ⟨NoB, v, d, rfl, hv, ho, ?_⟩
  walk_at "e"
  walk_at "e0"
  cases hd : nf d with
  | none =>
    show CpV _ _ V.non V.non _ _
    walk_at "e"
    refine ⟨by show 2 ≤ sizeLine; decide, fun pd hpd => ?_⟩
    walk_at "e"
    have f2 : Fr NoB H (upd H pd (.tup [.str "told", v])) := Fr.new hpd
    refine rest .non pd _ f2 ?_
    rw [got_none hd]
    exact Dt.ofT (fun z => z) upd_same (.cons .str (.cons (hv.fr f2) .nil))
  | some i =>
    show CpV _ _ (V.int i) V.non _ _
    walk_at "e"
    refine ⟨by show 5 ≤ sizeLine; decide, fun pd hpd => ?_⟩
    walk_at "e"
    refine rest (.int i) pd _ (Fr.new hpd) ?_
    rw [got_some hd]
    exact Dt.ofT (fun z => z) upd_same (.cons .str (.cons .int (.cons .bl (.cons .bl (.cons .bl .nil)))))
/-! ### rows of labels -/
theorem dts_strs {K : PySem.W.Frag} {B : Addr → Prop} {H : Hp} : ∀ ls : List Str, Dts K B H (ls.map V.str) (ls.map D.str)
  | [] => .nil
  | _ :: r => .cons .str (dts_strs r)
def AllLab (ls : List Str) : Prop := ∀ a ∈ ls, Lab a
def spLabels : Sp := fun vs H Q _ => ∃ (b : Addr) (n : Int), vs = [.ref b, .int n] ∧ BoxAt H b ∧ 0 ≤ n ∧ n ≤ 100 ∧
  ∀ r H' (ls : List Str), H r = none → Fr (· = b) H H' → BoxAt H' b → ls.length = n.toNat → AllLab ls → H' r = some (.lst (ls.map V.str)) → Q (.ref r) H'
theorem body_labels {X : Cx} (c : Ctx X nq_labels lq_labels 3) (zr : X.mg "range" = none) (dL : DefP X.prog X.w X.K X.mg X.base CX0 "_law_label" ["box"] 3 spLabel) {vs : List V} {H : Hp} {Q : VK} {E : XK} (h : spLabels vs H Q E) :
    RB X (defBody sq_labels) { nx := fun _ H' => Q .non H', rt := Q } (start nq_labels vs) H := by
  obtain ⟨b, n, rfl, hB, n0, n100, q⟩ := h
  show RB X (defBody sq_labels) _ [some (.ref b), some (.int n), none] H
  walk_at "g0"
  refine re_lc_range c lq_labels_c0 (by decide +kernel) (by walk_at "gm") zr ?_
  walk_at "g"
  refine ⟨by omega, by omega, fun Dn hD => ?_⟩
  have nDb := hB.ne hD
  refine ⟨fun j H' => ∃ ss : List Str, H' Dn = some (.lst (ss.map V.str)) ∧ AllLab ss ∧ ss.length = j ∧ Fr (· = b) H H' ∧ BoxAt H' b, ⟨[], upd_same, (fun a h => by cases h), rfl, Fr.new hD, hB.fr (Fr.new hD)⟩, fun _ _ _ _ => trivial, ?_, ?_⟩
  · rintro j y H' hj rfl ⟨ls, h10, hls, lsl, f10, hB10⟩
    refine ⟨_, by walk_at "gs", fun s Hb C cl fp cb => rts_nil (iteT fun s Hb C cl fp cb => ?_)⟩
    walk_at "g"
    refine re_call cb dL (by decide) (by walk_at "gm") ?_
    walk_at "g"
    refine ⟨b, rfl, hB10, fun z H11 hz f11 hB11 => ?_⟩
    have h11 := f11 _ _ nDb h10
    refine ⟨_, h11, by rw [List.length_map]; exact Nat.lt_of_le_of_lt (by omega : ls.length ≤ 100) (by decide), ls ++ [z], by rw [upd_same, List.map_append]; rfl, fun m hm => ?_, by rw [List.length_append]; show ls.length + 1 = j + 1; omega, (f10.trans f11).put hD, hB11.put nDb⟩
    rcases List.mem_append.mp hm with h | h
    · exact hls m h
    · rw [List.mem_singleton.mp h]; exact hz
  · rintro H' ⟨ls, h10, hls, lsl, f10, hB10⟩
    exact q Dn H' ls hD f10 hB10 lsl hls h10
def g2 {α : Type} : List α → List α → List α
  | [], [z, l] => [l, z]
  | _, _ => []
def g1 {α : Type} : List α → List α → List α
  | [], [z] => [z]
  | _, _ => []
structure KeyC (X : Cx) (CXs : CXT) (x : Str) (ps ks : List Str) (g : List Value → List Value → List Value) (gV : List V → List V → List V) (n : Nat) (sp : Sp) : Prop where
  ex : ∃ (f : Addr) (fd : FuncData), FnOk X.prog X.w X.K X.mg X.base CXs n f fd ps sp ∧ X.mg x = some (.ref f) ∧ PySem.W.keepIn X.K (.ref f) = true ∧ KBinds X.K fd ps ks g gV
def dJ (ls : List Str) : D := if ls.length ≤ 6 then .tup (ls.map D.str) else .non
theorem dep_dJ (ls : List Str) : Dep 3 (dJ ls) := by
  unfold dJ
  split
  · refine .tup fun d hd => ?_
    obtain ⟨s, _, rfl⟩ := List.mem_map.mp hd
    exact .str
  · exact .non
def spJR : Sp := fun vs H Q _ => ∃ b : Addr, vs = [.ref b] ∧ BoxAt H b ∧ ∀ H', Fr (· = b) H H' → BoxAt H' b → Q (.bl true) H'
theorem body_joined {X : Cx} (c : Ctx X nq_joined lq_joined 4) (zl : X.mg "len" = none) (zt : X.mg "tuple" = none) (dT : DefP X.prog X.w X.K X.mg X.base CX0 "_law_take" ["box", "many"] 1 spTake) (dL : DefP X.prog X.w X.K X.mg X.base CX0 "_law_labels" ["box", "many"] 4 spLabels)
    (dS : DefP X.prog X.w X.K X.mg X.base CX0 "_law_same" ["told", "due"] 4 (spSame X.K 3)) (dJn : DefP X.prog X.w X.K X.mg X.base CX0 "joined_name" ["target", "rest"] 1 (spJoin X.K)) (kJ : KeyC X CX0 "joined_name" ["target", "rest"] ["rest", "target"] g2 g2 1 (spJoin X.K))
    {vs : List V} {H : Hp} {Q : VK} {E : XK} (h : spJR vs H Q E) : RB X (defBody sq_joined) { nx := fun _ H' => Q .non H', rt := Q } (start nq_joined vs) H := by
  obtain ⟨b, rfl, hB, q⟩ := h
  show RB X (defBody sq_joined) _ [some (.ref b), none, none, none, none] H
  refine rb_cons ?_
  refine rs_par2 c (by walk_at "gm") (by walk_at "gm") (by walk_at "gm") (by walk_at "gm") (by decide) ?_
  walk_at "e"
  refine re_call c dL (by decide) (by walk_at "gm") ?_
  walk_at "e"
  refine re_call c dT (by decide) (by walk_at "gm") ?_
  walk_at "e"
  refine ⟨b, 6, rfl, hB, by decide, by decide, fun d1 H1 a0 a6 f1 hB1 => ?_⟩
  walk_at "e"
  refine ⟨b, _, rfl, hB1, by omega, by omega, fun t H2 tl ht f2 hB2 ltl hlt h2 => ?_⟩
  have ntb := hB1.ne ht
  walk_at "e"
  refine re_call c dL (by decide) (by walk_at "gm") ?_
  walk_at "e"
  refine re_call c dT (by decide) (by walk_at "gm") ?_
  walk_at "e"
  refine ⟨b, 7, rfl, hB2, by decide, by decide, fun d3 H3 b0 b7 f3 hB3 => ?_⟩
  walk_at "e"
  refine ⟨b, _, rfl, hB3, by omega, by omega, fun r H4 rl hr f4 hB4 lrl hlr h4 => ?_⟩
  have nrb := hB3.ne hr
  have t4 := f4 _ _ ntb (f3 _ _ ntb h2)
  have f04 := ((f1.trans f2).trans f3).trans f4
  walk_at "e"
  refine ⟨.ref t, .ref r, _, _, rfl, by walk_at "gs", by walk_at "gs", ?_⟩
  walk_at "e0"
  refine ov_cat t4 h4 (sz30 (by rw [List.length_map, List.length_map]; omega)) fun s hs => ?_
  rw [← List.map_append]
  have f5 : Fr NoB H4 (upd H4 s (.lst ((tl ++ rl).map V.str))) := Fr.new hs
  have h5 : upd H4 s (.lst ((tl ++ rl).map V.str)) s = some (.lst ((tl ++ rl).map V.str)) := upd_same
  generalize upd H4 s (.lst ((tl ++ rl).map V.str)) = H5 at f5 h5
  walk_at "e"
  -- behind the choice of what is due
  have rest : ∀ (du : V) (H6 : Hp), Fr NoB H5 H6 → Dt X.K NoB H6 du (dJ (tl ++ rl)) → RB X (List.drop 3 (defBody sq_joined)) { nx := fun _ H' => Q .non H', rt := Q } [some (.ref b), some (.ref t), some (.ref r), some (.ref s), some du] H6 := by
    intro du H6 f6 hd
    have f46 := f5.trans f6
    have ask : ∀ (H7 : Hp) (pt pr : Addr) (K2 : VK), Fr NoB H6 H7 → H7 pt = some (.tup (tl.map V.str)) → H7 pr = some (.tup (rl.map V.str)) → (∀ v H8, Fr NoB H7 H8 → Dt X.K NoB H8 v (dJ (tl ++ rl)) → K2 v H8) → spJoin X.K [.ref pt, .ref pr] H7 K2 E0 := by
      intro H7 pt pr K2 f7 h1 h2 k
      refine ⟨pt, pr, _, _, rfl, h1, h2, by rw [List.length_map]; omega, by rw [List.length_map]; omega, fun hl => ?_, fun hl x H8 f8 h8 => ?_⟩
      · refine k _ _ Fr.refl ?_
        unfold dJ
        rw [if_neg (by rw [List.length_append]; rw [List.length_map, List.length_map] at hl; omega)]
        exact .non
      · refine k _ _ f8 ?_
        unfold dJ
        rw [if_pos (by rw [List.length_append]; rw [List.length_map, List.length_map] at hl; omega)]
        rw [← List.map_append] at h8
        exact Dt.ofT (fun z => z) h8 (dts_strs _)
    walk_at "e0"
    refine re_call c dS (by decide) (by walk_at "gm") ?_
    refine ra_cons ?_
    refine re_call c dJn (by decide) (by walk_at "gm") ?_
    walk_at "e"
    refine lv_tupL (SqL.of (f46 _ _ (fun z => z) t4)) fun pt hpt => ?_
    walk_at "e"
    have f7 : Fr NoB H6 (upd H6 pt (.tup (tl.map V.str))) := Fr.new hpt
    refine lv_tupL (SqL.of ((f46.trans f7) _ _ (fun z => z) h4)) fun pr hpr => ?_
    walk_at "e"
    have f8 := f7.trans (Fr.new (o := .tup (rl.map V.str)) hpr)
    refine ask _ pt pr _ f8 ((Fr.new (B := NoB) (o := .tup (rl.map V.str)) hpr) _ _ (fun z => z) upd_same) upd_same fun v H8 g8 hv => ?_
    walk_at "e"
    refine ⟨dJ (tl ++ rl), v, du, NoB, NoB, rfl, hv, (hd.fr f8).fr g8, dep_dJ _, fun H9 f9 => ?_⟩
    have f69 := (f8.trans g8).trans f9
    generalize upd (upd H6 pt (.tup (tl.map V.str))) pr (.tup (rl.map V.str)) = Hx at *
    walk_at "e"
    walk_at "e0"
    refine re_call c dS (by decide) (by walk_at "gm") ?_
    refine ra_cons ?_
    obtain ⟨f, fd, F1, gx, kp, hb⟩ := kJ.ex
    refine re_callKO c F1 (by decide) (by walk_at "gm") gx kp hb pass0 ?_
    refine rk_cons ?_
    walk_at "e"
    have f49 := f46.trans f69
    refine lv_tupL (SqL.of (f49 _ _ (fun z => z) h4)) fun pr2 hpr2 => ?_
    refine rk_cons ?_
    walk_at "e"
    have g1 : Fr NoB H9 (upd H9 pr2 (.tup (rl.map V.str))) := Fr.new hpr2
    refine lv_tupL (SqL.of ((f49.trans g1) _ _ (fun z => z) t4)) fun pt2 hpt2 => ?_
    refine rk_nil ?_
    have g2' := g1.trans (Fr.new (o := .tup (tl.map V.str)) hpt2)
    refine ask _ pt2 pr2 _ (f69.trans g2') upd_same ((Fr.new (B := NoB) (o := .tup (tl.map V.str)) hpt2) _ _ (fun z => z) upd_same) fun v2 H10 g10 hv2 => ?_
    walk_at "e"
    refine ⟨dJ (tl ++ rl), v2, du, NoB, NoB, rfl, hv2, ((hd.fr f69).fr g2').fr g10, dep_dJ _, fun H11 f11 => ?_⟩
    have fa := ((f49.trans g2').trans g10).trans f11
    exact q _ (f04.trans fa.any) (hB4.fr fa)
  walk_at "e0"
  refine lv_lenL (SqL.of h5) ?_
  rw [List.length_map]
  walk_at "e"
  refine ite2 (fun e => ?_) (fun e => ?_)
  · walk_at "e"
    refine lv_tupL (SqL.of h5) fun l hl => ?_
    walk_at "e"
    refine rest (.ref l) _ (Fr.new hl) ?_
    unfold dJ
    rw [if_pos (by have := of_decide_eq_true e; omega)]
    exact Dt.ofT (fun z => z) upd_same (dts_strs _)
  · walk_at "e"
    refine rest .non _ Fr.refl ?_
    unfold dJ
    rw [if_neg (fun z => e (decide_eq_true (by omega)))]
    exact .non
theorem smn_of {l : List D} (h : ∀ d ∈ l, Sm d) (hl : l.length ≤ 1000) : SmN (.tup l) := fun ds e => by
  cases e
  exact ⟨hl, h⟩
theorem sm_str {s : Str} (h : s.length ≤ 1000) : Sm (.str s) := fun s' e => by
  cases e
  exact h
theorem sm_strs {ls : List Str} (h : AllLab ls) : ∀ d ∈ ls.map D.str, Sm d := fun d hd => by
  obtain ⟨s, hs, rfl⟩ := List.mem_map.mp hd
  exact sm_str (by have := (h s hs).2.1; omega)
theorem dep_strs {n : Nat} {ls : List Str} : ∀ d ∈ ls.map D.str, Dep n d := fun d hd => by
  obtain ⟨s, _, rfl⟩ := List.mem_map.mp hd
  exact .str
theorem dep_up {n : Nat} {d : D} (h : Dep n d) : ∀ m, n ≤ m → Dep m d := by
  induction h with
  | non => exact fun _ _ => .non
  | bl => exact fun _ _ => .bl
  | int => exact fun _ _ => .int
  | str => exact fun _ _ => .str
  | lst _ ih =>
    intro m hm
    obtain ⟨k, rfl⟩ : ∃ k, m = k + 1 := ⟨m - 1, by omega⟩
    exact .lst fun d hd => ih d hd k (by omega)
  | tup _ ih =>
    intro m hm
    obtain ⟨k, rfl⟩ : ∃ k, m = k + 1 := ⟨m - 1, by omega⟩
    exact .tup fun d hd => ih d hd k (by omega)
theorem dts_set {K : PySem.W.Frag} {B : Addr → Prop} {H : Hp} {vs : List V} {ds : List D} {v : V} {d : D} {j : Nat} (h : Dts K B H vs ds) (hv : Dt K B H v d) : Dts K B H (vs.set j v) (ds.set j d) := by
  refine ⟨by rw [List.length_set, List.length_set, h.1], fun i u e h1 h2 => ?_⟩
  rw [List.getElem?_set] at h1 h2
  by_cases z : j = i
  · subst z
    rw [if_pos rfl] at h1 h2
    split at h1
    · split at h2
      · cases h1
        cases h2
        exact hv
      · cases h2
    · cases h1
  · rw [if_neg z] at h1 h2
    exact h.2 i u e h1 h2
def spSpoilt (K : PySem.W.Frag) : Sp := fun vs H Q _ => ∃ (b p : Addr) (ls : List Str), vs = [.ref b, .ref p] ∧ BoxAt H b ∧ H p = some (.lst (ls.map V.str)) ∧ ¬ p = b ∧ AllLab ls ∧ 1 ≤ ls.length ∧ ls.length ≤ 100 ∧
  ∀ (v : V) (d : D) H', SmN d → Dep 2 d → Dt K (· = b) H' v d → Fr (· = b) H H' → BoxAt H' b → Q v H'
theorem body_spoilt {X : Cx} (c : Ctx X nq_spoilt lq_spoilt 4) (zl : X.mg "len" = none) (zt : X.mg "tuple" = none) (zL : X.mg "list" = none) (zr : X.mg "range" = none) (dT : DefP X.prog X.w X.K X.mg X.base CX0 "_law_take" ["box", "many"] 1 spTake)
    (dP : DefP X.prog X.w X.K X.mg X.base CX0 "_law_pick" ["box", "some"] 2 (spPick X.K)) (dO : DefP X.prog X.w X.K X.mg X.base CX0 "_law_odd" ["box"] 3 (spOdd X.K)) (dB : DefP X.prog X.w X.K X.mg X.base CX0 "_law_bent" ["box", "label"] 4 spBent)
    {vs : List V} {H : Hp} {Q : VK} {E : XK} (h : spSpoilt X.K vs H Q E) : RB X (defBody sq_spoilt) { nx := fun _ H' => Q .non H', rt := Q } (start nq_spoilt vs) H := by
  obtain ⟨b, p, ls, rfl, hB, hp, npb, hls, l1, l100, q⟩ := h
  obtain ⟨w, hw⟩ : ∃ w, ls[0]? = some w := ⟨_, List.getElem?_eq_getElem (by omega)⟩
  have hwL := hls w (List.mem_of_getElem? hw)
  have at0 : atI (ls.map V.str) 0 = some (.str w) := at_nat (i := 0) (by rw [List.getElem?_map, hw]; rfl)
  show RB X (defBody sq_spoilt) _ [some (.ref b), some (.ref p), none, none, none] H
  walk_at "e0"
  refine re_call c dT (by decide) (by walk_at "gm") ?_
  walk_at "e"
  refine ⟨b, 5, rfl, hB, by decide, by decide, fun d0 H1 _ _ f1 hB1 => ?_⟩
  walk_at "e"
  have hp1 := f1 _ _ npb hp
  refine ite2 (fun e => ?_) (fun e => ?_)
  · walk_at "e0"
    refine re_call c dP (by decide) (by walk_at "gm") ?_
    walk_at "e"
    refine ⟨by show 0 ≤ sizeLine; decide, fun p1 h1 => ?_⟩
    walk_at "e"
    have n1 := hB1.ne h1
    have g1 : Fr NoB H1 (upd H1 p1 (.tup [])) := Fr.new h1
    have d1 : Dt X.K (· = b) (upd H1 p1 (.tup [])) (.ref p1) (.tup []) := Dt.newT h1 n1 .nil
    have hB2 := hB1.fr g1
    have hp2 := g1 _ _ (fun z => z) hp1
    generalize upd H1 p1 (.tup []) = H2 at *
    refine ⟨by show 0 ≤ sizeLine; decide, fun p2 h2 => ?_⟩
    walk_at "e"
    have n2 := hB2.ne h2
    have g2 : Fr NoB H2 (upd H2 p2 (.lst [])) := Fr.new h2
    have d2 : Dt X.K (· = b) (upd H2 p2 (.lst [])) (.ref p2) (.lst []) := Dt.newL h2 n2 .nil
    have hB3 := hB2.fr g2
    have hp3 := g2 _ _ (fun z => z) hp2
    generalize upd H2 p2 (.lst []) = H3 at *
    refine lv_listL (.inl (SqL.of hp3)) fun p3 h3 => ?_
    walk_at "e"
    have n3 := hB3.ne h3
    have g3 : Fr NoB H3 (upd H3 p3 (.lst (ls.map V.str))) := Fr.new h3
    have d3 : Dt X.K (· = b) (upd H3 p3 (.lst (ls.map V.str))) (.ref p3) (.lst (ls.map D.str)) := Dt.newL h3 n3 (dts_strs _)
    have hB4 := hB3.fr g3
    have hp4 := g3 _ _ (fun z => z) hp3
    generalize upd H3 p3 (.lst (ls.map V.str)) = H4 at *
    refine iv_list (SqL.of hp4) at0 ?_
    walk_at "e"
    refine ⟨by show 1 ≤ sizeLine; decide, fun p4 h4 => ?_⟩
    walk_at "e"
    have n4 := hB4.ne h4
    have g4 : Fr NoB H4 (upd H4 p4 (.tup [.str w])) := Fr.new h4
    have d4 : Dt X.K (· = b) (upd H4 p4 (.tup [.str w])) (.ref p4) (.tup [.str w]) := Dt.newT h4 n4 (.cons .str .nil)
    have hB5 := hB4.fr g4
    have hp5 := g4 _ _ (fun z => z) hp4
    generalize upd H4 p4 (.tup [.str w]) = H5 at *
    refine ov_cat hp5 hp5 (sz30 (by rw [List.length_map]; omega)) fun p5 h5 => ?_
    rw [← List.map_append]
    have g5 : Fr NoB H5 (upd H5 p5 (.lst ((ls ++ ls).map V.str))) := Fr.new h5
    have h5s : upd H5 p5 (.lst ((ls ++ ls).map V.str)) p5 = some (.lst ((ls ++ ls).map V.str)) := upd_same
    have hB6 := hB5.fr g5
    generalize upd H5 p5 (.lst ((ls ++ ls).map V.str)) = H6 at *
    walk_at "e"
    refine lv_tupL (SqL.of h5s) fun p6 h6 => ?_
    walk_at "e"
    have n6 := hB6.ne h6
    have g6 : Fr NoB H6 (upd H6 p6 (.tup ((ls ++ ls).map V.str))) := Fr.new h6
    have d6 : Dt X.K (· = b) (upd H6 p6 (.tup ((ls ++ ls).map V.str))) (.ref p6) (.tup ((ls ++ ls).map D.str)) := Dt.newT h6 n6 (dts_strs _)
    have hB7 := hB6.fr g6
    generalize upd H6 p6 (.tup ((ls ++ ls).map V.str)) = H7 at *
    refine ⟨by show 9 ≤ sizeLine; decide, fun p7 h7 => ?_⟩
    walk_at "e"
    have g7 : Fr NoB H7 (upd H7 p7 (.lst [.non, .str "a", .int 7, .ref p1, .ref p2, .ref p3, .bl true, .ref p4, .ref p6])) := Fr.new h7
    refine ⟨b, hB7.fr g7, p7, _, rfl, upd_same, hB7.ne h7, by show 0 < 9; decide, by show 9 < 2 ^ 31; decide, fun v H8 hv f8 hB8 => ?_⟩
    have k7 : ∀ {v : V} {d : D}, Dt X.K (· = b) H7 v d → Dt X.K (· = b) H8 v d := fun h => (h.fr g7.any).fr f8
    have g27 : Fr NoB H2 H7 := (((g2.trans g3).trans g4).trans g5).trans g6
    have ff : Fr (· = b) H H8 := (f1.trans ((g1.trans g27).trans g7).any).trans f8
    simp only [List.mem_cons, List.not_mem_nil, or_false] at hv
    rcases hv with rfl | rfl | rfl | rfl | rfl | rfl | rfl | rfl | rfl
    · exact q _ .non _ (fun s e => by cases e) .non .non ff hB8
    · exact q _ (.str "a") _ (fun s e => by cases e) .str .str ff hB8
    · exact q _ (.int 7) _ (fun s e => by cases e) .int .int ff hB8
    · exact q _ _ _ (smn_of (fun d hd => by cases hd) (by show 0 ≤ 1000; decide)) (.tup fun d hd => by cases hd) (k7 (d1.fr g27.any)) ff hB8
    · exact q _ _ _ (fun s e => by cases e) (.lst fun d hd => by cases hd) (k7 ((((d2.fr g3.any).fr g4.any).fr g5.any).fr g6.any)) ff hB8
    · exact q _ _ _ (fun s e => by cases e) (.lst dep_strs) (k7 (((d3.fr g4.any).fr g5.any).fr g6.any)) ff hB8
    · exact q _ (.bl true) _ (fun s e => by cases e) .bl .bl ff hB8
    · exact q _ _ _ (smn_of (fun d hd => by rw [List.mem_singleton.mp hd]; exact sm_str (by have := hwL.2.1; omega)) (by show 1 ≤ 1000; decide)) (.tup fun d hd => by rw [List.mem_singleton.mp hd]; exact .str) (k7 ((d4.fr g5.any).fr g6.any)) ff hB8
    · refine q _ _ _ (smn_of (sm_strs fun a ha => ?_) (by rw [List.length_map, List.length_append]; omega)) (.tup dep_strs) (k7 d6) ff hB8
      exact (List.mem_append.mp ha).elim (hls a) (hls a)
  · walk_at "e"
    walk_at "e0"
    refine lv_listL (.inl (SqL.of hp1)) fun f hf => ?_
    have g1 : Fr NoB H1 (upd H1 f (.lst (ls.map V.str))) := Fr.new hf
    have h2 : upd H1 f (.lst (ls.map V.str)) f = some (.lst (ls.map V.str)) := upd_same
    have nfb : ¬ f = b := hB1.ne hf
    have hB2 := hB1.fr g1
    have hp2 := g1 _ _ (fun z => z) hp1
    have npf : ¬ p = f := fun z => by rw [z, hf] at hp1; cases hp1
    have fst : ∀ {H' : Hp}, Fr (fun a => a = b ∨ a = f) (upd H1 f (.lst (ls.map V.str))) H' → Fr (· = b) H H' := fun {H'} g a o n e => by
      have e1 := f1 a o n e
      have na : ¬ a = f := fun z => by rw [z, hf] at e1; cases e1
      exact g a o (fun z => z.elim n na) (by rw [upd_ne na]; exact e1)
    generalize upd H1 f (.lst (ls.map V.str)) = H2 at *
    walk_at "e"
    refine rb_cons ?_
    refine rs_for_range c (by walk_at "gm") .loc (by walk_at "gm") (by walk_at "gm") zr ?_
    walk_at "e"
    refine re_call c dT (by decide) (by walk_at "gm") ?_
    walk_at "e"
    refine ⟨b, 2, rfl, hB2, by decide, by decide, fun many H3 m0 m2 f3 hB3 => ?_⟩
    walk_at "e"
    refine ⟨by omega, by omega, ?_⟩
    refine ⟨fun i σ H' => Fr (fun a => a = b ∨ a = f) H2 H' ∧ BoxAt H' b ∧ (∃ (us : List V) (ds : List D), H' f = some (.lst us) ∧ us.length = ls.length ∧ Dts X.K (fun a => a = b ∨ a = f) H' us ds ∧ ∀ d ∈ ds, Sm d ∧ Dep 1 d) ∧ ∃ s1 s2 : Option V, σ = [some (.ref b), some (.ref p), some (.ref f), s1, s2],
      ⟨Fr.sub f3 (fun a e => .inl e), hB3, ⟨_, ls.map D.str, f3 _ _ nfb h2, by rw [List.length_map], dts_strs _, fun d hd => ⟨sm_strs hls d hd, dep_strs d hd⟩⟩, _, _, rfl⟩, fun _ _ _ _ _ => trivial, ?_, ?_⟩
    · rintro i y σ H4 hi rfl ⟨f4, hB4, ⟨us, ds, h4, ul, hd4, hds⟩, s1, s2, rfl⟩
      refine ⟨_, by walk_at "gs", ?_⟩
      walk_at "e0"
      refine re_call c dT (by decide) (by walk_at "gm") ?_
      walk_at "e"
      refine lv_lenL (SqL.of h4) ?_
      walk_at "e"
      refine ⟨b, _, rfl, hB4, by omega, by omega, fun spot H5 s0 sl f5 hB5 => ?_⟩
      have h5 := f5 _ _ nfb h4
      have hd5 := hd4.fr (Fr.sub f5 fun a e => .inl e)
      have f25 := f4.trans (Fr.sub f5 fun a e => .inl e)
      walk_at "e"
      obtain ⟨j, hj, hjl⟩ : ∃ j, ixN us.length spot = some j ∧ j < us.length := ⟨spot.toNat, by unfold ixN; rw [if_pos s0, if_pos sl], by omega⟩
      -- the store, whatever is stored
      have put : ∀ (v : V) (d : D) (H6 : Hp) (nx : L2.St → Hp → Prop), Sm d → Dep 1 d → Dt X.K (fun a => a = b ∨ a = f) H6 v d → Fr (fun a => a = b ∨ a = f) H5 H6 → BoxAt H6 b → H6 f = some (.lst us) → Dts X.K (fun a => a = b ∨ a = f) H6 us ds →
          (∀ H', (Fr (fun a => a = b ∨ a = f) H2 H' ∧ BoxAt H' b ∧ (∃ (us : List V) (ds : List D), H' f = some (.lst us) ∧ us.length = ls.length ∧ Dts X.K (fun a => a = b ∨ a = f) H' us ds ∧ ∀ d ∈ ds, Sm d ∧ Dep 1 d)) → nx [some (.ref b), some (.ref p), some (.ref f), some (.int (i : Nat)), some (.int spot)] H') →
          nx [some (.ref b), some (.ref p), some (.ref f), some (.int (i : Nat)), some (.int spot)] (upd H6 f (.lst (us.set j v))) := by
        intro v d H6 nx hs hd hv f6 hB6 h6 hd6 k
        have fu : Fr (fun a => a = b ∨ a = f) H6 (upd H6 f (.lst (us.set j v))) := fun a o n e => by
          rw [upd_ne (fun z => n (.inr z))]
          exact e
        refine k _ ⟨(f25.trans f6).trans fu, hB6.put nfb, _, ds.set j d, upd_same, by rw [List.length_set, ul], (dts_set hd6 hv).fr fu, fun d' hd' => ?_⟩
        rcases List.mem_or_eq_of_mem_set hd' with z | z
        · exact hds d' z
        · rw [z]
          exact ⟨hs, hd⟩
      walk_at "e0"
      refine re_call c dT (by decide) (by walk_at "gm") ?_
      walk_at "e"
      refine ⟨b, 3, rfl, hB5, by decide, by decide, fun t H6 _ _ f6 hB6 => ?_⟩
      have h6 := f6 _ _ nfb h5
      have g6 := Fr.sub f6 (B' := fun a => a = b ∨ a = f) fun a e => .inl e
      have hd6 := hd5.fr g6
      walk_at "e"
      refine ite2 (fun e => ?_) (fun e => ?_)
      · refine re_call c dO (by decide) (by walk_at "gm") ?_
        walk_at "e"
        refine ⟨b, rfl, hB6, fun v d H7 hd hv f7 hB7 => ?_⟩
        have h7 := f7 _ _ nfb h6
        have g7 := Fr.sub f7 (B' := fun a => a = b ∨ a = f) fun a e => .inl e
        walk_at "e"
        refine ⟨f, us, spot, j, rfl, rfl, h7, hj, ?_⟩
        walk_at "e"
        refine put v d H7 _ hd.2.1 hd.1 (hv.mono ?_) (g6.trans g7) hB7 h7 (hd6.fr g7) ?_
        · rintro a (rfl | rfl)
          · exact old_box hB6
          · exact fun z => by rw [z] at h6; cases h6
        · rintro H' ⟨a1, a2, a3⟩
          walk_at "e"
          exact ⟨a1, a2, a3, _, _, rfl⟩
      · refine re_call c dB (by decide) (by walk_at "gm") ?_
        walk_at "e"
        have hp6 : H6 p = some (.lst (ls.map V.str)) := g6 _ _ (fun z => z.elim npb npf) (f25 _ _ (fun z => z.elim npb npf) hp2)
        refine iv_list (SqL.of hp6) at0 ?_
        walk_at "e"
        refine ⟨b, w, rfl, hwL.2.1, hB6, fun x H7 hx f7 hB7 => ?_⟩
        have h7 := f7 _ _ nfb h6
        have g7 := Fr.sub f7 (B' := fun a => a = b ∨ a = f) fun a e => .inl e
        walk_at "e"
        refine ⟨f, us, spot, j, rfl, rfl, h7, hj, ?_⟩
        walk_at "e"
        refine put (.str x) (.str x) H7 _ (sm_str (by omega)) .str .str (g6.trans g7) hB7 h7 (hd6.fr g7) ?_
        rintro H' ⟨a1, a2, a3⟩
        walk_at "e"
        exact ⟨a1, a2, a3, _, _, rfl⟩
    · rintro σ H4 ⟨f4, hB4, ⟨us, ds, h4, ul, hd4, hds⟩, s1, s2, rfl⟩
      walk_at "g"
      refine lv_tupL (SqL.of h4) fun l hl => ?_
      have nlb := hB4.ne hl
      have nlf : ¬ l = f := fun z => by rw [z, h4] at hl; cases hl
      have gl : Fr NoB H4 (upd H4 l (.tup us)) := Fr.new hl
      refine q (.ref l) (.tup ds) _ (smn_of (fun d hd => (hds d hd).1) (by rw [← hd4.1]; omega)) (.tup fun d hd => (hds d hd).2) ?_ (fst (f4.trans gl.any)) (hB4.fr gl)
      exact (Dt.newT hl (fun z => z.elim nlb nlf) hd4).mono fun a e => .inl e
theorem tab_box {H H' : Hp} {P b : Addr} {q : Str} {xs : List V} (t : LamX.TabS H P q) (hb : H b = some (.lst xs)) (f : Fr (· = b) H H') : LamX.TabS H' P q := by
  obtain ⟨ps, h1, h2, h3⟩ := t
  have n1 : ¬ P = b := fun e => by rw [e, hb] at h1; cases h1
  refine ⟨ps, f _ _ n1 h1, h2, fun pos cv hc => ?_⟩
  obtain ⟨c, e, hco⟩ := h3 pos cv hc
  exact ⟨c, e, f _ _ (fun e2 => by rw [e2, hb] at hco; cases hco) hco⟩
/-- b holds nothing in H0, or a table -/
def Nt (H0 : Hp) (b : Addr) : Prop := ∀ o, (∀ ps, o ≠ .tbl ps) → H0 b ≠ some o
theorem Fx.nt {H0 H : Hp} {b : Addr} (f : Fx NoB H0 H) (h : H b = none) : Nt H0 b := fun o t e => by
  have := f b o (fun z => z) t e
  rw [h] at this
  cases this
theorem fx_box {H0 H H' : Hp} {b : Addr} (f : Fx NoB H0 H) (hb : Nt H0 b) (g : Fr (· = b) H H') : Fx NoB H0 H' := fun a o n t e => g a o (fun q => hb o t (by rw [← q]; exact e)) (f a o n t e)
structure St (P1 P2 : Addr) (H0 : Hp) (b : Addr) (H : Hp) : Prop where
  fx : Fx NoB H0 H
  tab : LamX.Tabs (TT P1 P2) H
  nb : Nt H0 b
  box : BoxAt H b
structure Ls (b r : Addr) (ls : List Str) (H : Hp) : Prop where
  at_ : H r = some (.lst (ls.map V.str))
  ne : ¬ r = b
section
variable {P1 P2 b r : Addr} {H0 H H' : Hp} {ls : List Str}
theorem St.draw (s : St P1 P2 H0 b H) (f : Fr (· = b) H H') (hb : BoxAt H' b) : St P1 P2 H0 b H' := by
  obtain ⟨g, r, hg, _⟩ := id s.box
  exact ⟨fx_box s.fx s.nb f, fun p hp => tab_box (s.tab p hp) hg f, s.nb, hb⟩
theorem St.fr (s : St P1 P2 H0 b H) (f : Fr NoB H H') : St P1 P2 H0 b H' := ⟨s.fx.trans f.fx, s.tab.ext fun b o e => f b o (fun z => z) e, s.nb, s.box.fr f⟩
theorem St.go (s : St P1 P2 H0 b H) (f : Fx NoB H H') (t : LamX.Tabs (TT P1 P2) H') : St P1 P2 H0 b H' := ⟨s.fx.trans f, t, s.nb, f.box s.box⟩
theorem Ls.draw (s : Ls b r ls H) (f : Fr (· = b) H H') : Ls b r ls H' := { s with at_ := f _ _ s.ne s.at_ }
theorem Ls.fr (s : Ls b r ls H) (f : Fr NoB H H') : Ls b r ls H' := { s with at_ := f _ _ (fun z => z) s.at_ }
theorem Ls.go (s : Ls b r ls H) (f : Fx NoB H H') : Ls b r ls H' := { s with at_ := f.lst (fun z => z) s.at_ }
end
abbrev DT (X : Cx) := DefP X.prog X.w X.K X.mg X.base CX0
structure LawD (X : Cx) (P1 P2 C1 C2 : Addr) : Prop where
  bx : DT X "_law_box" ["script", "k"] 1 (spBox X.K)
  tk : DT X "_law_take" ["box", "many"] 1 spTake
  lb : DT X "_law_label" ["box"] 3 spLabel
  bn : DT X "_law_bent" ["box", "label"] 4 spBent
  od : DT X "_law_odd" ["box"] 3 (spOdd X.K)
  lr : DT X "_law_label_right" ["value"] 6 (spR_label X.K P1 P2)
  nr : DT X "_law_name_right" ["value"] 7 (spR_name X.K P1 P2)
  ls : DT X "_law_labels" ["box", "many"] 4 spLabels
  sp : DT X "_law_spoilt" ["box", "labels"] 5 (spSpoilt X.K)
  jn : DT X "_law_joined" ["box"] 5 spJR
  sm : DT X "_law_same" ["told", "due"] 4 (spSame X.K 3)
  kl : KeyC X (L2.CX X.prog X.w) "check_label" ["value"] ["value"] g1 g1 3 (spCk X.K C1 tf Sm)
  kn : KeyC X (L2.CX X.prog X.w) "check_name" ["value"] ["value"] g1 g1 4 (spCk X.K C2 nf SmN)
  zl : X.mg "len" = none
  zr : X.mg "range" = none
  zm : X.mg "min" = none
  zM : X.mg "max" = none
  zt : X.mg "tuple" = none
section
variable {X : Cx} {σ : L2.St} {H : Hp} {pos p0 p1 p2 p3 : Pos} {Q : VK}
/-- [z] * n -/
theorem re_rep1 {z : Str} {n : Int} {j j' : Nat} (h0 : 0 ≤ n) (h1 : n ≤ 100) (q : ∀ l H', Fr NoB H H' → H' l = some (.lst ((List.replicate n.toNat z).map V.str)) → Q (.ref l) H') :
    RE X (.BinOp (.List [.Constant (.str z) j p0] p1) .Mult (.Constant (.int n) j' p2) p3) σ H Q := by
  walk_at "e"
  refine ⟨by show 1 ≤ sizeLine; decide, fun p hp => ?_⟩
  walk_at "e"
  refine ov_rep upd_same (by omega) (by omega) (sz30 (by show 1 * n.toNat ≤ 100000; omega)) fun l hl => ?_
  refine q l _ ((Fr.new hp).trans (Fr.new hl)) ?_
  rw [upd_same]
  have e : ∀ m : Nat, (List.replicate m [V.str z]).flatten = (List.replicate m z).map V.str := fun m => by
    induction m with
    | zero => rfl
    | succ m ih => rw [List.replicate_succ, List.replicate_succ, List.flatten_cons, ih]; rfl
  rw [e]
/-- a + b, two lists of texts -/
theorem re_catS {e1 e2 : Expr} (q : RE X e1 σ H fun v H1 => ∃ (p : Addr) (xs : List Str), v = .ref p ∧ H1 p = some (.lst (xs.map V.str)) ∧ xs.length ≤ 100 ∧ RE X e2 σ H1 fun w H2 => ∃ (p2 : Addr) (ys : List Str), w = .ref p2 ∧ H2 p2 = some (.lst (ys.map V.str)) ∧ ys.length ≤ 100 ∧ H2 p = some (.lst (xs.map V.str)) ∧
    ∀ l H3, Fr NoB H2 H3 → H3 l = some (.lst ((xs ++ ys).map V.str)) → Q (.ref l) H3) : RE X (.BinOp e1 .Add e2 pos) σ H Q := by
  refine re_bin (pe_mono q ?_)
  rintro v H1 ⟨p, xs, rfl, h1, x1, r⟩
  refine pe_mono r ?_
  rintro w H2 ⟨p2, ys, rfl, h2, y1, h3, k⟩
  refine ov_cat h3 h2 (sz30 (by rw [List.length_map, List.length_map]; omega)) fun l hl => ?_
  rw [← List.map_append]
  exact k l _ (Fr.new hl) upd_same
end
def Itm (H : Hp) (v : V) : Prop := ∃ (p : Addr) (ls : List Str), v = .ref p ∧ H p = some (.lst (ls.map V.str)) ∧ ls.length ≤ 8 ∧ ∀ s ∈ ls, s.length ≤ 100
theorem Itm.fr {H H' : Hp} {v : V} (h : Itm H v) (f : Fr NoB H H') : Itm H' v := by
  obtain ⟨p, ls, e, h1, h2, h3⟩ := h
  exact ⟨p, ls, e, f _ _ (fun z => z) h1, h2, h3⟩
theorem Itm.fx {H H' : Hp} {v : V} (h : Itm H v) (f : Fx NoB H H') : Itm H' v := by
  obtain ⟨p, ls, e, h1, h2, h3⟩ := h
  exact ⟨p, ls, e, f.lst (fun z => z) h1, h2, h3⟩
theorem itm_of {H : Hp} {p : Addr} {ls : List Str} (h : H p = some (.lst (ls.map V.str))) (h2 : (decide (ls.length ≤ 8) && ls.all fun s => decide (s.length ≤ 100)) = true) : Itm H (.ref p) := by
  rw [Bool.and_eq_true, List.all_eq_true] at h2
  exact ⟨p, ls, rfl, h, of_decide_eq_true h2.1, fun s hs => of_decide_eq_true (h2.2 s hs)⟩
theorem cutV_mem {xs : List V} {lo hi : Option Int} {v : V} (h : v ∈ cutV xs lo hi) : v ∈ xs := List.mem_of_mem_drop (List.mem_of_mem_take h)
theorem pick_str {xs : List Str} {v : V} (h : v ∈ xs.map V.str) : ∃ a, a ∈ xs ∧ v = .str a := by
  obtain ⟨a, ha, e⟩ := List.mem_map.mp h
  exact ⟨a, ha, e.symm⟩
theorem cutV_strs {ls : List Str} (hi : Nat) : cutV (ls.map V.str) none (some (hi : Int)) = (ls.take hi).map V.str := by
  show ((ls.map V.str).drop (HT.sIx (ls.map V.str).length 0 none)).take (HT.sIx (ls.map V.str).length (ls.map V.str).length (some (hi : Int)) - HT.sIx (ls.map V.str).length 0 none) = _
  rw [HT.sIx_nat, HT.sIx_none, List.length_map, List.drop_zero, Nat.sub_zero, ← List.map_take]
  congr 1
  rcases Nat.lt_or_ge hi ls.length with z | z
  · rw [Nat.min_eq_left (by omega)]
  · rw [Nat.min_eq_right z, List.take_length, List.take_of_length_le z]
theorem cutV_six {ls : List Str} : cutV (ls.map V.str) none (some 6) = (ls.take 6).map V.str := cutV_strs 6
theorem isTx_of {v : V} (h : isTx v = true) : ∃ s, v = .str s ∧ s.length ≤ 100 := by
  cases v with
  | str s => exact ⟨s, rfl, of_decide_eq_true h⟩
  | _ => cases h
theorem dep_str {n : Nat} {s : Str} : Dep n (.str s) := .str
theorem oddN {d : D} (h : OddD d) : Sm d ∧ SmN d ∧ Dep 2 d := ⟨h.2.1, h.2.2, dep_up h.1 2 (by decide)⟩
theorem smn_strs {ls : List Str} (h : ∀ s ∈ ls, s.length ≤ 1000) (hl : ls.length ≤ 1000) : SmN (.tup (ls.map D.str)) := smn_of (fun d hd => by
  obtain ⟨s, hs, rfl⟩ := List.mem_map.mp hd
  exact sm_str (h s hs)) (by rw [List.length_map]; exact hl)
def spLaw (K : PySem.W.Frag) (P1 P2 : Addr) : Sp := fun vs H Q _ => ∃ (a : Addr) (ns : List Int), vs = [.ref a] ∧ SqL K H a (ns.map V.int) ∧ ns.length ≤ 63 ∧ LamX.Tabs (TT P1 P2) H ∧ ∀ H', Q (.bl true) H'
theorem ff_none {α : Type} {p : Nat → α → Bool} : ∀ {l : List α} {i : Nat}, (∀ j x, l[j]? = some x → p (i + j) x = false) → ff p i l = none
  | [], _, _ => rfl
  | x :: r, i, h => by
    show (if p i x = true then some i else ff p (i + 1) r) = none
    have h0 := h 0 x rfl
    rw [Nat.add_zero] at h0
    rw [if_neg (by rw [h0]; exact Bool.false_ne_true)]
    refine ff_none fun j y hy => ?_
    have h1 := h (j + 1) y hy
    rwa [show i + (j + 1) = i + 1 + j by omega] at h1
theorem tf_lab {z : Str} (h : Lab z) : tf (.str z) = none := by
  obtain ⟨h1, h8, hl⟩ := h
  show (if z.length = 0 then some (-1) else oN (ff badC 0 z.cps.toList)) = none
  rw [if_neg (by omega), ff_none]
  · rfl
  · intro j x hx
    have hj : j < z.cps.toList.length := by
      rcases Nat.lt_or_ge j z.cps.toList.length with w | w
      · exact w
      · rw [List.getElem?_eq_none w] at hx; cases hx
    have e : z.cps.toList.length = z.length := by simp [Str.length]
    have := hl x (List.mem_of_getElem? hx)
    unfold badC
    rw [decide_eq_false (by omega), decide_eq_false (by omega), decide_eq_false (by omega)]
    rfl
theorem nf_labs {ls : List Str} (h1 : 1 ≤ ls.length) (h6 : ls.length ≤ 6) (h : AllLab ls) : nf (.tup (ls.map D.str)) = none := by
  show (if (ls.map D.str).length = 0 then some (-1) else oN (ff badL 0 (ls.map D.str))) = none
  rw [List.length_map, if_neg (by omega), ff_none]
  · rfl
  · intro j x hx
    have hj : j < ls.length := by
      rcases Nat.lt_or_ge j ls.length with w | w
      · exact w
      · rw [List.getElem?_eq_none (by rw [List.length_map]; exact w)] at hx; cases hx
    obtain ⟨s, hs, rfl⟩ := List.mem_map.mp (List.mem_of_getElem? hx)
    unfold badL
    rw [tf_lab (h s hs), decide_eq_false (by omega)]
    rfl
theorem law_a {X : Cx} {P1 P2 C1 C2 : Addr} (c : Ctx X nq_law lq_law 7) (F : LawD X P1 P2 C1 C2) {a : Addr} {H : Hp} {Q : VK} (hT : LamX.Tabs (TT P1 P2) H) (q : ∀ (s : Option V) H', Fx NoB H H' → LamX.Tabs (TT P1 P2) H' → RB X (List.drop 1 (defBody sq_law)) { nx := fun _ H' => Q .non H', rt := Q } [some (.ref a), s, none, none, none, none, none] H') :
    RB X (defBody sq_law) { nx := fun _ H' => Q .non H', rt := Q } [some (.ref a), none, none, none, none, none, none] H := by
  refine rb_cons ?_
  refine rs_for_list c (by walk_at "gm") .loc (by walk_at "gm") ?_
  walk_at "e"
  refine ⟨by show 9 ≤ sizeLine; decide, fun pl hpl => ?_⟩
  have f1 : Fr NoB H _ := Fr.new (o := .lst [.str "a", .str "z", .str "abcdefgh", .str "abcdefghi", .str "zzzzzzzzz", .str "", .str "abcdefgh-", .str "abcdefg-i", .str "A"]) hpl
  have hal : ∀ v ∈ ([.str "a", .str "z", .str "abcdefgh", .str "abcdefghi", .str "zzzzzzzzz", .str "", .str "abcdefgh-", .str "abcdefg-i", .str "A"] : List V), isTx v = true := List.all_eq_true.mp (by decide +kernel)
  refine ⟨pl, _, rfl, SqL.of upd_same, fun i σ H' => Fx NoB (upd H pl (.lst [.str "a", .str "z", .str "abcdefgh", .str "abcdefghi", .str "zzzzzzzzz", .str "", .str "abcdefgh-", .str "abcdefg-i", .str "A"])) H' ∧ LamX.Tabs (TT P1 P2) H' ∧ ∃ s : Option V, σ = [some (.ref a), s, none, none, none, none, none],
    ⟨Fx.refl, hT.ext fun b o e => f1 b o (fun z => z) e, none, rfl⟩, fun i σ H' _ ⟨f, _⟩ => f.seqL (fun z => z) (SqL.of upd_same), ?_, ?_⟩
  · rintro i y σ H1 hi hy ⟨g1, t1, s, rfl⟩
    obtain ⟨z, rfl, hz⟩ := isTx_of (hal y (List.mem_of_getElem? hy))
    refine ⟨_, by walk_at "gs", ?_⟩
    walk_at "e0"
    refine re_call c F.lr (by decide) (by walk_at "gm") ?_
    walk_at "e"
    refine ⟨NoB, .str z, .str z, rfl, .str, sm_str (by omega), .str, t1, fun H2 f2 t2 => ?_⟩
    walk_at "e"
    refine re_call c F.nr (by decide) (by walk_at "gm") ?_
    walk_at "e"
    refine ⟨by show 1 ≤ sizeLine; decide, fun pt hpt => ?_⟩
    walk_at "e"
    have f3 : Fr NoB H2 (upd H2 pt (.tup [.str z])) := Fr.new hpt
    refine ⟨NoB, .ref pt, .tup [.str z], rfl, Dt.newT hpt (fun z => z) (.cons .str .nil), smn_strs (ls := [z]) (fun s hs => by rw [List.mem_singleton.mp hs]; omega) (by show 1 ≤ 1000; decide), .tup fun d hd => by rw [List.mem_singleton.mp hd]; exact .str, t2.ext fun b o e => f3 b o (fun z => z) e, fun H4 f4 t4 => ?_⟩
    walk_at "e"
    refine re_call c F.nr (by decide) (by walk_at "gm") ?_
    walk_at "e"
    refine ⟨NoB, .str z, .str z, rfl, .str, (fun s e => by cases e), .str, t4, fun H5 f5 t5 => ?_⟩
    walk_at "e"
    exact ⟨(((g1.trans f2).trans f3.fx).trans f4).trans f5, t5, _, rfl⟩
  · rintro σ H1 ⟨g1, t1, s, rfl⟩
    exact q s H1 (f1.fx.trans g1) t1
theorem law_b {X : Cx} {P1 P2 C1 C2 : Addr} (c : Ctx X nq_law lq_law 7) (F : LawD X P1 P2 C1 C2) {a : Addr} {s0 : Option V} {H1 : Hp} {Q : VK} (hT : LamX.Tabs (TT P1 P2) H1) (q : ∀ (s s2 : Option V) H', Fx NoB H1 H' → LamX.Tabs (TT P1 P2) H' → RB X (List.drop 2 (defBody sq_law)) { nx := fun _ H' => Q .non H', rt := Q } [some (.ref a), s, s2, none, none, none, none] H') :
    RB X (List.drop 1 (defBody sq_law)) { nx := fun _ H' => Q .non H', rt := Q } [some (.ref a), s0, none, none, none, none, none] H1 := by
  have zt := F.zt
  refine rb_cons ?_
  refine rs_for_list c (by walk_at "gm") .loc (by walk_at "gm") ?_
  refine re_lst ?_
  refine ra_cons ?_
  refine re_rep1 (by decide) (by decide) fun l1 J1 g1 h1 => ?_
  have i1 : Itm J1 (.ref l1) := itm_of h1 (by decide +kernel)
  refine ra_cons ?_
  refine re_rep1 (by decide) (by decide) fun l2 J2 g2 h2 => ?_
  have i2 : Itm J2 (.ref l2) := itm_of h2 (by decide +kernel)
  replace i1 := i1.fr g2
  refine ra_cons ?_
  refine re_rep1 (by decide) (by decide) fun l3 J3 g3 h3 => ?_
  have i3 : Itm J3 (.ref l3) := itm_of h3 (by decide +kernel)
  replace i1 := i1.fr g3
  replace i2 := i2.fr g3
  refine ra_cons ?_
  refine re_catS ?_
  refine re_rep1 (by decide) (by decide) fun x4 X4 u4 v4 => ?_
  refine ⟨x4, _, rfl, v4, by decide, ?_⟩
  walk_at "e"
  refine ⟨by show 1 ≤ sizeLine; decide, fun y4 w4 => ?_⟩
  refine ⟨y4, [""], rfl, upd_same, by decide, (Fr.new (B := NoB) w4) _ _ (fun z => z) v4, fun l4 J4 g4' h4 => ?_⟩
  have g4 := (u4.trans (Fr.new (B := NoB) w4)).trans g4'
  have i4 : Itm J4 (.ref l4) := itm_of h4 (by decide +kernel)
  replace i1 := i1.fr g4
  replace i2 := i2.fr g4
  replace i3 := i3.fr g4
  refine ra_cons ?_
  refine re_catS ?_
  refine re_rep1 (by decide) (by decide) fun x5 X5 u5 v5 => ?_
  refine ⟨x5, _, rfl, v5, by decide, ?_⟩
  walk_at "e"
  refine ⟨by show 1 ≤ sizeLine; decide, fun y5 w5 => ?_⟩
  refine ⟨y5, [""], rfl, upd_same, by decide, (Fr.new (B := NoB) w5) _ _ (fun z => z) v5, fun l5 J5 g5' h5 => ?_⟩
  have g5 := (u5.trans (Fr.new (B := NoB) w5)).trans g5'
  have i5 : Itm J5 (.ref l5) := itm_of h5 (by decide +kernel)
  replace i1 := i1.fr g5
  replace i2 := i2.fr g5
  replace i3 := i3.fr g5
  replace i4 := i4.fr g5
  refine ra_cons ?_
  refine re_catS ?_
  refine re_rep1 (by decide) (by decide) fun x6 X6 u6 v6 => ?_
  refine ⟨x6, _, rfl, v6, by decide, ?_⟩
  walk_at "e"
  refine ⟨by show 2 ≤ sizeLine; decide, fun y6 w6 => ?_⟩
  refine ⟨y6, ["A", "b"], rfl, upd_same, by decide, (Fr.new (B := NoB) w6) _ _ (fun z => z) v6, fun l6 J6 g6' h6 => ?_⟩
  have g6 := (u6.trans (Fr.new (B := NoB) w6)).trans g6'
  have i6 : Itm J6 (.ref l6) := itm_of h6 (by decide +kernel)
  replace i1 := i1.fr g6
  replace i2 := i2.fr g6
  replace i3 := i3.fr g6
  replace i4 := i4.fr g6
  replace i5 := i5.fr g6
  refine ra_cons ?_
  refine re_rep1 (by decide) (by decide) fun l7 J7 g7 h7 => ?_
  have i7 : Itm J7 (.ref l7) := itm_of h7 (by decide +kernel)
  replace i1 := i1.fr g7
  replace i2 := i2.fr g7
  replace i3 := i3.fr g7
  replace i4 := i4.fr g7
  replace i5 := i5.fr g7
  replace i6 := i6.fr g7
  refine ra_nil ?_
  refine ⟨by show 7 ≤ sizeLine; decide, fun pl hpl => ?_⟩
  have f1 : Fr NoB H1 J7 := (((((g1.trans g2).trans g3).trans g4).trans g5).trans g6).trans g7
  have f2 : Fr NoB J7 (upd J7 pl (.lst [.ref l1, .ref l2, .ref l3, .ref l4, .ref l5, .ref l6, .ref l7])) := Fr.new hpl
  have hal : ∀ v ∈ ([.ref l1, .ref l2, .ref l3, .ref l4, .ref l5, .ref l6, .ref l7] : List V), Itm (upd J7 pl (.lst [.ref l1, .ref l2, .ref l3, .ref l4, .ref l5, .ref l6, .ref l7])) v := fun v hv => by
    simp only [List.mem_cons, List.not_mem_nil, or_false] at hv
    rcases hv with rfl | rfl | rfl | rfl | rfl | rfl | rfl
    · exact i1.fr f2
    · exact i2.fr f2
    · exact i3.fr f2
    · exact i4.fr f2
    · exact i5.fr f2
    · exact i6.fr f2
    · exact i7.fr f2
  refine ⟨pl, _, rfl, SqL.of upd_same, fun i σ H' => Fx NoB (upd J7 pl (.lst [.ref l1, .ref l2, .ref l3, .ref l4, .ref l5, .ref l6, .ref l7])) H' ∧ LamX.Tabs (TT P1 P2) H' ∧ ∃ s : Option V, σ = [some (.ref a), s0, s, none, none, none, none],
    ⟨Fx.refl, hT.ext fun b o e => (f1.trans f2) b o (fun z => z) e, none, rfl⟩, fun i σ H' _ ⟨f, _⟩ => f.seqL (fun z => z) (SqL.of upd_same), ?_, ?_⟩
  · rintro i y σ K1 hi hy ⟨k1, t1, s, rfl⟩
    obtain ⟨p, ls, rfl, hp, l8, hls⟩ := (hal y (List.mem_of_getElem? hy)).fx k1
    refine ⟨_, by walk_at "gs", ?_⟩
    walk_at "e0"
    refine re_call c F.nr (by decide) (by walk_at "gm") ?_
    walk_at "e"
    refine lv_tupL (SqL.of hp) fun pt hpt => ?_
    walk_at "e"
    have f3 : Fr NoB K1 (upd K1 pt (.tup (ls.map V.str))) := Fr.new hpt
    refine ⟨NoB, .ref pt, .tup (ls.map D.str), rfl, Dt.newT hpt (fun z => z) (dts_strs _), smn_strs (fun s hs => by have := hls s hs; omega) (by omega), .tup dep_strs, t1.ext fun b o e => f3 b o (fun z => z) e, fun K2 f4 t4 => ?_⟩
    walk_at "e"
    refine re_call c F.nr (by decide) (by walk_at "gm") ?_
    walk_at "e"
    have hp2 := f4.lst (fun z => z) (f3 _ _ (fun z => z) hp)
    refine ⟨NoB, .ref p, .lst (ls.map D.str), rfl, Dt.ofL (fun z => z) hp2 (dts_strs _), (fun s e => by cases e), .lst dep_strs, t4, fun K3 f5 t5 => ?_⟩
    walk_at "e"
    exact ⟨((k1.trans f3.fx).trans f4).trans f5, t5, _, rfl⟩
  · rintro σ K1 ⟨k1, t1, s, rfl⟩
    exact q s0 s K1 ((f1.trans f2).fx.trans k1) t1
theorem body_law {X : Cx} {P1 P2 C1 C2 : Addr} (c : Ctx X nq_law lq_law 7) (F : LawD X P1 P2 C1 C2) {vs : List V} {H : Hp} {Q : VK} {E : XK} (h : spLaw X.K P1 P2 vs H Q E) : RB X (defBody sq_law) { nx := fun _ H' => Q .non H', rt := Q } (start nq_law vs) H := by
  obtain ⟨a, ns, rfl, hS, h63, hT, q⟩ := h
  have zl := F.zl
  have zr := F.zr
  have zm := F.zm
  have zM := F.zM
  have zt := F.zt
  refine law_a c F hT fun s0 Ha fa ta => ?_
  refine law_b c F ta fun s0 s1 Hb fb tb => ?_
  have fab := fa.trans fb
  clear hT ta fa fb
  refine rb_cons ?_
  refine rs_for_range c (by walk_at "gm") .loc (by walk_at "gm") (by walk_at "gm") zr ?_
  walk_at "e"
  refine lv_lenL (fab.seqL (fun z => z) hS) ?_
  rw [List.length_map]
  walk_at "e"
  obtain ⟨n, hn, n12⟩ : ∃ n : Nat, (if (if (12 : Int) < (ns.length : Int) then 12 else (ns.length : Int)) > 4 then (if (12 : Int) < (ns.length : Int) then 12 else (ns.length : Int)) else 4) = (n : Int) ∧ n ≤ 12 := by
    refine ⟨(if (if (12 : Int) < (ns.length : Int) then 12 else (ns.length : Int)) > 4 then (if (12 : Int) < (ns.length : Int) then 12 else (ns.length : Int)) else 4).toNat, ?_, ?_⟩
    · split <;> split <;> omega
    · split <;> split <;> omega
  rw [hn]
  refine ⟨by omega, by omega, ?_⟩
  rw [Int.toNat_natCast]
  refine ⟨fun i σ H' => Fx NoB H H' ∧ LamX.Tabs (TT P1 P2) H' ∧ ∃ s1 s2 s3 s4 s5 s6 : Option V, σ = [some (.ref a), s1, s2, s3, s4, s5, s6], ⟨fab, tb, _, _, _, _, _, _, rfl⟩, fun _ _ _ _ _ => trivial, ?_, ?_⟩
  · rintro i y σ H1 hi rfl ⟨f1, t1, s1, s2, s3, s4, s5, s6, rfl⟩
    refine ⟨_, by walk_at "gs", ?_⟩
    walk_at "e0"
    refine re_call c F.bx (by decide) (by walk_at "gm") ?_
    walk_at "e"
    refine ⟨a, ns, i, rfl, f1.seqL (fun z => z) hS, h63, by omega, by omega, fun b H2 hb f2 hB2 => ?_⟩
    have S2 : St P1 P2 H b H2 := ⟨f1.trans f2.fx, t1.ext fun b o e => f2 b o (fun z => z) e, Fx.nt f1 hb, hB2⟩
    walk_at "e"
    refine rb_cons ?_
    refine rs_for_range c (by walk_at "gm") .loc (by walk_at "gm") (by walk_at "gm") zr ?_
    walk_at "e"
    refine ⟨by decide, by decide, ?_⟩
    refine ⟨fun t σ H' => St P1 P2 H b H' ∧ ∃ u1 u2 u5 u6 : Option V, σ = [some (.ref a), u1, u2, some (.int (i : Nat)), some (.ref b), u5, u6], ⟨S2, _, _, _, _, rfl⟩, fun _ _ _ _ _ => trivial, ?_, ?_⟩
    · rintro t y σ H3 ht rfl ⟨S3, u1, u2, u5, u6, rfl⟩
      refine ⟨_, by walk_at "gs", ?_⟩
      walk_at "e0"
      refine re_call c F.lb (by decide) (by walk_at "gm") ?_
      walk_at "e"
      refine ⟨b, rfl, S3.box, fun z H4 hz f4 hB4 => ?_⟩
      have S4 := S3.draw f4 hB4
      have z8 := hz.2.1
      walk_at "e"
      walk_at "e0"
      refine re_call c F.lr (by decide) (by walk_at "gm") ?_
      walk_at "e"
      refine ⟨NoB, .str z, .str z, rfl, .str, sm_str (by omega), .str, S4.tab, fun H5 f5 t5 => ?_⟩
      have S5 := S4.go f5 t5
      walk_at "e"
      refine re_call c F.lr (by decide) (by walk_at "gm") ?_
      walk_at "e"
      refine re_call c F.bn (by decide) (by walk_at "gm") ?_
      walk_at "e"
      refine ⟨b, z, rfl, z8, S5.box, fun w H6 hw f6 hB6 => ?_⟩
      have S6 := S5.draw f6 hB6
      walk_at "e"
      refine ⟨NoB, .str w, .str w, rfl, .str, sm_str (by omega), .str, S6.tab, fun H7 f7 t7 => ?_⟩
      have S7 := S6.go f7 t7
      walk_at "e"
      refine re_call c F.lr (by decide) (by walk_at "gm") ?_
      walk_at "e"
      refine re_call c F.od (by decide) (by walk_at "gm") ?_
      walk_at "e"
      refine ⟨b, rfl, S7.box, fun v d H8 hd hv f8 hB8 => ?_⟩
      have S8 := S7.draw f8 hB8
      walk_at "e"
      refine ⟨_, v, d, rfl, hv, hd.2.1, dep_up hd.1 2 (by decide), S8.tab, fun H9 f9 t9 => ?_⟩
      have S9 := S8.go f9 t9
      walk_at "e"
      walk_at "e0"
      refine re_call c F.ls (by decide) (by walk_at "gm") ?_
      walk_at "e"
      refine re_call c F.tk (by decide) (by walk_at "gm") ?_
      walk_at "e"
      refine ⟨b, 8, rfl, S9.box, by decide, by decide, fun m HA m0 m8 fA hBA => ?_⟩
      have SA := S9.draw fA hBA
      walk_at "e"
      refine ⟨b, _, rfl, SA.box, by omega, by omega, fun r HB ls hr fB hBB lsl hls hB => ?_⟩
      have SB := SA.draw fB hBB
      have LB : Ls b r ls HB := ⟨hB, SA.box.ne hr⟩
      have hl8 : ls.length ≤ 8 := by omega
      have hl1 : 1 ≤ ls.length := by omega
      have hls8 : ∀ s ∈ ls, s.length ≤ 1000 := fun s hs => by have := (hls s hs).2.1; omega
      walk_at "e"
      walk_at "e0"
      refine re_call c F.nr (by decide) (by walk_at "gm") ?_
      walk_at "e"
      refine lv_tupL (SqL.of LB.at_) fun pt hpt => ?_
      walk_at "e"
      have gB : Fr NoB HB (upd HB pt (.tup (ls.map V.str))) := Fr.new hpt
      have SC := SB.fr gB
      have LC := LB.fr gB
      refine ⟨NoB, .ref pt, .tup (ls.map D.str), rfl, Dt.newT hpt (fun z => z) (dts_strs _), smn_strs hls8 (by omega), .tup dep_strs, SC.tab, fun HD fD tD => ?_⟩
      have SD := SC.go fD tD
      have LD := LC.go fD
      walk_at "e"
      refine re_call c F.nr (by decide) (by walk_at "gm") ?_
      walk_at "e"
      refine re_call c F.sp (by decide) (by walk_at "gm") ?_
      walk_at "e"
      refine ⟨b, r, ls, rfl, SD.box, LD.at_, LD.ne, hls, hl1, by omega, fun v d HE hd dd hv fE hBE => ?_⟩
      have SE := SD.draw fE hBE
      have LE := LD.draw fE
      walk_at "e"
      refine ⟨_, v, d, rfl, hv, hd, dd, SE.tab, fun HF fF tF => ?_⟩
      have SF := SE.go fF tF
      have LF := LE.go fF
      walk_at "e"
      refine re_call c F.jn (by decide) (by walk_at "gm") ?_
      walk_at "e"
      refine ⟨b, rfl, SF.box, fun HG fG hBG => ?_⟩
      have SG := SF.draw fG hBG
      have LG := LF.draw fG
      walk_at "e"
      walk_at "e0"
      refine re_call c F.nr (by decide) (by walk_at "gm") ?_
      walk_at "e"
      refine re_call c F.sp (by decide) (by walk_at "gm") ?_
      walk_at "e"
      refine ⟨b, r, ls, rfl, SG.box, LG.at_, LG.ne, hls, hl1, by omega, fun v d HI hd dd hv fI hBI => ?_⟩
      have SI := SG.draw fI hBI
      have LI := LG.draw fI
      walk_at "e"
      refine ⟨_, v, d, rfl, hv, hd, dd, SI.tab, fun HJ fJ tJ => ?_⟩
      have SJ := SI.go fJ tJ
      have LJ := LI.go fJ
      walk_at "e"
      refine re_call c F.sm (by decide) (by walk_at "gm") ?_
      refine ra_cons ?_
      obtain ⟨f, fd, F1, gx, kp, hb1⟩ := F.kl.ex
      refine re_callKO c F1 (by decide) (by walk_at "gm") gx kp hb1 passL ?_
      refine rk_cons ?_
      walk_at "e"
      refine rk_nil ?_
      have tz : tf (.str z) = none := tf_lab hz
      refine ⟨NoB, .str z, .str z, rfl, .str, sm_str (by omega), fun _ HK fK => ?_, fun i hi => by rw [tz] at hi; cases hi⟩
      have SK := SJ.fr fK
      have LK := LJ.fr fK
      walk_at "e"
      refine ⟨.str z, _, _, NoB, NoB, rfl, .str, .str, .str, fun HL fL => ?_⟩
      have SL := SK.fr fL
      have LL := LK.fr fL
      walk_at "e"
      walk_at "e0"
      -- the first six labels, as a tuple
      refine re_call c F.sm (by decide) (by walk_at "gm") ?_
      refine ra_cons ?_
      obtain ⟨f', fd', F1', gx', kp', hb2⟩ := F.kn.ex
      refine re_callKO c F1' (by decide) (by walk_at "gm") gx' kp' hb2 passL ?_
      refine rk_cons ?_
      walk_at "e"
      refine sv_list (SqL.of LL.at_) fun pc hpc => ?_
      rw [cutV_six]
      walk_at "e"
      have gM : Fr NoB HL (upd HL pc (.lst ((ls.take 6).map V.str))) := Fr.new hpc
      refine lv_tupL (SqL.of upd_same) fun pd hpd => ?_
      have gN := gM.trans (Fr.new (o := .tup ((ls.take 6).map V.str)) hpd)
      have hN : upd (upd HL pc (.lst ((ls.take 6).map V.str))) pd (.tup ((ls.take 6).map V.str)) pd = some (.tup ((ls.take 6).map V.str)) := upd_same
      generalize upd (upd HL pc (.lst ((ls.take 6).map V.str))) pd (.tup ((ls.take 6).map V.str)) = HN at gN hN
      have SN := SL.fr gN
      have LN := LL.fr gN
      have t6 : ∀ s ∈ ls.take 6, s ∈ ls := fun s hs => List.mem_of_mem_take hs
      have n6 : (ls.take 6).length ≤ 6 := by rw [List.length_take]; omega
      have n1 : 1 ≤ (ls.take 6).length := by rw [List.length_take]; omega
      have nz : nf (.tup ((ls.take 6).map D.str)) = none := nf_labs n1 n6 fun s hs => hls s (t6 s hs)
      refine rk_nil ?_
      refine ⟨NoB, .ref pd, .tup ((ls.take 6).map D.str), rfl, Dt.ofT (fun z => z) hN (dts_strs _), smn_strs (fun s hs => hls8 s (t6 s hs)) (by omega), fun _ HO fO => ?_, fun i hi => by rw [nz] at hi; cases hi⟩
      have SO := SN.fr fO
      have LO := LN.fr fO
      walk_at "e"
      refine sv_list (SqL.of LO.at_) fun pe hpe => ?_
      rw [cutV_six]
      walk_at "e"
      have gP : Fr NoB HO (upd HO pe (.lst ((ls.take 6).map V.str))) := Fr.new hpe
      refine lv_tupL (SqL.of upd_same) fun pf hpf => ?_
      have gQ := gP.trans (Fr.new (o := .tup ((ls.take 6).map V.str)) hpf)
      have hQ : upd (upd HO pe (.lst ((ls.take 6).map V.str))) pf (.tup ((ls.take 6).map V.str)) pf = some (.tup ((ls.take 6).map V.str)) := upd_same
      generalize upd (upd HO pe (.lst ((ls.take 6).map V.str))) pf (.tup ((ls.take 6).map V.str)) = HQ at gQ hQ
      walk_at "e"
      refine ⟨.tup ((ls.take 6).map D.str), .ref pd, .ref pf, NoB, NoB, rfl, Dt.ofT (fun z => z) ((fO.trans gQ) _ _ (fun z => z) hN) (dts_strs _), Dt.ofT (fun z => z) hQ (dts_strs _), .tup dep_strs, fun HR fR => ?_⟩
      have SR := (SO.fr gQ).fr fR
      walk_at "e"
      exact ⟨SR, _, _, _, _, rfl⟩
    · rintro σ H3 ⟨S3, u1, u2, u5, u6, rfl⟩
      walk_at "e"
      exact ⟨S3.fx, S3.tab, _, _, _, _, _, _, rfl⟩
  · rintro σ H1 ⟨f1, t1, s1, s2, s3, s4, s5, s6, rfl⟩
    walk_at "g0"
    exact q _
/-! ### the facts of the top -/
def dD (x : Str) (st : Stmt) : He.DefD := ⟨(x, none), x, x, defArgs st, defBody st, defScope st, [], []⟩
abbrev sIniBadLabel : Stmt := inCls (top 3) 0
def dIniBadLabel : He.DefD := ⟨("BadLabel", some "__init__"), "__init__", "BadLabel.__init__", defArgs sIniBadLabel, defBody sIniBadLabel, defScope sIniBadLabel, [], []⟩
abbrev sIniBadName : Stmt := inCls (top 4) 0
def dIniBadName : He.DefD := ⟨("BadName", some "__init__"), "__init__", "BadName.__init__", defArgs sIniBadName, defBody sIniBadName, defScope sIniBadName, [], []⟩
abbrev fns : List He.DefD := [dD "label_fault" sq_label_fault, dD "is_label" sq_is_label, dD "check_label" sq_check_label, dD "name_fault" sq_name_fault, dD "check_name" sq_check_name, dD "joined_name" sq_joined_name, dD "_law_take" sq_take, dD "_law_box" sq_box, dD "_law_pick" sq_pick, dD "_law_label" sq_label, dD "_law_sign" sq_sign, dD "_law_bent" sq_bent, dD "_law_odd" sq_odd, dD "_law_text_fault" sq_text_fault, dD "_law_name_fault" sq_name_faultL, dD "_law_same" sq_same, dD "_law_label_right" sq_label_right, dD "_law_name_right" sq_name_right, dD "_law_labels" sq_labels, dD "_law_joined" sq_joined, dD "_law_spoilt" sq_spoilt, dD "_law_heard_label" sq_heard_label, dD "_law_heard_name" sq_heard_name, dD "law" sq_law]
abbrev fnA : List He.DefD := dIniBadLabel :: dIniBadName :: fns
abbrev frA : List Str := ["isinstance", "str", "enumerate", "tuple", "len", "list", "int", "abs", "range", "max", "min", "zip", "bool", "ValueError"]
abbrev clA : List Str := ["OwnError", "BadDeed", "BadEvent", "BadFraction", "BadLabel", "BadName", "BadOctets", "BadRoster", "BadRun", "BadText", "BadView", "Refused"]
abbrev gcA : List He.Fa := [He.Fa.int "LABEL_LETTERS" (8), He.Fa.int "NAME_LABELS" (6)]
abbrev faA : List He.Fa := (fns.map fun d => He.Fa.glo d.name) ++ (frA.map He.Fa.free ++ (clA.map He.Fa.glo ++ gcA))
def exA (K : PySem.W.Frag) : Bool := (errB K "BadLabel" "at" && (errB K "BadName" "at" && (kitCB K (He.ga K "BadLabel") && (decide (PySem.W.exmOne K (.ref (He.ga K "BadLabel")) (.ref (He.ga K "BadLabel")) = some true) && (decide (PySem.W.kitOne K (.ref (He.ga K "BadLabel")) (.type "ValueError") = some true) && (decide (PySem.W.kitOne K (.ref (He.ga K "BadLabel")) (.ref (He.ga K "OwnError")) = some true) && (decide (PySem.W.kitAny K (.ref (He.ga K "BadLabel")) (bads_label.map fun n => .ref (He.ga K n)) = some false) && (kitCB K (He.ga K "BadName") && (decide (PySem.W.exmOne K (.ref (He.ga K "BadName")) (.ref (He.ga K "BadName")) = some true) && (decide (PySem.W.kitOne K (.ref (He.ga K "BadName")) (.type "ValueError") = some true) && (decide (PySem.W.kitOne K (.ref (He.ga K "BadName")) (.ref (He.ga K "OwnError")) = some true) && (decide (PySem.W.kitAny K (.ref (He.ga K "BadName")) (bads_name.map fun n => .ref (He.ga K n)) = some false) && decide ((He.cT K ("_law_label_right", none)).2 ≠ (He.cT K ("_law_name_right", none)).2)))))))))))))
structure FA (K : PySem.W.Frag) (mg : Str → Option Value) : Prop where
  fn : ∀ x st, dD x st ∈ fns → ∃ fd, FnP K x st (He.ga K x) fd ∧ mg x = some (.ref (He.ga K x))
  free : ∀ x ∈ frA, mg x = none
  gi_LABEL_LETTERS : ∃ t, mg "LABEL_LETTERS" = some (.int (8) t)
  gi_NAME_LABELS : ∃ t, mg "NAME_LABELS" = some (.int (6) t)
  err_BadLabel : ErrK K (He.ga K "BadLabel") (He.ma K (He.ga K "BadLabel") "__init__") "at"
  g_BadLabel : mg "BadLabel" = some (.ref (He.ga K "BadLabel"))
  ini_BadLabel : ∃ fd, FunD K "__init__" "BadLabel.__init__" (defArgs sIniBadLabel) (defBody sIniBadLabel) (defScope sIniBadLabel) [] [] (He.ma K (He.ga K "BadLabel") "__init__") fd
  err_BadName : ErrK K (He.ga K "BadName") (He.ma K (He.ga K "BadName") "__init__") "at"
  g_BadName : mg "BadName" = some (.ref (He.ga K "BadName"))
  ini_BadName : ∃ fd, FunD K "__init__" "BadName.__init__" (defArgs sIniBadName) (defBody sIniBadName) (defScope sIniBadName) [] [] (He.ma K (He.ga K "BadName") "__init__") fd
  heard_BadLabel : HeardC K mg "BadLabel" "at" bads_label (He.ga K "BadLabel")
  heard_BadName : HeardC K mg "BadName" "at" bads_name (He.ga K "BadName")
  ne_0_1 : (He.cT K ("_law_label_right", none)).2 ≠ (He.cT K ("_law_name_right", none)).2
theorem fA_of {w : World} {h : Heap} {K : PySem.W.Frag} {mg : Str → Option Value} {tf : List He.Defn} (X : K.In h) (G : h.Ns mainGlobals mg) (c : He.SaysX faA fnA [] tf exA w h K) : FA K mg := by
  have hg : ∀ x, He.Fa.glo x ∈ faA → mg x = some (.ref (He.ga K x)) := fun x hx => He.glo_ok X G (c.t.d.facts hx)
  have hf : ∀ x ∈ frA, mg x = none := fun x hx => He.free_ok X G (c.t.d.facts (List.mem_append_right _ (List.mem_append_left _ (List.mem_map.mpr ⟨x, hx, rfl⟩))))
  have hc : ∀ x ∈ clA, mg x = some (.ref (He.ga K x)) := fun x hx => hg x (List.mem_append_right _ (List.mem_append_right _ (List.mem_append_left _ (List.mem_map.mpr ⟨x, hx, rfl⟩))))
  have hi : ∀ x i, He.Fa.int x i ∈ gcA → ∃ t, mg x = some (.int i t) := fun x i hx => He.int_ok X G (c.t.d.facts (List.mem_append_right _ (List.mem_append_right _ (List.mem_append_right _ hx))))
  have hx0 : exA K = true := c.more
  unfold exA at hx0
  obtain ⟨b0, hx1⟩ := He.ba hx0
  obtain ⟨b1, hx2⟩ := He.ba hx1
  obtain ⟨b2, hx3⟩ := He.ba hx2
  obtain ⟨b3, hx4⟩ := He.ba hx3
  obtain ⟨b4, hx5⟩ := He.ba hx4
  obtain ⟨b5, hx6⟩ := He.ba hx5
  obtain ⟨b6, hx7⟩ := He.ba hx6
  obtain ⟨b7, hx8⟩ := He.ba hx7
  obtain ⟨b8, hx9⟩ := He.ba hx8
  obtain ⟨b9, hx10⟩ := He.ba hx9
  obtain ⟨b10, hx11⟩ := He.ba hx10
  obtain ⟨b11, hx12⟩ := He.ba hx11
  have b12 := hx12
  have er_BadLabel := errB_ok b0
  have er_BadName := errB_ok b1
  refine ⟨fun x st hx => ?_, hf, hi _ _ (by walk_at "gm"), hi _ _ (by walk_at "gm"), er_BadLabel, hc _ (by walk_at "gm"), c.t.d.defs (d := dIniBadLabel) (by walk_at "gm"), er_BadName, hc _ (by walk_at "gm"), c.t.d.defs (d := dIniBadName) (by walk_at "gm"), ⟨hc _ (by walk_at "gm"), of_decide_eq_true b3, hf _ (by walk_at "gm"), hf _ (by walk_at "gm"), of_decide_eq_true b4, ⟨_, hc _ (by walk_at "gm"), of_decide_eq_true b5⟩, ⟨He.ga K, fun n hn => hc n (by revert hn; revert n; decide), of_decide_eq_true b6⟩, kitCB_ok b2, er_BadLabel.xf, er_BadLabel.no⟩, ⟨hc _ (by walk_at "gm"), of_decide_eq_true b8, hf _ (by walk_at "gm"), hf _ (by walk_at "gm"), of_decide_eq_true b9, ⟨_, hc _ (by walk_at "gm"), of_decide_eq_true b10⟩, ⟨He.ga K, fun n hn => hc n (by revert hn; revert n; decide), of_decide_eq_true b11⟩, kitCB_ok b7, er_BadName.xf, er_BadName.no⟩, of_decide_eq_true b12⟩
  obtain ⟨fd, F⟩ := c.t.d.defs (d := dD x st) (List.mem_cons_of_mem _ (List.mem_cons_of_mem _ (hx)))
  exact ⟨fd, F, hg x (List.mem_append_left _ (List.mem_map.mpr ⟨_, hx, rfl⟩))⟩
theorem mIniBadLabel : Nms sIniBadLabel ["self", "at"] ["self", "at"] [("self", .loc), ("at", .loc)] := ⟨⟨rfl, rfl, rfl, by decide +kernel, rfl, by decide +kernel, by decide +kernel⟩, by decide +kernel, by decide +kernel, by decide +kernel⟩
theorem errC_BadLabel {P : Program} {w : World} {K : PySem.W.Frag} {mg : Str → Option Value} {base : Heap} (F : FA K mg) : ErrC P w K mg base "BadLabel" "at" (He.ga K "BadLabel") := by
  obtain ⟨fd, Fi⟩ := F.ini_BadLabel
  refine ⟨F.err_BadLabel.oex, F.g_BadLabel, F.err_BadLabel.no, F.err_BadLabel.xf, _, fd, ["self", "at"], F.err_BadLabel.iC, F.err_BadLabel.tI, ?_, FunD.bindsN Fi fun _ _ _ _ _ _ us hl => match us, hl with | [_, _], _ => rfl⟩
  refine Fi.ok mIniBadLabel.S (fun vs H Q E h => ?_) (fun cdv A outer s H vs Q E hr h => ?_)
  · obtain ⟨a, C, v, rfl, _⟩ := h
    rfl
  · have c : Ctx (cxOf CX0 P w K mg base ["self", "at"] "BadLabel.__init__" (defScope sIniBadLabel) (He.ma K (He.ga K "BadLabel") "__init__") cdv A outer s H E).nox ["self", "at"] [("self", .loc), ("at", .loc)] 0 := ⟨rfl, mIniBadLabel.S.nd, knIs_of mIniBadLabel rfl (fun _ => rfl), mIniBadLabel.db, rfl, hr, PassesOwn.never, mIniBadLabel.S.kind⟩
    have rb : RB (cxOf CX0 P w K mg base ["self", "at"] "BadLabel.__init__" (defScope sIniBadLabel) (He.ma K (He.ga K "BadLabel") "__init__") cdv A outer s H E).nox (defBody sIniBadLabel) { nx := fun _ H' => Q .non H', rt := Q } (start ["self", "at"] vs) H := by
      obtain ⟨a, C, v, rfl, o, n, hh, q⟩ := h
      show RB _ (defBody sIniBadLabel) _ [some (.ref a), some v] H
      refine rb_cons (rs_ost ?_)
      walk_at "e"
      exact ⟨a, C, rfl, o, n, hh, fun dx h1 h2 => rb_nil (q dx h1 h2)⟩
    obtain ⟨t, ht, q⟩ := rb.ex
    exact ⟨t, ht.nox, q⟩
theorem mIniBadName : Nms sIniBadName ["self", "at"] ["self", "at"] [("self", .loc), ("at", .loc)] := ⟨⟨rfl, rfl, rfl, by decide +kernel, rfl, by decide +kernel, by decide +kernel⟩, by decide +kernel, by decide +kernel, by decide +kernel⟩
theorem errC_BadName {P : Program} {w : World} {K : PySem.W.Frag} {mg : Str → Option Value} {base : Heap} (F : FA K mg) : ErrC P w K mg base "BadName" "at" (He.ga K "BadName") := by
  obtain ⟨fd, Fi⟩ := F.ini_BadName
  refine ⟨F.err_BadName.oex, F.g_BadName, F.err_BadName.no, F.err_BadName.xf, _, fd, ["self", "at"], F.err_BadName.iC, F.err_BadName.tI, ?_, FunD.bindsN Fi fun _ _ _ _ _ _ us hl => match us, hl with | [_, _], _ => rfl⟩
  refine Fi.ok mIniBadName.S (fun vs H Q E h => ?_) (fun cdv A outer s H vs Q E hr h => ?_)
  · obtain ⟨a, C, v, rfl, _⟩ := h
    rfl
  · have c : Ctx (cxOf CX0 P w K mg base ["self", "at"] "BadName.__init__" (defScope sIniBadName) (He.ma K (He.ga K "BadName") "__init__") cdv A outer s H E).nox ["self", "at"] [("self", .loc), ("at", .loc)] 0 := ⟨rfl, mIniBadName.S.nd, knIs_of mIniBadName rfl (fun _ => rfl), mIniBadName.db, rfl, hr, PassesOwn.never, mIniBadName.S.kind⟩
    have rb : RB (cxOf CX0 P w K mg base ["self", "at"] "BadName.__init__" (defScope sIniBadName) (He.ma K (He.ga K "BadName") "__init__") cdv A outer s H E).nox (defBody sIniBadName) { nx := fun _ H' => Q .non H', rt := Q } (start ["self", "at"] vs) H := by
      obtain ⟨a, C, v, rfl, o, n, hh, q⟩ := h
      show RB _ (defBody sIniBadName) _ [some (.ref a), some v] H
      refine rb_cons (rs_ost ?_)
      walk_at "e"
      exact ⟨a, C, rfl, o, n, hh, fun dx h1 h2 => rb_nil (q dx h1 h2)⟩
    obtain ⟨t, ht, q⟩ := rb.ex
    exact ⟨t, ht.nox, q⟩
section
variable {P : Program} {w : World} {K : PySem.W.Frag} {mg : Str → Option Value} {base : Heap} {x : Str} {st : Stmt} {N ps : List Str} {L : List (Str × KN)} {k : Nat} {sp : Sp} {f : Addr} {fd : FuncData}
theorem fnOk_of (F : FnP K x st f fd) (M : Nms st N ps L) (len : ∀ vs H Q E, sp vs H Q E → vs.length = ps.length)
    (body : ∀ (X : Cx), Ctx X N L k → At5 X P w K mg base → ∀ (vs : List V) (H : Hp) (Q : VK) (E : XK), sp vs H Q E → RB X (defBody st) { nx := fun _ H' => Q .non H', rt := Q } (start N vs) H) : FnOk P w K mg base CX0 (k + 1) f fd ps sp := by
  refine F.ok M.S len (fun cdv A outer s H vs Q E hr h => ?_)
  have c : Ctx (cxOf CX0 P w K mg base N x (defScope st) f cdv A outer s H E).nox N L k := ⟨rfl, M.S.nd, knIs_of M rfl (fun _ => rfl), M.db, rfl, hr, PassesOwn.never, M.S.kind⟩
  obtain ⟨t, ht, q⟩ := (body _ c ⟨rfl, rfl, rfl, rfl, rfl⟩ vs H Q E h).ex
  exact ⟨t, ht.nox, q⟩
theorem fnC_of (F : FnP K x st (He.fAd K (x, none)) fd) : FnC K x st (He.fAd K (x, none)) (He.cT K (x, none)).1 fd := by
  obtain ⟨oc, od, dV, kV, doc, pm, an, cdv, ct, osl, e, lk, hcd, _, _⟩ := F.ex
  obtain ⟨c, rfl⟩ := He.codeIn_ref hcd
  have e2 : (He.cT K (x, none)).1 = c := He.codeOf_eq lk (by rw [e] <;> rfl)
  rw [e2]
  exact ⟨⟨oc, od, dV, kV, doc, pm, an, ct, osl, e, lk, hcd⟩, F.kp⟩
theorem fnOkX_of (F : FnP K x st f fd) (M : Nms st N ps L) (len : ∀ vs H Q E, sp vs H Q E → vs.length = ps.length)
    (body : ∀ (X : Cx), Ctx X N L k → At5 X P w K mg base → ∀ (vs : List V) (H : Hp) (Q : VK) (E : XK), Takes X (fun cls d _ H' => E cls d H') → sp vs H Q E → RB X (defBody st) { nx := fun _ H' => Q .non H', rt := Q } (start N vs) H) : FnOk P w K mg base (L2.CX P w) (k + 1) f fd ps sp := by
  refine F.ok M.S len (fun cdv A outer s H vs Q E hr h => ?_)
  have c : Ctx (cxOf (L2.CX P w) P w K mg base N x (defScope st) f cdv A outer s H E) N L k := ⟨rfl, M.S.nd, knIs_of M rfl (fun _ => rfl), M.db, rfl, hr, passes_of rfl, M.S.kind⟩
  exact (body _ c ⟨rfl, rfl, rfl, rfl, rfl⟩ vs H Q E (takes_of rfl rfl rfl rfl) h).ex
end
section
variable {Pg : Program} {w : World} {K : PySem.W.Frag} {mg : Str → Option Value} {base : Heap}
theorem d_label_fault (F : FA K mg) : DefP Pg w K mg base CX0 "label_fault" ["value"] 1 (spLF K) := by
  obtain ⟨fd, f, g⟩ := F.fn "label_fault" sq_label_fault (by walk_at "gm")
  refine defP_of f g mq_label_fault (FunD.bindsN f fun _ _ _ _ _ _ us hl => match us, hl with | [_], _ => rfl) (fun vs H Q E h => by first | (obtain ⟨_, rfl, _⟩ := h; rfl) | (obtain ⟨_, _, rfl, _⟩ := h; rfl) | (obtain ⟨_, _, _, rfl, _⟩ := h; rfl) | (obtain ⟨_, _, _, _, rfl, _⟩ := h; rfl) | (obtain ⟨_, _, _, _, _, rfl, _⟩ := h; rfl) | (obtain ⟨_, _, _, _, _, _, rfl, _⟩ := h; rfl)) fun X c al vs H Q E h => ?_
  obtain ⟨rfl, rfl, rfl, rfl, rfl⟩ := al
  exact body_label_fault c (F.free _ (by walk_at "gm")) (F.free _ (by walk_at "gm")) (F.free _ (by walk_at "gm")) F.gi_LABEL_LETTERS h
theorem d_is_label (F : FA K mg) : DefP Pg w K mg base CX0 "is_label" ["value"] 2 (spIL K) := by
  obtain ⟨fd, f, g⟩ := F.fn "is_label" sq_is_label (by walk_at "gm")
  refine defP_of f g mq_is_label (FunD.bindsN f fun _ _ _ _ _ _ us hl => match us, hl with | [_], _ => rfl) (fun vs H Q E h => by first | (obtain ⟨_, rfl, _⟩ := h; rfl) | (obtain ⟨_, _, rfl, _⟩ := h; rfl) | (obtain ⟨_, _, _, rfl, _⟩ := h; rfl) | (obtain ⟨_, _, _, _, rfl, _⟩ := h; rfl) | (obtain ⟨_, _, _, _, _, rfl, _⟩ := h; rfl) | (obtain ⟨_, _, _, _, _, _, rfl, _⟩ := h; rfl)) fun X c al vs H Q E h => ?_
  obtain ⟨rfl, rfl, rfl, rfl, rfl⟩ := al
  exact body_is_label c (d_label_fault F) h
theorem d_check_label (F : FA K mg) : DefP Pg w K mg base (L2.CX Pg w) "check_label" ["value"] 3 (spCk K (He.ga K "BadLabel") tf Sm) := by
  obtain ⟨fd, f, g⟩ := F.fn "check_label" sq_check_label (by walk_at "gm")
  refine defPX_of f g mq_check_label (FunD.bindsN f fun _ _ _ _ _ _ us hl => match us, hl with | [_], _ => rfl) (fun vs H Q E h => by first | (obtain ⟨_, rfl, _⟩ := h; rfl) | (obtain ⟨_, _, rfl, _⟩ := h; rfl) | (obtain ⟨_, _, _, rfl, _⟩ := h; rfl) | (obtain ⟨_, _, _, _, rfl, _⟩ := h; rfl) | (obtain ⟨_, _, _, _, _, rfl, _⟩ := h; rfl) | (obtain ⟨_, _, _, _, _, _, rfl, _⟩ := h; rfl)) fun X c al vs H Q E tk h => ?_
  obtain ⟨rfl, rfl, rfl, rfl, rfl⟩ := al
  exact body_check_label c (errC_BadLabel F) (d_label_fault F) tk h
theorem kb_check_label {f : Addr} {fd : FuncData} (F : FnP K "check_label" sq_check_label f fd) : KBinds K fd ["value"] ["value"] g1 g1 := by
  obtain ⟨oc, od, dV, kV, doc, pm, an, cdv, ct, osl, rfl, lk, hcd, hD, hK⟩ := F.ex
  rcases hD with ⟨_, rfl⟩ | ⟨e, _⟩
  · refine ⟨fun s us ws _ hl => ?_, fun {vs us zs ws} r rz => ?_⟩
    · match us, ws, hl with
      | [], [a0], _ => exact .of_eq rfl
    · match vs, us, r with
      | [], [], _ =>
        match zs, ws, rz with
        | [a0], [a0'], .cons h0 (.nil) => exact .cons h0 (.nil)
        | [], _, .nil => exact .nil
        | _ :: _ :: _, _, .cons _ (.cons _ (_)) => exact .nil
      | _ :: _, _, .cons _ _ => exact .nil
  · exact absurd rfl e
theorem key_check_label {X : Cx} (F : FA X.K X.mg) : KeyC X (L2.CX X.prog X.w) "check_label" ["value"] ["value"] g1 g1 3 (spCk X.K (He.ga X.K "BadLabel") tf Sm) := by
  obtain ⟨fd, f, g⟩ := F.fn "check_label" sq_check_label (by walk_at "gm")
  refine ⟨He.ga X.K "check_label", fd, ?_, g, f.kp, kb_check_label f⟩
  refine fnOkX_of f mq_check_label (fun vs H Q E h => by first | (obtain ⟨_, rfl, _⟩ := h; rfl) | (obtain ⟨_, _, rfl, _⟩ := h; rfl) | (obtain ⟨_, _, _, rfl, _⟩ := h; rfl) | (obtain ⟨_, _, _, _, rfl, _⟩ := h; rfl) | (obtain ⟨_, _, _, _, _, rfl, _⟩ := h; rfl) | (obtain ⟨_, _, _, _, _, _, rfl, _⟩ := h; rfl)) fun Y c al vs H Q E tk h => ?_
  have F2 : FA Y.K Y.mg := by rw [al.k, al.m]; exact F
  have h2 := h
  rw [← al.k] at h2
  exact body_check_label c (errC_BadLabel F2) (d_label_fault F2) tk h2
theorem d_name_fault (F : FA K mg) : DefP Pg w K mg base CX0 "name_fault" ["value"] 3 (spNF K) := by
  obtain ⟨fd, f, g⟩ := F.fn "name_fault" sq_name_fault (by walk_at "gm")
  refine defP_of f g mq_name_fault (FunD.bindsN f fun _ _ _ _ _ _ us hl => match us, hl with | [_], _ => rfl) (fun vs H Q E h => by first | (obtain ⟨_, rfl, _⟩ := h; rfl) | (obtain ⟨_, _, rfl, _⟩ := h; rfl) | (obtain ⟨_, _, _, rfl, _⟩ := h; rfl) | (obtain ⟨_, _, _, _, rfl, _⟩ := h; rfl) | (obtain ⟨_, _, _, _, _, rfl, _⟩ := h; rfl) | (obtain ⟨_, _, _, _, _, _, rfl, _⟩ := h; rfl)) fun X c al vs H Q E h => ?_
  obtain ⟨rfl, rfl, rfl, rfl, rfl⟩ := al
  exact body_name_fault c (F.free _ (by walk_at "gm")) (F.free _ (by walk_at "gm")) (F.free _ (by walk_at "gm")) (F.free _ (by walk_at "gm")) F.gi_NAME_LABELS (d_is_label F) h
theorem d_check_name (F : FA K mg) : DefP Pg w K mg base (L2.CX Pg w) "check_name" ["value"] 4 (spCk K (He.ga K "BadName") nf SmN) := by
  obtain ⟨fd, f, g⟩ := F.fn "check_name" sq_check_name (by walk_at "gm")
  refine defPX_of f g mq_check_name (FunD.bindsN f fun _ _ _ _ _ _ us hl => match us, hl with | [_], _ => rfl) (fun vs H Q E h => by first | (obtain ⟨_, rfl, _⟩ := h; rfl) | (obtain ⟨_, _, rfl, _⟩ := h; rfl) | (obtain ⟨_, _, _, rfl, _⟩ := h; rfl) | (obtain ⟨_, _, _, _, rfl, _⟩ := h; rfl) | (obtain ⟨_, _, _, _, _, rfl, _⟩ := h; rfl) | (obtain ⟨_, _, _, _, _, _, rfl, _⟩ := h; rfl)) fun X c al vs H Q E tk h => ?_
  obtain ⟨rfl, rfl, rfl, rfl, rfl⟩ := al
  exact body_check_name c (errC_BadName F) (d_name_fault F) tk h
theorem kb_check_name {f : Addr} {fd : FuncData} (F : FnP K "check_name" sq_check_name f fd) : KBinds K fd ["value"] ["value"] g1 g1 := by
  obtain ⟨oc, od, dV, kV, doc, pm, an, cdv, ct, osl, rfl, lk, hcd, hD, hK⟩ := F.ex
  rcases hD with ⟨_, rfl⟩ | ⟨e, _⟩
  · refine ⟨fun s us ws _ hl => ?_, fun {vs us zs ws} r rz => ?_⟩
    · match us, ws, hl with
      | [], [a0], _ => exact .of_eq rfl
    · match vs, us, r with
      | [], [], _ =>
        match zs, ws, rz with
        | [a0], [a0'], .cons h0 (.nil) => exact .cons h0 (.nil)
        | [], _, .nil => exact .nil
        | _ :: _ :: _, _, .cons _ (.cons _ (_)) => exact .nil
      | _ :: _, _, .cons _ _ => exact .nil
  · exact absurd rfl e
theorem key_check_name {X : Cx} (F : FA X.K X.mg) : KeyC X (L2.CX X.prog X.w) "check_name" ["value"] ["value"] g1 g1 4 (spCk X.K (He.ga X.K "BadName") nf SmN) := by
  obtain ⟨fd, f, g⟩ := F.fn "check_name" sq_check_name (by walk_at "gm")
  refine ⟨He.ga X.K "check_name", fd, ?_, g, f.kp, kb_check_name f⟩
  refine fnOkX_of f mq_check_name (fun vs H Q E h => by first | (obtain ⟨_, rfl, _⟩ := h; rfl) | (obtain ⟨_, _, rfl, _⟩ := h; rfl) | (obtain ⟨_, _, _, rfl, _⟩ := h; rfl) | (obtain ⟨_, _, _, _, rfl, _⟩ := h; rfl) | (obtain ⟨_, _, _, _, _, rfl, _⟩ := h; rfl) | (obtain ⟨_, _, _, _, _, _, rfl, _⟩ := h; rfl)) fun Y c al vs H Q E tk h => ?_
  have F2 : FA Y.K Y.mg := by rw [al.k, al.m]; exact F
  have h2 := h
  rw [← al.k] at h2
  exact body_check_name c (errC_BadName F2) (d_name_fault F2) tk h2
theorem d_joined_name (F : FA K mg) : DefP Pg w K mg base CX0 "joined_name" ["target", "rest"] 1 (spJoin K) := by
  obtain ⟨fd, f, g⟩ := F.fn "joined_name" sq_joined_name (by walk_at "gm")
  refine defP_of f g mq_joined_name (FunD.bindsN f fun _ _ _ _ _ _ us hl => match us, hl with | [_, _], _ => rfl) (fun vs H Q E h => by first | (obtain ⟨_, rfl, _⟩ := h; rfl) | (obtain ⟨_, _, rfl, _⟩ := h; rfl) | (obtain ⟨_, _, _, rfl, _⟩ := h; rfl) | (obtain ⟨_, _, _, _, rfl, _⟩ := h; rfl) | (obtain ⟨_, _, _, _, _, rfl, _⟩ := h; rfl) | (obtain ⟨_, _, _, _, _, _, rfl, _⟩ := h; rfl)) fun X c al vs H Q E h => ?_
  obtain ⟨rfl, rfl, rfl, rfl, rfl⟩ := al
  exact body_joined_name c (F.free _ (by walk_at "gm")) F.gi_NAME_LABELS h
theorem kb_joined_name {f : Addr} {fd : FuncData} (F : FnP K "joined_name" sq_joined_name f fd) : KBinds K fd ["target", "rest"] ["rest", "target"] g2 g2 := by
  obtain ⟨oc, od, dV, kV, doc, pm, an, cdv, ct, osl, rfl, lk, hcd, hD, hK⟩ := F.ex
  rcases hD with ⟨_, rfl⟩ | ⟨e, _⟩
  · refine ⟨fun s us ws _ hl => ?_, fun {vs us zs ws} r rz => ?_⟩
    · match us, ws, hl with
      | [], [a0, a1], _ => exact .of_eq rfl
    · match vs, us, r with
      | [], [], _ =>
        match zs, ws, rz with
        | [a0, a1], [a0', a1'], .cons h0 (.cons h1 (.nil)) => exact .cons h1 (.cons h0 (.nil))
        | [], _, .nil => exact .nil
        | [_], _, .cons _ (.nil) => exact .nil
        | _ :: _ :: _ :: _, _, .cons _ (.cons _ (.cons _ (_))) => exact .nil
      | _ :: _, _, .cons _ _ => exact .nil
  · exact absurd rfl e
theorem key_joined_name {X : Cx} (F : FA X.K X.mg) : KeyC X CX0 "joined_name" ["target", "rest"] ["rest", "target"] g2 g2 1 (spJoin X.K) := by
  obtain ⟨fd, f, g⟩ := F.fn "joined_name" sq_joined_name (by walk_at "gm")
  refine ⟨He.ga X.K "joined_name", fd, ?_, g, f.kp, kb_joined_name f⟩
  refine fnOk_of f mq_joined_name (fun vs H Q E h => by first | (obtain ⟨_, rfl, _⟩ := h; rfl) | (obtain ⟨_, _, rfl, _⟩ := h; rfl) | (obtain ⟨_, _, _, rfl, _⟩ := h; rfl) | (obtain ⟨_, _, _, _, rfl, _⟩ := h; rfl) | (obtain ⟨_, _, _, _, _, rfl, _⟩ := h; rfl) | (obtain ⟨_, _, _, _, _, _, rfl, _⟩ := h; rfl)) fun Y c al vs H Q E h => ?_
  have F2 : FA Y.K Y.mg := by rw [al.k, al.m]; exact F
  have h2 := h
  rw [← al.k] at h2
  exact body_joined_name c (F2.free _ (by walk_at "gm")) F2.gi_NAME_LABELS h2
theorem d_take (F : FA K mg) : DefP Pg w K mg base CX0 "_law_take" ["box", "many"] 1 (spTake) := by
  obtain ⟨fd, f, g⟩ := F.fn "_law_take" sq_take (by walk_at "gm")
  refine defP_of f g mq_take (FunD.bindsN f fun _ _ _ _ _ _ us hl => match us, hl with | [_, _], _ => rfl) (fun vs H Q E h => by first | (obtain ⟨_, rfl, _⟩ := h; rfl) | (obtain ⟨_, _, rfl, _⟩ := h; rfl) | (obtain ⟨_, _, _, rfl, _⟩ := h; rfl) | (obtain ⟨_, _, _, _, rfl, _⟩ := h; rfl) | (obtain ⟨_, _, _, _, _, rfl, _⟩ := h; rfl) | (obtain ⟨_, _, _, _, _, _, rfl, _⟩ := h; rfl)) fun X c al vs H Q E h => ?_
  obtain ⟨rfl, rfl, rfl, rfl, rfl⟩ := al
  exact body_take c (F.free _ (by walk_at "gm")) h
theorem d_box (F : FA K mg) : DefP Pg w K mg base CX0 "_law_box" ["script", "k"] 1 (spBox K) := by
  obtain ⟨fd, f, g⟩ := F.fn "_law_box" sq_box (by walk_at "gm")
  refine defP_of f g mq_box (FunD.bindsN f fun _ _ _ _ _ _ us hl => match us, hl with | [_, _], _ => rfl) (fun vs H Q E h => by first | (obtain ⟨_, rfl, _⟩ := h; rfl) | (obtain ⟨_, _, rfl, _⟩ := h; rfl) | (obtain ⟨_, _, _, rfl, _⟩ := h; rfl) | (obtain ⟨_, _, _, _, rfl, _⟩ := h; rfl) | (obtain ⟨_, _, _, _, _, rfl, _⟩ := h; rfl) | (obtain ⟨_, _, _, _, _, _, rfl, _⟩ := h; rfl)) fun X c al vs H Q E h => ?_
  obtain ⟨rfl, rfl, rfl, rfl, rfl⟩ := al
  exact body_box c (F.free _ (by walk_at "gm")) (F.free _ (by walk_at "gm")) (F.free _ (by walk_at "gm")) h
theorem d_pick (F : FA K mg) : DefP Pg w K mg base CX0 "_law_pick" ["box", "some"] 2 (spPick K) := by
  obtain ⟨fd, f, g⟩ := F.fn "_law_pick" sq_pick (by walk_at "gm")
  refine defP_of f g mq_pick (FunD.bindsN f fun _ _ _ _ _ _ us hl => match us, hl with | [_, _], _ => rfl) (fun vs H Q E h => by first | (obtain ⟨_, rfl, _⟩ := h; rfl) | (obtain ⟨_, _, rfl, _⟩ := h; rfl) | (obtain ⟨_, _, _, rfl, _⟩ := h; rfl) | (obtain ⟨_, _, _, _, rfl, _⟩ := h; rfl) | (obtain ⟨_, _, _, _, _, rfl, _⟩ := h; rfl) | (obtain ⟨_, _, _, _, _, _, rfl, _⟩ := h; rfl)) fun X c al vs H Q E h => ?_
  obtain ⟨rfl, rfl, rfl, rfl, rfl⟩ := al
  exact body_pick c (F.free _ (by walk_at "gm")) (d_take F) h
theorem d_label (F : FA K mg) : DefP Pg w K mg base CX0 "_law_label" ["box"] 3 (spLabel) := by
  obtain ⟨fd, f, g⟩ := F.fn "_law_label" sq_label (by walk_at "gm")
  refine defP_of f g mq_label (FunD.bindsN f fun _ _ _ _ _ _ us hl => match us, hl with | [_], _ => rfl) (fun vs H Q E h => by first | (obtain ⟨_, rfl, _⟩ := h; rfl) | (obtain ⟨_, _, rfl, _⟩ := h; rfl) | (obtain ⟨_, _, _, rfl, _⟩ := h; rfl) | (obtain ⟨_, _, _, _, rfl, _⟩ := h; rfl) | (obtain ⟨_, _, _, _, _, rfl, _⟩ := h; rfl) | (obtain ⟨_, _, _, _, _, _, rfl, _⟩ := h; rfl)) fun X c al vs H Q E h => ?_
  obtain ⟨rfl, rfl, rfl, rfl, rfl⟩ := al
  exact body_label c (F.free _ (by walk_at "gm")) (F.free _ (by walk_at "gm")) (d_take F) (d_pick F) h
theorem d_sign (F : FA K mg) : DefP Pg w K mg base CX0 "_law_sign" ["box"] 3 (spSign) := by
  obtain ⟨fd, f, g⟩ := F.fn "_law_sign" sq_sign (by walk_at "gm")
  refine defP_of f g mq_sign (FunD.bindsN f fun _ _ _ _ _ _ us hl => match us, hl with | [_], _ => rfl) (fun vs H Q E h => by first | (obtain ⟨_, rfl, _⟩ := h; rfl) | (obtain ⟨_, _, rfl, _⟩ := h; rfl) | (obtain ⟨_, _, _, rfl, _⟩ := h; rfl) | (obtain ⟨_, _, _, _, rfl, _⟩ := h; rfl) | (obtain ⟨_, _, _, _, _, rfl, _⟩ := h; rfl) | (obtain ⟨_, _, _, _, _, _, rfl, _⟩ := h; rfl)) fun X c al vs H Q E h => ?_
  obtain ⟨rfl, rfl, rfl, rfl, rfl⟩ := al
  exact body_sign c (d_pick F) h
theorem d_bent (F : FA K mg) : DefP Pg w K mg base CX0 "_law_bent" ["box", "label"] 4 (spBent) := by
  obtain ⟨fd, f, g⟩ := F.fn "_law_bent" sq_bent (by walk_at "gm")
  refine defP_of f g mq_bent (FunD.bindsN f fun _ _ _ _ _ _ us hl => match us, hl with | [_, _], _ => rfl) (fun vs H Q E h => by first | (obtain ⟨_, rfl, _⟩ := h; rfl) | (obtain ⟨_, _, rfl, _⟩ := h; rfl) | (obtain ⟨_, _, _, rfl, _⟩ := h; rfl) | (obtain ⟨_, _, _, _, rfl, _⟩ := h; rfl) | (obtain ⟨_, _, _, _, _, rfl, _⟩ := h; rfl) | (obtain ⟨_, _, _, _, _, _, rfl, _⟩ := h; rfl)) fun X c al vs H Q E h => ?_
  obtain ⟨rfl, rfl, rfl, rfl, rfl⟩ := al
  exact body_bent c (F.free _ (by walk_at "gm")) (d_take F) (d_pick F) (d_sign F) h
theorem d_odd (F : FA K mg) : DefP Pg w K mg base CX0 "_law_odd" ["box"] 3 (spOdd K) := by
  obtain ⟨fd, f, g⟩ := F.fn "_law_odd" sq_odd (by walk_at "gm")
  refine defP_of f g mq_odd (FunD.bindsN f fun _ _ _ _ _ _ us hl => match us, hl with | [_], _ => rfl) (fun vs H Q E h => by first | (obtain ⟨_, rfl, _⟩ := h; rfl) | (obtain ⟨_, _, rfl, _⟩ := h; rfl) | (obtain ⟨_, _, _, rfl, _⟩ := h; rfl) | (obtain ⟨_, _, _, _, rfl, _⟩ := h; rfl) | (obtain ⟨_, _, _, _, _, rfl, _⟩ := h; rfl) | (obtain ⟨_, _, _, _, _, _, rfl, _⟩ := h; rfl)) fun X c al vs H Q E h => ?_
  obtain ⟨rfl, rfl, rfl, rfl, rfl⟩ := al
  exact body_odd c (d_pick F) h
theorem d_text_fault (F : FA K mg) : DefP Pg w K mg base CX0 "_law_text_fault" ["value"] 1 (spTF K) := by
  obtain ⟨fd, f, g⟩ := F.fn "_law_text_fault" sq_text_fault (by walk_at "gm")
  refine defP_of f g mq_text_fault (FunD.bindsN f fun _ _ _ _ _ _ us hl => match us, hl with | [_], _ => rfl) (fun vs H Q E h => by first | (obtain ⟨_, rfl, _⟩ := h; rfl) | (obtain ⟨_, _, rfl, _⟩ := h; rfl) | (obtain ⟨_, _, _, rfl, _⟩ := h; rfl) | (obtain ⟨_, _, _, _, rfl, _⟩ := h; rfl) | (obtain ⟨_, _, _, _, _, rfl, _⟩ := h; rfl) | (obtain ⟨_, _, _, _, _, _, rfl, _⟩ := h; rfl)) fun X c al vs H Q E h => ?_
  obtain ⟨rfl, rfl, rfl, rfl, rfl⟩ := al
  exact body_text_fault c (F.free _ (by walk_at "gm")) (F.free _ (by walk_at "gm")) (F.free _ (by walk_at "gm")) (F.free _ (by walk_at "gm")) h
theorem d_name_faultL (F : FA K mg) : DefP Pg w K mg base CX0 "_law_name_fault" ["value"] 2 (spNFL K) := by
  obtain ⟨fd, f, g⟩ := F.fn "_law_name_fault" sq_name_faultL (by walk_at "gm")
  refine defP_of f g mq_name_faultL (FunD.bindsN f fun _ _ _ _ _ _ us hl => match us, hl with | [_], _ => rfl) (fun vs H Q E h => by first | (obtain ⟨_, rfl, _⟩ := h; rfl) | (obtain ⟨_, _, rfl, _⟩ := h; rfl) | (obtain ⟨_, _, _, rfl, _⟩ := h; rfl) | (obtain ⟨_, _, _, _, rfl, _⟩ := h; rfl) | (obtain ⟨_, _, _, _, _, rfl, _⟩ := h; rfl) | (obtain ⟨_, _, _, _, _, _, rfl, _⟩ := h; rfl)) fun X c al vs H Q E h => ?_
  obtain ⟨rfl, rfl, rfl, rfl, rfl⟩ := al
  exact body_name_faultL c (F.free _ (by walk_at "gm")) (F.free _ (by walk_at "gm")) (F.free _ (by walk_at "gm")) (F.free _ (by walk_at "gm")) (d_text_fault F) h
theorem d_same_n (F : FA K mg) : ∀ n, DefP Pg w K mg base CX0 "_law_same" ["told", "due"] (n + 1) (spSame K n) := by
  intro n
  induction n with
  | zero =>
    obtain ⟨fd, f, g⟩ := F.fn "_law_same" sq_same (by walk_at "gm")
    refine defP_of f g mq_same (FunD.bindsN f fun _ _ _ _ _ _ us hl => match us, hl with | [_, _], _ => rfl) (fun vs H Q E h => by first | (obtain ⟨_, rfl, _⟩ := h; rfl) | (obtain ⟨_, _, rfl, _⟩ := h; rfl) | (obtain ⟨_, _, _, rfl, _⟩ := h; rfl) | (obtain ⟨_, _, _, _, rfl, _⟩ := h; rfl) | (obtain ⟨_, _, _, _, _, rfl, _⟩ := h; rfl) | (obtain ⟨_, _, _, _, _, _, rfl, _⟩ := h; rfl)) fun X c al vs H Q E h => ?_
    obtain ⟨rfl, rfl, rfl, rfl, rfl⟩ := al
    exact body_same c (F.free _ (by walk_at "gm")) (F.free _ (by walk_at "gm")) (F.free _ (by walk_at "gm")) (F.free _ (by walk_at "gm")) (F.free _ (by walk_at "gm")) (F.free _ (by walk_at "gm")) (F.free _ (by walk_at "gm")) (F.free _ (by walk_at "gm")) (fun m e => by omega) h
  | succ n ih =>
    obtain ⟨fd, f, g⟩ := F.fn "_law_same" sq_same (by walk_at "gm")
    refine defP_of f g mq_same (FunD.bindsN f fun _ _ _ _ _ _ us hl => match us, hl with | [_, _], _ => rfl) (fun vs H Q E h => by first | (obtain ⟨_, rfl, _⟩ := h; rfl) | (obtain ⟨_, _, rfl, _⟩ := h; rfl) | (obtain ⟨_, _, _, rfl, _⟩ := h; rfl) | (obtain ⟨_, _, _, _, rfl, _⟩ := h; rfl) | (obtain ⟨_, _, _, _, _, rfl, _⟩ := h; rfl) | (obtain ⟨_, _, _, _, _, _, rfl, _⟩ := h; rfl)) fun X c al vs H Q E h => ?_
    obtain ⟨rfl, rfl, rfl, rfl, rfl⟩ := al
    exact body_same c (F.free _ (by walk_at "gm")) (F.free _ (by walk_at "gm")) (F.free _ (by walk_at "gm")) (F.free _ (by walk_at "gm")) (F.free _ (by walk_at "gm")) (F.free _ (by walk_at "gm")) (F.free _ (by walk_at "gm")) (F.free _ (by walk_at "gm")) (fun m e => by have e2 : m = n := (by omega); subst e2; exact ih) h
theorem d_same (F : FA K mg) : DefP Pg w K mg base CX0 "_law_same" ["told", "due"] 4 (spSame K 3) := d_same_n F 3
theorem d_label_right (F : FA K mg) (TB : LamX.TabB base mg (He.cT K ("_law_label_right", none)).1 (He.cT K ("_law_label_right", none)).2) : DefP Pg w K mg base CX0 "_law_label_right" ["value"] 6 (spR_label K (He.cT K ("_law_label_right", none)).2 (He.cT K ("_law_name_right", none)).2) := by
  obtain ⟨fd0, f0, g0⟩ := F.fn "_law_label_right" sq_label_right (by walk_at "gm")
  obtain ⟨fdH, fH, gH⟩ := F.fn "_law_heard_label" sq_heard_label (by walk_at "gm")
  refine defPC_of (fnC_of f0) g0 mq_label_right (FunD.bindsN f0 fun _ _ _ _ _ _ us hl => match us, hl with | [_], _ => rfl) (fun vs H Q E h => by first | (obtain ⟨_, rfl, _⟩ := h; rfl) | (obtain ⟨_, _, rfl, _⟩ := h; rfl) | (obtain ⟨_, _, _, rfl, _⟩ := h; rfl) | (obtain ⟨_, _, _, _, rfl, _⟩ := h; rfl) | (obtain ⟨_, _, _, _, _, rfl, _⟩ := h; rfl) | (obtain ⟨_, _, _, _, _, _, rfl, _⟩ := h; rfl)) fun X c al hc hq vs H Q E h => ?_
  obtain ⟨rfl, rfl, rfl, rfl, rfl⟩ := al
  exact body_label_right c F.ne_0_1 hc hq TB fH gH (FunD.bindsN fH fun _ _ _ _ _ _ us hl => match us, hl with | [_], _ => rfl) F.heard_BadLabel (d_check_label F) (d_same F) (d_text_fault F) h
theorem d_name_right (F : FA K mg) (TB : LamX.TabB base mg (He.cT K ("_law_name_right", none)).1 (He.cT K ("_law_name_right", none)).2) : DefP Pg w K mg base CX0 "_law_name_right" ["value"] 7 (spR_name K (He.cT K ("_law_label_right", none)).2 (He.cT K ("_law_name_right", none)).2) := by
  obtain ⟨fd0, f0, g0⟩ := F.fn "_law_name_right" sq_name_right (by walk_at "gm")
  obtain ⟨fdH, fH, gH⟩ := F.fn "_law_heard_name" sq_heard_name (by walk_at "gm")
  refine defPC_of (fnC_of f0) g0 mq_name_right (FunD.bindsN f0 fun _ _ _ _ _ _ us hl => match us, hl with | [_], _ => rfl) (fun vs H Q E h => by first | (obtain ⟨_, rfl, _⟩ := h; rfl) | (obtain ⟨_, _, rfl, _⟩ := h; rfl) | (obtain ⟨_, _, _, rfl, _⟩ := h; rfl) | (obtain ⟨_, _, _, _, rfl, _⟩ := h; rfl) | (obtain ⟨_, _, _, _, _, rfl, _⟩ := h; rfl) | (obtain ⟨_, _, _, _, _, _, rfl, _⟩ := h; rfl)) fun X c al hc hq vs H Q E h => ?_
  obtain ⟨rfl, rfl, rfl, rfl, rfl⟩ := al
  exact body_name_right c F.ne_0_1 hc hq TB fH gH (FunD.bindsN fH fun _ _ _ _ _ _ us hl => match us, hl with | [_], _ => rfl) F.heard_BadName (d_check_name F) (d_same F) (d_name_faultL F) h
theorem d_labels (F : FA K mg) : DefP Pg w K mg base CX0 "_law_labels" ["box", "many"] 4 (spLabels) := by
  obtain ⟨fd, f, g⟩ := F.fn "_law_labels" sq_labels (by walk_at "gm")
  refine defP_of f g mq_labels (FunD.bindsN f fun _ _ _ _ _ _ us hl => match us, hl with | [_, _], _ => rfl) (fun vs H Q E h => by first | (obtain ⟨_, rfl, _⟩ := h; rfl) | (obtain ⟨_, _, rfl, _⟩ := h; rfl) | (obtain ⟨_, _, _, rfl, _⟩ := h; rfl) | (obtain ⟨_, _, _, _, rfl, _⟩ := h; rfl) | (obtain ⟨_, _, _, _, _, rfl, _⟩ := h; rfl) | (obtain ⟨_, _, _, _, _, _, rfl, _⟩ := h; rfl)) fun X c al vs H Q E h => ?_
  obtain ⟨rfl, rfl, rfl, rfl, rfl⟩ := al
  exact body_labels c (F.free _ (by walk_at "gm")) (d_label F) h
theorem d_joined (F : FA K mg) : DefP Pg w K mg base CX0 "_law_joined" ["box"] 5 (spJR) := by
  obtain ⟨fd, f, g⟩ := F.fn "_law_joined" sq_joined (by walk_at "gm")
  refine defP_of f g mq_joined (FunD.bindsN f fun _ _ _ _ _ _ us hl => match us, hl with | [_], _ => rfl) (fun vs H Q E h => by first | (obtain ⟨_, rfl, _⟩ := h; rfl) | (obtain ⟨_, _, rfl, _⟩ := h; rfl) | (obtain ⟨_, _, _, rfl, _⟩ := h; rfl) | (obtain ⟨_, _, _, _, rfl, _⟩ := h; rfl) | (obtain ⟨_, _, _, _, _, rfl, _⟩ := h; rfl) | (obtain ⟨_, _, _, _, _, _, rfl, _⟩ := h; rfl)) fun X c al vs H Q E h => ?_
  obtain ⟨rfl, rfl, rfl, rfl, rfl⟩ := al
  exact body_joined c (F.free _ (by walk_at "gm")) (F.free _ (by walk_at "gm")) (d_take F) (d_labels F) (d_same F) (d_joined_name F) (key_joined_name F) h
theorem d_spoilt (F : FA K mg) : DefP Pg w K mg base CX0 "_law_spoilt" ["box", "labels"] 5 (spSpoilt K) := by
  obtain ⟨fd, f, g⟩ := F.fn "_law_spoilt" sq_spoilt (by walk_at "gm")
  refine defP_of f g mq_spoilt (FunD.bindsN f fun _ _ _ _ _ _ us hl => match us, hl with | [_, _], _ => rfl) (fun vs H Q E h => by first | (obtain ⟨_, rfl, _⟩ := h; rfl) | (obtain ⟨_, _, rfl, _⟩ := h; rfl) | (obtain ⟨_, _, _, rfl, _⟩ := h; rfl) | (obtain ⟨_, _, _, _, rfl, _⟩ := h; rfl) | (obtain ⟨_, _, _, _, _, rfl, _⟩ := h; rfl) | (obtain ⟨_, _, _, _, _, _, rfl, _⟩ := h; rfl)) fun X c al vs H Q E h => ?_
  obtain ⟨rfl, rfl, rfl, rfl, rfl⟩ := al
  exact body_spoilt c (F.free _ (by walk_at "gm")) (F.free _ (by walk_at "gm")) (F.free _ (by walk_at "gm")) (F.free _ (by walk_at "gm")) (d_take F) (d_pick F) (d_odd F) (d_bent F) h
end
abbrev RA_ : PySem.W.OpenRow := PySem.W.OpenLaw.row PySem.Challenge.rw_goodtill_k04_labels_and_names
abbrev tfA : List He.Defn := [("_law_label_right", none), ("_law_name_right", none)]
abbrev hkA : PySem.W.Hook := He.hookX 5 faA fnA [] tfA exA
def obA (s : PySem.W.SharedT) : He.AlX := He.obsX 5 faA fnA [] tfA exA (HandSHeadRun.getT s)
theorem obA_eq (s : PySem.W.SharedT) : obA s = hkA.obs s.abs := He.obsX_eq (HandSHeadRun.getT_eq s)
abbrev looseA : List Str := "OwnError" :: "BadFraction" :: "BadLabel" :: "BadName" :: "BadOctets" :: "BadEvent" :: "BadView" :: "BadRoster" :: "BadRun" :: "BadDeed" :: "BadText" :: "Refused" :: "LABEL_LETTERS" :: "NAME_LABELS" :: "label_fault" :: "is_label" :: "check_label" :: "name_fault" :: "check_name" :: "joined_name" :: "_law_box" :: "_law_take" :: "_law_pick" :: "_law_label" :: "_law_sign" :: "_law_bent" :: "_law_odd" :: "_law_text_fault" :: "_law_name_fault" :: "_law_same" :: "_law_heard_label" :: "_law_heard_name" :: "_law_label_right" :: "_law_name_right" :: "_law_labels" :: "_law_joined" :: "_law_spoilt" :: []
theorem runA (w : World) : HandSHeadRun.RunEq RA_ (PySem.W.view RA_.prog [40]) hkA obA 4000 looseA w := by
  intro os
  kernel_rfl
theorem law_facts {Pg : Program} {w : World} {h : Heap} {K : PySem.W.Frag} {mg : Str → Option Value} {fa : Addr} (X : K.In h) (G : h.Ns mainGlobals mg) (hfa : mg "law" = some (.ref fa)) (c : He.SaysX faA fnA [] tfA exA w h K) :
    ∃ fd : FuncData, (∀ (s : Shared) (v : Value), BindsTo s fd ⟨[v], []⟩ [("script", v)]) ∧ ∀ base : Heap, LamX.TabB base mg (He.cT K ("_law_label_right", none)).1 (He.cT K ("_law_label_right", none)).2 → LamX.TabB base mg (He.cT K ("_law_name_right", none)).1 (He.cT K ("_law_name_right", none)).2 → FnOk Pg w K mg base CX0 8 fa fd ["script"] (spLaw K (He.cT K ("_law_label_right", none)).2 (He.cT K ("_law_name_right", none)).2) := by
  have F := fA_of X G c
  obtain ⟨fd, f, g⟩ := F.fn "law" sq_law (by walk_at "gm")
  have e := hfa.symm.trans g
  cases e
  have b := FunD.bindsA (ps := ["script"]) f fun _ _ _ _ _ _ us hl => match us, hl with | [_], _ => rfl
  refine ⟨fd, fun s v => b s [v] rfl, fun base TB0 TB1 => ?_⟩
  refine fnOk_of f mq_law (fun vs H Q E h => by first | (obtain ⟨_, rfl, _⟩ := h; rfl) | (obtain ⟨_, _, rfl, _⟩ := h; rfl) | (obtain ⟨_, _, _, rfl, _⟩ := h; rfl) | (obtain ⟨_, _, _, _, rfl, _⟩ := h; rfl) | (obtain ⟨_, _, _, _, _, rfl, _⟩ := h; rfl) | (obtain ⟨_, _, _, _, _, _, rfl, _⟩ := h; rfl)) fun X cx al vs H Q E h => ?_
  obtain ⟨rfl, rfl, rfl, rfl, rfl⟩ := al
  exact body_law cx ⟨d_box F, d_take F, d_label F, d_bent F, d_odd F, d_label_right F TB0, d_name_right F TB1, d_labels F, d_spoilt F, d_joined F, d_same F, key_check_label F, key_check_name F, F.free _ (by walk_at "gm"), F.free _ (by walk_at "gm"), F.free _ (by walk_at "gm"), F.free _ (by walk_at "gm"), F.free _ (by walk_at "gm")⟩ h
end K04
open PySem PySem.W PySem.Calls PyProof.Rows
theorem PySem.Challenge.cw_goodtill_k04_labels_and_names_holds : PySem.Challenge.rw_goodtill_k04_labels_and_names.Holds := by
  w_on; o_law
  refine HandSHeadRun.head_any (r := OpenLaw.row PySem.Challenge.rw_goodtill_k04_labels_and_names) (q := view (OpenLaw.row PySem.Challenge.rw_goodtill_k04_labels_and_names).prog [40]) (H := K04.hkA) (ob := K04.obA) (M := 4000) (loose := K04.looseA)
    (d := HandSHeadRun.topDef (OpenLaw.row PySem.Challenge.rw_goodtill_k04_labels_and_names).prog 40) (kwd := []) K04.obA_eq
    (by kernel_rfl) (fun s => by kernel_rfl) K04.runA (by kernel_rfl) (by kernel_rfl) (by kernel_rfl) (by rfl) (by first | assumption | decide +kernel) (by decide +kernel) ⟨rfl, rfl, rfl, rfl, rfl, by decide +kernel⟩ ?hw ?hc
  case hw => w_witness2
  case hc =>
    refine LamX.walk_ofTsE (l := PySem.Challenge.rw_goodtill_k04_labels_and_names) (n := 63) (k := 8) (x := "script") (CX := fun _ => L2.CX0) rfl (by decide) (by kernel_rfl) ⟨rfl, by decide, by decide⟩ ?F (fun _ _ _ _ _ z => z)
    intro w mg fa h Y G hmg0
    obtain ⟨K, KX, c⟩ := Y
    have hmg : mg ("law" : PySem.Str) = some (.ref fa) := by
      have e : (HandSHeadRun.topDef (OpenLaw.row PySem.Challenge.rw_goodtill_k04_labels_and_names).prog 40).name = ("law" : PySem.Str) := by kernel_rfl
      rw [← e]
      exact hmg0
    obtain ⟨fd, hb, hF⟩ := K04.law_facts (Pg := (PySem.Challenge.rw_goodtill_k04_labels_and_names).prog) KX G hmg c
    refine ⟨K, KX, fd, K04.tfA.map (He.cT K), K04.spLaw K (He.cT K ("_law_label_right", none)).2 (He.cT K ("_law_name_right", none)).2, fun p hp => ?_, fun p hp => ?_, fun p hp => ?_, hb, fun H a ns hl hbits hH hS => ?_, fun base _ _ hT => ?_⟩
    · obtain ⟨t, ht, rfl⟩ := List.mem_map.mp hp
      exact c.empty _ ht
    · obtain ⟨t, ht, rfl⟩ := List.mem_map.mp hp
      exact c.out _ ht
    · obtain ⟨t, ht, rfl⟩ := List.mem_map.mp hp
      exact PySem.W.codeHd_of_K KX (c.hd _ ht)
    · refine ⟨a, ns, rfl, hS, hl, fun p hp => ?_, fun _ => rfl⟩
      rcases List.mem_cons.mp hp with rfl | hp
      · exact LamX.TabS.nil (hH (He.cT K ("_law_label_right", none)) (List.mem_map.mpr ⟨_, List.mem_cons_self, rfl⟩))
      · obtain rfl := List.mem_singleton.mp hp
        exact LamX.TabS.nil (hH (He.cT K ("_law_name_right", none)) (List.mem_map.mpr ⟨_, List.mem_cons_of_mem _ List.mem_cons_self, rfl⟩))
    · exact hF base (hT _ (List.mem_map.mpr ⟨_, by first | exact List.mem_cons_self | exact List.mem_cons_of_mem _ List.mem_cons_self | exact List.mem_cons_of_mem _ (List.mem_cons_of_mem _ List.mem_cons_self), rfl⟩)) (hT _ (List.mem_map.mpr ⟨_, by first | exact List.mem_cons_self | exact List.mem_cons_of_mem _ List.mem_cons_self | exact List.mem_cons_of_mem _ (List.mem_cons_of_mem _ List.mem_cons_self), rfl⟩))
namespace K04
end K04
