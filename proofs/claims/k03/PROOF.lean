import PyProof.Rows.All
import Wide.All
import OpenK.AllK
import Wide.FinOn
import HandS.ForMost
import HandS.ForExc
import HandS.Wide
import HandS.Zip
import HandS.Walk
import HandS.IsInst
import HandS.Flow
import HandS.TupAny
import HandS.Defaults
import HandS.Words
import HandS.SortKw
import HandS.StrMore
import HandS.ExcInit
import HandS.ExcField
import HandS.WordsExc
import HandS.Lambda
import KE.KExcIs
import HandS.HeadHook4
import HandS.HeadWalk
import HandS.Head2
import PyProof.Draws
import KE.GoesEnum
import HandS.Gcd
import HandS.TryMany
import HandS.Head3
import HandS.Style
import HandS.FStr
import HandS.Text
import HandS.More
import HandS.Replace
import HandS.HeadHook3
import PySem.Challenge.RW_goodtill_k03_whole_fractions_and_texts
set_option Elab.async false
set_option linter.all false
set_option maxRecDepth 100000
set_option maxHeartbeats 4000000
/-! A core of one's own over the hand layer: what an expression, a test, a block asks, whatever rule serves it; so a def's body is walked from the left, rule by rule. -/
namespace GT
open PySem PySem.Spec PyProof.Rows L2
/-! ### what is asked, whatever rule serves -/
structure RE (X : Cx) (e : Expr) (σ : L2.St) (H : Hp) (Q : VK) : Prop where
  ex : ∃ t, PE X e t ∧ t σ H Q
structure RT (X : Cx) (e : Expr) (σ : L2.St) (H : Hp) (Q : Bool → Hp → Prop) : Prop where
  ex : ∃ t, PT X e t ∧ t σ H Q
structure RW (X : Cx) (e : Expr) (σ : L2.St) (H : Hp) (Q : Bool → Hp → Prop) : Prop where
  ex : ∃ t, PW X e t ∧ t σ H Q
structure RA (X : Cx) (es : List Expr) (σ : L2.St) (H : Hp) (Q : List V → Hp → Prop) : Prop where
  ex : ∃ t, PA X es t ∧ t σ H Q
structure RS (X : Cx) (st : Stmt) (D : Ends) (σ : L2.St) (H : Hp) : Prop where
  ex : ∃ t, PS X st t ∧ t D σ H
structure RB (X : Cx) (st : List Stmt) (D : Ends) (σ : L2.St) (H : Hp) : Prop where
  ex : ∃ t, PSs X st t ∧ t D σ H
structure RO (X : Cx) (e : Option Expr) (σ : L2.St) (H : Hp) (Q : Option Int → Hp → Prop) : Prop where
  ex : ∃ t, PO X e t ∧ t σ H Q
section
variable {X : Cx} {σ : L2.St} {H : Hp}
theorem PE.self {e : Expr} : PE X e (RE X e) := ⟨fun pins s σ H Q I h => by obtain ⟨t, ht, q⟩ := h.ex; exact ht.run pins s σ H Q I q⟩
theorem PT.self {e : Expr} : PT X e (RT X e) := ⟨fun pins s σ H Q I h => by obtain ⟨t, ht, q⟩ := h.ex; exact ht.run pins s σ H Q I q⟩
theorem PW.self {e : Expr} : PW X e (RW X e) := ⟨fun wh pins s σ H Q I h => by obtain ⟨t, ht, q⟩ := h.ex; exact ht.run wh pins s σ H Q I q⟩
theorem PA.self {es : List Expr} : PA X es (RA X es) := ⟨fun pos pins s σ H Q I h => by obtain ⟨t, ht, q⟩ := h.ex; exact ht.run pos pins s σ H Q I q⟩
theorem PS.self {st : Stmt} : PS X st (RS X st) := ⟨fun pins s σ H D I h => by obtain ⟨t, ht, q⟩ := h.ex; exact ht.run pins s σ H D I q⟩
theorem PSs.self {st : List Stmt} : PSs X st (RB X st) := ⟨fun pins s σ H D I h => by obtain ⟨t, ht, q⟩ := h.ex; exact ht.run pins s σ H D I q⟩
theorem re_of {e : Expr} {t : TE} {Q : VK} (h : PE X e t) (q : t σ H Q) : RE X e σ H Q := ⟨⟨t, h, q⟩⟩
theorem rt_of {e : Expr} {t : TT} {Q : Bool → Hp → Prop} (h : PT X e t) (q : t σ H Q) : RT X e σ H Q := ⟨⟨t, h, q⟩⟩
theorem rw_of {e : Expr} {t : TT} {Q : Bool → Hp → Prop} (h : PW X e t) (q : t σ H Q) : RW X e σ H Q := ⟨⟨t, h, q⟩⟩
theorem ra_of {e : List Expr} {t : TA} {Q : List V → Hp → Prop} (h : PA X e t) (q : t σ H Q) : RA X e σ H Q := ⟨⟨t, h, q⟩⟩
theorem rs_of {st : Stmt} {t : TS} {D : Ends} (h : PS X st t) (q : t D σ H) : RS X st D σ H := ⟨⟨t, h, q⟩⟩
theorem rb_of {st : List Stmt} {t : TS} {D : Ends} (h : PSs X st t) (q : t D σ H) : RB X st D σ H := ⟨⟨t, h, q⟩⟩
/-! ### slots by name -/
inductive Slot : List Str → L2.St → Str → V → Prop
  | here {x : Str} {N : List Str} {v : V} {σ : L2.St} : Slot (x :: N) (some v :: σ) x v
  | there {x y : Str} {N : List Str} {v : V} {o : Option V} {σ : L2.St} (h : Slot N σ x v) : Slot (y :: N) (o :: σ) x v
inductive Put : List Str → L2.St → Str → V → L2.St → Prop
  | here {x : Str} {N : List Str} {v : V} {o : Option V} {σ : L2.St} : Put (x :: N) (o :: σ) x v (some v :: σ)
  | there {x y : Str} {N : List Str} {v : V} {o : Option V} {σ σ' : L2.St} (h : Put N σ x v σ') : Put (y :: N) (o :: σ) x v (o :: σ')
theorem Slot.ix {N : List Str} {σ : L2.St} {x : Str} {v : V} (h : Slot N σ x v) : ∃ i : Nat, N[i]? = some x ∧ σ[i]? = some (some v) := by
  induction h with
  | here => exact ⟨0, rfl, rfl⟩
  | there _ ih => obtain ⟨i, h1, h2⟩ := ih; exact ⟨i + 1, h1, h2⟩
theorem Put.ix {N : List Str} {σ σ' : L2.St} {x : Str} {v : V} (h : Put N σ x v σ') : ∃ i : Nat, N[i]? = some x ∧ σ' = σ.set i (some v) := by
  induction h with
  | here => exact ⟨0, rfl, rfl⟩
  | there _ ih => obtain ⟨i, h1, h2⟩ := ih; exact ⟨i + 1, h1, by rw [h2]; rfl⟩
/-- a name: the def's own local, the def's own captured by an inner one, one from around, a global -/
inductive KN where
  | loc | cell | cap | glob
  deriving DecidableEq
def knOf : NameKind → Option KN
  | .local => some .loc
  | .cell => some .cell
  | .free => some .cap
  | .globalImplicit => some .glob
  | _ => none
def knAll : List (Str × NameKind) → List (Str × KN)
  | [] => []
  | (x, j) :: r => match knOf j with
    | some m => (x, m) :: knAll r
    | none => knAll r
inductive Mine : KN → Prop
  | loc : Mine .loc
  | cell : Mine .cell
  | cap : Mine .cap
inductive Own : KN → Prop
  | loc : Own .loc
  | cell : Own .cell
def KnIs (X : Cx) (x : Str) : KN → Prop
  | .loc => X.env.scope.names.lookup x = some .local
  | .cell => X.env.scope.names.lookup x = some .cell ∧ X.fn x = true
  | .cap => X.env.scope.names.lookup x = some .cell ∨ X.env.scope.names.lookup x = some .free
  | .glob => X.env.scope.names.lookup x = some .globalImplicit
def okName (x : Str) : Bool := !(x == ("__debug__" : Str)) && !(x == ("__classdict__" : Str)) && !decide (x = "__name__")
/-- where one stands: the def's names by slot, the scope's names, the room -/
structure Ctx (X : Cx) (N : List Str) (L : List (Str × KN)) (k : Nat) : Prop where
  n : X.N = N
  nd : N.Nodup
  look : ∀ p ∈ L, KnIs X p.1 p.2
  dbg : ∀ p ∈ L, okName p.1 = true
  calm : X.calm = true
  room : Room k X.A
  po : PassesOwn (model X.prog X.w) X.A X.env X.xe
  kind : X.env.scope.kind = .function
theorem lookup_mem {L : List (Str × NameKind)} {x : Str} {k : NameKind} (nd : (L.map (·.1)).Nodup) (h : (x, k) ∈ L) : L.lookup x = some k := by
  induction L with
  | nil => cases h
  | cons p r ih =>
    obtain ⟨y, j⟩ := p
    rw [List.map_cons, List.nodup_cons] at nd
    rcases List.mem_cons.mp h with e | e
    · cases e
      simp [List.lookup]
    · have hne : (x == y) = false := by
        rw [beq_eq_false_iff_ne]
        intro q
        subst q
        exact nd.1 (List.mem_map.mpr ⟨_, e, rfl⟩)
      simp only [List.lookup, hne]
      exact ih nd.2 e
theorem knAll_mem {x : Str} {m : KN} : ∀ {L : List (Str × NameKind)}, (x, m) ∈ knAll L → ∃ j, (x, j) ∈ L ∧ knOf j = some m
  | [], h => by cases h
  | (y, j) :: r, h => by
    unfold knAll at h
    cases e : knOf j with
    | none =>
      rw [e] at h
      obtain ⟨j', h1, h2⟩ := knAll_mem h
      exact ⟨j', List.mem_cons_of_mem _ h1, h2⟩
    | some m' =>
      rw [e] at h
      rcases List.mem_cons.mp h with q | q
      · cases q
        exact ⟨j, List.mem_cons_self, e⟩
      · obtain ⟨j', h1, h2⟩ := knAll_mem q
        exact ⟨j', List.mem_cons_of_mem _ h1, h2⟩
variable {N : List Str} {L : List (Str × KN)} {k : Nat}
theorem okName_of {x : Str} (h : okName x = true) : (x == ("__debug__" : Str)) = false ∧ (x == ("__classdict__" : Str)) = false ∧ x ≠ "__name__" := by
  unfold okName at h
  rw [Bool.and_eq_true, Bool.and_eq_true] at h
  obtain ⟨⟨h1, h2⟩, h3⟩ := h
  exact ⟨by simpa using h1, by simpa using h2, by simpa using h3⟩
theorem Ctx.gl (c : Ctx X N L k) {x : Str} (h : (x, KN.glob) ∈ L) : Gl X x := c.look _ h
theorem Ctx.d1 (c : Ctx X N L k) {x : Str} {j : KN} (h : (x, j) ∈ L) : (x == ("__debug__" : Str)) = false := (okName_of (c.dbg _ h)).1
theorem Ctx.d2 (c : Ctx X N L k) {x : Str} {j : KN} (h : (x, j) ∈ L) : (x == ("__classdict__" : Str)) = false := (okName_of (c.dbg _ h)).2.1
theorem Ctx.d3 (c : Ctx X N L k) {x : Str} {j : KN} (h : (x, j) ∈ L) : x ≠ "__name__" := (okName_of (c.dbg _ h)).2.2
theorem Ctx.vis (c : Ctx X N L k) {x : Str} {j : KN} (h : (x, j) ∈ L) (m : Mine j) : Vis X.env.scope x := by
  have e := c.look _ h
  cases m with
  | loc => exact Or.inl e
  | cell => exact Or.inr (Or.inl e.1)
  | cap => exact Or.inr e
theorem Ctx.loc (c : Ctx X N L k) {x : Str} {j : KN} (h : (x, j) ∈ L) (m : Own j) : Loc X.env.scope x := by
  have e := c.look _ h
  cases m with
  | loc => exact Or.inl e
  | cell => exact Or.inr e.1
theorem Ctx.fn (c : Ctx X N L k) {x : Str} {j : KN} (h : (x, j) ∈ L) (m : Own j) : X.fn x = true ∨ X.env.scope.names.lookup x = some .local := by
  have e := c.look _ h
  cases m with
  | loc => exact Or.inr e
  | cell => exact Or.inl e.2
theorem Ctx.lcl (c : Ctx X N L k) {x : Str} (h : (x, KN.loc) ∈ L) : X.env.scope.names.lookup x = some .local := c.look _ h
/-! ### expressions -/
variable {pos p0 p1 p2 : Pos} {Q : VK} {D : Ends}
theorem re_name (c : Ctx X N L k) {x : Str} {v : V} {j : KN} (s : Slot N σ x v) (h : (x, j) ∈ L) (m : Mine j) (q : Q v H) : RE X (.Name x pos) σ H Q := by
  obtain ⟨i, h1, h2⟩ := s.ix
  rw [← c.n] at h1
  exact re_of (pe_var h1 (c.vis h m) (c.d1 h) (c.d2 h)) ⟨v, h2, q⟩
theorem re_int {i : Int} {j : Nat} (q : Q (.int i) H) : RE X (.Constant (.int i) j pos) σ H Q := re_of pe_int q
theorem re_bl {b : Bool} {j : Nat} (q : Q (.bl b) H) : RE X (.Constant (.bool b) j pos) σ H Q := re_of pe_bl q
theorem re_non {j : Nat} (q : Q .non H) : RE X (.Constant .none j pos) σ H Q := re_of pe_non q
theorem re_str {x : Str} {j : Nat} (q : Q (.str x) H) : RE X (.Constant (.str x) j pos) σ H Q := re_of pe_str q
/-- a class or type of the module, a builtin's name, as a value -/
theorem re_glob (c : Ctx X N L k) {x : Str} {v : V} {u : Value} (h : (x, KN.glob) ∈ L) (hm : X.mg x = some u) (r : RelV v u) (q : Q v H) : RE X (.Name x pos) σ H Q := re_of (pe_glob (c.gl h) hm r (c.d1 h)) q
theorem re_bltn (c : Ctx X N L k) {x : Str} {v : V} {u : Value} (h : (x, KN.glob) ∈ L) (hm : X.mg x = none) (hv : bootBuiltins x = some u) (r : RelV v u) (q : Q v H) : RE X (.Name x pos) σ H Q := re_of (pe_bltn (c.gl h) hm hv r (c.d3 h) (c.d1 h)) q
/-! ### operators by values -/
structure OpV (X : Cx) (op : Operator) (x y : V) (H : Hp) (Q : VK) : Prop where
  ex : ∃ r, OpR X (binaryOp op) r ∧ r x y H Q
structure CpV (X : Cx) (op : CmpOp) (x y : V) (H : Hp) (Q : VK) : Prop where
  ex : ∃ r, OpR X (compareOp op) r ∧ r x y H Q
structure IxV (X : Cx) (x y : V) (H : Hp) (Q : VK) : Prop where
  ex : ∃ r, IxR X r ∧ r x y H Q
structure SlV (X : Cx) (x : V) (a b : Option Int) (H : Hp) (Q : VK) : Prop where
  ex : ∃ r, SlR X r ∧ r x a b H Q
theorem OpR.self {op : Operator} : OpR X (binaryOp op) (OpV X op) := fun pins s σ H x y v u Q I rx ry h => by
  obtain ⟨r, hr, q⟩ := h.ex
  exact hr pins s σ H x y v u Q I rx ry q
theorem CpR.self {op : CmpOp} : OpR X (compareOp op) (CpV X op) := fun pins s σ H x y v u Q I rx ry h => by
  obtain ⟨r, hr, q⟩ := h.ex
  exact hr pins s σ H x y v u Q I rx ry q
theorem IxR.self : IxR X (IxV X) := fun va sl pins s σ H x y v u Q I rx ry h => by
  obtain ⟨r, hr, q⟩ := h.ex
  exact hr va sl pins s σ H x y v u Q I rx ry q
theorem re_bin {a b : Expr} {op : Operator} (q : RE X a σ H fun x H1 => RE X b σ H1 fun y H2 => OpV X op x y H2 Q) : RE X (.BinOp a op b pos) σ H Q := re_of (pe_op OpR.self PE.self PE.self) q
theorem re_cmp {a b : Expr} {op : CmpOp} (q : RE X a σ H fun x H1 => RE X b σ H1 fun y H2 => CpV X op x y H2 Q) (hm : behindInMarks op b = false := by first | exact nobehind _ (by decide) (by decide) | with_unfolding_all rfl) : RE X (.Compare a [op] [b] pos) σ H Q :=
  re_of (pe_cmpR CpR.self PE.self PE.self hm) q
theorem rt_cmp {a b : Expr} {op : CmpOp} {Q : Bool → Hp → Prop} (q : RE X a σ H fun x H1 => RE X b σ H1 fun y H2 => CpV X op x y H2 fun v H3 => ∃ k, v = .bl k ∧ Q k H3) (hm : behindInMarks op b = false := by first | exact nobehind _ (by decide) (by decide) | with_unfolding_all rfl) :
    RT X (.Compare a [op] [b] pos) σ H Q := rt_of (pt_cmpR CpR.self PE.self PE.self hm) q
theorem re_ix {a b : Expr} (q : RE X a σ H fun x H1 => RE X b σ H1 fun y H2 => IxV X x y H2 Q) (hs : PlainIx b := by with_unfolding_all exact fun _ _ => rfl) : RE X (.Subscript a b pos) σ H Q := re_of (pe_ix IxR.self PE.self PE.self hs) q
theorem re_neg {a : Expr} (q : RE X a σ H fun x H1 => ∃ i, x = .int i ∧ Q (.int (-i)) H1) : RE X (.UnaryOp .USub a pos) σ H Q := re_of (pe_un un_neg PE.self) q
variable {i j : Int} {z w : Str} {x y : V}
theorem ov_add (q : Q (.int (i + j)) H) : OpV X .Add (.int i) (.int j) H Q := ⟨⟨_, op_add, i, j, rfl, rfl, q⟩⟩
theorem ov_sub (q : Q (.int (i - j)) H) : OpV X .Sub (.int i) (.int j) H Q := ⟨⟨_, op_sub, i, j, rfl, rfl, q⟩⟩
theorem ov_mul (h : CMul i j) (q : Q (.int (i * j)) H) : OpV X .Mult (.int i) (.int j) H Q := ⟨⟨_, op_mul, i, j, rfl, rfl, h, q⟩⟩
theorem ov_mulR (h : -(2 ^ 64) < j ∧ j < 2 ^ 64) (q : Q (.int (i * j)) H) : OpV X .Mult (.int i) (.int j) H Q := ov_mul (.inr h) q
theorem ov_mulL (h : -(2 ^ 64) < i ∧ i < 2 ^ 64) (q : Q (.int (i * j)) H) : OpV X .Mult (.int i) (.int j) H Q := ov_mul (.inl h) q
theorem ov_mulW (h : CMulW i j) (q : Q (.int (i * j)) H) : OpV X .Mult (.int i) (.int j) H Q := ⟨⟨_, op_mulW, i, j, rfl, rfl, h, q⟩⟩
theorem ov_mod (h : 0 < j) (q : Q (.int (i % j)) H) : OpV X .Mod (.int i) (.int j) H Q := ⟨⟨_, op_mod, i, j, rfl, rfl, h, q⟩⟩
theorem ov_fdiv (h : CDivW i j) (q : Q (.int (i / j)) H) : OpV X .FloorDiv (.int i) (.int j) H Q := ⟨⟨_, op_fdivW, i, j, rfl, rfl, h, q⟩⟩
theorem ov_pow (h : CPow i j) (q : Q (.int (i ^ j.toNat)) H) : OpV X .Pow (.int i) (.int j) H Q := ⟨⟨_, op_pow, i, j, rfl, rfl, h, q⟩⟩
theorem ov_powL {n m : Nat} (h : n ≤ 1000000 ∧ m < 2 ^ 64) (q : Q (.int ((m : Int) ^ n)) H) : OpV X .Pow (.int (m : Int)) (.int (n : Int)) H Q := ov_pow ⟨Int.natCast_nonneg n, by omega, by simpa using h.2⟩ (by simpa using q)
theorem ov_adds (h : z.length + w.length ≤ sizeLine) (q : Q (.str (z ++ w)) H) : OpV X .Add (.str z) (.str w) H Q := ⟨⟨_, op_add_str, z, w, rfl, rfl, h, q⟩⟩
theorem cv_lt (q : Q (.bl (decide (i < j))) H) : CpV X .Lt (.int i) (.int j) H Q := ⟨⟨_, op_lt, i, j, rfl, rfl, q⟩⟩
theorem cv_le (q : Q (.bl (decide (i ≤ j))) H) : CpV X .LtE (.int i) (.int j) H Q := ⟨⟨_, op_le, i, j, rfl, rfl, q⟩⟩
theorem cv_gt (q : Q (.bl (decide (j < i))) H) : CpV X .Gt (.int i) (.int j) H Q := ⟨⟨_, op_gt, i, j, rfl, rfl, q⟩⟩
theorem cv_ge (q : Q (.bl (decide (j ≤ i))) H) : CpV X .GtE (.int i) (.int j) H Q := ⟨⟨_, op_ge, i, j, rfl, rfl, q⟩⟩
theorem cv_eqI (q : Q (.bl (decide (i = j))) H) : CpV X .Eq (.int i) (.int j) H Q := ⟨⟨_, op_eq, rfl, by
  have e : decide (V.int i = V.int j) = decide (i = j) := by simp
  rw [e]; exact q⟩⟩
theorem cv_neI (q : Q (.bl (!decide (i = j))) H) : CpV X .NotEq (.int i) (.int j) H Q := ⟨⟨_, op_ne, rfl, by
  have e : decide (V.int i = V.int j) = decide (i = j) := by simp
  rw [e]; exact q⟩⟩
theorem cv_eqS (q : Q (.bl (decide (z = w))) H) : CpV X .Eq (.str z) (.str w) H Q := ⟨⟨_, op_eq, rfl, by
  have e : decide (V.str z = V.str w) = decide (z = w) := by simp
  rw [e]; exact q⟩⟩
theorem cv_neS (q : Q (.bl (!decide (z = w))) H) : CpV X .NotEq (.str z) (.str w) H Q := ⟨⟨_, op_ne, rfl, by
  have e : decide (V.str z = V.str w) = decide (z = w) := by simp
  rw [e]; exact q⟩⟩
/-- == of scalars (None, bools, ints, texts) -/
theorem cv_eq (h : scal x y = true) (q : Q (.bl (decide (x = y))) H) : CpV X .Eq x y H Q := ⟨⟨_, op_eq, h, q⟩⟩
theorem cv_ne (h : scal x y = true) (q : Q (.bl (!decide (x = y))) H) : CpV X .NotEq x y H Q := ⟨⟨_, op_ne, h, q⟩⟩
theorem cv_ltS (q : Q (.bl (decide (z.cps.toList < w.cps.toList))) H) : CpV X .Lt (.str z) (.str w) H Q := ⟨⟨_, op_lt_str, z, w, rfl, rfl, q⟩⟩
theorem cv_gtS (q : Q (.bl (decide (w.cps.toList < z.cps.toList))) H) : CpV X .Gt (.str z) (.str w) H Q := ⟨⟨_, op_gt_str, z, w, rfl, rfl, q⟩⟩
theorem cv_isN (q : Q (.bl (decide (x = .non))) H) : CpV X .Is x .non H Q := ⟨⟨_, op_isN, rfl, q⟩⟩
theorem cv_notN (q : Q (.bl (!decide (x = .non))) H) : CpV X .IsNot x .non H Q := ⟨⟨_, op_notN, rfl, q⟩⟩
theorem cv_isN_s (q : Q (.bl false) H) : CpV X .Is (.str z) .non H Q := cv_isN (by rw [decide_eq_false (fun e => nomatch e)]; exact q)
theorem cv_notN_s (q : Q (.bl true) H) : CpV X .IsNot (.str z) .non H Q := cv_notN (by rw [decide_eq_false (fun e => nomatch e)]; exact q)
theorem cv_isN_i (q : Q (.bl false) H) : CpV X .Is (.int i) .non H Q := cv_isN (by rw [decide_eq_false (fun e => nomatch e)]; exact q)
theorem cv_notN_i (q : Q (.bl true) H) : CpV X .IsNot (.int i) .non H Q := cv_notN (by rw [decide_eq_false (fun e => nomatch e)]; exact q)
theorem cv_isN_b {b : Bool} (q : Q (.bl false) H) : CpV X .Is (.bl b) .non H Q := cv_isN (by rw [decide_eq_false (fun e => nomatch e)]; exact q)
theorem cv_notN_b {b : Bool} (q : Q (.bl true) H) : CpV X .IsNot (.bl b) .non H Q := cv_notN (by rw [decide_eq_false (fun e => nomatch e)]; exact q)
theorem cv_isN_r {p : Addr} (q : Q (.bl false) H) : CpV X .Is (.ref p) .non H Q := cv_isN (by rw [decide_eq_false (fun e => nomatch e)]; exact q)
theorem cv_notN_r {p : Addr} (q : Q (.bl true) H) : CpV X .IsNot (.ref p) .non H Q := cv_notN (by rw [decide_eq_false (fun e => nomatch e)]; exact q)
theorem cv_isN_n (q : Q (.bl true) H) : CpV X .Is .non .non H Q := cv_isN (by rw [decide_eq_true rfl]; exact q)
theorem cv_notN_n (q : Q (.bl false) H) : CpV X .IsNot .non .non H Q := cv_notN (by rw [decide_eq_true rfl]; exact q)
theorem iv_list {p : Addr} {xs : List V} {v : V} (h : SqL X.K H p xs) (ha : atI xs i = some v) (q : Q v H) : IxV X (.ref p) (.int i) H Q := ⟨⟨_, ix_list, p, xs, i, v, rfl, rfl, h, ha, q⟩⟩
theorem iv_tup {p : Addr} {xs : List V} {v : V} (h : SqT X.K H p xs) (ha : atI xs i = some v) (q : Q v H) : IxV X (.ref p) (.int i) H Q := ⟨⟨_, ix_tup, p, xs, i, v, rfl, rfl, h, ha, q⟩⟩
theorem iv_str {n : Nat} (hz : z.length ≤ sizeLine) (ha : atI z.cps.toList i = some n) (q : Q (.str ⟨#[n]⟩) H) : IxV X (.str z) (.int i) H Q := ⟨⟨_, ix_str, z, i, n, rfl, rfl, hz, ha, q⟩⟩
/-! ### displays, choices -/
theorem ra_nil {Q : List V → Hp → Prop} (q : Q [] H) : RA X [] σ H Q := ra_of pa_nil q
theorem ra_cons {e : Expr} {es : List Expr} {Q : List V → Hp → Prop} (q : RE X e σ H fun x H1 => RA X es σ H1 fun xs H2 => Q (x :: xs) H2) (hs : starEach (e :: es) X.env = (false, eval e X.env) :: starEach es X.env := by with_unfolding_all rfl) : RA X (e :: es) σ H Q :=
  ra_of (pa_cons PE.self PA.self hs) q
theorem re_tup {es : List Expr} {x1} (q : RA X es σ H fun xs H1 => xs.length ≤ sizeLine ∧ ∀ p, H1 p = none → Q (.ref p) (upd H1 p (.tup xs))) : RE X (.Tuple es x1 pos) σ H Q := re_of (pe_tup PA.self) q
theorem re_lst {es : List Expr} (q : RA X es σ H fun xs H1 => xs.length ≤ sizeLine ∧ ∀ p, H1 p = none → Q (.ref p) (upd H1 p (.lst xs))) : RE X (.List es pos) σ H Q := re_of (pe_lst PA.self) q
theorem re_if {t a b : Expr} (q : RT X t σ H fun c H1 => if c = true then RE X a σ H1 Q else RE X b σ H1 Q) : RE X (.IfExp t a b pos) σ H Q := re_of (pe_ifExp PT.self PE.self PE.self) q
theorem re_and {a b : Expr} {rest : List Expr} (q : RE X a σ H fun x H1 => ∃ c, x = .bl c ∧ if c = true then RE X (.BoolOp .And (b :: rest) pos) σ H1 Q else Q (.bl false) H1) : RE X (.BoolOp .And (a :: b :: rest) pos) σ H Q := re_of (pe_and PE.self PE.self) q
theorem re_or {a b : Expr} {rest : List Expr} (q : RE X a σ H fun x H1 => ∃ c, x = .bl c ∧ if c = true then Q (.bl true) H1 else RE X (.BoolOp .Or (b :: rest) pos) σ H1 Q) : RE X (.BoolOp .Or (a :: b :: rest) pos) σ H Q := re_of (pe_or PE.self PE.self) q
theorem re_one {op : BoolOp} {a : Expr} (q : RE X a σ H Q) : RE X (.BoolOp op [a] pos) σ H Q := re_of (pe_one PE.self) q
theorem re_not {a : Expr} (q : RE X a σ H fun x H1 => ∃ c, x = .bl c ∧ Q (.bl (!c)) H1) : RE X (.UnaryOp .Not a pos) σ H Q := re_of (pe_not PE.self) q
/-! ### tests -/
theorem rt_not {a : Expr} {Q : Bool → Hp → Prop} (q : RT X a σ H fun c H1 => Q (!c) H1) : RT X (.UnaryOp .Not a pos) σ H Q := rt_of (pt_not PT.self) q
theorem rt_bool {op : BoolOp} {es : List Expr} {Q : Bool → Hp → Prop} (q : RW X (.BoolOp op es pos) σ H Q) : RT X (.BoolOp op es pos) σ H Q := rt_of (PW.pt PW.self) q
theorem rw_and {a b : Expr} {rest : List Expr} {Q : Bool → Hp → Prop} (q : RT X a σ H fun c H1 => if c = true then RW X (.BoolOp .And (b :: rest) pos) σ H1 Q else Q false H1) : RW X (.BoolOp .And (a :: b :: rest) pos) σ H Q := rw_of (pw_and PT.self PW.self) q
theorem rw_and1 {a : Expr} {Q : Bool → Hp → Prop} (q : RT X a σ H Q) : RW X (.BoolOp .And [a] pos) σ H Q := rw_of (pw_and1 PT.self) q
theorem rw_or {a b : Expr} {rest : List Expr} {Q : Bool → Hp → Prop} (q : RT X a σ H fun c H1 => if c = true then Q true H1 else RW X (.BoolOp .Or (b :: rest) pos) σ H1 Q) : RW X (.BoolOp .Or (a :: b :: rest) pos) σ H Q := rw_of (pw_or PT.self PW.self) q
theorem rw_or1 {a : Expr} {Q : Bool → Hp → Prop} (q : RT X a σ H Q) : RW X (.BoolOp .Or [a] pos) σ H Q := rw_of (pw_or1 PT.self) q
theorem rt_val {e : Expr} {Q : Bool → Hp → Prop} (q : RE X e σ H fun x H1 => ∃ c, x = .bl c ∧ Q c H1) (he : ∀ whole, isTrue e X.env whole = (do let v ← whole; standAt e.pos; holding [v] (truthy v)) := by intro _; with_unfolding_all rfl) : RT X e σ H Q := rt_of (pt_val PE.self he) q
/-! ### blocks -/
theorem rb_nil (q : D.nx σ H) : RB X [] D σ H := rb_of pss_nil q
theorem rb_cons {st : Stmt} {rest : List Stmt} (q : RS X st { D with nx := fun σ1 H1 => RB X rest D σ1 H1 } σ H) : RB X (st :: rest) D σ H := rb_of (pss_cons PS.self PSs.self) q
theorem Ctx.put (c : Ctx X N L k) {x : Str} (hx : x ∈ N) : ∃ i : Nat, X.N[i]? = some x ∧ ∀ {σ σ' : L2.St} {v : V}, Put N σ x v σ' → σ' = σ.set i (some v) := by
  obtain ⟨i, hi, e⟩ := List.mem_iff_getElem.mp hx
  have h1 : N[i]? = some x := by rw [List.getElem?_eq_getElem hi, e]
  refine ⟨i, by rw [c.n]; exact h1, fun {σ σ' v} p => ?_⟩
  obtain ⟨j, h2, h3⟩ := p.ix
  rw [h3, nodup_ix c.nd h1 h2]
theorem Ctx.nodup (c : Ctx X N L k) : X.N.Nodup := by
  rw [c.n]
  exact c.nd
theorem pe_mono {e : Expr} {Q Q' : VK} (q : RE X e σ H Q) (h : ∀ v H1, Q v H1 → Q' v H1) : RE X e σ H Q' := by
  refine ⟨⟨fun σ1 H1 Q1 => ∃ Q0, RE X e σ1 H1 Q0 ∧ ∀ v H2, Q0 v H2 → Q1 v H2, ⟨fun pins s σ1 H1 Q1 I h1 => ?_⟩, Q, q, h⟩⟩
  obtain ⟨Q0, h2, h3⟩ := h1
  exact thn (PE.self.run pins s σ1 H1 Q0 I h2) fun u s' ⟨v, H', I', r, q'⟩ => ⟨v, H', I', r, h3 v H' q'⟩
theorem rt_mono {e : Expr} {Q Q' : Bool → Hp → Prop} (q : RT X e σ H Q) (h : ∀ v H1, Q v H1 → Q' v H1) : RT X e σ H Q' := by
  refine ⟨⟨fun σ1 H1 Q1 => ∃ Q0 : Bool → Hp → Prop, RT X e σ1 H1 Q0 ∧ ∀ v H2, Q0 v H2 → Q1 v H2, ⟨fun pins s σ1 H1 Q1 I h1 => ?_⟩, Q, q, h⟩⟩
  obtain ⟨Q0, h2, h3⟩ := h1
  exact thn (PT.self.run pins s σ1 H1 Q0 I h2) fun u s' ⟨H', I', q'⟩ => ⟨H', I', h3 u H' q'⟩
theorem ra_mono {e : List Expr} {Q Q' : List V → Hp → Prop} (q : RA X e σ H Q) (h : ∀ v H1, Q v H1 → Q' v H1) : RA X e σ H Q' := by
  refine ⟨⟨fun σ1 H1 Q1 => ∃ Q0 : List V → Hp → Prop, RA X e σ1 H1 Q0 ∧ ∀ v H2, Q0 v H2 → Q1 v H2, ⟨fun pos pins s σ1 H1 Q1 I h1 => ?_⟩, Q, q, h⟩⟩
  obtain ⟨Q0, h2, h3⟩ := h1
  exact thn (PA.self.run pos pins s σ1 H1 Q0 I h2) fun u s' ⟨v, H', I', r, q'⟩ => ⟨v, H', I', r, h3 v H' q'⟩
theorem rs_set (c : Ctx X N L k) {x : Str} {e : Expr} {j : KN} {pos' : Pos} (h : (x, j) ∈ L) (m : Own j) (hx : x ∈ N) (q : RE X e σ H fun v H1 => ∃ σ', Put N σ x v σ' ∧ D.nx σ' H1) (hs : swapsWith e (some (.Name x pos')) pos.line X.env = pure false := by with_unfolding_all rfl) :
    RS X (.Assign [.Name x pos'] e pos) D σ H := by
  obtain ⟨i, h1, h2⟩ := c.put hx
  refine rs_of (ps_set (i := i) c.nodup h1 (c.loc h m) PE.self hs (c.fn h m)) (pe_mono q fun v H1 ⟨σ', p, d⟩ => ?_)
  rw [h2 p] at d
  exact d
theorem rs_expr {e : Expr} (q : RE X e σ H fun _ H1 => D.nx σ H1) (hs : swapsWith e none pos.line X.env = pure false := by with_unfolding_all rfl) : RS X (.Expr e pos) D σ H := rs_of (ps_expr PE.self hs) q
theorem rs_ret {e : Expr} (q : RE X e σ H D.rt) : RS X (.Return (some e) pos) D σ H := rs_of (ps_ret PE.self) q
theorem rs_retN (q : D.rt .non H) : RS X (.Return none pos) D σ H := rs_of ps_retN q
theorem rs_pass (q : D.nx σ H) : RS X (.Pass pos) D σ H := rs_of ps_pass q
theorem rs_break (q : D.bk σ H) : RS X (.Break pos) D σ H := rs_of ps_break q
theorem rs_continue (q : D.ct σ H) : RS X (.Continue pos) D σ H := rs_of ps_continue q
theorem rs_doc {x j} (q : D.nx σ H) : RS X (.Expr (.Constant (.str x) j p0) pos) D σ H := rs_of ps_doc q
theorem rs_if {t : Expr} {a b : List Stmt} (q : RT X t σ H fun c H1 => if c = true then RB X a D σ H1 else RB X b D σ H1) : RS X (.If t a b pos) D σ H := rs_of (ps_if PT.self PSs.self PSs.self) q
/-- o[i] = e, o a list -/
theorem rs_sub {o i e : Expr} (q : RE X e σ H fun v H1 => RE X o σ H1 fun x H2 => RE X i σ H2 fun y H3 => ∃ p xs k j, x = .ref p ∧ y = .int k ∧ H3 p = some (.lst xs) ∧ ixN xs.length k = some j ∧ D.nx σ (upd H3 p (.lst (xs.set j v))))
    (ha : ∀ v, assign (.Subscript o i p0) X.env v = (do
      let ov ← holding [v] (eval o X.env)
      let iv ← holding [v, ov] (eval i X.env)
      standAt p0
      holding [v, ov, iv] (setItem ov iv v)
      release [v, ov, iv] []) := by intro _; with_unfolding_all rfl)
    (hs : swapsWithSole [.Subscript o i p0] e pos.line X.env = pure false := by with_unfolding_all rfl) (hw : swappedStores [.Subscript o i p0] e X.env = pure none := by with_unfolding_all rfl)
    (h1 : (assignEach [.Subscript o i p0] X.env).map (·.2) = [assign (.Subscript o i p0) X.env] := by with_unfolding_all rfl) : RS X (.Assign [.Subscript o i p0] e pos) D σ H :=
  rs_of (ps_asg PE.self (pg_sub PE.self PE.self set_list ha) hs hw h1) q
/-- a, b = e1, e2 (two local names) -/
theorem rs_par (c : Ctx X N L k) {x y : Str} {a b : Expr} {px py pt : Pos} {kt k2 pt2} (hx : (x, KN.loc) ∈ L) (hy : (y, KN.loc) ∈ L) (mx : x ∈ N) (my : y ∈ N) (hxy : x ≠ y)
    (q : RA X [a, b] σ H fun vs H1 => ∃ v w σ' σ'', vs = [v, w] ∧ Put N σ x v σ' ∧ Put N σ' y w σ'' ∧ D.nx σ'' H1)
    (hw : swappedStores [.Tuple [.Name x px, .Name y py] kt pt] (.Tuple [a, b] k2 pt2) X.env = pure (some [x, y]) := by with_unfolding_all rfl)
    (hs : swapsWithSole [.Tuple [.Name x px, .Name y py] kt pt] (.Tuple [a, b] k2 pt2) pos.line X.env = pure false := by with_unfolding_all rfl) :
    RS X (.Assign [.Tuple [.Name x px, .Name y py] kt pt] (.Tuple [a, b] k2 pt2) pos) D σ H := by
  obtain ⟨i, h1, h2⟩ := c.put mx
  obtain ⟨j, h3, h4⟩ := c.put my
  have hij : i ≠ j := fun e => hxy (by rw [e, h3] at h1; exact (Option.some.inj h1).symm)
  refine rs_of (ps_par (i := i) (j := j) c.calm c.nodup h1 h3 hij (c.lcl hx) (c.lcl hy) PA.self hw hs) ?_
  refine (ra_mono q fun vs H1 ⟨v, w, σ', σ'', e, p1, p2, d⟩ => ?_)
  rw [h4 p2, h2 p1] at d
  exact ⟨v, w, e, d⟩
end
end GT
namespace GT
open PySem PySem.Spec PyProof.Rows L2
section
variable {X : Cx} {σ : L2.St} {H : Hp} {N : List Str} {L : List (Str × KN)} {k : Nat} {pos p0 p1 p2 : Pos} {Q : VK} {D : Ends}
/-! ### calls of builtins -/
structure ClV (X : Cx) (f : Value) (vs : List V) (H : Hp) (Q : VK) : Prop where
  ex : ∃ r, CallR X f r ∧ r vs H Q
theorem ClR.self {f : Value} : CallR X f (ClV X f) := fun pins s σ H xs us Q I r h => by
  obtain ⟨r', hr, q⟩ := h.ex
  exact hr pins s σ H xs us Q I r q
theorem re_callB (c : Ctx X N L k) {x : Str} {id : String} {e : Expr} {es : List Expr} (h : (x, KN.glob) ∈ L) (hm : X.mg x = none) (hv : bootBuiltins x = some (.builtin id)) (q : RA X (e :: es) σ H fun vs H1 => ClV X (.builtin id) vs H1 Q)
    (he : starEach (e :: es) X.env = (false, eval e X.env) :: starEach es X.env := by with_unfolding_all rfl) (hpl : (backTo pos (starEach es X.env)).any (·.1) = false := by with_unfolding_all rfl) : RE X (.Call (.Name x p0) (e :: es) [] pos) σ H Q :=
  re_of (pe_callB ClR.self (c.gl h) hm hv PA.self (c.d3 h) (c.d1 h) he hpl) q
theorem re_callT (c : Ctx X N L k) {x : Str} {T : String} {e : Expr} {es : List Expr} (h : (x, KN.glob) ∈ L) (hm : X.mg x = none) (hv : bootBuiltins x = some (.type T)) (q : RA X (e :: es) σ H fun vs H1 => ClV X (.type T) vs H1 Q)
    (he : starEach (e :: es) X.env = (false, eval e X.env) :: starEach es X.env := by with_unfolding_all rfl) (hpl : (backTo pos (starEach es X.env)).any (·.1) = false := by with_unfolding_all rfl) : RE X (.Call (.Name x p0) (e :: es) [] pos) σ H Q :=
  re_of (pe_callTy ClR.self (c.gl h) hm hv PA.self (c.d3 h) (c.d1 h) he hpl) q
variable {i j : Int} {z w : Str} {x y : V} {p : Addr} {xs ys : List V}
theorem lv_abs (q : Q (.int (if i < 0 then -i else i)) H) : ClV X (.builtin "abs") [.int i] H Q := ⟨⟨_, call_abs, i, rfl, q⟩⟩
theorem lv_max (hc : X.calm = true) (q : Q (.int (if j > i then j else i)) H) : ClV X (.builtin "max") [.int i, .int j] H Q := ⟨⟨_, call_max2 hc, i, j, rfl, q⟩⟩
theorem lv_min (hc : X.calm = true) (q : Q (.int (if j < i then j else i)) H) : ClV X (.builtin "min") [.int i, .int j] H Q := ⟨⟨_, call_min2 hc, i, j, rfl, q⟩⟩
theorem lv_int (q : Q (.int i) H) : ClV X (.type "int") [.int i] H Q := ⟨⟨_, call_int1, .inl ⟨i, rfl, q⟩⟩⟩
theorem lv_lenL (h : SqL X.K H p xs) (q : Q (.int xs.length) H) : ClV X (.builtin "len") [.ref p] H Q := ⟨⟨_, call_len_seq, p, xs, rfl, .inl h, q⟩⟩
theorem lv_lenT (h : SqT X.K H p xs) (q : Q (.int xs.length) H) : ClV X (.builtin "len") [.ref p] H Q := ⟨⟨_, call_len_seq, p, xs, rfl, .inr h, q⟩⟩
theorem lv_lenS (h : z.length ≤ sizeLine) (q : Q (.int z.length) H) : ClV X (.builtin "len") [.str z] H Q := ⟨⟨_, call_len_str, z, rfl, h, q⟩⟩
theorem lv_isi {t u : Value} {b : Bool} (k : ClsV y u) (ty : TyX X.K H x t) (e : PySem.W.kitOne X.K t u = some b) (q : Q (.bl b) H) : ClV X (.builtin "isinstance") [x, y] H Q := ⟨⟨_, call_isi, x, y, t, u, b, rfl, k, ty, e, q⟩⟩
theorem lv_isiT {t : Value} {us : List Value} {b : Bool} {tp : Addr} {cs : List V} (h : H tp = some (.tup cs)) (k : Paired ClsV cs us) (ty : TyX X.K H x t) (e : PySem.W.kitAny X.K t us = some b) (q : Q (.bl b) H) : ClV X (.builtin "isinstance") [x, .ref tp] H Q :=
  ⟨⟨_, call_isiT, x, tp, cs, t, us, b, rfl, h, k, ty, e, q⟩⟩
theorem lv_tupL (h : SqL X.K H p xs) (q : ∀ l, H l = none → Q (.ref l) (upd H l (.tup xs))) : ClV X (.type "tuple") [.ref p] H Q := ⟨⟨_, call_tuple_of, p, xs, rfl, .inl ⟨h, q⟩⟩⟩
theorem lv_listL (h : SqL X.K H p xs ∨ SqT X.K H p xs) (q : ∀ l, H l = none → Q (.ref l) (upd H l (.lst xs))) : ClV X (.type "list") [.ref p] H Q := ⟨⟨_, call_list_of, p, xs, rfl, h, q⟩⟩
theorem re_c_len (c : Ctx X N L k) {e : Expr} {es : List Expr} (h : (("len" : Str), KN.glob) ∈ L) (hm : X.mg "len" = none) (q : RA X (e :: es) σ H fun vs H1 => ClV X (.builtin "len") vs H1 Q)
    (he : starEach (e :: es) X.env = (false, eval e X.env) :: starEach es X.env := by with_unfolding_all rfl) (hpl : (backTo pos (starEach es X.env)).any (·.1) = false := by with_unfolding_all rfl) : RE X (.Call (.Name "len" p0) (e :: es) [] pos) σ H Q := re_callB c h hm (by decide +kernel) q he hpl
theorem re_c_abs (c : Ctx X N L k) {e : Expr} {es : List Expr} (h : (("abs" : Str), KN.glob) ∈ L) (hm : X.mg "abs" = none) (q : RA X (e :: es) σ H fun vs H1 => ClV X (.builtin "abs") vs H1 Q)
    (he : starEach (e :: es) X.env = (false, eval e X.env) :: starEach es X.env := by with_unfolding_all rfl) (hpl : (backTo pos (starEach es X.env)).any (·.1) = false := by with_unfolding_all rfl) : RE X (.Call (.Name "abs" p0) (e :: es) [] pos) σ H Q := re_callB c h hm (by decide +kernel) q he hpl
theorem re_c_min (c : Ctx X N L k) {e : Expr} {es : List Expr} (h : (("min" : Str), KN.glob) ∈ L) (hm : X.mg "min" = none) (q : RA X (e :: es) σ H fun vs H1 => ClV X (.builtin "min") vs H1 Q)
    (he : starEach (e :: es) X.env = (false, eval e X.env) :: starEach es X.env := by with_unfolding_all rfl) (hpl : (backTo pos (starEach es X.env)).any (·.1) = false := by with_unfolding_all rfl) : RE X (.Call (.Name "min" p0) (e :: es) [] pos) σ H Q := re_callB c h hm (by decide +kernel) q he hpl
theorem re_c_max (c : Ctx X N L k) {e : Expr} {es : List Expr} (h : (("max" : Str), KN.glob) ∈ L) (hm : X.mg "max" = none) (q : RA X (e :: es) σ H fun vs H1 => ClV X (.builtin "max") vs H1 Q)
    (he : starEach (e :: es) X.env = (false, eval e X.env) :: starEach es X.env := by with_unfolding_all rfl) (hpl : (backTo pos (starEach es X.env)).any (·.1) = false := by with_unfolding_all rfl) : RE X (.Call (.Name "max" p0) (e :: es) [] pos) σ H Q := re_callB c h hm (by decide +kernel) q he hpl
theorem re_c_isinstance (c : Ctx X N L k) {e : Expr} {es : List Expr} (h : (("isinstance" : Str), KN.glob) ∈ L) (hm : X.mg "isinstance" = none) (q : RA X (e :: es) σ H fun vs H1 => ClV X (.builtin "isinstance") vs H1 Q)
    (he : starEach (e :: es) X.env = (false, eval e X.env) :: starEach es X.env := by with_unfolding_all rfl) (hpl : (backTo pos (starEach es X.env)).any (·.1) = false := by with_unfolding_all rfl) : RE X (.Call (.Name "isinstance" p0) (e :: es) [] pos) σ H Q := re_callB c h hm (by decide +kernel) q he hpl
theorem re_c_sorted (c : Ctx X N L k) {e : Expr} {es : List Expr} (h : (("sorted" : Str), KN.glob) ∈ L) (hm : X.mg "sorted" = none) (q : RA X (e :: es) σ H fun vs H1 => ClV X (.builtin "sorted") vs H1 Q)
    (he : starEach (e :: es) X.env = (false, eval e X.env) :: starEach es X.env := by with_unfolding_all rfl) (hpl : (backTo pos (starEach es X.env)).any (·.1) = false := by with_unfolding_all rfl) : RE X (.Call (.Name "sorted" p0) (e :: es) [] pos) σ H Q := re_callB c h hm (by decide +kernel) q he hpl
theorem re_c_int (c : Ctx X N L k) {e : Expr} {es : List Expr} (h : (("int" : Str), KN.glob) ∈ L) (hm : X.mg "int" = none) (q : RA X (e :: es) σ H fun vs H1 => ClV X (.type "int") vs H1 Q)
    (he : starEach (e :: es) X.env = (false, eval e X.env) :: starEach es X.env := by with_unfolding_all rfl) (hpl : (backTo pos (starEach es X.env)).any (·.1) = false := by with_unfolding_all rfl) : RE X (.Call (.Name "int" p0) (e :: es) [] pos) σ H Q := re_callT c h hm (by decide +kernel) q he hpl
theorem re_c_tuple (c : Ctx X N L k) {e : Expr} {es : List Expr} (h : (("tuple" : Str), KN.glob) ∈ L) (hm : X.mg "tuple" = none) (q : RA X (e :: es) σ H fun vs H1 => ClV X (.type "tuple") vs H1 Q)
    (he : starEach (e :: es) X.env = (false, eval e X.env) :: starEach es X.env := by with_unfolding_all rfl) (hpl : (backTo pos (starEach es X.env)).any (·.1) = false := by with_unfolding_all rfl) : RE X (.Call (.Name "tuple" p0) (e :: es) [] pos) σ H Q := re_callT c h hm (by decide +kernel) q he hpl
theorem re_c_list (c : Ctx X N L k) {e : Expr} {es : List Expr} (h : (("list" : Str), KN.glob) ∈ L) (hm : X.mg "list" = none) (q : RA X (e :: es) σ H fun vs H1 => ClV X (.type "list") vs H1 Q)
    (he : starEach (e :: es) X.env = (false, eval e X.env) :: starEach es X.env := by with_unfolding_all rfl) (hpl : (backTo pos (starEach es X.env)).any (·.1) = false := by with_unfolding_all rfl) : RE X (.Call (.Name "list" p0) (e :: es) [] pos) σ H Q := re_callT c h hm (by decide +kernel) q he hpl
theorem re_c_str (c : Ctx X N L k) {e : Expr} {es : List Expr} (h : (("str" : Str), KN.glob) ∈ L) (hm : X.mg "str" = none) (q : RA X (e :: es) σ H fun vs H1 => ClV X (.type "str") vs H1 Q)
    (he : starEach (e :: es) X.env = (false, eval e X.env) :: starEach es X.env := by with_unfolding_all rfl) (hpl : (backTo pos (starEach es X.env)).any (·.1) = false := by with_unfolding_all rfl) : RE X (.Call (.Name "str" p0) (e :: es) [] pos) σ H Q := re_callT c h hm (by decide +kernel) q he hpl
theorem re_ty_int (c : Ctx X N L k) (h : (("int" : Str), KN.glob) ∈ L) (hm : X.mg "int" = none) (q : Q (.ty "int") H) : RE X (.Name "int" pos) σ H Q := re_bltn (v := .ty "int") (u := .type "int") c h hm (by decide +kernel) rfl q
theorem re_ty_bool (c : Ctx X N L k) (h : (("bool" : Str), KN.glob) ∈ L) (hm : X.mg "bool" = none) (q : Q (.ty "bool") H) : RE X (.Name "bool" pos) σ H Q := re_bltn (v := .ty "bool") (u := .type "bool") c h hm (by decide +kernel) rfl q
theorem re_ty_str (c : Ctx X N L k) (h : (("str" : Str), KN.glob) ∈ L) (hm : X.mg "str" = none) (q : Q (.ty "str") H) : RE X (.Name "str" pos) σ H Q := re_bltn (v := .ty "str") (u := .type "str") c h hm (by decide +kernel) rfl q
theorem re_ty_tuple (c : Ctx X N L k) (h : (("tuple" : Str), KN.glob) ∈ L) (hm : X.mg "tuple" = none) (q : Q (.ty "tuple") H) : RE X (.Name "tuple" pos) σ H Q := re_bltn (v := .ty "tuple") (u := .type "tuple") c h hm (by decide +kernel) rfl q
theorem re_ty_list (c : Ctx X N L k) (h : (("list" : Str), KN.glob) ∈ L) (hm : X.mg "list" = none) (q : Q (.ty "list") H) : RE X (.Name "list" pos) σ H Q := re_bltn (v := .ty "list") (u := .type "list") c h hm (by decide +kernel) rfl q
theorem re_ty_ValueError (c : Ctx X N L k) (h : (("ValueError" : Str), KN.glob) ∈ L) (hm : X.mg "ValueError" = none) (q : Q (.ty "ValueError") H) : RE X (.Name "ValueError" pos) σ H Q := re_bltn (v := .ty "ValueError") (u := .type "ValueError") c h hm (by decide +kernel) rfl q
/-! ### slices -/
theorem SlR.self : SlR X (SlV X) := by
  intro pins s σ H x v vl vu lo hi sl Q I rx hs h1 h2 h
  obtain ⟨r, hr, q⟩ := h.ex
  exact hr pins s σ H x v vl vu lo hi sl Q I rx hs h1 h2 q
theorem PO.self {e : Option Expr} : PO X e (RO X e) := ⟨fun pins s σ H Q I h => by obtain ⟨t, ht, q⟩ := h.ex; exact ht.run pins s σ H Q I q⟩
theorem ro_none {Q : Option Int → Hp → Prop} (q : Q none H) : RO X none σ H Q := ⟨⟨_, po_none, q⟩⟩
theorem ro_some {e : Expr} {Q : Option Int → Hp → Prop} (q : RE X e σ H fun x H1 => ∃ i, x = .int i ∧ Q (some i) H1) : RO X (some e) σ H Q := ⟨⟨_, po_some PE.self, q⟩⟩
theorem re_slice {e : Expr} {lo hi : Option Expr} (q : RE X e σ H fun x H1 => RO X lo σ H1 fun a H2 => RO X hi σ H2 fun b H3 => SlV X x a b H3 Q) : RE X (.Subscript e (.Slice lo hi none p2) pos) σ H Q := re_of (pe_slice SlR.self PE.self PO.self PO.self) q
theorem sv_str {a b : Option Int} (h : z.length ≤ sizeLine) (q : Q (.str (cutS z a b)) H) : SlV X (.str z) a b H Q := ⟨⟨_, sl_str, z, rfl, h, q⟩⟩
theorem sv_list {a b : Option Int} (h : SqL X.K H p xs) (q : ∀ l, H l = none → Q (.ref l) (upd H l (.lst (cutV xs a b)))) : SlV X (.ref p) a b H Q := ⟨⟨_, sl_list, p, xs, rfl, h, q⟩⟩
/-! ### lists -/
theorem ov_cat {b : Addr} (h1 : H p = some (.lst xs)) (h2 : H b = some (.lst ys)) (hl : xs.length + ys.length ≤ sizeLine) (q : ∀ l, H l = none → Q (.ref l) (upd H l (.lst (xs ++ ys)))) : OpV X .Add (.ref p) (.ref b) H Q := ⟨⟨_, op_cat, p, b, xs, ys, rfl, rfl, h1, h2, hl, q⟩⟩
theorem ov_rep {n : Int} (h1 : H p = some (.lst xs)) (h2 : -(2 ^ 63) ≤ n) (h3 : n < 2 ^ 63) (hl : xs.length * n.toNat ≤ sizeLine) (q : ∀ l, H l = none → Q (.ref l) (upd H l (.lst (List.replicate n.toNat xs).flatten))) : OpV X .Mult (.ref p) (.int n) H Q :=
  ⟨⟨_, op_rep, p, n, xs, rfl, rfl, h1, h2, h3, hl, q⟩⟩
theorem ov_catT {b : Addr} (h1 : SqT X.K H p xs) (h2 : SqT X.K H b ys) (hl : xs.length + ys.length ≤ sizeLine) (qa : xs = [] → Q (.ref b) H) (qb : xs ≠ [] → ys = [] → Q (.ref p) H) (q : xs ≠ [] → ys ≠ [] → ∀ l, H l = none → Q (.ref l) (upd H l (.tup (xs ++ ys)))) :
    OpV X .Add (.ref p) (.ref b) H Q := ⟨⟨_, op_catA, p, b, xs, ys, rfl, rfl, h1, h2, hl, qa, qb, q⟩⟩
/-- xs.append(e) -/
theorem re_append {o e : Expr} {apos : Pos} (q : RE X o σ H fun x H1 => ∃ l xs, x = .ref l ∧ H1 l = some (.lst xs) ∧ RE X e σ H1 fun y H2 => ∃ xs', H2 l = some (.lst xs') ∧ xs'.length < sizeLine ∧ Q .non (upd H2 l (.lst (xs' ++ [y]))))
    (hbase : attributeBase o "append" X.env (eval o X.env) = eval o X.env := by with_unfolding_all rfl)
    (hfew : ((backTo pos (starEach [e] X.env)).all (fun x => !x.1) && (backToKw pos (keywordEach [] X.env)).all (fun x => x.1.isSome) && decide (([e] : List Expr).length + ([] : List Keyword).length + (if ([] : List Keyword).isEmpty then 0 else 1) < 30)) = true := by with_unfolding_all rfl)
    (hline : (apos.endLine == pos.line) = true := by with_unfolding_all rfl) (hs : starEach [e] X.env = (false, eval e X.env) :: starEach [] X.env := by with_unfolding_all rfl) (hplain : (backTo pos (starEach [] X.env)).any (·.1) = false := by with_unfolding_all rfl) :
    RE X (.Call (.Attribute o "append" apos) [e] [] pos) σ H Q := by
  refine re_of (pe_bm PySem.F.plainAttrs_list PySem.F.slot_list_append PySem.F.type_list_append mt_append PE.self PA.self hbase hfew hline hs hplain) ?_
  refine pe_mono q fun x H1 ⟨l, xs, e1, h1, q1⟩ => ?_
  subst e1
  refine ⟨.inl ⟨rfl, _, SqL.of h1⟩, ra_cons (pe_mono q1 fun y H2 ⟨xs', h2, h3, q2⟩ => ra_nil ⟨l, xs', y, rfl, rfl, h2, h3, q2⟩) hs⟩
/-- ''.join(e) -/
theorem re_join {o e : Expr} {apos : Pos} (q : RE X o σ H fun x H1 => ∃ a, x = .str a ∧ RE X e σ H1 fun y H2 => ∃ p, ∃ ys : List Str, y = .ref p ∧ (SqL X.K H2 p (ys.map V.str) ∨ SqT X.K H2 p (ys.map V.str)) ∧ (ys.map (·.length)).sum + ys.length * a.length ≤ 16777216 ∧ Q (.str (Txt.join a ys)) H2)
    (hs : starEach [e] X.env = [(false, eval e X.env)] := by with_unfolding_all rfl) (hbase : attributeBase o "join" X.env (eval o X.env) = eval o X.env := by with_unfolding_all rfl) (hline : (apos.endLine == pos.line) = true := by with_unfolding_all rfl) :
    RE X (.Call (.Attribute o "join" apos) [e] [] pos) σ H Q := by
  refine re_of (pe_join PE.self PE.self hs hbase hline) ?_
  refine pe_mono q fun x H1 ⟨a, e1, q1⟩ => ⟨⟨a, e1⟩, pe_mono q1 fun y H2 ⟨p, ys, e2, h2, h3, q2⟩ => ?_⟩
  exact ⟨a, p, ys, e1, by rw [e2], h2, h3, q2⟩
/-! ### calls of the program's own defs -/
/-- a def that stands in the module: its promise, at most so many calls deep -/
structure DefP (P : Program) (wd : World) (K : PySem.W.Frag) (mg : Str → Option Value) (base : Heap) (CXs : CXT) (x : Str) (ps : List Str) (k : Nat) (sp : Sp) : Prop where
  ex : ∃ f fd, FnOk P wd K mg base CXs k f fd ps sp ∧ mg x = some (.ref f) ∧ PySem.W.keepIn K (.ref f) = true ∧ Binds K fd ps []
theorem re_call (c : Ctx X N L k) {x : Str} {ps : List Str} {n : Nat} {sp : Sp} {e : Expr} {es : List Expr} (F : DefP X.prog X.w X.K X.mg X.base CX0 x ps n sp) (hn : n ≤ k) (h : (x, KN.glob) ∈ L) (q : RA X (e :: es) σ H fun vs H1 => sp vs H1 Q E0)
    (he : starEach (e :: es) X.env = (false, eval e X.env) :: starEach es X.env := by with_unfolding_all rfl) (hpl : (backTo pos (starEach es X.env)).any (·.1) = false := by with_unfolding_all rfl) : RE X (.Call (.Name x p0) (e :: es) [] pos) σ H Q := by
  obtain ⟨f, fd, F1, m, kp, b⟩ := F.ex
  refine re_of (pe_call F1 (c.room.mono hn) (c.gl h) m kp b .nil pass0 PA.self (c.d1 h) he hpl) ?_
  exact ra_mono q fun vs H1 d => by rw [List.append_nil]; exact d
/-! ### for -/
theorem Ctx.pg (c : Ctx X N L k) {x : Str} {j : KN} (h : (x, j) ∈ L) (m : Own j) (hx : x ∈ N) : ∃ i : Nat, PG X (.Name x p0) (gName i) ∧ ∀ {σ σ' : L2.St} {v : V}, Put N σ x v σ' → σ' = σ.set i (some v) := by
  obtain ⟨i, h1, h2⟩ := c.put hx
  exact ⟨i, pg_name c.nodup h1 (c.loc h m) (c.fn h m), h2⟩
/-- what a loop over xs asks: the invariant Pv by the turn -/
def Turns (X : Cx) (N : List Str) (x : Str) (body : List Stmt) (D : Ends) (stand : Hp → Prop) (n : Nat) (it : Nat → V → Prop) (σ : L2.St) (H : Hp) : Prop :=
  ∃ Pv : Nat → L2.St → Hp → Prop, Pv 0 σ H ∧ (∀ i σ H, i ≤ n → Pv i σ H → stand H) ∧
    (∀ i y σ H, i < n → it i y → Pv i σ H → ∃ σ', Put N σ x y σ' ∧ RB X body { D with nx := Pv (i + 1), ct := Pv (i + 1), bk := D.nx } σ' H) ∧ (∀ σ H, Pv n σ H → D.nx σ H)
theorem rs_for_list (c : Ctx X N L k) {x : Str} {l : Expr} {body : List Stmt} {j : KN} (h : (x, j) ∈ L) (m : Own j) (hx : x ∈ N)
    (q : RE X l σ H fun v H1 => ∃ a xs, v = .ref a ∧ SqL X.K H1 a xs ∧ Turns X N x body D (fun H => SqL X.K H a xs) xs.length (fun i y => xs[i]? = some y) σ H1)
    (hs : ∀ x, foldedSetIterable l X.env x = pure x := by intro _; with_unfolding_all rfl) : RS X (.For (.Name x p0) l body [] pos) D σ H := by
  obtain ⟨i, g, h2⟩ := c.pg (p0 := p0) h m hx
  refine rs_of (ps_for c.po c.calm (pi_list PE.self) g PSs.self hs) (pe_mono q fun v H1 ⟨a, xs, e, hq, Pv, p1, p2, p3, p4⟩ => ⟨a, e, ⟨xs, hq⟩, ?_⟩)
  refine for_list (K := X.K) (a := a) (xs := xs) Pv p1 p2 (fun i y σ H e p => ?_) p4
  obtain ⟨σ', hp, r⟩ := p3 i y σ H (by rcases Nat.lt_or_ge i xs.length with z | z; exact z; rw [List.getElem?_eq_none z] at e; cases e) e p
  rw [h2 hp] at r
  exact r
theorem rs_for_tup (c : Ctx X N L k) {x : Str} {l : Expr} {body : List Stmt} {j : KN} (h : (x, j) ∈ L) (m : Own j) (hx : x ∈ N)
    (q : RE X l σ H fun v H1 => ∃ a xs, v = .ref a ∧ SqT X.K H1 a xs ∧ Turns X N x body D (fun H => SqT X.K H a xs) xs.length (fun i y => xs[i]? = some y) σ H1)
    (hs : ∀ x, foldedSetIterable l X.env x = pure x := by intro _; with_unfolding_all rfl) : RS X (.For (.Name x p0) l body [] pos) D σ H := by
  obtain ⟨i, g, h2⟩ := c.pg (p0 := p0) h m hx
  refine rs_of (ps_for c.po c.calm (pi_tup PE.self) g PSs.self hs) (pe_mono q fun v H1 ⟨a, xs, e, hq, Pv, p1, p2, p3, p4⟩ => ⟨a, e, ⟨xs, hq⟩, ?_⟩)
  refine for_tup (K := X.K) (a := a) (xs := xs) Pv p1 p2 (fun i y σ H e p => ?_) p4
  obtain ⟨σ', hp, r⟩ := p3 i y σ H (by rcases Nat.lt_or_ge i xs.length with z | z; exact z; rw [List.getElem?_eq_none z] at e; cases e) e p
  rw [h2 hp] at r
  exact r
theorem rs_for_range (c : Ctx X N L k) {x : Str} {e : Expr} {body : List Stmt} {j : KN} (h : (x, j) ∈ L) (m : Own j) (hx : x ∈ N) (hg : (("range" : Str), KN.glob) ∈ L) (hm : X.mg "range" = none)
    (q : RE X e σ H fun v H1 => ∃ n : Int, v = .int n ∧ -(2 ^ 62) ≤ n ∧ n < 2 ^ 62 ∧ Turns X N x body D (fun _ => True) n.toNat (fun i y => y = .int i) σ H1)
    (hs : ∀ x, foldedSetIterable (.Call (.Name "range" p1) [e] [] p2) X.env x = pure x := by intro _; with_unfolding_all rfl) (hsE : starEach [e] X.env = [(false, eval e X.env)] := by with_unfolding_all rfl) : RS X (.For (.Name x p0) (.Call (.Name "range" p1) [e] [] p2) body [] pos) D σ H := by
  obtain ⟨i, g, h2⟩ := c.pg (p0 := p0) h m hx
  refine rs_of (ps_for c.po c.calm (pi_range1 (c.gl hg) hm PA.self hsE) g PSs.self hs) ?_
  refine ra_cons (pe_mono q fun v H1 ⟨n, e, n1, n2, Pv, p1, _, p3, p4⟩ => ra_nil ⟨n, by rw [e], n1, n2, ?_⟩) hsE
  refine for_range (lo := 0) (n := n.toNat) Pv p1 (fun i σ H e p => ?_) p4
  obtain ⟨σ', hp, r⟩ := p3 i (.int (0 + i)) σ H e (by simp) p
  rw [h2 hp] at r
  exact r
/-- for x, y in zip(a, b), both lists or both tuples, of one length -/
theorem rs_for_zip (c : Ctx X N L k) {x y : Str} {e1 e2 : Expr} {body : List Stmt} {j j' : KN} {kt : Nat} {q0 q1 q2 : Pos} (h : (x, j) ∈ L) (m : Own j) (hx : x ∈ N) (h' : (y, j') ∈ L) (m' : Own j') (hy : y ∈ N) (hg : (("zip" : Str), KN.glob) ∈ L) (hm : X.mg "zip" = none)
    (q : RA X [e1, e2] σ H fun vs H1 => ∃ a b xs ys, vs = [.ref a, .ref b] ∧ xs.length = ys.length ∧ ∃ Sq : Hp → Addr → List V → Prop, (Sq = (fun H => SqL X.K H) ∨ Sq = fun H => SqT X.K H) ∧ Sq H1 a xs ∧ Sq H1 b ys ∧ ∃ Pv : Nat → L2.St → Hp → Prop, Pv 0 σ H1 ∧ (∀ i σ H, Pv i σ H → Sq H a xs ∧ Sq H b ys) ∧
      (∀ i u v σ H T, xs[i]? = some u → ys[i]? = some v → Pv i σ H → H T = none → ∃ σ' σ'', Put N σ x u σ' ∧ Put N σ' y v σ'' ∧ RB X body { D with nx := Pv (i + 1), ct := Pv (i + 1), bk := D.nx } σ'' (upd H T (.tup [u, v]))) ∧ (∀ σ H, Pv xs.length σ H → D.nx σ H))
    (hs : ∀ x, foldedSetIterable (.Call (.Name "zip" p1) [e1, e2] [] p2) X.env x = pure x := by intro _; with_unfolding_all rfl) (he : starEach [e1, e2] X.env = (false, eval e1 X.env) :: starEach [e2] X.env := by with_unfolding_all rfl) (hpl : (backTo p2 (starEach [e2] X.env)).any (·.1) = false := by with_unfolding_all rfl)
    (hn : (assignEach [.Name x q0, .Name y q1] X.env).length = 2 := by with_unfolding_all rfl) (hst : (assignEach [.Name x q0, .Name y q1] X.env).findIdx? (·.1) = none := by with_unfolding_all rfl)
    (ha : (assignEach [.Name x q0, .Name y q1] X.env).map (·.2) = assign (.Name x q0) X.env :: (assignEach [.Name y q1] X.env).map (·.2) := by with_unfolding_all rfl) (hb : (assignEach [.Name y q1] X.env).map (·.2) = assign (.Name y q1) X.env :: (assignEach [] X.env).map (·.2) := by with_unfolding_all rfl) :
    RS X (.For (.Tuple [.Name x q0, .Name y q1] kt q2) (.Call (.Name "zip" p1) [e1, e2] [] p2) body [] pos) D σ H := by
  obtain ⟨i, g, h2⟩ := c.pg (p0 := q0) h m hx
  obtain ⟨i', g', h2'⟩ := c.pg (p0 := q1) h' m' hy
  refine rs_of (ps_for c.po c.calm (RZ.pi_zipA (c.gl hg) hm PA.self he hpl) (pg_tup (n := 2) c.calm (pgs_cons g (pgs_cons g' pgs_nil hb) ha) hn hst) PSs.self hs) ?_
  refine ra_mono q fun vs H1 ⟨a, b, xs, ys, e, hl, Sq, hS, s1, s2, Pv, p1, p2, p3, p4⟩ => ⟨a, b, xs, ys, e, ?_⟩
  have step : ∀ (i : Nat) (u v : V) (T : Addr) (σ : L2.St) (H : Hp), xs[i]? = some u → ys[i]? = some v → Pv i σ H → H T = none → gTup X.K 2 (gCons (gName _) (gCons (gName _) gNil)) (.ref T) σ (upd H T (.tup [u, v])) fun σ2 H2 => RB X body { D with nx := Pv (i + 1), ct := Pv (i + 1), bk := D.nx } σ2 H2 := fun i u v T σ H e1 e2 p hT => by
    obtain ⟨σ', σ'', a1, a2, r⟩ := p3 i u v σ H T e1 e2 p hT
    rw [h2' a2, h2 a1] at r
    exact ⟨T, _, rfl, SqT.of upd_same, rfl, _, _, rfl, _, _, rfl, rfl, r⟩
  rcases hS with rfl | rfl
  · exact .inl ⟨s1, s2, RZ.for_zipL hl Pv p1 p2 step p4⟩
  · exact .inr ⟨s1, s2, RZ.for_zipT hl Pv p1 p2 step p4⟩
end
end GT
namespace GT
open PySem PySem.Spec PyProof.Rows L2
section
variable {X : Cx} {σ : L2.St} {H : Hp} {N : List Str} {L Lc : List (Str × KN)} {k : Nat} {pos p0 p1 p2 : Pos} {Q : VK} {D : Ends} {scope : Scope}
/-! ### comprehensions -/
structure RTs (X : Cx) (ifs : List Expr) (σ : L2.St) (H : Hp) (Q : Bool → Hp → Prop) : Prop where
  ex : ∃ t, PTs X ifs t ∧ t σ H Q
theorem PTs.self {ifs : List Expr} : PTs X ifs (RTs X ifs) := ⟨fun pins s σ H Q I h => by obtain ⟨t, ht, q⟩ := h.ex; exact ht.run pins s σ H Q I q⟩
theorem rts_nil {Q : Bool → Hp → Prop} (q : Q true H) : RTs X [] σ H Q := ⟨⟨_, pts_nil, q⟩⟩
theorem rts_one {t : Expr} {Q : Bool → Hp → Prop} (q : RT X t σ H Q) : RTs X [t] σ H Q := ⟨⟨_, pts_one PT.self, q⟩⟩
/-- what is known of a comprehension's own scope -/
structure Scp (scope : Scope) (Lc : List (Str × KN)) : Prop where
  names : ∀ p ∈ Lc, p ∈ knAll scope.names
  lnd : (scope.names.map (·.1)).Nodup
  dbg : ∀ p ∈ Lc, okName p.1 = true
  kind : scope.kind = .function
/-- a comprehension over x, within names N whose kinds are told by L; Lc tells its own -/
def lcOk (N : List Str) (L : List (Str × KN)) (scope : Scope) (Lc : List (Str × KN)) (x : Str) : Bool :=
  decide (scope.kind = .function) && (Lc.all fun p => decide (p ∈ knAll scope.names)) && decide (scope.names.map (·.1)).Nodup && (Lc.all fun p => okName p.1) &&
    (scope.names.all fun y => !decide (y.2 = .free) || (decide ((y.1, KN.cell) ∈ L) || decide ((y.1, KN.cap) ∈ L))) &&
    (scope.names.all fun y => !(decide (y.2 = .local) || decide (y.2 = .cell)) || (decide (y.1 = x) || !decide (y.1 ∈ N))) && decide (x ∈ N) && decide ((x, KN.loc) ∈ Lc)
theorem lcOk_of {x : Str} (c : Ctx X N L k) (h : lcOk N L scope Lc x = true) : Scp scope Lc ∧ x ∈ N ∧ (x, KN.loc) ∈ Lc ∧ ∀ i : Nat, N[i]? = some x → BlkOk N X.env.scope scope [(x, i)] := by
  unfold lcOk at h
  simp only [Bool.and_eq_true, Bool.or_eq_true, Bool.not_eq_true', decide_eq_true_eq, decide_eq_false_iff_not, List.all_eq_true] at h
  obtain ⟨⟨⟨⟨⟨⟨⟨h1, h2⟩, h3⟩, h4⟩, h5⟩, h6⟩, h7⟩, h8⟩ := h
  refine ⟨⟨h2, h3, h4, h1⟩, h7, h8, fun i hi => ⟨h1, fun y hy => lookup_mem h3 hy, fun p hp => ?_, fun y hy e => ?_, fun y hy e => ?_⟩⟩
  · obtain rfl : p = (x, i) := by simpa using hp
    exact hi
  · rcases h5 y hy with z | z | z
    · exact absurd e z
    · exact .inl (c.look _ z).1
    · exact c.look _ z
  · rcases h6 y hy with z | z | z
    · rcases e with e | e <;> simp [e] at z
    · exact .inl (by simp [z])
    · exact .inr z
theorem relabel_lookup {names : List (Str × NameKind)} {f : NameKind → Bool} {x : Str} {j : NameKind} (g : Str → Bool) (h : names.lookup x = some j) :
    (names.map fun p => if (f p.2 && g p.1) = true then (p.1, NameKind.cell) else p).lookup x = some (if (f j && g x) = true then NameKind.cell else j) := by
  induction names with
  | nil => cases h
  | cons p r ih =>
    obtain ⟨y, i⟩ := p
    rw [List.map_cons]
    by_cases e : x = y
    · subst e
      have e1 : i = j := by simpa [List.lookup] using h
      subst e1
      split <;> simp [List.lookup, *]
    · have hb : (x == y) = false := beq_eq_false_iff_ne.mpr e
      have h' : r.lookup x = some j := by simpa [List.lookup, hb] using h
      have ih' := ih h'
      split
      · simpa [List.lookup, hb] using ih'
      · simpa [List.lookup, hb] using ih'
theorem Ctx.blk (c : Ctx X N L k) (S : Scp scope Lc) (s : Shared) (Hb : Hp) (C : Addr) (cl : List (Str × Addr)) (fp : List Addr) : Ctx (X.blk s Hb scope (compEnvC scope cl C X.env) fp) N Lc k where
  n := c.n
  nd := c.nd
  look := fun p hp => by
    obtain ⟨x, m⟩ := p
    obtain ⟨j, h1, h2⟩ := knAll_mem (S.names _ hp)
    have e := lookup_mem S.lnd h1
    have e2 := relabel_lookup (f := fun k => k == NameKind.free && X.env.scope.kind == .function) (fun n => X.env.kindOf n == some .cell) e
    have e3 : (X.blk s Hb scope (compEnvC scope cl C X.env) fp).env.scope.names.lookup x = some (if ((j == NameKind.free && X.env.scope.kind == .function) && X.env.kindOf x == some .cell) = true then NameKind.cell else j) := e2
    cases j <;> simp only [knOf] at h2 <;> cases h2
    · exact e3
    · refine ⟨e3, ?_⟩
      show (scope.names.lookup x == some .cell) = true
      rw [e]
      rfl
    · show _ ∨ _
      rw [e3]
      split
      · exact .inl rfl
      · exact .inr rfl
    · exact e3
  dbg := S.dbg
  calm := c.calm
  room := c.room
  po := PassesOwn.never
  kind := by
    have e : (compEnvC scope cl C X.env).scope.kind = scope.kind := rfl
    exact e.trans S.kind
def REA (X : Cx) (N : List Str) (Lc : List (Str × KN)) (k : Nat) (scope : Scope) (e : Expr) : TE := fun σ H Q =>
  ∀ (s : Shared) (Hb : Hp) (C : Addr) (cl : List (Str × Addr)) (fp : List Addr), Ctx (X.blk s Hb scope (compEnvC scope cl C X.env) fp) N Lc k → RE (X.blk s Hb scope (compEnvC scope cl C X.env) fp) e σ H Q
def RTA (X : Cx) (N : List Str) (Lc : List (Str × KN)) (k : Nat) (scope : Scope) (ifs : List Expr) : TT := fun σ H Q =>
  ∀ (s : Shared) (Hb : Hp) (C : Addr) (cl : List (Str × Addr)) (fp : List Addr), Ctx (X.blk s Hb scope (compEnvC scope cl C X.env) fp) N Lc k → RTs (X.blk s Hb scope (compEnvC scope cl C X.env) fp) ifs σ H Q
theorem PE.rea (c : Ctx X N L k) (S : Scp scope Lc) {e : Expr} (s : Shared) (Hb : Hp) (C : Addr) (cl : List (Str × Addr)) (fp : List Addr) : PE (X.blk s Hb scope (compEnvC scope cl C X.env) fp) e (REA X N Lc k scope e) :=
  ⟨fun pins s1 σ H Q I h => PE.self.run pins s1 σ H Q I (h s Hb C cl fp (c.blk S s Hb C cl fp))⟩
theorem PTs.rta (c : Ctx X N L k) (S : Scp scope Lc) {ifs : List Expr} (s : Shared) (Hb : Hp) (C : Addr) (cl : List (Str × Addr)) (fp : List Addr) : PTs (X.blk s Hb scope (compEnvC scope cl C X.env) fp) ifs (RTA X N Lc k scope ifs) :=
  ⟨fun pins s1 σ H Q I h => PTs.self.run pins s1 σ H Q I (h s Hb C cl fp (c.blk S s Hb C cl fp))⟩
/-- what a comprehension asks of its turns: y the item, Dn the new list -/
def CTurns (X : Cx) (N : List Str) (Lc : List (Str × KN)) (k : Nat) (scope : Scope) (x : Str) (elt : Expr) (ifs : List Expr) (stand : Hp → Prop) (n : Nat) (it : Nat → V → Prop) (σ : L2.St) (H1 : Hp) (Q : VK) : Prop :=
  ∀ Dn, H1 Dn = none → ∃ Pv : Nat → Hp → Prop, Pv 0 (upd H1 Dn (.lst [])) ∧ (∀ i H, i ≤ n → Pv i H → stand H) ∧
    (∀ i y H2, i < n → it i y → Pv i H2 → ∃ σ', Put N σ x y σ' ∧ RTA X N Lc k scope ifs σ' H2 fun b H3 =>
      if b = true then REA X N Lc k scope elt σ' H3 fun z H4 => ∃ acc, H4 Dn = some (.lst acc) ∧ acc.length < sizeLine ∧ Pv (i + 1) (upd H4 Dn (.lst (acc ++ [z]))) else Pv (i + 1) H3) ∧ ∀ H2, Pv n H2 → Q (.ref Dn) H2
theorem set_back {σ : L2.St} {i : Nat} {v : V} : wipe ((wipe σ [i]).set i (some v)) [i] = wipe σ [i] := by
  show (((σ.set i none).set i (some v)).set i none) = σ.set i none
  rw [List.set_set, List.set_set]
theorem set_on {σ : L2.St} {i : Nat} {v : V} : (wipe σ [i]).set i (some v) = σ.set i (some v) := by
  show ((σ.set i none).set i (some v)) = σ.set i (some v)
  rw [List.set_set]
section
variable {x : Str} {elt : Expr} {ifs : List Expr}
theorem blk_at (c : Ctx X N L k) (S : Scp scope Lc) (hx : x ∈ N) (hl : (x, KN.loc) ∈ Lc) (ok : ∀ i : Nat, N[i]? = some x → BlkOk N X.env.scope scope [(x, i)]) :
    ∃ i : Nat, (∀ {σ σ' : L2.St} {v : V}, Put N σ x v σ' → σ' = σ.set i (some v)) ∧ BlkOk X.N X.env.scope scope [(x, i)] ∧
      ∀ (s : Shared) (Hb : Hp) (C : Addr) (cl : List (Str × Addr)) (fp : List Addr), PG (X.blk s Hb scope (compEnvC scope cl C X.env) fp) (.Name x p0) (gName i) := by
  obtain ⟨i, h1, h2⟩ := c.put hx
  refine ⟨i, h2, ?_, fun s Hb C cl fp => ?_⟩
  · rw [c.n]
    rw [c.n] at h1
    exact ok i h1
  · have cb := c.blk S s Hb C cl fp
    exact pg_name c.nodup h1 (cb.loc hl .loc) (cb.fn hl .loc)
theorem lc_go {Itx : It} {n : Nat} {stand : Hp → Prop} {it : Nat → V → Prop} {H1 : Hp} {i : Nat} (hput : ∀ {σ σ' : L2.St} {v : V}, Put N σ x v σ' → σ' = σ.set i (some v))
    (W : Walk Itx n stand fun j H y H' => H' = H ∧ it j y) (q : CTurns X N Lc k scope x elt ifs stand n it σ H1 Q) :
    ∀ Dn, H1 Dn = none → ∃ W : Nat → Nat → Hp → Prop, (∃ m, W 0 m (upd H1 Dn (.lst []))) ∧ ∀ j m H, W j m H →
      (Itx.stop j H ∧ Q (.ref Dn) H) ∨ (Itx.go j H ∧ ∃ Nx : Hp → Prop, (∀ H', Nx H' → ∃ m', m' < m ∧ W (j + 1) m' H') ∧ ∀ y H', Itx.yld j H y H' → gName i y (wipe σ [i]) H' fun σ2 H2 => wipe σ2 [i] = wipe σ [i] ∧ RTA X N Lc k scope ifs σ2 H2 fun b H3 =>
        if b = true then REA X N Lc k scope elt σ2 H3 fun z H4 => ∃ acc, H4 Dn = some (.lst acc) ∧ acc.length < sizeLine ∧ Nx (upd H4 Dn (.lst (acc ++ [z]))) else Nx H3) := by
  intro Dn hD
  obtain ⟨Pv, p1, p2, p3, p4⟩ := q Dn hD
  refine lc_it W (g := gName i) (tt := RTA X N Lc k scope ifs) (te := REA X N Lc k scope elt) (vs := [i]) (σ := σ) Pv p1 p2 (fun j y H H' hj p hy => ?_) p4
  obtain ⟨rfl, hy⟩ := hy
  obtain ⟨σ', hp, r⟩ := p3 j y H' hj hy p
  refine ⟨set_back, ?_⟩
  rw [set_on, ← hput hp]
  exact r
theorem re_lc_list (c : Ctx X N L k) (Lc : List (Str × KN)) (hok : lcOk N L scope Lc x = true) {l : Expr}
    (q : RE X l σ H fun v H1 => ∃ a xs, v = .ref a ∧ SqL X.K H1 a xs ∧ CTurns X N Lc k scope x elt ifs (fun H => SqL X.K H a xs) xs.length (fun i y => xs[i]? = some y) σ H1 Q)
    (hs : ∀ x, foldedSetIterable l X.env x = pure x := by intro _; with_unfolding_all rfl) : RE X (.ListComp elt [⟨.Name x p0, l, ifs, 0⟩] scope pos) σ H Q := by
  obtain ⟨S, hx, hl, ok⟩ := lcOk_of c hok
  obtain ⟨i, hput, bk, g⟩ := blk_at (p0 := p0) c S hx hl ok
  refine re_of (pe_lc c.calm c.nodup (pi_list PE.self) bk g (fun s H C cl fp => PTs.rta c S s H C cl fp) (fun s H C cl fp => PE.rea c S s H C cl fp) hs) ?_
  refine pe_mono q fun v H1 ⟨a, xs, e, h1, q1⟩ => ⟨a, e, ⟨xs, h1⟩, lc_go hput walk_list q1⟩
theorem re_lc_range (c : Ctx X N L k) (Lc : List (Str × KN)) (hok : lcOk N L scope Lc x = true) {e : Expr} (hg : (("range" : Str), KN.glob) ∈ L) (hm : X.mg "range" = none)
    (q : RE X e σ H fun v H1 => ∃ n : Int, v = .int n ∧ -(2 ^ 62) ≤ n ∧ n < 2 ^ 62 ∧ CTurns X N Lc k scope x elt ifs (fun _ => True) n.toNat (fun i y => y = .int i) σ H1 Q)
    (hs : ∀ x, foldedSetIterable (.Call (.Name "range" p1) [e] [] p2) X.env x = pure x := by intro _; with_unfolding_all rfl) (hsE : starEach [e] X.env = [(false, eval e X.env)] := by with_unfolding_all rfl) : RE X (.ListComp elt [⟨.Name x p0, .Call (.Name "range" p1) [e] [] p2, ifs, 0⟩] scope pos) σ H Q := by
  obtain ⟨S, hx, hl, ok⟩ := lcOk_of c hok
  obtain ⟨i, hput, bk, g⟩ := blk_at (p0 := p0) c S hx hl ok
  refine re_of (pe_lc c.calm c.nodup (pi_range1 (c.gl hg) hm PA.self hsE) bk g (fun s H C cl fp => PTs.rta c S s H C cl fp) (fun s H C cl fp => PE.rea c S s H C cl fp) hs) ?_
  refine ra_cons (pe_mono q fun v H1 ⟨n, e, n1, n2, q1⟩ => ra_nil ⟨n, by rw [e], n1, n2, ?_⟩) hsE
  refine lc_go hput (walk_range.mono (fun _ h => h) fun j H y H' hj _ hy => ?_) q1
  obtain ⟨h1, h2⟩ := hy
  exact ⟨h1, by rw [h2]; simp⟩
/-- y = [..] on one line -/
theorem rs_lc_list (c : Ctx X N L k) (Lc : List (Str × KN)) (hok : lcOk N L scope Lc x = true) {l : Expr} {y : Str} {py cp : Pos} (hy : (y, KN.loc) ∈ L) (my : y ∈ N)
    (q : RE X l σ H fun v H1 => ∃ a xs, v = .ref a ∧ SqL X.K H1 a xs ∧ CTurns X N Lc k scope x elt ifs (fun H => SqL X.K H a xs) xs.length (fun i y => xs[i]? = some y) σ H1 fun v H2 => ∃ σ', Put N σ y v σ' ∧ D.nx σ' H2)
    (hln : (py.line == cp.line) = true := by with_unfolding_all rfl) (ha : (scope.names.any fun (n, k) => n == y && (k == .local || k == .cell)) = false := by decide +kernel)
    (hs : ∀ x, foldedSetIterable l X.env x = pure x := by intro _; with_unfolding_all rfl) : RS X (.Assign [.Name y py] (.ListComp elt [⟨.Name x p0, l, ifs, 0⟩] scope cp) pos) D σ H := by
  obtain ⟨S, hx, hl, ok⟩ := lcOk_of c hok
  obtain ⟨i, hput, bk, g⟩ := blk_at (p0 := p0) c S hx hl ok
  obtain ⟨i2, h1, h2⟩ := c.put my
  refine rs_of (ps_setLc (i := i2) c.calm c.nodup h1 (c.lcl hy) (sw_true c.kind (c.lcl hy) hln ha) (pi_list PE.self) bk g (fun s H C cl fp => PTs.rta c S s H C cl fp) (fun s H C cl fp => PE.rea c S s H C cl fp) hs) ?_
  refine pe_mono q fun v H1 ⟨a, xs, e, h1, q1⟩ => ⟨a, e, ⟨xs, h1⟩, lc_go hput (walk_list (xs := xs)) (Q := fun v H1 => D.nx (σ.set i2 (some v)) H1) (fun Dn hD => ?_ : CTurns X N Lc k scope x elt ifs (fun H => SqL X.K H a xs) xs.length (fun i y => xs[i]? = some y) σ H1 fun v H1 => D.nx (σ.set i2 (some v)) H1)⟩
  obtain ⟨Pv, a1, a2, a3, a4⟩ := q1 Dn hD
  refine ⟨Pv, a1, a2, a3, fun H2 hp => ?_⟩
  obtain ⟨σ', p, d⟩ := a4 H2 hp
  rw [h2 p] at d
  exact d
end
end
end GT
namespace GT
open PySem PySem.Spec PyProof.Rows L2
/-- the def that st says, as it stands behind the top -/
abbrev FnP (K : PySem.W.Frag) (x : Str) (st : Stmt) (f : Addr) (fd : FuncData) : Prop := FunD K x x (defArgs st) (defBody st) (defScope st) [] [] f fd
/-- a context of this program and heap -/
structure At5 (X : Cx) (P : Program) (w : World) (K : PySem.W.Frag) (mg : Str → Option Value) (base : Heap) : Prop where
  p : X.prog = P
  w : X.w = w
  k : X.K = K
  m : X.mg = mg
  b : X.base = base
/-- what is known of a def's names (each line by decide +kernel) -/
structure Nms (st : Stmt) (N ps : List Str) (L : List (Str × KN)) : Prop where
  S : FnScope N ps (defScope st)
  kl : ∀ p ∈ L, p ∈ knAll (defScope st).names
  nd : ((defScope st).names.map (·.1)).Nodup
  db : ∀ p ∈ L, okName p.1 = true
section
variable {P : Program} {w : World} {K : PySem.W.Frag} {mg : Str → Option Value} {base : Heap} {CXs : CXT} {x : Str} {st : Stmt} {N ps : List Str} {L : List (Str × KN)} {k : Nat} {sp : Sp} {f : Addr} {fd : FuncData}
theorem knIs_of {X : Cx} {st : Stmt} (M : Nms st N ps L) (e : X.env.scope = defScope st) (hf : ∀ x, X.fn x = true) : ∀ p ∈ L, KnIs X p.1 p.2 := fun p hp => by
  obtain ⟨x, m⟩ := p
  obtain ⟨j, h1, h2⟩ := knAll_mem (M.kl _ hp)
  have e1 : X.env.scope.names.lookup x = some j := by
    rw [e]
    exact lookup_mem M.nd h1
  cases j <;> simp only [knOf] at h2 <;> cases h2
  · exact e1
  · exact ⟨e1, hf x⟩
  · exact .inr e1
  · exact e1
/-- a def that raises nothing keeps its promise -/
theorem defP_of (F : FnP K x st f fd) (gx : mg x = some (.ref f)) (M : Nms st N ps L) (hb : Binds K fd ps []) (len : ∀ vs H Q E, sp vs H Q E → vs.length = ps.length)
    (body : ∀ (X : Cx), Ctx X N L k → At5 X P w K mg base → ∀ (vs : List V) (H : Hp) (Q : VK) (E : XK), sp vs H Q E → RB X (defBody st) { nx := fun _ H' => Q .non H', rt := Q } (start N vs) H) : DefP P w K mg base CX0 x ps (k + 1) sp := by
  refine ⟨f, fd, F.ok M.S len (fun cdv A outer s H vs Q E hr h => ?_), gx, F.kp, hb⟩
  have c : Ctx (cxOf CX0 P w K mg base N x (defScope st) f cdv A outer s H E).nox N L k := ⟨rfl, M.S.nd, knIs_of M rfl (fun _ => rfl), M.db, rfl, hr, PassesOwn.never, M.S.kind⟩
  obtain ⟨t, ht, q⟩ := (body _ c ⟨rfl, rfl, rfl, rfl, rfl⟩ vs H Q E h).ex
  exact ⟨t, ht.nox, q⟩
theorem DefP.at5 {X : Cx} {n : Nat} (d : DefP P w K mg base CXs x ps n sp) (a : At5 X P w K mg base) : DefP X.prog X.w X.K X.mg X.base CXs x ps n sp := by
  obtain ⟨p1, p2, p3, p4, p5⟩ := a
  rw [p1, p2, p3, p4, p5]
  exact d
end
/-! ### frames -/
/-- what stands outside of the addresses of B is as it was -/
def Fr (B : Addr → Prop) (H H' : Hp) : Prop := ∀ a o, ¬ B a → H a = some o → H' a = some o
abbrev NoB : Addr → Prop := fun _ => False
section
variable {B : Addr → Prop} {K : PySem.W.Frag} {H H1 H2 : Hp} {a p : Addr} {o : HO} {xs : List V}
theorem Fr.refl : Fr B H H := fun _ _ _ h => h
theorem Fr.trans (h : Fr B H H1) (g : Fr B H1 H2) : Fr B H H2 := fun a o n e => g a o n (h a o n e)
theorem Fr.any (h : Fr NoB H H1) : Fr B H H1 := fun a o _ e => h a o (fun z => z) e
theorem Fr.new (h : H p = none) : Fr B H (upd H p o) := fun a u _ e => by
  rw [upd_ne (ne_of_none e h)]
  exact e
theorem Fr.seqL (f : Fr B H H1) (n : ¬ B a) (h : SqL K H a xs) : SqL K H1 a xs := by
  rcases h with (h | ⟨o, h⟩) | h
  · exact .inl (.inl (f _ _ n h))
  · exact .inl (.inr ⟨o, f _ _ n h⟩)
  · exact .inr h
theorem Fr.seqT (f : Fr B H H1) (n : ¬ B a) (h : SqT K H a xs) : SqT K H1 a xs := by
  rcases h with (h | ⟨o, h⟩) | h
  · exact .inl (.inl (f _ _ n h))
  · exact .inl (.inr ⟨o, f _ _ n h⟩)
  · exact .inr h
theorem Fr.free (f : Fr NoB H H1) (h : H1 a = .none) : H a = .none := by
  cases e : H a with
  | none => rfl
  | some o =>
    rw [f a o (fun z => z) e] at h
    cases h
theorem Fr.gone (f : Fr B H H1) (n : ¬ B p) (h : H1 p = .none) : H p = .none := by
  cases e : H p with
  | none => rfl
  | some o =>
    rw [f p o n e] at h
    cases h
/-- an object that was not there at first is written -/
theorem Fr.put (f : Fr B H H1) (h : H p = .none) : Fr B H (upd H1 p o) := fun a u n e => by
  rw [upd_ne (ne_of_none e h)]
  exact f a u n e
end
/-! ### data -/
inductive D where
  | non | bl (b : Bool) | int (i : Int) | str (s : Str) | lst (l : List D) | tup (l : List D)
/-- v bears the data d: what it reaches stands outside of B -/
inductive Dt (K : PySem.W.Frag) (B : Addr → Prop) (H : Hp) : V → D → Prop
  | non : Dt K B H .non .non
  | bl {b : Bool} : Dt K B H (.bl b) (.bl b)
  | int {i : Int} : Dt K B H (.int i) (.int i)
  | str {s : Str} : Dt K B H (.str s) (.str s)
  | lst {a : Addr} {vs : List V} {ds : List D} (n : ¬ B a) (t : H a = some (.lst vs)) (l : vs.length = ds.length) (h : ∀ (i : Nat) v d, vs[i]? = some v → ds[i]? = some d → Dt K B H v d) : Dt K B H (.ref a) (.lst ds)
  | tup {a : Addr} {vs : List V} {ds : List D} (n : ¬ B a) (t : H a = some (.tup vs)) (l : vs.length = ds.length) (h : ∀ (i : Nat) v d, vs[i]? = some v → ds[i]? = some d → Dt K B H v d) : Dt K B H (.ref a) (.tup ds)
theorem Dt.fr {K : PySem.W.Frag} {B : Addr → Prop} {H H' : Hp} {v : V} {d : D} (h : Dt K B H v d) (f : Fr B H H') : Dt K B H' v d := by
  induction h with
  | non => exact .non
  | bl => exact .bl
  | int => exact .int
  | str => exact .str
  | lst n t l _ ih => exact .lst n (f _ _ n t) l ih
  | tup n t l _ ih => exact .tup n (f _ _ n t) l ih
theorem Dt.mono {K : PySem.W.Frag} {B B' : Addr → Prop} {H : Hp} {v : V} {d : D} (h : Dt K B H v d) (s : ∀ a, B' a → B a) : Dt K B' H v d := by
  induction h with
  | non => exact .non
  | bl => exact .bl
  | int => exact .int
  | str => exact .str
  | lst n t l _ ih => exact .lst (fun z => n (s _ z)) t l ih
  | tup n t l _ ih => exact .tup (fun z => n (s _ z)) t l ih
/-- row by row -/
def Dts (K : PySem.W.Frag) (B : Addr → Prop) (H : Hp) (vs : List V) (ds : List D) : Prop := vs.length = ds.length ∧ ∀ (i : Nat) v d, vs[i]? = some v → ds[i]? = some d → Dt K B H v d
theorem Dts.nil {K : PySem.W.Frag} {B : Addr → Prop} {H : Hp} : Dts K B H [] [] := ⟨rfl, fun i v d h => by simp at h⟩
theorem Dts.cons {K : PySem.W.Frag} {B : Addr → Prop} {H : Hp} {v : V} {d : D} {vs : List V} {ds : List D} (h : Dt K B H v d) (t : Dts K B H vs ds) : Dts K B H (v :: vs) (d :: ds) := by
  refine ⟨by rw [List.length_cons, List.length_cons, t.1], fun i u e h1 h2 => ?_⟩
  cases i with
  | zero =>
    simp at h1 h2
    subst h1 h2
    exact h
  | succ i => exact t.2 i u e (by simpa using h1) (by simpa using h2)
theorem Dts.fr {K : PySem.W.Frag} {B : Addr → Prop} {H H' : Hp} {vs : List V} {ds : List D} (h : Dts K B H vs ds) (f : Fr B H H') : Dts K B H' vs ds := ⟨h.1, fun i v d a b => (h.2 i v d a b).fr f⟩
theorem Dt.ofT {K : PySem.W.Frag} {B : Addr → Prop} {H : Hp} {a : Addr} {vs : List V} {ds : List D} (n : ¬ B a) (t : H a = some (.tup vs)) (h : Dts K B H vs ds) : Dt K B H (.ref a) (.tup ds) := .tup n t h.1 h.2
theorem Dt.ofL {K : PySem.W.Frag} {B : Addr → Prop} {H : Hp} {a : Addr} {vs : List V} {ds : List D} (n : ¬ B a) (t : H a = some (.lst vs)) (h : Dts K B H vs ds) : Dt K B H (.ref a) (.lst ds) := .lst n t h.1 h.2
/-- a new tuple, a new list, of data -/
theorem Dt.newT {K : PySem.W.Frag} {B : Addr → Prop} {H : Hp} {p : Addr} {vs : List V} {ds : List D} (hp : H p = none) (n : ¬ B p) (h : Dts K B H vs ds) : Dt K B (upd H p (.tup vs)) (.ref p) (.tup ds) := .ofT n upd_same (h.fr (Fr.new hp))
theorem Dt.newL {K : PySem.W.Frag} {B : Addr → Prop} {H : Hp} {p : Addr} {vs : List V} {ds : List D} (hp : H p = none) (n : ¬ B p) (h : Dts K B H vs ds) : Dt K B (upd H p (.lst vs)) (.ref p) (.lst ds) := .ofL n upd_same (h.fr (Fr.new hp))
/-! ### the box of a law's draws -/
/-- the two numbers: what is left of a great one, and the state of the draws -/
def BoxAt (H : Hp) (b : Addr) : Prop := ∃ g r : Int, H b = some (.lst [.int g, .int r]) ∧ 0 ≤ g ∧ 0 ≤ r ∧ r < 2 ^ 32
theorem BoxAt.fr {H H' : Hp} {b : Addr} (h : BoxAt H b) (f : Fr NoB H H') : BoxAt H' b := by
  obtain ⟨g, r, h1, h2⟩ := h
  exact ⟨g, r, f _ _ (fun z => z) h1, h2⟩
theorem BoxAt.ne {H : Hp} {b p : Addr} (h : BoxAt H b) (hp : H p = none) : ¬ p = b := by
  obtain ⟨g, r, h1, _⟩ := h
  exact fun e => by rw [e, h1] at hp; cases hp
theorem BoxAt.put {H : Hp} {b p : Addr} {o : HO} (h : BoxAt H b) (n : ¬ p = b) : BoxAt (upd H p o) b := by
  obtain ⟨g, r, h1, h2⟩ := h
  exact ⟨g, r, by rw [upd_ne (fun e => n e.symm)]; exact h1, h2⟩
end GT
namespace GT
open PySem PySem.Spec PyProof.Rows L2
section
variable {X : Cx} {σ : L2.St} {H : Hp} {N : List Str} {L Lc : List (Str × KN)} {k : Nat} {pos p0 p1 p2 : Pos} {Q : VK}
/-- s.index(sign), the sign there -/
theorem re_sindex {o e : Expr} {apos : Pos} (hc : X.calm = true) (q : RE X o σ H fun x H1 => ∃ a, x = .str a ∧ RE X e σ H1 fun y H2 => ∃ b k, y = .str b ∧ Txt.index0 a b = some k ∧ Q (.int (k : Nat)) H2)
    (hbase : attributeBase o "index" X.env (eval o X.env) = eval o X.env := by with_unfolding_all rfl)
    (hfew : ((backTo pos (starEach [e] X.env)).all (fun x => !x.1) && (backToKw pos (keywordEach [] X.env)).all (fun x => x.1.isSome) && decide (([e] : List Expr).length + ([] : List Keyword).length + (if ([] : List Keyword).isEmpty then 0 else 1) < 30)) = true := by with_unfolding_all rfl)
    (hline : (apos.endLine == pos.line) = true := by with_unfolding_all rfl) (hs : starEach [e] X.env = (false, eval e X.env) :: starEach [] X.env := by with_unfolding_all rfl) (hplain : (backTo pos (starEach [] X.env)).any (·.1) = false := by with_unfolding_all rfl) :
    RE X (.Call (.Attribute o "index" apos) [e] [] pos) σ H Q := by
  refine re_of (pe_bmS PySem.F.plainAttrs_str PySem.F.slot_str_index PySem.F.type_str_index (mt_indexX hc (W := fun _ _ _ _ => False) L2.takes0) PE.self PA.self hbase hfew hline hs hplain) ?_
  refine pe_mono q fun x H1 ⟨a, e1, q1⟩ => ?_
  subst e1
  refine ⟨rfl, ra_cons (pe_mono q1 fun y H2 ⟨b, k, e2, h2, q2⟩ => ra_nil ⟨a, b, rfl, by rw [e2], fun k' hk => ?_, fun hn => ?_⟩) hs⟩
  · rw [h2] at hk
    cases hk
    exact q2
  · rw [h2] at hn
    cases hn
end
/-! ### texts of small letters -/
def Low (z : Str) : Prop := ∀ c ∈ z.cps.toList, 97 ≤ c ∧ c ≤ 122
/-- a label -/
def Lab (z : Str) : Prop := 1 ≤ z.length ∧ z.length ≤ 8 ∧ Low z
def slt (a b : Str) : Bool := decide (a.cps.toList < b.cps.toList)
theorem lt_at {a b : List Nat} : ∀ {i x y : Nat}, (∀ j, j < i → a[j]? = b[j]?) → a[i]? = some x → b[i]? = some y → x ≠ y → (a < b ↔ x < y) := by
  induction a generalizing b with
  | nil => intro i x y _ h; simp at h
  | cons u a ih =>
    intro i x y h1 h2 h3 h4
    cases b with
    | nil => simp at h3
    | cons v b =>
      cases i with
      | zero =>
        simp at h2 h3
        subst h2 h3
        rw [List.cons_lt_cons_iff]
        constructor
        · rintro (h | ⟨h, _⟩)
          · exact h
          · exact absurd h h4
        · exact Or.inl
      | succ i =>
        have e : u = v := by simpa using h1 0 (by omega)
        subst e
        rw [List.cons_lt_cons_iff]
        have := ih (b := b) (i := i) (x := x) (y := y) (fun j hj => by simpa using h1 (j + 1) (by omega)) (by simpa using h2) (by simpa using h3) h4
        rw [this]
        constructor
        · rintro (h | ⟨_, h⟩)
          · omega
          · exact h
        · exact fun h => Or.inr ⟨rfl, h⟩
theorem lt_len {a b : List Nat} : (∀ j, j < min a.length b.length → a[j]? = b[j]?) → (a < b ↔ a.length < b.length) := by
  induction a generalizing b with
  | nil =>
    intro _
    cases b with
    | nil => simp
    | cons v b => simp
  | cons u a ih =>
    intro h
    cases b with
    | nil => simp
    | cons v b =>
      have e : u = v := by simpa using h 0 (by simp)
      subst e
      rw [List.cons_lt_cons_iff, ih (b := b) (fun j hj => by simpa using h (j + 1) (by simp; omega))]
      simp
theorem abc_at : ∀ c : Nat, 97 ≤ c → c ≤ 122 → Txt.index0 "abcdefghijklmnopqrstuvwxyz" ⟨#[c]⟩ = some (c - 97) := by
  have h : ∀ i : Fin 26, Txt.index0 "abcdefghijklmnopqrstuvwxyz" ⟨#[97 + i.val]⟩ = some i.val := by decide +kernel
  intro c h1 h2
  have := h ⟨c - 97, by omega⟩
  have e : 97 + (c - 97) = c := by omega
  simpa [e] using this
end GT
namespace GT
open PySem PySem.Spec PyProof.Rows L2
theorem Put.slot {N : List Str} {σ σ' : L2.St} {x : Str} {v : V} (h : Put N σ x v σ') : Slot N σ' x v := by
  induction h with
  | here => exact .here
  | there _ ih => exact .there ih
section
variable {X : Cx} {σ : L2.St} {H1 : Hp} {N : List Str} {L Lc : List (Str × KN)} {k : Nat} {pe : Pos} {Q : VK} {scope : Scope} {x : Str} {t : Expr} {a : Addr} {xs : List V}
theorem filter_succ {α : Type} {f : α → Bool} {l : List α} {i : Nat} {y : α} (h : l[i]? = some y) : (l.take (i + 1)).filter f = (l.take i).filter f ++ (if f y = true then [y] else []) := by
  rw [List.take_succ, h, List.filter_append]
  simp [List.filter]
  split <;> simp_all
/-- [x for x in xs if t]: t tells f of the item and changes nothing -/
theorem cturns_filter {f : V → Bool} (hl : xs.length < sizeLine) (hq : SqL X.K H1 a xs) (hx : (x, KN.loc) ∈ Lc) {σf : V → L2.St} (hp : ∀ y, Put N σ x y (σf y))
    (ht : ∀ (y : V) (H' : Hp), y ∈ xs → Fr NoB H1 H' → ∀ (s : Shared) (Hb : Hp) (C : Addr) (cl : List (Str × Addr)) (fp : List Addr), Ctx (X.blk s Hb scope (compEnvC scope cl C X.env) fp) N Lc k →
      RT (X.blk s Hb scope (compEnvC scope cl C X.env) fp) t (σf y) H' fun b H'' => b = f y ∧ Fr NoB H' H'')
    (q : ∀ (Dn : Addr) (H' : Hp), H1 Dn = none → Fr NoB H1 H' → H' Dn = some (.lst (xs.filter f)) → Q (.ref Dn) H') :
    CTurns X N Lc k scope x (.Name x pe) [t] (fun H => SqL X.K H a xs) xs.length (fun i y => xs[i]? = some y) σ H1 Q := by
  intro Dn hD
  refine ⟨fun i H' => H' Dn = some (.lst ((xs.take i).filter f)) ∧ Fr NoB H1 H', ⟨upd_same, Fr.new hD⟩, fun i H _ h => h.2.seqL (fun z => z) hq, ?_, ?_⟩
  · rintro i y H' hi hy ⟨h1, h2⟩
    refine ⟨σf y, hp y, fun s Hb C cl fp cb => rts_one (rt_mono (ht y H' (List.mem_of_getElem? hy) h2 s Hb C cl fp cb) ?_)⟩
    rintro b H'' ⟨e, f2⟩
    have e2 := f2 Dn _ (fun z => z) h1
    cases hb : f y with
    | false =>
      rw [e, hb]
      refine iteF ⟨?_, h2.trans f2⟩
      rw [filter_succ hy, hb, e2]
      simp
    | true =>
      rw [e, hb]
      refine iteT fun s Hb C cl fp cb => re_name cb (hp y).slot hx .loc ?_
      have hlen : ((xs.take i).filter f).length < sizeLine := Nat.lt_of_le_of_lt (Nat.le_trans (List.length_filter_le _ _) (by rw [List.length_take]; omega)) hl
      refine ⟨_, e2, hlen, ?_, (h2.trans f2).put hD⟩
      rw [upd_same, filter_succ hy, hb]
      rfl
  · rintro H' ⟨h1, h2⟩
    rw [List.take_length] at h1
    exact q Dn H' hD h2 h1
end
end GT
namespace GT
open PySem PySem.Spec PyProof.Rows L2
section
variable {X : Cx} {σ : L2.St} {H : Hp} {N : List Str} {L Lc : List (Str × KN)} {k : Nat} {pos p0 p1 p2 p3 : Pos} {Q : VK} {D : Ends}
/-! ### an own exception class with one field that its __init__ lays -/
theorem rs_ost {o e : Expr} {f : Str} {p' : Pos} (q : RE X e σ H fun y H1 => RE X o σ H1 fun x H2 => ∃ a C : Addr, x = .ref a ∧ OexC X.K C ∧ PySem.W.findIn X.K (.ref C) f = some none ∧ H2 a = some (exo a C none) ∧ ∀ dx, H2 dx = none → dx ≠ a → D.nx σ (upd (upd H2 dx (exd dx [(f, y)])) a (exo a C (some dx))))
    (hs : swapsWith e (some (.Attribute o f p')) pos.line X.env = pure false := by with_unfolding_all rfl) : RS X (.Assign [.Attribute o f p'] e pos) D σ H :=
  rs_of (ps_ost PE.self PE.self hs) (pe_mono q fun y H1 q1 => pe_mono q1 fun x H2 ⟨a, C, e1, T, n, h, q2⟩ => ⟨a, C, e1, T, n, .inl ⟨h, q2⟩⟩)
/-- the promise of such an __init__ -/
def spIni (K : PySem.W.Frag) (fl : Str) : Sp := fun vs H Q _ => ∃ (a C : Addr) (v : V), vs = [.ref a, v] ∧ OexC K C ∧ PySem.W.findIn K (.ref C) fl = some none ∧ H a = some (exo a C none) ∧
  ∀ dx, H dx = none → dx ≠ a → Q .non (upd (upd H dx (exd dx [(fl, v)])) a (exo a C (some dx)))
structure ErrC (P : Program) (w : World) (K : PySem.W.Frag) (mg : Str → Option Value) (base : Heap) (nm fl : Str) (C : Addr) : Prop where
  oex : OexC K C
  gC : mg nm = some (.ref C)
  no : PySem.W.findIn K (.ref C) fl = some none
  xf : XfC K C
  ini : ∃ (fI : Addr) (fd : FuncData) (ps : List Str), PySem.W.findIn K (.ref C) "__init__" = some (some (.ref fI)) ∧ PySem.W.typeIn K (.ref fI) = some (.type "function") ∧ FnOk P w K mg base CX0 1 fI fd ps (spIni K fl) ∧ Binds K fd ps []
/-- raise C(e) -/
theorem rs_raise (c : Ctx X N L k) {nm fl : Str} {C : Addr} (EC : ErrC X.prog X.w X.K X.mg X.base nm fl C) (hk : 2 ≤ k) (hg : (nm, KN.glob) ∈ L) {W : WX} (tk : Takes X W) {e : Expr}
    (q : RE X e σ H fun v H1 => ∀ d, H1 d = none → W (.ref C) (some d) σ (upd H1 d (.xd [(fl, v)])))
    (he : starEach (e :: []) X.env = (false, eval e X.env) :: starEach [] X.env := by with_unfolding_all rfl) (hpl : (backTo p1 (starEach [] X.env)).any (·.1) = false := by with_unfolding_all rfl) :
    RS X (.Raise (some (.Call (.Name nm p0) [e] [] p1)) none pos) D σ H := by
  obtain ⟨fI, fd, ps, iC, tI, F1, hb⟩ := EC.ini
  refine rs_of (ps_raise c.calm tk (pmk_oex EC.oex iC tI F1 (c.room.mono hk) hb .nil pass0 (c.gl hg) EC.gC PA.self (c.d1 hg) he hpl)) ?_
  refine ra_cons (pe_mono q fun v H1 q1 => ra_nil ⟨by show 1 ≤ 1000; decide, fun a ha => ⟨a, C, v, rfl, EC.oex, EC.no, upd_same, fun d hd hda => ?_⟩⟩) he
  have hd1 : H1 d = none := by rwa [upd_ne hda] at hd
  refine ⟨rfl, d, [(fl, v)], upd_same, ?_, hd1, ?_⟩
  · rw [upd_ne hda, upd_same]
  · have e1 : upd (del (upd (upd (upd H1 a (exo a C none)) d (exd d [(fl, v)])) a (exo a C (some d))) a) d (.xd [(fl, v)]) = upd H1 d (.xd [(fl, v)]) := by
      funext b
      by_cases hb1 : b = d
      · subst hb1
        rw [upd_same, upd_same]
      · rw [upd_ne hb1, upd_ne hb1]
        by_cases hb2 : b = a
        · subst hb2
          rw [del_same, ha]
        · rw [del_ne hb2, upd_ne hb2, upd_ne hb1, upd_ne hb2]
    rw [e1]
    exact q1 d hd1
/-! ### within an except suite -/
structure CtxS (X : Cx) (N : List Str) (L : List (Str × KN)) : Prop where
  n : X.N = N
  nd : N.Nodup
  look : ∀ p ∈ L, KnIs X p.1 p.2
  dbg : ∀ p ∈ L, okName p.1 = true
theorem CtxS.gl (c : CtxS X N L) {x : Str} (h : (x, KN.glob) ∈ L) : Gl X x := c.look _ h
theorem re_nameS (c : CtxS X N L) {x : Str} {v : V} {j : KN} (s : Slot N σ x v) (h : (x, j) ∈ L) (m : Mine j) (q : Q v H) : RE X (.Name x pos) σ H Q := by
  obtain ⟨i, h1, h2⟩ := s.ix
  rw [← c.n] at h1
  obtain ⟨d1, d2, _⟩ := okName_of (c.dbg _ h)
  refine re_of (pe_var h1 ?_ d1 d2) ⟨_, h2, q⟩
  have e := c.look _ h
  cases m with
  | loc => exact Or.inl e
  | cell => exact Or.inr (Or.inl e.1)
  | cap => exact Or.inr e
theorem re_globS (c : CtxS X N L) {x : Str} {v : V} {u : Value} (h : (x, KN.glob) ∈ L) (hm : X.mg x = some u) (r : RelV v u) (q : Q v H) : RE X (.Name x pos) σ H Q := re_of (pe_glob (c.gl h) hm r (okName_of (c.dbg _ h)).1) q
theorem re_bltnS (c : CtxS X N L) {x : Str} {v : V} {u : Value} (h : (x, KN.glob) ∈ L) (hm : X.mg x = none) (hv : bootBuiltins x = some u) (r : RelV v u) (q : Q v H) : RE X (.Name x pos) σ H Q :=
  re_of (pe_bltn (c.gl h) hm hv r (okName_of (c.dbg _ h)).2.2 (okName_of (c.dbg _ h)).1) q
theorem rs_setS (c : CtxS X N L) {x : Str} {e : Expr} {pos' : Pos} (h : (x, KN.loc) ∈ L) (hx : x ∈ N) (q : RE X e σ H fun v H1 => ∃ σ', Put N σ x v σ' ∧ D.nx σ' H1) (hs : swapsWith e (some (.Name x pos')) pos.line X.env = pure false := by with_unfolding_all rfl) : RS X (.Assign [.Name x pos'] e pos) D σ H := by
  obtain ⟨i, h1⟩ := List.mem_iff_getElem?.mp hx
  have e1 := c.look _ h
  refine rs_of (ps_set (i := i) (by rw [c.n]; exact c.nd) (by rw [c.n]; exact h1) (Or.inl e1) PE.self hs (Or.inr e1)) (pe_mono q fun v H1 ⟨σ', hp, q1⟩ => ?_)
  obtain ⟨i', h2, h3⟩ := hp.ix
  have : i' = i := (List.getElem?_inj (by rcases Nat.lt_or_ge i' N.length with z | z; exact z; rw [List.getElem?_eq_none z] at h2; cases h2) c.nd).mp (h2.trans h1.symm)
  subst this
  subst h3
  exact q1
/-- what the class D says, so that isinstance asks its instances rightly -/
structure KitC (K : PySem.W.Frag) (D : Addr) : Prop where
  cl : (PySem.W.clsIn K D).isSome = true
  ga : PySem.W.findIn K (.ref D) "__getattribute__" = some (some (.builtin "BaseException.__getattribute__"))
  gg : PySem.W.findIn K (.ref D) "__getattr__" = some none
  sb : PySem.W.subIn K (.ref D) (.type "BaseException") = some true
  ca : PySem.W.findIn K (.ref D) "__class__" = some (some (.builtin "object.__class__"))
  gt : PySem.W.specialIn K (.builtin "object.__class__") "__get__" = some (some (.builtin "getset_descriptor.__get__"))
  tk : PySem.W.takesIn K (.builtin "object.__class__") = some true
  mo : PySem.W.mroIn K D (.type "object") = some true
/-- isinstance(e, c) and isinstance(e, (c, ..)), e the exception that the suite holds, with a dict -/
def rIsX (K : PySem.W.Frag) (D a dd : Addr) : List V → Hp → VK → Prop := fun xs H Q => ∃ (c : V) (b : Bool), xs = [.ref a, c] ∧ (∃ fs, H dd = some (.xd fs)) ∧ Q (.bl b) H ∧
  ((∃ u, ClsV c u ∧ PySem.W.kitOne K (.ref D) u = some b) ∨ ∃ (tp : Addr) (cs : List V) (us : List Value), c = .ref tp ∧ H tp = some (.tup cs) ∧ Paired ClsV cs us ∧ PySem.W.kitAny K (.ref D) us = some b)
theorem call_isX {a D dd : Addr} {oe : Obj} {pn : List (Addr × Obj)} (C : KitC X.K D) (hz : Zc (.ref D) (some dd) oe) (hf : ∃ vs, oe.data = .fields vs) : CallR (X.suite a ((a, oe) :: pn)) (.builtin "isinstance") (rIsX X.K D a dd) := by
  intro pins s σ H xs us Q I r h
  obtain ⟨c, b, rfl, ⟨fs, hd⟩, q, h⟩ := h
  cases r with
  | cons rx rr =>
    cases rr with
    | cons rt rr =>
      cases rr
      cases rx
      obtain ⟨hget, _⟩ := I.pin (a, oe) (List.mem_append.mpr (.inl List.mem_cons_self))
      obtain ⟨vs, hv⟩ := hf
      obtain ⟨mA, hns, hr⟩ := (show ObjOk X.prog X.w H s.heap dd (.xd fs) from I.hok dd _ hd)
      obtain ⟨od, ho, hl⟩ := lookIn_ns hns
      have J : PySem.W.InstAt s.heap a oe D (some od) := ⟨hget, hz.1, by unfold PySem.W.notCls; rw [hv] <;> rfl, by rw [hz.2]; exact ho⟩
      have Z := PySem.W.kitx_exc (x := a) (ox := oe) (od := some od) C.cl C.ga C.gg C.sb C.ca C.gt C.tk C.mo
      rcases h with ⟨u, k, e⟩ | ⟨tp, cs, ws, rfl, hT, k, e⟩
      · have e2 := k.eq rt
        subst e2
        exact PySem.W.kia_one Z I.kIn J e (fun z => nomatch z) fun tk => ⟨.bl b, H, I.kept (t' := tk) fun _ _ z => z, rfl, q⟩
      · cases rt
        obtain ⟨_, its, rv, o, h1, h2, n, h3⟩ := (show ObjOk X.prog X.w H s.heap tp (.tup cs) from I.hok tp _ hT)
        have e3 := ClsV.all k rv
        subst e3
        obtain ⟨oc, od', dt, sl⟩ := o
        simp only at h2 h3
        subst h2 h3
        exact PySem.W.kia_tup Z I.kIn J h1 e (fun z => nomatch z) fun tk => ⟨.bl b, H, I.kept (t' := tk) fun _ _ z => z, rfl, q⟩
theorem re_isX (c : CtxS X N L) {e : Expr} {es : List Expr} (h : (("isinstance" : Str), KN.glob) ∈ L) (hm : X.mg "isinstance" = none) (q : RA X (e :: es) σ H fun vs H1 => ClV X (.builtin "isinstance") vs H1 Q)
    (he : starEach (e :: es) X.env = (false, eval e X.env) :: starEach es X.env := by with_unfolding_all rfl) (hpl : (backTo pos (starEach es X.env)).any (·.1) = false := by with_unfolding_all rfl) : RE X (.Call (.Name "isinstance" p0) (e :: es) [] pos) σ H Q :=
  re_of (pe_callB ClR.self (c.gl h) hm (by decide +kernel) PA.self (okName_of (c.dbg _ h)).2.2 (okName_of (c.dbg _ h)).1 he hpl) q
theorem lv_isX {a D dd : Addr} {oe : Obj} {pn : List (Addr × Obj)} {fs : List (Str × V)} {y : V} {u : Value} {b : Bool} (C : KitC X.K D) (hz : Zc (.ref D) (some dd) oe) (hf : ∃ vs, oe.data = .fields vs) (hd : H dd = some (.xd fs)) (k : ClsV y u) (e : PySem.W.kitOne X.K (.ref D) u = some b) (q : Q (.bl b) H) :
    ClV (X.suite a ((a, oe) :: pn)) (.builtin "isinstance") [.ref a, y] H Q := ⟨⟨_, call_isX C hz hf, y, b, rfl, ⟨_, hd⟩, q, .inl ⟨u, k, e⟩⟩⟩
theorem lv_isXT {a D dd tp : Addr} {oe : Obj} {pn : List (Addr × Obj)} {fs : List (Str × V)} {cs : List V} {us : List Value} {b : Bool} (C : KitC X.K D) (hz : Zc (.ref D) (some dd) oe) (hf : ∃ vs, oe.data = .fields vs) (hd : H dd = some (.xd fs)) (hT : H tp = some (.tup cs)) (k : Paired ClsV cs us)
    (e : PySem.W.kitAny X.K (.ref D) us = some b) (q : Q (.bl b) H) : ClV (X.suite a ((a, oe) :: pn)) (.builtin "isinstance") [.ref a, .ref tp] H Q := ⟨⟨_, call_isX C hz hf, .ref tp, b, rfl, ⟨_, hd⟩, q, .inr ⟨tp, cs, us, rfl, hT, k, e⟩⟩⟩
/-- fault.f -/
theorem re_field {a C dd : Addr} {oe : Obj} {pn : List (Addr × Obj)} {e : Expr} {f : Str} {fs : List (Str × V)} {v : V} (T : XfC X.K C) (hno : PySem.W.findIn X.K (.ref C) f = some none) (hz : Zc (.ref C) (some dd) oe) (hf : ∃ vs, oe.data = .fields vs)
    (q : RE (X.suite a ((a, oe) :: pn)) e σ H fun x H1 => x = .ref a ∧ H1 dd = some (.xd fs) ∧ fs.lookup f = some v ∧ Q v H1) (hb : attributeBase e f X.env (eval e X.env) = eval e X.env := by with_unfolding_all rfl) :
    RE (X.suite a ((a, oe) :: pn)) (.Attribute e f pos) σ H Q := re_of (pe_xf T hno hz hf PE.self hb) (pe_mono q fun x H1 ⟨e1, h, l, q1⟩ => ⟨e1, rfl, dd, fs, v, rfl, h, l, q1⟩)
theorem Ctx.tr (c : Ctx X N L k) (pn : List (Addr × Obj)) (xe : Value → Shared → Prop) (po : PassesOwn (model X.prog X.w) X.A X.env xe) : Ctx (X.tr pn xe) N L k := ⟨c.n, c.nd, c.look, c.dbg, c.calm, c.room, po, c.kind⟩
theorem Ctx.suite (c : Ctx X N L k) (a : Addr) (pn : List (Addr × Obj)) : CtxS (X.suite a pn) N L := ⟨c.n, c.nd, c.look, c.dbg⟩
/-- try: body, except x as n: suite (that ends by return) -/
theorem rs_try_as (c : CtxS X N L) (hs : X.stack = X.env :: X.outer) (hf : X.env.frame = some X.env.locals) {x n : Str} {c0 : Value} {b₀ : Stmt} {body suite : List Stmt} {np pos' : Pos} (hn : (n, KN.loc) ∈ L) (mn : n ∈ N) (hc : Names X x c0)
    (q : ∀ (pn : List (Addr × Obj)) (xe : Value → Shared → Prop) (W : WX), Takes (X.tr pn xe) W → PassesOwn (model X.prog X.w) X.A X.env xe →
      (∀ (cls : Value) (d : Option Addr) (σ' : L2.St) (H' : Hp), PySem.W.exmOne X.K cls c0 = some true →
        (∀ (a : Addr) (oe : Obj) (pn2 : List (Addr × Obj)) (nx bk ct : L2.St → Hp → Prop) (σa : L2.St), H' a = none → (∀ i : Nat, N[i]? = some n → σa = σ'.set i (some (.ref a))) → σ'.length = N.length → Zc cls d oe → (∃ vs, oe.data = .fields vs) → CtxS (X.suite a ((a, oe) :: pn2)) N L →
          RB (X.suite a ((a, oe) :: pn2)) (b₀ :: suite) { nx := nx, rt := D.rt, bk := bk, ct := ct } σa H') → W cls d σ' H') →
      RB (X.tr pn xe) body D σ H) :
    RS X (.Try body [.ExceptHandler (some (.Name x np)) (some n) (b₀ :: suite) pos'] [] [] pos) D σ H := by
  obtain ⟨i, h1⟩ := List.mem_iff_getElem?.mp mn
  refine rs_of (ps_try_as (i := i) (c := c0) (Wout := fun _ _ _ _ => False) (tb := fun W D σ H => ∀ (pn : List (Addr × Obj)) (xe : Value → Shared → Prop), Takes (X.tr pn xe) W → PassesOwn (model X.prog X.w) X.A X.env xe → RB (X.tr pn xe) body D σ H)
    (ts := fun a cls d D σ H => ∀ (oe : Obj) (pn2 : List (Addr × Obj)), σ.length = N.length → Zc cls d oe → (∃ vs, oe.data = .fields vs) → RB (X.suite a ((a, oe) :: pn2)) (b₀ :: suite) D σ H)
    hs hf (by rw [c.n]; exact c.nd) (by rw [c.n]; exact h1) (c.look _ hn) hc takes0 (fun W pn xe tk po => ?_) (fun a oe cls d pn hz hd => ?_)) ?_
  · exact ⟨fun pins s σ H D I h => PSs.self.run pins s σ H D I (h pn xe tk po)⟩
  · exact ⟨fun pins s σ H D I h => PSs.self.run pins s σ H D I (h oe pn (by rw [I.len, ← c.n]) hz hd)⟩
  · intro pn xe tk po
    refine q pn xe _ tk po fun cls d σ' H' e r => ⟨true, e, fun _ a ha => ?_, fun z => nomatch z⟩
    exact fun oe pn2 hl hz hd => r a oe pn2 _ _ _ _ ha (fun j hj => by rw [nodup_ix c.nd hj h1]) (by simpa using hl) hz hd ⟨c.n, c.nd, c.look, c.dbg⟩
/-- x = y = e -/
theorem rs_set2 (c : Ctx X N L k) {x y : Str} {e : Expr} {j j' : KN} (h : (x, j) ∈ L) (m : Own j) (hx : x ∈ N) (h' : (y, j') ∈ L) (m' : Own j') (hy : y ∈ N) (q : RE X e σ H fun v H1 => ∃ σ' σ'', Put N σ x v σ' ∧ Put N σ' y v σ'' ∧ D.nx σ'' H1)
    (hs : swapsWithSole [.Name x p0, .Name y p1] e pos.line X.env = pure false := by with_unfolding_all rfl) (hw : swappedStores [.Name x p0, .Name y p1] e X.env = pure none := by with_unfolding_all rfl)
    (h1 : (assignEach [.Name x p0, .Name y p1] X.env).map (·.2) = [assign (.Name x p0) X.env, assign (.Name y p1) X.env] := by with_unfolding_all rfl) : RS X (.Assign [.Name x p0, .Name y p1] e pos) D σ H := by
  obtain ⟨i, g, h2⟩ := c.pg (p0 := p0) h m hx
  obtain ⟨i', g', h2'⟩ := c.pg (p0 := p1) h' m' hy
  refine rs_of (t := fun D σ H => RE X e σ H fun v H1 => ∃ σ' σ'', Put N σ x v σ' ∧ Put N σ' y v σ'' ∧ D.nx σ'' H1) ⟨fun pins s σ H D I h => ?_⟩ q
  refine wpAny_Assign_two (thn (PE.self.run pins s σ H _ I h) fun v s1 ⟨z, H1, I1, r1, σ', σ'', a1, a2, q1⟩ => ?_)
  rw [h2 a1] at a2
  rw [h2' a2] at q1
  exact thn (g.run pins s1 σ H1 z v (fun σ2 H2 => σ2 = σ.set i (some z) ∧ H2 = H1) I1 r1 ⟨rfl, rfl⟩) fun _ s2 ⟨σ2, H2, I2, e1, e2⟩ => by
    subst e1 e2
    exact thn (g'.run pins s2 _ _ z v (fun σ2 H2 => D.nx σ2 H2) I2 r1 q1) fun _ s3 q => q
end
end GT
namespace GT
open PySem PySem.Spec PyProof.Rows L2
section
variable {X : Cx} {σ : L2.St} {H : Hp} {N : List Str} {L Lc : List (Str × KN)} {k : Nat} {pos p0 p1 p2 p3 : Pos} {Q : VK} {D : Ends} {x y : V} {p : Addr} {xs : List V} {b : Bool}
/-- for x, y in l, l a list of pairs -/
theorem rs_for_list2 (c : Ctx X N L k) {x y : Str} {l : Expr} {body : List Stmt} {j j' : KN} {kt : Nat} {q0 q1 q2 : Pos} (h : (x, j) ∈ L) (m : Own j) (hx : x ∈ N) (h' : (y, j') ∈ L) (m' : Own j') (hy : y ∈ N)
    (q : RE X l σ H fun v H1 => ∃ a xs, v = .ref a ∧ SqL X.K H1 a xs ∧ ∃ Pv : Nat → L2.St → Hp → Prop, Pv 0 σ H1 ∧ (∀ i σ H, Pv i σ H → SqL X.K H a xs) ∧
      (∀ i w σ H, xs[i]? = some w → Pv i σ H → ∃ t u v, w = .ref t ∧ SqT X.K H t [u, v] ∧ ∃ σ' σ'', Put N σ x u σ' ∧ Put N σ' y v σ'' ∧ RB X body { D with nx := Pv (i + 1), ct := Pv (i + 1), bk := D.nx } σ'' H) ∧ (∀ σ H, Pv xs.length σ H → D.nx σ H))
    (hs : ∀ x, foldedSetIterable l X.env x = pure x := by intro _; with_unfolding_all rfl)
    (hn : (assignEach [.Name x q0, .Name y q1] X.env).length = 2 := by with_unfolding_all rfl) (hst : (assignEach [.Name x q0, .Name y q1] X.env).findIdx? (·.1) = none := by with_unfolding_all rfl)
    (ha : (assignEach [.Name x q0, .Name y q1] X.env).map (·.2) = assign (.Name x q0) X.env :: (assignEach [.Name y q1] X.env).map (·.2) := by with_unfolding_all rfl) (hb : (assignEach [.Name y q1] X.env).map (·.2) = assign (.Name y q1) X.env :: (assignEach [] X.env).map (·.2) := by with_unfolding_all rfl) :
    RS X (.For (.Tuple [.Name x q0, .Name y q1] kt q2) l body [] pos) D σ H := by
  obtain ⟨i, g, h2⟩ := c.pg (p0 := q0) h m hx
  obtain ⟨i', g', h2'⟩ := c.pg (p0 := q1) h' m' hy
  refine rs_of (ps_for c.po c.calm (pi_list PE.self) (pg_tup (n := 2) c.calm (pgs_cons g (pgs_cons g' pgs_nil hb) ha) hn hst) PSs.self hs) (pe_mono q fun v H1 ⟨a, xs, e, hq, Pv, p1, p2, p3, p4⟩ => ⟨a, e, ⟨xs, hq⟩, ?_⟩)
  refine for_list (K := X.K) (a := a) (xs := xs) Pv p1 (fun i σ H _ p => p2 i σ H p) (fun i w σ H e p => ?_) p4
  obtain ⟨t, u, v, rfl, hT, σ', σ'', a1, a2, r⟩ := p3 i w σ H e p
  rw [h2' a2, h2 a1] at r
  exact ⟨t, _, rfl, hT, rfl, _, _, rfl, _, _, rfl, rfl, r⟩
/-- x is True, x is False; x no reference -/
theorem op_isB : OpR X (compareOp .Is) (fun x y H Q => ∃ b, y = .bl b ∧ (x = .non ∨ (∃ c, x = .bl c) ∨ (∃ i, x = .int i) ∨ (∃ z, x = .str z)) ∧ Q (.bl (decide (x = .bl b))) H) := by
  intro pins s σ H x y v u Q I rx ry h
  obtain ⟨b, rfl, hx, q⟩ := h
  cases ry
  have g : ∀ r, r = decide (x = .bl b) → (L2.EP X pins σ Q (.bool r) s) := fun r e => fin_bl I q e.symm
  rcases hx with rfl | ⟨c, rfl⟩ | ⟨i, rfl⟩ | ⟨z, rfl⟩
  · cases rx
    exact wpAny_pure (g _ rfl)
  · cases rx
    refine wpAny_pure (g _ ?_)
    cases b <;> cases c <;> rfl
  · obtain ⟨t, rfl⟩ := rx
    exact wpAny_pure (g _ rfl)
  · obtain ⟨t, rfl⟩ := rx
    exact wpAny_pure (g _ rfl)
theorem cv_isB_b {c : Bool} (q : Q (.bl (decide (c = b))) H) : CpV X .Is (.bl c) (.bl b) H Q := ⟨⟨_, op_isB, b, rfl, .inr (.inl ⟨c, rfl⟩), by
  have e : decide (V.bl c = V.bl b) = decide (c = b) := by simp
  rw [e]
  exact q⟩⟩
theorem cv_isB_i {i : Int} (q : Q (.bl false) H) : CpV X .Is (.int i) (.bl b) H Q := ⟨⟨_, op_isB, b, rfl, .inr (.inr (.inl ⟨i, rfl⟩)), by rw [decide_eq_false (fun e => nomatch e)]; exact q⟩⟩
theorem cv_isB_s {z : Str} (q : Q (.bl false) H) : CpV X .Is (.str z) (.bl b) H Q := ⟨⟨_, op_isB, b, rfl, .inr (.inr (.inr ⟨z, rfl⟩)), by rw [decide_eq_false (fun e => nomatch e)]; exact q⟩⟩
theorem cv_isB_n (q : Q (.bl false) H) : CpV X .Is .non (.bl b) H Q := ⟨⟨_, op_isB, b, rfl, .inl rfl, by rw [decide_eq_false (fun e => nomatch e)]; exact q⟩⟩
/-- isinstance(x, T), T a built-in type -/
theorem lv_isT {t T : String} (ty : TyX X.K H x (.type t)) (e : kitB t T = some b) (q : Q (.bl b) H) : ClV X (.builtin "isinstance") [x, .ty T] H Q := lv_isi (.ty T) ty (kit_ty e) q
theorem lv_isT_n {T : String} (e : kitB "NoneType" T = some b) (q : Q (.bl b) H) : ClV X (.builtin "isinstance") [.non, .ty T] H Q := lv_isT (.base .non) e q
theorem lv_isT_b {T : String} {c : Bool} (e : kitB "bool" T = some b) (q : Q (.bl b) H) : ClV X (.builtin "isinstance") [.bl c, .ty T] H Q := lv_isT (.base (.bl c)) e q
theorem lv_isT_i {T : String} {i : Int} (e : kitB "int" T = some b) (q : Q (.bl b) H) : ClV X (.builtin "isinstance") [.int i, .ty T] H Q := lv_isT (.base (.int i)) e q
theorem lv_isT_s {T : String} {z : Str} (e : kitB "str" T = some b) (q : Q (.bl b) H) : ClV X (.builtin "isinstance") [.str z, .ty T] H Q := lv_isT (.base (.str z)) e q
theorem lv_isT_l {T : String} (h : H p = some (.lst xs)) (e : kitB "list" T = some b) (q : Q (.bl b) H) : ClV X (.builtin "isinstance") [.ref p, .ty T] H Q := lv_isT (.base (.lst h)) e q
theorem lv_isT_t {T : String} (h : H p = some (.tup xs)) (e : kitB "tuple" T = some b) (q : Q (.bl b) H) : ClV X (.builtin "isinstance") [.ref p, .ty T] H Q := lv_isT (.base (.tup h)) e q
theorem iteNT {A B : Prop} (h : B) : if (!true) = true then A else B := h
theorem iteNF {A B : Prop} (h : A) : if (!false) = true then A else B := h
theorem iteD {p : Prop} [Decidable p] {A B : Prop} (hp : p) (h : A) : if decide p = true then A else B := by
  rw [decide_eq_true hp]
  exact h
theorem iteDN {p : Prop} [Decidable p] {A B : Prop} (hp : ¬ p) (h : B) : if decide p = true then A else B := by
  rw [decide_eq_false hp]
  exact h
/-! ### a def that may raise, called where it doesn't -/
theorem re_callX (c : Ctx X N L k) {x : Str} {ps : List Str} {n : Nat} {sp : Sp} {e : Expr} {es : List Expr} (F : DefP X.prog X.w X.K X.mg X.base (L2.CX X.prog X.w) x ps n sp) (hn : n ≤ k) (h : (x, KN.glob) ∈ L) {E : XK} (hx : Passes (L2.CX X.prog X.w) X E) (q : RA X (e :: es) σ H fun vs H1 => sp vs H1 Q E)
    (he : starEach (e :: es) X.env = (false, eval e X.env) :: starEach es X.env := by with_unfolding_all rfl) (hpl : (backTo pos (starEach es X.env)).any (·.1) = false := by with_unfolding_all rfl) : RE X (.Call (.Name x p0) (e :: es) [] pos) σ H Q := by
  obtain ⟨f, fd, F1, m, kp, b⟩ := F.ex
  refine re_of (pe_call F1 (c.room.mono hn) (c.gl h) m kp b .nil hx PA.self (c.d1 h) he hpl) ?_
  exact ra_mono q fun vs H1 d => by rw [List.append_nil]; exact d
end
section
variable {P : Program} {w : World} {K : PySem.W.Frag} {mg : Str → Option Value} {base : Heap} {x : Str} {st : Stmt} {N ps : List Str} {L : List (Str × KN)} {k : Nat} {sp : Sp} {f : Addr} {fd : FuncData}
/-- a def that may raise keeps its promise -/
theorem defPX_of (F : FnP K x st f fd) (gx : mg x = some (.ref f)) (M : Nms st N ps L) (hb : Binds K fd ps []) (len : ∀ vs H Q E, sp vs H Q E → vs.length = ps.length)
    (body : ∀ (X : Cx), Ctx X N L k → At5 X P w K mg base → ∀ (vs : List V) (H : Hp) (Q : VK) (E : XK), Takes X (fun cls d _ H' => E cls d H') → sp vs H Q E → RB X (defBody st) { nx := fun _ H' => Q .non H', rt := Q } (start N vs) H) : DefP P w K mg base (L2.CX P w) x ps (k + 1) sp := by
  refine ⟨f, fd, F.ok M.S len (fun cdv A outer s H vs Q E hr h => ?_), gx, F.kp, hb⟩
  have c : Ctx (cxOf (L2.CX P w) P w K mg base N x (defScope st) f cdv A outer s H E) N L k := ⟨rfl, M.S.nd, knIs_of M rfl (fun _ => rfl), M.db, rfl, hr, passes_of rfl, M.S.kind⟩
  exact (body _ c ⟨rfl, rfl, rfl, rfl, rfl⟩ vs H Q E (takes_of rfl rfl rfl rfl) h).ex
end
/-- the depth of data -/
inductive Dep : Nat → D → Prop
  | non {n : Nat} : Dep n .non
  | bl {n : Nat} {b : Bool} : Dep n (.bl b)
  | int {n : Nat} {i : Int} : Dep n (.int i)
  | str {n : Nat} {z : Str} : Dep n (.str z)
  | lst {n : Nat} {l : List D} (h : ∀ d ∈ l, Dep n d) : Dep (n + 1) (.lst l)
  | tup {n : Nat} {l : List D} (h : ∀ d ∈ l, Dep n d) : Dep (n + 1) (.tup l)
end GT
namespace GT
open PySem PySem.Spec PyProof.Rows L2
/-! ### frames that let the code tables grow -/
def Fx (B : Addr → Prop) (H H' : Hp) : Prop := ∀ a o, ¬ B a → (∀ ps, o ≠ .tbl ps) → H a = some o → H' a = some o
section
variable {B : Addr → Prop} {K : PySem.W.Frag} {H H1 H2 : Hp} {a p : Addr} {o : HO} {xs : List V}
theorem Fr.fx (f : Fr B H H1) : Fx B H H1 := fun a o n _ e => f a o n e
theorem Fx.ext (f : LamX.ExtN H H1) : Fx NoB H H1 := fun a o _ n e => f a o e n
theorem Fx.refl : Fx B H H := fun _ _ _ _ h => h
theorem Fx.trans (h : Fx B H H1) (g : Fx B H1 H2) : Fx B H H2 := fun a o n t e => g a o n t (h a o n t e)
theorem Fx.any (h : Fx NoB H H1) : Fx B H H1 := fun a o _ t e => h a o (fun z => z) t e
theorem Fx.lst (f : Fx B H H1) (n : ¬ B a) (h : H a = some (.lst xs)) : H1 a = some (.lst xs) := f _ _ n (fun _ z => by cases z) h
theorem Fx.tup (f : Fx B H H1) (n : ¬ B a) (h : H a = some (.tup xs)) : H1 a = some (.tup xs) := f _ _ n (fun _ z => by cases z) h
theorem Fx.xd {fs : List (Str × V)} (f : Fx B H H1) (n : ¬ B a) (h : H a = some (.xd fs)) : H1 a = some (.xd fs) := f _ _ n (fun _ z => by cases z) h
theorem Fx.seqL (f : Fx B H H1) (n : ¬ B a) (h : SqL K H a xs) : SqL K H1 a xs := by
  rcases h with (h | ⟨o, h⟩) | h
  · exact .inl (.inl (f _ _ n (fun _ z => by cases z) h))
  · exact .inl (.inr ⟨o, f _ _ n (fun _ z => by cases z) h⟩)
  · exact .inr h
theorem Fx.dt {v : V} {d : D} (f : Fx B H H1) (h : Dt K B H v d) : Dt K B H1 v d := by
  induction h with
  | non => exact .non
  | bl => exact .bl
  | int => exact .int
  | str => exact .str
  | lst n t l _ ih => exact .lst n (f.lst n t) l ih
  | tup n t l _ ih => exact .tup n (f.tup n t) l ih
theorem Fx.dts {vs : List V} {ds : List D} (f : Fx B H H1) (h : Dts K B H vs ds) : Dts K B H1 vs ds := ⟨h.1, fun i v d a b => f.dt (h.2 i v d a b)⟩
theorem Fx.box {b : Addr} (f : Fx NoB H H1) (h : BoxAt H b) : BoxAt H1 b := by
  obtain ⟨g, r, h1, h2⟩ := h
  exact ⟨g, r, f.lst (fun z => z) h1, h2⟩
theorem Fx.put (f : Fx B H H1) (h : H p = none) : Fx B H (upd H1 p o) := fun a u n t e => by
  rw [upd_ne (ne_of_none e h)]
  exact f a u n t e
theorem tabs_fr {T : List (Addr × Str)} (t : LamX.Tabs T H) (f : Fr NoB H H1) : LamX.Tabs T H1 := t.ext fun b o e => f b o (fun z => z) e
end
/-! ### a def of whose code one knows where it stands -/
structure FnC (K : PySem.W.Frag) (x : Str) (st : Stmt) (f cc : Addr) (fd : FuncData) : Prop where
  ex : ∃ (oc : Value) (od : Option Addr) (dV kV doc pm : Value) (an : Option Addr) (ct : Value) (osl : Array (Option Value)),
    fd = PySem.W.fnOf x x (defArgs st) (defBody st) (defScope st) dV kV doc pm an (.ref cc) ct ∧ K.lookup f = some ⟨oc, od, .func fd, osl⟩ ∧ PySem.W.codeIn K (.ref cc) x = true
  kp : PySem.W.keepIn K (.ref f) = true
section
variable {P : Program} {w : World} {K : PySem.W.Frag} {mg : Str → Option Value} {base : Heap} {x : Str} {st : Stmt} {N ps : List Str} {L : List (Str × KN)} {k : Nat} {sp : Sp} {f cc : Addr} {fd : FuncData}
theorem defPC_of (F : FnC K x st f cc fd) (gx : mg x = some (.ref f)) (M : Nms st N ps L) (hb : Binds K fd ps []) (len : ∀ vs H Q E, sp vs H Q E → vs.length = ps.length)
    (body : ∀ (X : Cx), Ctx X N L k → At5 X P w K mg base → X.env.code = .ref cc → X.env.qual = x ++ ".<locals>." → ∀ (vs : List V) (H : Hp) (Q : VK) (E : XK), sp vs H Q E → RB X (defBody st) { nx := fun _ H' => Q .non H', rt := Q } (start N vs) H) : DefP P w K mg base CX0 x ps (k + 1) sp := by
  obtain ⟨oc, od, dV, kV, doc, pm, an, ct, osl, rfl, lk, hcd⟩ := F.ex
  refine ⟨f, _, fn_of lk hcd M.S len (fun A outer s H vs Q E hr h => ?_), gx, F.kp, hb⟩
  have c : Ctx (cxOf CX0 P w K mg base N x (defScope st) f (.ref cc) A outer s H E).nox N L k := ⟨rfl, M.S.nd, knIs_of M rfl (fun _ => rfl), M.db, rfl, hr, PassesOwn.never, M.S.kind⟩
  obtain ⟨t, ht, q⟩ := (body _ c ⟨rfl, rfl, rfl, rfl, rfl⟩ rfl rfl vs H Q E h).ex
  exact ⟨t, ht.nox, q⟩
end
/-! ### a lambda handed to a def -/
/-- the lambda's own scope within a def of the names L; Ll its names -/
def lamOk (L : List (Str × KN)) (scope : Scope) (Ll : List (Str × KN)) : Bool :=
  decide (scope.kind = .function) && !scope.isCoroutine && !scope.isGenerator && (scope.names.all fun y => !decide (y.2 = .local) && !decide (y.2 = .cell) && (!decide (y.2 = .free) || (decide ((y.1, KN.cell) ∈ L) || decide ((y.1, KN.cap) ∈ L)))) &&
    (Ll.all fun p => decide (p ∈ knAll scope.names)) && decide (scope.names.map (·.1)).Nodup && (Ll.all fun p => okName p.1) && (Ll.all fun p => decide (p.2 = .cap) || decide (p.2 = .glob))
section
variable {X : Cx} {σ : L2.St} {H : Hp} {N : List Str} {L Ll : List (Str × KN)} {k : Nat} {pos p0 p1 : Pos} {Q : VK} {scope : Scope}
def LamR (X : Cx) (scope : Scope) (body : Expr) (kl : Nat) (σ : L2.St) : XK → Hp → VK → Prop := fun E H Q => ∀ (A : Around) (outer : List Env) (s : Shared) (H0 : Hp) (f c' : Addr), Room kl (A.deeper (LamX.lamEnv X scope s.heap.objs.size f c')) → RE (LamX.lamCx X A outer s H0 E scope f c') body σ H Q
theorem lamOk_of (c : Ctx X N L k) (h : lamOk L scope Ll = true) : LamX.LamS X.env.scope scope ∧ (∀ p ∈ Ll, p ∈ knAll scope.names) ∧ (scope.names.map (·.1)).Nodup ∧ (∀ p ∈ Ll, okName p.1 = true) ∧ ∀ p ∈ Ll, p.2 = .cap ∨ p.2 = .glob := by
  unfold lamOk at h
  simp only [Bool.and_eq_true, Bool.or_eq_true, Bool.not_eq_true', decide_eq_true_eq, decide_eq_false_iff_not, List.all_eq_true] at h
  obtain ⟨⟨⟨⟨⟨⟨⟨h1, h2⟩, h3⟩, h4⟩, h5⟩, h6⟩, h7⟩, h8⟩ := h
  refine ⟨⟨h1, h2, h3, fun y hy => ⟨(h4 y hy).1.1, (h4 y hy).1.2⟩, fun y hy e => ?_⟩, h5, h6, h7, h8⟩
  rcases (h4 y hy).2 with z | z | z
  · exact absurd e z
  · exact .inl (c.look _ z).1
  · exact c.look _ z
theorem LamR.intro (c : Ctx X N L k) (h : lamOk L scope Ll = true) {body : Expr} {kl : Nat} {E : XK} (q : ∀ Xl : Cx, Ctx Xl N Ll kl → At5 Xl X.prog X.w X.K X.mg X.base → Takes Xl (fun cls d _ H' => E cls d H') → RE Xl body σ H Q) : LamR X scope body kl σ E H Q := by
  obtain ⟨S, h5, h6, h7, h8⟩ := lamOk_of c h
  intro A outer s H0 f c' hr
  refine q _ ⟨c.n, c.nd, fun p hp => ?_, h7, rfl, hr, passes_of rfl, S.kind⟩ ⟨rfl, rfl, rfl, rfl, rfl⟩ (takes_of rfl rfl rfl rfl)
  obtain ⟨y, m⟩ := p
  obtain ⟨j, h1, h2⟩ := knAll_mem (h5 _ hp)
  have e1 : (LamX.lamCx X A outer s H0 E scope f c').env.scope.names.lookup y = some j := lookup_mem h6 h1
  cases j <;> simp only [knOf] at h2 <;> cases h2
  · exact absurd rfl (S.own _ h1).1
  · exact absurd rfl (S.own _ h1).2
  · exact .inr e1
  · exact e1
theorem re_lamcall (c : Ctx X N L k) {T : List (Addr × Str)} {TT : (XK → Hp → VK → Prop) → Hp → VK → Prop} {x a : Str} {sth : Stmt} {g cc P : Addr} {fdh : FuncData} {Ng : List Str} {params : Arguments} {body : Expr} {kl : Nat} (Ll : List (Str × KN)) (hok : lamOk L scope Ll = true)
    (FH : FnP X.K x sth g fdh) (gx : X.mg x = some (.ref g)) (bH : Binds X.K fdh [a] []) (Sg : FnScope Ng [a] (defScope sth)) (hNg : Ng[0]? = some a) (hva : Vis (defScope sth) a) (ha : okName a = true) (hG : ∀ cdg, LamX.GivesTo X Ng x (defScope sth) g cdg (defBody sth) a (X.env.qual ++ "<lambda>") TT)
    (TB : LamX.TabB X.base X.mg cc P) (hcode : X.env.code = .ref cc) (hmT : (P, X.env.qual ++ "<lambda>") ∈ T) (hu : ∀ p ∈ T, p.1 = P → p.2 = X.env.qual ++ "<lambda>") (hk : kl + 2 ≤ k) (hgl : (x, KN.glob) ∈ L)
    (q : LamX.Tabs T H ∧ ∀ H1, LamX.ExtN H H1 → LamX.Tabs T H1 → TT (LamR X scope body kl σ) H1 Q)
    (hdef : defaultsOf params X.env = ([], []) := by with_unfolding_all rfl) (hbind : ∀ (q : Str) (cl : List (Str × Addr)) (pm cv ctv : Value), bindArgs (PySem.W.kla_fn "<lambda>" q params body scope cl pm cv ctv) ⟨[], []⟩ = pure [] := by intros; with_unfolding_all rfl) :
    RE X (.Call (.Name x p0) [.Lambda params body scope p1] [] pos) σ H Q := by
  obtain ⟨oc, od, dV, kV, doc, pm, an, cdv, ct, osl, rfl, lk, hcd, _, _⟩ := FH.ex
  obtain ⟨d1, d2, d3⟩ := okName_of ha
  refine re_of (LamX.pe_lamcall (t := fun E σ H Q => LamR X scope body kl σ E H Q) (c.gl hgl) gx FH.kp lk hcd bH Sg hNg hva (hG cdv) TB hcode hmT hu (c.room.mono hk) (lamOk_of c hok).1 hdef hbind (fun A outer s H E f c' hr => ?_) (c.d1 hgl) d1 d2) q
  exact ⟨fun pins s' σ H' Q' I h => PE.self.run pins s' σ H' Q' I (h A outer s H f c' hr)⟩
/-- a pair of constants is stored as one folded tuple -/
theorem swapped_folded {x y : Expr} {a b : Expr} {kt k2 : Nat} {q1 q2 : Pos} {env : Env} (h : [a, b].all (foldedForSure 8) = true) : swappedStores [.Tuple [x, y] kt q1] (.Tuple [a, b] k2 q2) env = pure none := by
  unfold swappedStores
  dsimp only
  rw [h]
  repeat' first
    | rfl
    | (rename_i hh _; exact absurd rfl hh)
    | split
/-- x, y = e, e a pair -/
theorem rs_tup2 (c : Ctx X N L k) {x y : Str} {e : Expr} {j j' : KN} {kt : Nat} {q0 q1 q2 : Pos} (h : (x, j) ∈ L) (m : Own j) (hx : x ∈ N) (h' : (y, j') ∈ L) (m' : Own j') (hy : y ∈ N) {D : Ends}
    (q : RE X e σ H fun w H1 => ∃ t u v, w = .ref t ∧ SqT X.K H1 t [u, v] ∧ ∃ σ' σ'', Put N σ x u σ' ∧ Put N σ' y v σ'' ∧ D.nx σ'' H1)
    (hw : swappedStores [.Tuple [.Name x q0, .Name y q1] kt q2] e X.env = pure none) (hs : swapsWithSole [.Tuple [.Name x q0, .Name y q1] kt q2] e pos.line X.env = pure false := by with_unfolding_all rfl)
    (h1 : (assignEach [.Tuple [.Name x q0, .Name y q1] kt q2] X.env).map (·.2) = [assign (.Tuple [.Name x q0, .Name y q1] kt q2) X.env] := by with_unfolding_all rfl)
    (hn : (assignEach [.Name x q0, .Name y q1] X.env).length = 2 := by with_unfolding_all rfl) (hst : (assignEach [.Name x q0, .Name y q1] X.env).findIdx? (·.1) = none := by with_unfolding_all rfl)
    (ha : (assignEach [.Name x q0, .Name y q1] X.env).map (·.2) = assign (.Name x q0) X.env :: (assignEach [.Name y q1] X.env).map (·.2) := by with_unfolding_all rfl) (hb : (assignEach [.Name y q1] X.env).map (·.2) = assign (.Name y q1) X.env :: (assignEach [] X.env).map (·.2) := by with_unfolding_all rfl) :
    RS X (.Assign [.Tuple [.Name x q0, .Name y q1] kt q2] e pos) D σ H := by
  obtain ⟨i, g, h2⟩ := c.pg (p0 := q0) h m hx
  obtain ⟨i', g', h2'⟩ := c.pg (p0 := q1) h' m' hy
  refine rs_of (ps_asg PE.self (pg_tup (n := 2) c.calm (pgs_cons g (pgs_cons g' pgs_nil hb) ha) hn hst) hs hw h1) (pe_mono q fun w H1 ⟨t, u, v, e1, hT, σ', σ'', a1, a2, r⟩ => ?_)
  subst e1
  rw [h2' a2, h2 a1] at r
  exact ⟨t, _, rfl, hT, rfl, _, _, rfl, _, _, rfl, rfl, r⟩
/-- x, y = a, b: not all of it constants -/
theorem swapped_two {x y : Str} {a b : Expr} {px py q1 q2 : Pos} {kt k2 : Nat} {env : Env} (hb : env.blockKind = .function) (hx : env.kindOf x = some .local) (hy : env.kindOf y = some .local) (hl : (px.line == py.line) = true) (hd : ([x, y] : List Str).eraseDups = [x, y])
    (ha : ∀ v p, a ≠ .Starred v p) (hb2 : ∀ v p, b ≠ .Starred v p) (h1 : [a, b].all (foldedForSure 8) = false) (h2 : [a, b].all (constantsAlone 8) = false) :
    swappedStores [.Tuple [.Name x px, .Name y py] kt q1] (.Tuple [a, b] k2 q2) env = pure (some [x, y]) := by
  have hl' : px.line = py.line := by simpa using hl
  unfold swappedStores
  dsimp only
  rw [h1, h2]
  simp only [Bool.false_eq_true, if_false]
  rw [if_neg (by simp [hb])]
  have hstar : ∀ (f : Expr → Bool), (∀ e, (∀ v p, e ≠ .Starred v p) → f e = false) → [a, b].any f = false := fun f hf => by
    simp [hf a ha, hf b hb2]
  rw [hstar _ (fun e he => by
    split
    · exact absurd rfl (he _ _)
    · rfl)]
  simp [hx, hy, hl', hd, Expr.pos]
theorem Ctx.bk (c : Ctx X N L k) : X.env.blockKind = .function := by
  unfold Env.blockKind
  rw [c.kind]
  rfl
theorem rs_par2 (c : Ctx X N L k) {x y : Str} {a b : Expr} {px py pt : Pos} {kt k2 : Nat} {pt2 : Pos} {D : Ends} (hx : (x, KN.loc) ∈ L) (hy : (y, KN.loc) ∈ L) (mx : x ∈ N) (my : y ∈ N) (hxy : x ≠ y)
    (q : RA X [a, b] σ H fun vs H1 => ∃ v w σ' σ'', vs = [v, w] ∧ Put N σ x v σ' ∧ Put N σ' y w σ'' ∧ D.nx σ'' H1)
    (hl : (px.line == py.line) = true := by decide +kernel) (hd : ([x, y] : List Str).eraseDups = [x, y] := by decide +kernel) (ha : ∀ v p, a ≠ .Starred v p := by intros; nofun) (hb2 : ∀ v p, b ≠ .Starred v p := by intros; nofun)
    (h1 : [a, b].all (foldedForSure 8) = false := by decide +kernel) (h2 : [a, b].all (constantsAlone 8) = false := by decide +kernel)
    (hs : swapsWithSole [.Tuple [.Name x px, .Name y py] kt pt] (.Tuple [a, b] k2 pt2) pos.line X.env = pure false := by with_unfolding_all rfl) :
    RS X (.Assign [.Tuple [.Name x px, .Name y py] kt pt] (.Tuple [a, b] k2 pt2) pos) D σ H :=
  rs_par c hx hy mx my hxy q (swapped_two c.bk (c.lcl hx) (c.lcl hy) hl hd ha hb2 h1 h2) hs
end
end GT
namespace GT
open PySem PySem.Spec PyProof.Rows L2
/-! ### Bools of the head that tell an own exception class -/
def oexB (K : PySem.W.Frag) (C : Addr) : Bool := match K.lookup C with
  | some ⟨.type "type", _, .cls cd, sl⟩ => (match cd.mro, sl.toList with
    | .ref C' :: bm, [_, _, _, _, some (.builtin n), _] => C' == C && n == "ValueError.__new__" && !cd.hasDel && cd.hasDict && PySem.HandSPX.refsVE bm
    | _, _ => false)
  | _ => false
theorem oexB_ok {K : PySem.W.Frag} {C : Addr} (q : oexB K C = true) : ∃ nm q N bs bm sn sub ab col dd k0 k1 k2 k3 k5, K.lookup C = some (excClassObj nm q C N bs bm true sn sub ab col dd k0 k1 k2 k3 k5 "ValueError.__new__") ∧ PySem.HandSPX.refsVE bm = true := by
  unfold oexB at q
  split at q
  · rename_i dd cd sl ho
    split at q
    · rename_i C' bm k0 k1 k2 k3 n k5 hm hs
      simp only [Bool.and_eq_true, beq_iff_eq, Bool.not_eq_true'] at q
      obtain ⟨⟨⟨⟨rfl, rfl⟩, hdel⟩, hdict⟩, ht⟩ := q
      obtain ⟨nm, bs, mro, ns, qn, hd, sn, sub, ab, col, del⟩ := cd
      dsimp only at hm hdel hdict
      subst hm hdel hdict
      have hsl : sl = #[k0, k1, k2, k3, some (.builtin "ValueError.__new__"), k5] := by
        obtain ⟨l⟩ := sl
        simp only at hs
        rw [hs]
      subst hsl
      exact ⟨nm, qn, ns, bs, bm, sn, sub, ab, col, dd, k0, k1, k2, k3, k5, ho, ht⟩
    · cases q
  · cases q
def kitCB (K : PySem.W.Frag) (D : Addr) : Bool := (PySem.W.clsIn K D).isSome && (He.eqO (PySem.W.findIn K (.ref D) "__getattribute__") (some (some (.builtin "BaseException.__getattribute__"))) && (He.eqO (PySem.W.findIn K (.ref D) "__getattr__") (some none) && (decide (PySem.W.subIn K (.ref D) (.type "BaseException") = some true) &&
  (He.eqO (PySem.W.findIn K (.ref D) "__class__") (some (some (.builtin "object.__class__"))) && (He.eqO (PySem.W.specialIn K (.builtin "object.__class__") "__get__") (some (some (.builtin "getset_descriptor.__get__"))) && (decide (PySem.W.takesIn K (.builtin "object.__class__") = some true) && decide (PySem.W.mroIn K D (.type "object") = some true)))))))
theorem kitCB_ok {K : PySem.W.Frag} {D : Addr} (h : kitCB K D = true) : KitC K D := by
  obtain ⟨h1, h⟩ := He.ba h
  obtain ⟨h2, h⟩ := He.ba h
  obtain ⟨h3, h⟩ := He.ba h
  obtain ⟨h4, h⟩ := He.ba h
  obtain ⟨h5, h⟩ := He.ba h
  obtain ⟨h6, h⟩ := He.ba h
  obtain ⟨h7, h8⟩ := He.ba h
  exact ⟨h1, He.eqO_ok h2, He.eqO_ok h3, of_decide_eq_true h4, He.eqO_ok h5, He.eqO_ok h6, of_decide_eq_true h7, of_decide_eq_true h8⟩
/-- the class nm, its field fl -/
def errB (K : PySem.W.Frag) (nm fl : Str) : Bool := oexB K (He.ga K nm) && (He.eqO (PySem.W.findIn K (.ref (He.ga K nm)) "__setattr__") (some (some (.builtin "object.__setattr__"))) && (decide (PySem.W.subIn K (.ref (He.ga K nm)) (.type "BaseException") = some true) && (decide (PySem.W.typeIn K (.ref (He.ga K nm)) = some (.type "type")) &&
  (PySem.W.keepIn K (.ref (He.ga K nm)) && (He.eqO (PySem.W.findIn K (.ref (He.ga K nm)) "__init__") (some (some (.ref (He.ma K (He.ga K nm) "__init__")))) && (decide (PySem.W.typeIn K (.ref (He.ma K (He.ga K nm) "__init__")) = some (.type "function")) && (He.eqO (PySem.W.findIn K (.ref (He.ga K nm)) fl) (some none) && xfB K (He.ga K nm))))))))
structure ErrK (K : PySem.W.Frag) (C fI : Addr) (fl : Str) : Prop where
  oex : OexC K C
  iC : PySem.W.findIn K (.ref C) "__init__" = some (some (.ref fI))
  tI : PySem.W.typeIn K (.ref fI) = some (.type "function")
  no : PySem.W.findIn K (.ref C) fl = some none
  xf : XfC K C
theorem errB_ok {K : PySem.W.Frag} {nm fl : Str} (h : errB K nm fl = true) : ErrK K (He.ga K nm) (He.ma K (He.ga K nm) "__init__") fl := by
  obtain ⟨h1, h⟩ := He.ba h
  obtain ⟨h2, h⟩ := He.ba h
  obtain ⟨h3, h⟩ := He.ba h
  obtain ⟨h4, h⟩ := He.ba h
  obtain ⟨h5, h⟩ := He.ba h
  obtain ⟨h6, h⟩ := He.ba h
  obtain ⟨h7, h⟩ := He.ba h
  obtain ⟨h8, h9⟩ := He.ba h
  exact ⟨⟨oexB_ok h1, He.eqO_ok h2, of_decide_eq_true h3, of_decide_eq_true h4, h5⟩, He.eqO_ok h6, of_decide_eq_true h7, He.eqO_ok h8, xfB_ok h9⟩
/-- the i-th statement of a class -/
def inCls (st : Stmt) (i : Nat) : Stmt := match st with
  | .ClassDef _ _ _ b _ _ _ _ _ _ _ => b.getD i (.Pass ⟨0, 0, 0, 0⟩)
  | _ => .Pass ⟨0, 0, 0, 0⟩
end GT
namespace GT
open PySem PySem.Spec PyProof.Rows L2
section
variable {X : Cx} {σ : L2.St} {H : Hp} {N : List Str} {L Lc : List (Str × KN)} {k : Nat} {pos p0 p1 p2 : Pos} {Q : VK} {D : Ends} {scope : Scope} {x : Str} {elt : Expr} {ifs : List Expr}
/-- [.. for x in z], z a text -/
theorem re_lc_str (c : Ctx X N L k) (Lc : List (Str × KN)) (hok : lcOk N L scope Lc x = true) {l : Expr}
    (q : RE X l σ H fun v H1 => ∃ z, v = .str z ∧ CTurns X N Lc k scope x elt ifs (fun _ => True) z.cps.size (fun i y => ∃ c, z.cps[i]? = some c ∧ y = .str ⟨#[c]⟩) σ H1 Q)
    (hs : ∀ x, foldedSetIterable l X.env x = pure x := by intro _; with_unfolding_all rfl) : RE X (.ListComp elt [⟨.Name x p0, l, ifs, 0⟩] scope pos) σ H Q := by
  obtain ⟨S, hx, hl, ok⟩ := lcOk_of c hok
  obtain ⟨i, hput, bk, g⟩ := blk_at (p0 := p0) c S hx hl ok
  refine re_of (pe_lc c.calm c.nodup (pi_str PE.self) bk g (fun s H C cl fp => PTs.rta c S s H C cl fp) (fun s H C cl fp => PE.rea c S s H C cl fp) hs) ?_
  exact pe_mono q fun v H1 ⟨z, e, q1⟩ => ⟨z, e, lc_go hput walk_str q1⟩
/-- xs.extend(e), e a list -/
theorem re_extend {o e : Expr} {apos : Pos} (q : RE X o σ H fun x H1 => ∃ l xs, x = .ref l ∧ H1 l = some (.lst xs) ∧ RE X e σ H1 fun y H2 => ∃ b xs' zs, y = .ref b ∧ H2 l = some (.lst xs') ∧ H2 b = some (.lst zs) ∧ xs'.length + zs.length ≤ sizeLine ∧ Q .non (upd H2 l (.lst (xs' ++ zs))))
    (hbase : attributeBase o "extend" X.env (eval o X.env) = eval o X.env := by with_unfolding_all rfl)
    (hfew : ((backTo pos (starEach [e] X.env)).all (fun x => !x.1) && (backToKw pos (keywordEach [] X.env)).all (fun x => x.1.isSome) && decide (([e] : List Expr).length + ([] : List Keyword).length + (if ([] : List Keyword).isEmpty then 0 else 1) < 30)) = true := by with_unfolding_all rfl)
    (hline : (apos.endLine == pos.line) = true := by with_unfolding_all rfl) (hs : starEach [e] X.env = (false, eval e X.env) :: starEach [] X.env := by with_unfolding_all rfl) (hplain : (backTo pos (starEach [] X.env)).any (·.1) = false := by with_unfolding_all rfl) :
    RE X (.Call (.Attribute o "extend" apos) [e] [] pos) σ H Q := by
  refine re_of (pe_bm PySem.F.plainAttrs_list PySem.F.slot_list_extend PySem.F.type_list_extend mt_extend PE.self PA.self hbase hfew hline hs hplain) ?_
  refine pe_mono q fun x H1 ⟨l, xs, e1, h1, q1⟩ => ?_
  subst e1
  refine ⟨.inl ⟨rfl, _, SqL.of h1⟩, ra_cons (pe_mono q1 fun y H2 ⟨b, xs', zs, e2, h2, h3, h4, q2⟩ => ra_nil ⟨l, b, xs', zs, rfl, by rw [e2], h2, h3, h4, q2⟩) hs⟩
/-! ### keywords alone -/
structure RK (X : Cx) (kws : List Keyword) (σ : L2.St) (H : Hp) (Q : List V → Hp → Prop) : Prop where
  ex : ∃ t, PK X kws t ∧ t σ H Q
theorem PK.self {kws : List Keyword} : PK X kws (RK X kws) := ⟨fun pos pins s σ H Q I h => by obtain ⟨t, ht, q⟩ := h.ex; exact ht.run pos pins s σ H Q I q⟩
theorem rk_nil {Q : List V → Hp → Prop} (q : Q [] H) : RK X [] σ H Q := ⟨⟨_, pk_nil, q⟩⟩
theorem rk_cons {nm : Option Str} {e : Expr} {kpos : Pos} {kws : List Keyword} {Q : List V → Hp → Prop} (q : RE X e σ H fun x H1 => RK X kws σ H1 fun xs H2 => Q (x :: xs) H2) : RK X (⟨nm, e, kpos⟩ :: kws) σ H Q := ⟨⟨_, pk_cons PE.self PK.self, q⟩⟩
/-- f(k = e, ..) -/
theorem re_callKO (c : Ctx X N L k) {CXs : CXT} {x : Str} {n : Nat} {f : Addr} {fd : FuncData} {ps ks : List Str} {sp : Sp} {g : List Value → List Value → List Value} {gV : List V → List V → List V} {kws : List Keyword} (F : FnOk X.prog X.w X.K X.mg X.base CXs n f fd ps sp) (hn : n ≤ k) (h : (x, KN.glob) ∈ L)
    (hm : X.mg x = some (.ref f)) (hk : PySem.W.keepIn X.K (.ref f) = true) (hb : KBinds X.K fd ps ks g gV) {E : XK} (hx : Passes CXs X E) (q : RK X kws σ H fun zs H1 => sp (gV [] zs) H1 Q E)
    (hall : (backToKw pos (keywordEach kws X.env)).all (·.1.isSome) = true := by with_unfolding_all rfl) (hks : (backToKw pos (keywordEach kws X.env)).filterMap (·.1) = ks := by with_unfolding_all rfl)
    (hpl : ((backTo pos (starEach [] X.env)).any (·.1) || (backToKw pos (keywordEach kws X.env)).any (·.1.isNone)) = false := by with_unfolding_all rfl) : RE X (.Call (.Name x p0) [] kws pos) σ H Q := by
  refine re_of (t := fun σ H Q => RK X kws σ H fun zs H1 => sp (gV [] zs) H1 Q E) ⟨fun pins s σ H Q I h' => ?_⟩ q
  refine wpAny_Call_Name_kw (ld_glob I (c.gl h) hm ?_ (c.d1 h))
  refine PySem.W.callWith_KW0 (h₀ := X.base) I.ok.mod.kin hk hall ?_ hpl
  refine thn (PK.self.run pos pins s σ H _ I h') fun ws s2 ⟨zs, H2, I2, rz, q2⟩ => ⟨I2.kIn, ?_⟩
  rw [hks]
  exact run_fnk (us := []) (vs := []) F (c.room.mono hn) hb hx I2 .nil rz q2
end
end GT
namespace GT
open PySem PySem.Spec PyProof.Rows L2
/-! ### enumerate of a text -/
def IteS (x : Str) : It := ⟨fun i _ => i < x.cps.size, fun i H v H' => ∃ T c, v = .ref T ∧ H T = none ∧ H' = upd H T (.tup [.int (i : Nat), .str ⟨#[c]⟩]) ∧ x.cps[i]? = some c, fun i _ => i = x.cps.size⟩
theorem turn_enumS {P : Program} {w : World} {K : PySem.W.Frag} {elts : List Expr} {kk : Nat} {tpos : Pos} (e it : Addr) (x : Str) (t : Tok) (ty : String) (hty : ty = "str_ascii_iterator" ∨ ty = "str_iterator") :
    Turn P w K (.Tuple elts kk tpos) (IteS x) [e, it] e (fun i h => (∃ old, IsEnum h e it ((i : Nat) : Int) old) ∧ h.IsStrIter it ty x t i ∧ e ≠ it) where
  mem := by simp
  obj := fun i h st b hb => by
    obtain ⟨⟨old, he⟩, ⟨o, ho, hc, hd⟩, _⟩ := st
    have e' : b = e ∨ b = it := by simpa using hb
    rcases e' with z | z
    · rw [z]; exact ⟨_, he, fun v q => nomatch q⟩
    · rw [z]; exact ⟨o, ho, fun v q => by rw [hd] at q; cases q⟩
  keep := fun i h h' st k => let ⟨⟨old, he⟩, hi, hne⟩ := st; ⟨⟨old, k e (by simp) _ he⟩, (by obtain ⟨o, ho, hc, hd⟩ := hi; exact ⟨o, k it (by simp) _ ho, hc, hd⟩), hne⟩
  item := by
    intro X hP hw hK hc i pins s σ H E I hf st hg
    subst hP hw hK
    obtain ⟨⟨old, he⟩, hit, hne⟩ := st
    have hel : e < s.heap.objs.size := Heap.lt_size he
    have hil : it < s.heap.objs.size := by obtain ⟨_, q, _⟩ := hit; exact Heap.lt_size q
    have hh : X.A.in1.handled = none := I.ok.hd hc
    have D : Draws X.prog X.w X.A.in1 it [it] x.cps.size (fun i v => ∃ c u, x.cps[i]? = some c ∧ v = .str ⟨#[c]⟩ u) (fun i h => h.IsStrIter it ty x t i) := by
      rcases hty with e | e
      · rw [e]; exact Draws.strAscii hh it x t
      · rw [e]; exact Draws.strWide hh it x t
    refine wpAny_pyNext_enum_itemD D he hit hg hne (by simpa using hne) fun v h' tk hv ho hit' hT hsz hk => ?_
    obtain ⟨c, u, hcx, rfl⟩ := hv
    refine ⟨_, rfl, wpAny_letOwnedTupleGo_enum (s := { s with heap := h', toks := tk + 1 }) ho fun h'' he' sb => ?_⟩
    have hT2 : h''.get? s.heap.objs.size = some { cls := .type "tuple", data := .seq #[.int i tk, .str ⟨#[c]⟩ u] } := (sb.2 _ (Nat.ne_of_gt hel)).trans hT
    have new : ObjOk X.prog X.w (upd H s.heap.objs.size (.tup [.int (i : Nat), .str ⟨#[c]⟩])) h'' s.heap.objs.size (.tup [.int (i : Nat), .str ⟨#[c]⟩]) :=
      ⟨by show 2 ≤ sizeLine; decide, [.int i tk, .str ⟨#[c]⟩ u], .cons ⟨_, rfl⟩ (.cons ⟨_, rfl⟩ .nil), ⟨_, hT2, rfl, _, rfl⟩⟩
    have I1 : Inv X pins σ (upd H s.heap.objs.size (.tup [.int (i : Nat), .str ⟨#[c]⟩])) { s with heap := h'', toks := tk + 1 } :=
      I.turnedNew (ch := [e, it]) (fun b ob hb q => (sb.2 b (fun z => hb (by simp [z]))).trans (hk b ob (fun z => hb (by simp [z])) (fun z => hb (by simp [z])) q)) hf (Nat.le_refl _) new
    refine ⟨.ref s.heap.objs.size, _, I1, rfl, ⟨_, c, rfl, I.hok.fresh (Nat.le_refl _), rfl, hcx⟩, ⟨⟨.str ⟨#[c]⟩ u, ?_⟩, ?_, hne⟩, fun b hb => ?_⟩
    · have e1 : ((i + 1 : Nat) : Int) = (i : Int) + 1 := by omega
      rw [e1]; exact he'
    · obtain ⟨o, ho2, hc2, hd2⟩ := hit'
      exact ⟨o, (sb.2 it (Ne.symm hne)).trans ho2, hc2, hd2⟩
    · have hb' : b < s.heap.objs.size := by
        have e' : b = e ∨ b = it := by simpa using hb
        rcases e' with z | z
        · rw [z]; exact hel
        · rw [z]; exact hil
      rw [upd_ne (Nat.ne_of_lt hb')]
      exact (hf b hb).1
  done := by
    intro X hP hw hK hc i pins s σ H E I hf st hg
    subst hP hw hK
    obtain ⟨⟨old, he⟩, hit, hne⟩ := st
    obtain ⟨f0, f1, f2, f3, f4, f5⟩ := hf it (by simp)
    have hh : X.A.in1.handled = none := I.ok.hd hc
    have D : Draws X.prog X.w X.A.in1 it [it] x.cps.size (fun i v => ∃ c u, x.cps[i]? = some c ∧ v = .str ⟨#[c]⟩ u) (fun i h => h.IsStrIter it ty x t i) := by
      rcases hty with e | e
      · rw [e]; exact Draws.strAscii hh it x t
      · rw [e]; exact Draws.strWide hh it x t
    have e1 : i = x.cps.size := hg
    rw [e1] at hit
    exact wpAny_pyNext_enum_endD D he hit fun h' eb => ⟨rfl, I.turned (t' := s.toks) (fun b o hb q => eb b o hb q) f0 f1 f3 f4 f5⟩
  self := fun A i s Q E st h => let ⟨⟨_, he⟩, _⟩ := st; wpAny_pyIter_enum he h
theorem iterTy (x : Str) : strIterType x = "str_ascii_iterator" ∨ strIterType x = "str_iterator" := by
  unfold strIterType
  split
  · exact .inl rfl
  · exact .inr rfl
def iEnumS (ta : TA) : TI := fun σ H R => ta σ H fun vs H1 => ∃ x, vs = [.str x] ∧ R (IteS x) H1
theorem pi_enumS {X : Cx} {e : Expr} {ta : TA} {p pos tpos : Pos} {elts : List Expr} {kk : Nat} (hg : Gl X "enumerate") (hm : X.mg "enumerate" = none) (ha : PA X [e] ta) (hs : starEach [e] X.env = [(false, eval e X.env)] := by rfl) :
    PI X (.Tuple elts kk tpos) (.Call (.Name "enumerate" p) [e] [] pos) (iEnumS ta) := by
  refine ⟨fun pins s σ H R I h => ?_⟩
  refine Call_ (ld_blt I hg hm boot_enumerate (PyProof.Rows.callWith_type1 (thn (ha.run pos pins s σ H _ I h) fun us s1 ⟨vs, H1, I1, r1, q1⟩ => ?_) hs rfl))
  obtain ⟨x, ex, q⟩ := q1
  subst ex
  cases r1 with
  | cons r rr =>
    cases rr
    obtain ⟨t, rfl⟩ := r
    refine call_enumerate_str fun h' he hit hsz hk => wpAny_pyIter_enum he ?_
    have I2 : Inv X pins σ H1 { s1 with heap := h' } := I1.kept (t' := s1.toks) hk
    refine ⟨s1.heap.objs.size + 1, [s1.heap.objs.size + 1, s1.heap.objs.size], _, _, H1, rfl, I2, turn_enumS (s1.heap.objs.size + 1) s1.heap.objs.size x t _ (iterTy x), ⟨⟨.none, he⟩, hit, Nat.succ_ne_self _⟩, fun b hb => ?_, q⟩
    have e' : b = s1.heap.objs.size + 1 ∨ b = s1.heap.objs.size := by simpa using hb
    have hle : s1.heap.objs.size ≤ b := by
      rcases e' with z | z
      · rw [z]; exact Nat.le_add_right _ _
      · rw [z]; exact Nat.le_refl _
    exact I1.fpOk hle (I1.hok.fresh hle)
end GT
namespace GT
open PySem
open Sem (wp)
/-! ### enumerate(v), v told by how its iterator begins -/
theorem meets_enum1 {v : Value} {o : Obj} {G : Heap → Prop} (B : Begins v o G) :
    Meets (Builtin.«enumerate.__new__» ⟨[.type "enumerate", v], []⟩) (fun _ R s => G s.heap ∧
      R (.ok (.ret (.ref (s.heap.push o).objs.size))) { s with heap := (s.heap.push o).push { cls := .type "enumerate", data := .fields #[.none, .bool false, .ref s.heap.objs.size, rawInt 0, .none, .none] } }) :=
  .of_wp fun prog w A R s h => by
    obtain ⟨hp, g, d, tk, os⟩ := s
    obtain ⟨h1, h⟩ := h
    have hsub := sub_enumerate
    have q1 : ∀ {A' : Around} {E : Value → Shared → Prop} {Q : Value → Shared → Prop}, Q (.ref hp.objs.size) ⟨hp.push o, g, d, tk, os⟩ → wpAny (model prog w) A' (pyIter v) Q E ⟨hp, g, d, tk, os⟩ :=
      fun q => B.iter prog w _ _ ⟨hp, g, d, tk, os⟩ _ h1 q
    wp_walk using q1
    refine wpAny_stack_any fun st => wpAny_pure ?_
    split
    · rename_i c _ _ _ _ _
      cases (c == Value.type "enumerate") <;> (wp_walk using q1; exact ⟨_, rfl, h⟩)
    · wp_walk using q1
      exact ⟨_, rfl, h⟩
theorem call_enum1 {prog : Program} {w : World} {A : Around} {E : Value → Shared → Prop} {s : Shared} {v : Value} {o : Obj} {G : Heap → Prop} {Q : Value → Shared → Prop} (B : Begins v o G) (h1 : G s.heap)
    (h : ∀ h', IsEnum h' (s.heap.objs.size + 1) s.heap.objs.size 0 .none → h'.get? s.heap.objs.size = some o → (∀ b o, s.heap.get? b = some o → h'.get? b = some o) → Q (.ref (s.heap.objs.size + 1)) { s with heap := h' }) :
    wpAny (model prog w) A (call (.type "enumerate") [v]) Q E s := by
  refine callType_new F.called_enumerate (by decide) (F.typeCall_enumerate_1 _) (F.newCall_enumerate_1 _) (fun obj => F.args_object_init_2 obj _) F.entry_enumerate_new (meets_enum1 B) ⟨h1, ?_⟩
  have hz : (s.heap.push o).objs.size = s.heap.objs.size + 1 := Heap.size_push ..
  show _ ∧ _
  rw [hz]
  have he : IsEnum ((s.heap.push o).push { cls := .type "enumerate", data := .fields #[.none, .bool false, .ref s.heap.objs.size, rawInt 0, .none, .none] }) (s.heap.objs.size + 1) s.heap.objs.size 0 .none := by
    have e := Heap.get?_push_size (s.heap.push o) (o := { cls := .type "enumerate", data := .fields #[.none, .bool false, .ref s.heap.objs.size, rawInt 0, .none, .none] }) rfl
    rw [hz] at e
    exact e
  exact ⟨⟨_, he, rfl⟩, h _ he (Heap.get?_push_of_some _ (Heap.get?_push_size _ B.free)) fun b o x => Heap.get?_push_of_some _ (Heap.get?_push_of_some _ x)⟩
theorem nextEnd_tuple {prog : Program} {w : World} {A : Around} {E : Value → Shared → Prop} {s : Shared} {e it l : Addr} {i : Nat} {n : Int} {items : Array Value} {old : Value} {Q : Option Value → Shared → Prop} (hh : A.in1.handled = none)
    (he : IsEnum s.heap e it n old) (hit : s.heap.IsTupleIter it l i) (hl : s.heap.IsTuple l items) (hx : items[i]? = none)
    (hQ : ∀ h', Heap.ExtBut it s.heap h' → Q none { s with heap := h' }) : wpAny (model prog w) A (pyNext (.ref e)) Q E s := by
  have hT : s.TypeIs (.ref e) "enumerate" := ⟨_, he, rfl⟩
  unfold pyNext
  refine wpAny_bind (wpAny_attempt (wpAny_callSpecial?_slot (name := Str.ofString "__next__") hT F.slot_enumerate_next (wpAny_call_entry F.slot_enumerate_next hT F.entry_enumerate_next ?_ (F.args_enumerate_next_1 _))))
  show wpAny _ _ (field (.ref e) 2 >>= _) _ _ _
  refine wpAny_bind (wpAny_field he rfl (x := .ref it) rfl (wpAny_bind (wpAny_nextOf_tuple_end hh hit hl hx fun h' x he' hx' => ?_)))
  obtain ⟨o, ho, hc⟩ := hx'
  exact wpAny_bind (wpAny_isInstance (T := "StopIteration") (b := true) ⟨o, ho, hc⟩ isSubtype_stop (wpAny_pure (hQ _ he')))
end GT
namespace GT
open PySem PySem.Spec PyProof.Rows L2
/-! ### enumerate of a tuple -/
def IteT (K : PySem.W.Frag) (a : Addr) : It :=
  ⟨fun i H => ∃ (xs : List V) (x : V), SqT K H a xs ∧ xs[i]? = some x, fun i H v H' => ∃ T x, v = .ref T ∧ H T = none ∧ H' = upd H T (.tup [.int (i : Nat), x]) ∧ ∀ xs, SqT K H a xs → xs[i]? = some x, fun i H => ∃ xs : List V, SqT K H a xs ∧ xs.length ≤ i⟩
theorem turn_enumT {P : Program} {w : World} {K : PySem.W.Frag} {elts : List Expr} {kk : Nat} {tpos : Pos} (a e it : Addr) :
    Turn P w K (.Tuple elts kk tpos) (IteT K a) [e, it] e (fun i h => (∃ old, IsEnum h e it ((i : Nat) : Int) old) ∧ h.IsTupleIter it a i ∧ e ≠ it) where
  mem := by simp
  obj := fun i h st b hb => by
    obtain ⟨⟨old, he⟩, ⟨o, ho, hc, hd⟩, _⟩ := st
    have e' : b = e ∨ b = it := by simpa using hb
    rcases e' with z | z <;> subst z
    · exact ⟨_, he, fun v q => nomatch q⟩
    · exact ⟨o, ho, fun v q => by rw [hd] at q; cases q⟩
  keep := fun i h h' st k => by
    obtain ⟨⟨old, he⟩, hi, hne⟩ := st
    exact ⟨⟨old, k e (by simp) _ he⟩, hi.at fun o q => k it (by simp) o q, hne⟩
  item := by
    intro X hP hw hK hc i pins s σ H E I hf st hg
    subst hP hw hK
    obtain ⟨⟨old, he⟩, hit, hne⟩ := st
    obtain ⟨xs, x, hq, hx⟩ := hg
    obtain ⟨its, rv, p, hz⟩ := I.tuple hq
    have p : s.heap.IsTuple a its.toArray := p
    obtain ⟨oa, hoa, hca, _⟩ := id p
    obtain ⟨oi, hoi, hci, _⟩ := id hit
    have n1 : a ≠ it := fun q => by
      rw [q, hoi] at hoa
      cases hoa
      rw [hci] at hca
      exact absurd hca (by decide)
    have n2 : e ≠ a := fun q => by
      rw [← q, he] at hoa
      cases hoa
      exact absurd (show Value.type "enumerate" = Value.type "tuple" from hca) (by decide)
    have hel : e < s.heap.objs.size := Heap.lt_size he
    have hil : it < s.heap.objs.size := Heap.lt_size hoi
    have hh : X.A.in1.handled = none := I.ok.hd hc
    have D := Draws.tuple (prog := X.prog) (w := X.w) (A := X.A.in1) hh it a n1 its.toArray
    have hlt : i < its.toArray.size := by
      obtain ⟨u, hu, _⟩ := rv.get hx
      rcases Nat.lt_or_ge i its.length with z | z
      · simpa using z
      · rw [List.getElem?_eq_none z] at hu; cases hu
    refine wpAny_pyNext_enum_itemD D he ⟨hit, p⟩ hlt hne (by simp [hne, n2]) fun v h' tk hv ho hit' hT hsz hk => ?_
    obtain ⟨u, hu, ru⟩ := rv.get hx
    have ev : v = u := by
      have h2 : its.toArray[i]? = some u := by simpa using hu
      exact Option.some.inj ((show its.toArray[i]? = some v from hv).symm.trans h2)
    subst ev
    refine ⟨_, rfl, wpAny_letOwnedTupleGo_enum (s := { s with heap := h', toks := tk + 1 }) ho fun h'' he' sb => ?_⟩
    have hT2 : h''.get? s.heap.objs.size = some { cls := .type "tuple", data := .seq #[.int i tk, v] } := (sb.2 _ (Nat.ne_of_gt hel)).trans hT
    have new : ObjOk X.prog X.w (upd H s.heap.objs.size (.tup [.int (i : Nat), x])) h'' s.heap.objs.size (.tup [.int (i : Nat), x]) :=
      ⟨by show 2 ≤ sizeLine; decide, [.int i tk, v], .cons ⟨_, rfl⟩ (.cons ru .nil), ⟨_, hT2, rfl, _, rfl⟩⟩
    have I1 : Inv X pins σ (upd H s.heap.objs.size (.tup [.int (i : Nat), x])) { s with heap := h'', toks := tk + 1 } :=
      I.turnedNew (ch := [e, it]) (fun b ob hb q => (sb.2 b (fun z => hb (by simp [z]))).trans (hk b ob (fun z => hb (by simp [z])) (fun z => hb (by simp [z])) q)) hf (Nat.le_refl _) new
    refine ⟨.ref s.heap.objs.size, _, I1, rfl, ⟨_, x, rfl, I.hok.fresh (Nat.le_refl _), rfl, fun ys hy => by rw [I.tuple_inj hy hq]; exact hx⟩, ⟨⟨v, ?_⟩, hit'.1.at fun o q => (sb.2 it (Ne.symm hne)).trans q, hne⟩, fun b hb => ?_⟩
    · have e1 : ((i + 1 : Nat) : Int) = (i : Int) + 1 := by omega
      rw [e1]; exact he'
    · have hb' : b < s.heap.objs.size := by
        have e' : b = e ∨ b = it := by simpa using hb
        rcases e' with z | z <;> subst z <;> assumption
      rw [upd_ne (Nat.ne_of_lt hb')]
      exact (hf b hb).1
  done := by
    intro X hP hw hK hc i pins s σ H E I hf st hg
    subst hP hw hK
    obtain ⟨⟨old, he⟩, hit, hne⟩ := st
    obtain ⟨xs, hq, hx⟩ := hg
    obtain ⟨its, rv, p, hz⟩ := I.tuple hq
    have p : s.heap.IsTuple a its.toArray := p
    obtain ⟨oa, hoa, hca, _⟩ := id p
    obtain ⟨oi, hoi, hci, hdi⟩ := id hit
    have n1 : a ≠ it := fun q => by
      rw [q, hoi] at hoa
      cases hoa
      rw [hci] at hca
      exact absurd hca (by decide)
    obtain ⟨f0, f1, f2, f3, f4, f5⟩ := hf it (by simp)
    have hl := rv.length
    have hh : X.A.in1.handled = none := I.ok.hd hc
    refine nextEnd_tuple hh he hit p (by simp; omega) fun h' eb => ?_
    exact ⟨rfl, I.turned (t' := s.toks) (fun b o hb q => eb b o hb q) f0 f1 f3 f4 f5⟩
  self := fun A i s Q E st h => by
    obtain ⟨⟨_, he⟩, _⟩ := st
    exact wpAny_pyIter_enum he h
def iEnumT (K : PySem.W.Frag) (ta : TA) : TI := fun σ H R => ta σ H fun vs H1 => ∃ a xs, vs = [.ref a] ∧ SqT K H1 a xs ∧ R (IteT K a) H1
theorem pi_enumT {X : Cx} {e : Expr} {ta : TA} {p pos tpos : Pos} {elts : List Expr} {kk : Nat} (hg : Gl X "enumerate") (hm : X.mg "enumerate" = none) (ha : PA X [e] ta) (hs : starEach [e] X.env = [(false, eval e X.env)] := by rfl) :
    PI X (.Tuple elts kk tpos) (.Call (.Name "enumerate" p) [e] [] pos) (iEnumT X.K ta) := by
  refine ⟨fun pins s σ H R I h => ?_⟩
  refine Call_ (ld_blt I hg hm boot_enumerate (PyProof.Rows.callWith_type1 (thn (ha.run pos pins s σ H _ I h) fun us s1 ⟨vs, H1, I1, r1, q1⟩ => ?_) hs rfl))
  obtain ⟨a, xs, ex, hq, q⟩ := q1
  subst ex
  cases r1 with
  | cons r rr =>
    cases rr
    cases r
    obtain ⟨its, rv, p', hz⟩ := I1.tuple hq
    refine call_enum1 (begins_tuple a its.toArray) (show s1.heap.IsTuple a its.toArray from p') fun h' he hit hk => wpAny_pyIter_enum he ?_
    have I2 : Inv X pins σ H1 { s1 with heap := h' } := I1.kept (t' := s1.toks) hk
    refine ⟨s1.heap.objs.size + 1, [s1.heap.objs.size + 1, s1.heap.objs.size], _, _, H1, rfl, I2, turn_enumT a (s1.heap.objs.size + 1) s1.heap.objs.size, ⟨⟨.none, he⟩, ⟨_, hit, rfl, rfl⟩, Nat.succ_ne_self _⟩, fun b hb => ?_, q⟩
    have e' : b = s1.heap.objs.size + 1 ∨ b = s1.heap.objs.size := by simpa using hb
    have hle : s1.heap.objs.size ≤ b := by rcases e' with z | z <;> subst z <;> simp
    exact I1.fpOk hle (I1.hok.fresh hle)
/-! ### walks over them -/
theorem walk_enumS {z : Str} : Walk (IteS z) z.cps.size (fun _ => True) (YPair (fun i => some (.int (i : Nat))) (fun i => z.cps[i]?.map fun c => .str ⟨#[c]⟩)) := by
  refine ⟨fun _ _ hi _ => hi, fun _ _ => rfl, fun i H v H' _ _ y => ?_⟩
  obtain ⟨T, c, h1, h2, h3, h4⟩ := y
  exact ⟨T, .int (i : Nat), .str ⟨#[c]⟩, h1, h2, h3, rfl, by show Option.map _ _ = _; rw [h4]; rfl⟩
theorem walk_enumT {K : PySem.W.Frag} {a : Addr} {xs : List V} : Walk (IteT K a) xs.length (fun H => SqT K H a xs) (YPair (fun i => some (.int (i : Nat))) (fun i => xs[i]?)) := by
  refine ⟨fun i _ hi q => ⟨xs, xs[i], q, by simp [hi]⟩, fun _ q => ⟨xs, q, Nat.le_refl _⟩, fun i H v H' _ q y => ?_⟩
  obtain ⟨T, x, h1, h2, h3, h4⟩ := y
  exact ⟨T, .int (i : Nat), x, h1, h2, h3, rfl, h4 xs q⟩
section
variable {X : Cx} {σ : L2.St} {H : Hp} {N : List Str} {L Lc : List (Str × KN)} {k : Nat} {pos p0 p1 p2 p3 : Pos} {Q : VK} {D : Ends}
/-- what a loop over pairs asks: u i, v i the pair's parts, T its own new tuple -/
def PTurns (X : Cx) (N : List Str) (x y : Str) (body : List Stmt) (D : Ends) (stand : Hp → Prop) (n : Nat) (u v : Nat → Option V) (σ : L2.St) (H : Hp) : Prop :=
  ∃ Pv : Nat → L2.St → Hp → Prop, Pv 0 σ H ∧ (∀ i σ H, i ≤ n → Pv i σ H → stand H) ∧
    (∀ i a b σ H T, i < n → u i = some a → v i = some b → Pv i σ H → H T = none → ∃ σ' σ'', Put N σ x a σ' ∧ Put N σ' y b σ'' ∧ RB X body { D with nx := Pv (i + 1), ct := Pv (i + 1), bk := D.nx } σ'' (upd H T (.tup [a, b]))) ∧ (∀ σ H, Pv n σ H → D.nx σ H)
theorem pturns_go {J : It} {x y : Str} {body : List Stmt} {stand : Hp → Prop} {n : Nat} {u v : Nat → Option V} {i i' : Nat} (W : Walk J n stand (YPair u v)) (h2 : ∀ {σ σ' : L2.St} {v : V}, Put N σ x v σ' → σ' = σ.set i (some v)) (h2' : ∀ {σ σ' : L2.St} {v : V}, Put N σ y v σ' → σ' = σ.set i' (some v))
    (q : PTurns X N x y body D stand n u v σ H) :
    ∃ W : Nat → Nat → L2.St → Hp → Prop, (∃ m, W 0 m σ H) ∧ ∀ j m σ H, W j m σ H → (J.stop j H ∧ D.nx σ H) ∨ (J.go j H ∧ ∃ Nx : L2.St → Hp → Prop, (∀ σ' H', Nx σ' H' → ∃ m', m' < m ∧ W (j + 1) m' σ' H') ∧ ∀ w H', J.yld j H w H' →
      gTup X.K 2 (gCons (gName i) (gCons (gName i') gNil)) w σ H' fun σ2 H2 => RB X body { D with nx := Nx, ct := Nx, bk := D.nx } σ2 H2) := by
  obtain ⟨Pv, a1, a2, a3, a4⟩ := q
  refine for_it W (tb := fun D σ H => RB X body D σ H) (g := gTup X.K 2 (gCons (gName i) (gCons (gName i') gNil))) Pv a1 a2 (fun j w σ H H' hj p yy => ?_) a4
  obtain ⟨T, a, b, rfl, hT, rfl, e1, e2⟩ := yy
  obtain ⟨σ', σ'', b1, b2, r⟩ := a3 j a b σ H T hj e1 e2 p hT
  rw [h2' b2, h2 b1] at r
  exact ⟨T, _, rfl, SqT.of upd_same, rfl, _, _, rfl, _, _, rfl, rfl, r⟩
section
variable {x y : Str} {e : Expr} {body : List Stmt} {j j' : KN} {kt : Nat} {q0 q1 q2 : Pos}
theorem rs_for_enumS (c : Ctx X N L k) (h : (x, j) ∈ L) (m : Own j) (hx : x ∈ N) (h' : (y, j') ∈ L) (m' : Own j') (hy : y ∈ N) (hg : (("enumerate" : Str), KN.glob) ∈ L) (hm : X.mg "enumerate" = none)
    (q : RE X e σ H fun v H1 => ∃ z, v = .str z ∧ PTurns X N x y body D (fun _ => True) z.cps.size (fun i => some (.int (i : Nat))) (fun i => z.cps[i]?.map fun c => .str ⟨#[c]⟩) σ H1)
    (hs : ∀ x, foldedSetIterable (.Call (.Name "enumerate" p1) [e] [] p2) X.env x = pure x := by intro _; with_unfolding_all rfl) (hsE : starEach [e] X.env = [(false, eval e X.env)] := by with_unfolding_all rfl)
    (hn : (assignEach [.Name x q0, .Name y q1] X.env).length = 2 := by with_unfolding_all rfl) (hst : (assignEach [.Name x q0, .Name y q1] X.env).findIdx? (·.1) = none := by with_unfolding_all rfl)
    (ha : (assignEach [.Name x q0, .Name y q1] X.env).map (·.2) = assign (.Name x q0) X.env :: (assignEach [.Name y q1] X.env).map (·.2) := by with_unfolding_all rfl) (hb : (assignEach [.Name y q1] X.env).map (·.2) = assign (.Name y q1) X.env :: (assignEach [] X.env).map (·.2) := by with_unfolding_all rfl) :
    RS X (.For (.Tuple [.Name x q0, .Name y q1] kt q2) (.Call (.Name "enumerate" p1) [e] [] p2) body [] pos) D σ H := by
  obtain ⟨i, g, h2⟩ := c.pg (p0 := q0) h m hx
  obtain ⟨i', g', h2'⟩ := c.pg (p0 := q1) h' m' hy
  refine rs_of (ps_for c.po c.calm (pi_enumS (c.gl hg) hm PA.self hsE) (pg_tup (n := 2) c.calm (pgs_cons g (pgs_cons g' pgs_nil hb) ha) hn hst) PSs.self hs) ?_
  exact ra_cons (pe_mono q fun v H1 ⟨z, e1, t⟩ => ra_nil ⟨z, by rw [e1], pturns_go walk_enumS h2 h2' t⟩) hsE
theorem rs_for_enumT (c : Ctx X N L k) (h : (x, j) ∈ L) (m : Own j) (hx : x ∈ N) (h' : (y, j') ∈ L) (m' : Own j') (hy : y ∈ N) (hg : (("enumerate" : Str), KN.glob) ∈ L) (hm : X.mg "enumerate" = none)
    (q : RE X e σ H fun v H1 => ∃ a xs, v = .ref a ∧ SqT X.K H1 a xs ∧ PTurns X N x y body D (fun H => SqT X.K H a xs) xs.length (fun i => some (.int (i : Nat))) (fun i => xs[i]?) σ H1)
    (hs : ∀ x, foldedSetIterable (.Call (.Name "enumerate" p1) [e] [] p2) X.env x = pure x := by intro _; with_unfolding_all rfl) (hsE : starEach [e] X.env = [(false, eval e X.env)] := by with_unfolding_all rfl)
    (hn : (assignEach [.Name x q0, .Name y q1] X.env).length = 2 := by with_unfolding_all rfl) (hst : (assignEach [.Name x q0, .Name y q1] X.env).findIdx? (·.1) = none := by with_unfolding_all rfl)
    (ha : (assignEach [.Name x q0, .Name y q1] X.env).map (·.2) = assign (.Name x q0) X.env :: (assignEach [.Name y q1] X.env).map (·.2) := by with_unfolding_all rfl) (hb : (assignEach [.Name y q1] X.env).map (·.2) = assign (.Name y q1) X.env :: (assignEach [] X.env).map (·.2) := by with_unfolding_all rfl) :
    RS X (.For (.Tuple [.Name x q0, .Name y q1] kt q2) (.Call (.Name "enumerate" p1) [e] [] p2) body [] pos) D σ H := by
  obtain ⟨i, g, h2⟩ := c.pg (p0 := q0) h m hx
  obtain ⟨i', g', h2'⟩ := c.pg (p0 := q1) h' m' hy
  refine rs_of (ps_for c.po c.calm (pi_enumT (c.gl hg) hm PA.self hsE) (pg_tup (n := 2) c.calm (pgs_cons g (pgs_cons g' pgs_nil hb) ha) hn hst) PSs.self hs) ?_
  exact ra_cons (pe_mono q fun v H1 ⟨a, xs, e1, hq, t⟩ => ra_nil ⟨a, xs, by rw [e1], hq, pturns_go walk_enumT h2 h2' t⟩) hsE
theorem rs_for_enumL (c : Ctx X N L k) (h : (x, j) ∈ L) (m : Own j) (hx : x ∈ N) (h' : (y, j') ∈ L) (m' : Own j') (hy : y ∈ N) (hg : (("enumerate" : Str), KN.glob) ∈ L) (hm : X.mg "enumerate" = none)
    (q : RE X e σ H fun v H1 => ∃ a xs, v = .ref a ∧ SqL X.K H1 a xs ∧ PTurns X N x y body D (fun H => SqL X.K H a xs) xs.length (fun i => some (.int (i : Nat))) (fun i => xs[i]?) σ H1)
    (hs : ∀ x, foldedSetIterable (.Call (.Name "enumerate" p1) [e] [] p2) X.env x = pure x := by intro _; with_unfolding_all rfl) (hsE : starEach [e] X.env = [(false, eval e X.env)] := by with_unfolding_all rfl)
    (hn : (assignEach [.Name x q0, .Name y q1] X.env).length = 2 := by with_unfolding_all rfl) (hst : (assignEach [.Name x q0, .Name y q1] X.env).findIdx? (·.1) = none := by with_unfolding_all rfl)
    (ha : (assignEach [.Name x q0, .Name y q1] X.env).map (·.2) = assign (.Name x q0) X.env :: (assignEach [.Name y q1] X.env).map (·.2) := by with_unfolding_all rfl) (hb : (assignEach [.Name y q1] X.env).map (·.2) = assign (.Name y q1) X.env :: (assignEach [] X.env).map (·.2) := by with_unfolding_all rfl) :
    RS X (.For (.Tuple [.Name x q0, .Name y q1] kt q2) (.Call (.Name "enumerate" p1) [e] [] p2) body [] pos) D σ H := by
  obtain ⟨i, g, h2⟩ := c.pg (p0 := q0) h m hx
  obtain ⟨i', g', h2'⟩ := c.pg (p0 := q1) h' m' hy
  refine rs_of (ps_for c.po c.calm (pi_enum (c.gl hg) hm PA.self hsE) (pg_tup (n := 2) c.calm (pgs_cons g (pgs_cons g' pgs_nil hb) ha) hn hst) PSs.self hs) ?_
  exact ra_cons (pe_mono q fun v H1 ⟨a, xs, e1, hq, t⟩ => ra_nil ⟨a, xs, by rw [e1], hq, pturns_go walk_enum h2 h2' t⟩) hsE
end
/-! ### texts -/
theorem cv_notInC {ch : Nat} {z : Str} (q : Q (.bl (!decide (ch ∈ z.cps.toList))) H) : CpV X .NotIn (.str ⟨#[ch]⟩) (.str z) H Q := ⟨⟨_, op_notIn_sign, ch, z, rfl, rfl, q⟩⟩
theorem cv_inC {ch : Nat} {z : Str} (q : Q (.bl (decide (ch ∈ z.cps.toList))) H) : CpV X .In (.str ⟨#[ch]⟩) (.str z) H Q := ⟨⟨_, op_in_sign, ch, z, rfl, rfl, q⟩⟩
theorem op_mulS : OpR X (binaryOp .Mult) (fun x y H Q => ∃ z n, x = .str z ∧ y = .int n ∧ MulOk z n ∧ Q (.str (Txt.mul z n)) H) := by
  intro pins s σ H x y v u Q I rx ry h
  obtain ⟨z, n, rfl, rfl, hok, q⟩ := h
  obtain ⟨t, rfl⟩ := rx
  obtain ⟨t', rfl⟩ := ry
  exact PySem.SB.mul hok fun t2 k => ⟨.str _, H, I.tok k, ⟨t2, rfl⟩, q⟩
theorem len_rep (a : Array Nat) : ∀ (n : Nat) (b : Array Nat), ((List.replicate n a).foldl (· ++ ·) b).size = b.size + n * a.size
  | 0, b => by simp
  | n + 1, b => by
    rw [List.replicate_succ, List.foldl_cons, len_rep a n (b ++ a), Array.size_append, Nat.succ_mul]
    omega
theorem len_mulS (z : Str) (n : Int) : (Txt.mul z n).length ≤ z.length * n.toNat := by
  unfold Txt.mul
  split
  · show 0 ≤ _
    exact Nat.zero_le _
  · rename_i h
    split
    · rename_i h2
      rcases (by simpa using h2 : n = 1 ∨ z.length = 0) with e | e
      · subst e
        simp
      · rw [e]
        exact Nat.zero_le _
    · show Array.size _ ≤ _
      rw [len_rep]
      show 0 + n.toNat * z.cps.size ≤ z.cps.size * n.toNat
      rw [Nat.mul_comm]
      omega
theorem mulOk_of {z : Str} {n : Int} (h1 : z.length ≤ 1000) (h2 : -1000 ≤ n) (h3 : n ≤ 1000) : MulOk z n := by
  refine ⟨?_, fun hn _ => ?_, fun hn _ => ?_⟩
  · rw [Bool.or_eq_false_iff]
    exact ⟨decide_eq_false (by omega), decide_eq_false (by omega)⟩
  · have h4 : (9223372036854775 : Int) ≤ (2 ^ 63 - 1) / n := by
      rw [Int.le_ediv_iff_mul_le (by omega)]
      omega
    omega
  · refine PyProof.Rows.short24 (Nat.le_trans (Nat.mul_le_mul h1 (show n.toNat ≤ 1000 by omega)) (by decide))
theorem ov_mulS {z : Str} {n : Int} (h1 : z.length ≤ 1000) (h2 : -1000 ≤ n) (h3 : n ≤ 1000) (q : ∀ w : Str, w.length ≤ z.length * n.toNat → Q (.str w) H) : OpV X .Mult (.str z) (.int n) H Q := ⟨⟨_, op_mulS, z, n, rfl, rfl, mulOk_of h1 h2 h3, q _ (len_mulS z n)⟩⟩
theorem re_upper {o : Expr} {apos : Pos} (q : RE X o σ H fun x H1 => ∃ a, x = .str a ∧ a.length ≤ 1000 ∧ ∀ w : Str, w.length ≤ 3 * a.length → Q (.str w) H1)
    (hbase : attributeBase o "upper" X.env (eval o X.env) = eval o X.env := by with_unfolding_all rfl) (hline : (apos.endLine == pos.line) = true := by with_unfolding_all rfl) : RE X (.Call (.Attribute o "upper" apos) [] [] pos) σ H Q :=
  re_of (pe_upper PE.self hbase hline) (pe_mono q fun x H1 ⟨a, e, h, q⟩ => ⟨⟨a, e⟩, a, e, rfl, by omega, q _ (PyProof.Rows.len_upper a)⟩)
/-! ### a number that stands in the module -/
theorem re_gint (c : Ctx X N L k) {x : Str} {i : Int} (h : (x, KN.glob) ∈ L) (hm : ∃ t, X.mg x = some (.int i t)) (q : Q (.int i) H) : RE X (.Name x pos) σ H Q := by
  obtain ⟨t, e⟩ := hm
  exact re_glob (v := .int i) c h e ⟨t, rfl⟩ q
end
/-! ### the first place at fault -/
def ff {α : Type} (p : Nat → α → Bool) : Nat → List α → Option Nat
  | _, [] => none
  | i, x :: r => if p i x = true then some i else ff p (i + 1) r
theorem ff_at {α : Type} {p : Nat → α → Bool} {l : List α} {i : Nat} {x : α} (h : l[i]? = some x) : ff p i (l.drop i) = if p i x = true then some i else ff p (i + 1) (l.drop (i + 1)) := by
  have hi : i < l.length := by
    rcases Nat.lt_or_ge i l.length with z | z
    · exact z
    · rw [List.getElem?_eq_none z] at h; cases h
  rw [List.drop_eq_getElem_cons hi]
  rw [List.getElem?_eq_getElem hi] at h
  rw [Option.some.inj h]
  rfl
theorem ff_end {α : Type} {p : Nat → α → Bool} {l : List α} : ff p l.length (l.drop l.length) = none := by
  rw [List.drop_length]
  rfl
def oI : Option Int → V
  | none => .non
  | some i => .int i
def oN (o : Option Nat) : Option Int := o.map fun n => (n : Int)
end GT
namespace GT
open PySem PySem.Spec PyProof.Rows L2
/-! ### several except clauses, each with the same name -/
abbrev Suite := Addr → Value → Option Addr → TS
/-- the ends of a suite whose name in slot i is gone behind it -/
def Ends.wiped (D : Ends) (i : Nat) : Ends := { nx := fun σ' H' => D.nx (σ'.set i none) H', rt := D.rt, bk := fun σ' H' => D.bk (σ'.set i none) H', ct := fun σ' H' => D.ct (σ'.set i none) H' }
def wManyAs (K : PySem.W.Frag) (i : Nat) (Wout : WX) (D : Ends) : List (Value × Suite) → WX
  | [] => Wout
  | (c, ts) :: r => fun cls d σ H => ∃ b, PySem.W.exmOne K cls c = some b ∧ (b = true → ∀ a, H a = none → ts a cls d (Ends.wiped D i) (σ.set i (some (.ref a))) H) ∧ (b = false → wManyAs K i Wout D r cls d σ H)
inductive HdsAs (X : Cx) (n : Str) : List ExceptHandler → List (Value × Suite) → Prop
  | nil : HdsAs X n [] []
  | cons {x : Str} {c : Value} {ts : Suite} {b₀ : Stmt} {suite : List Stmt} {np pos' : Pos} {hds : List ExceptHandler} {l : List (Value × Suite)} (hc : Names X x c)
      (hsu : ∀ (a : Addr) (oe : Obj) (cls : Value) (d : Option Addr) (pn : List (Addr × Obj)), Zc cls d oe → (∃ vs, oe.data = .fields vs) → PSs (X.suite a ((a, oe) :: pn)) (b₀ :: suite) (ts a cls d)) (r : HdsAs X n hds l) :
      HdsAs X n (.ExceptHandler (some (.Name x np)) (some n) (b₀ :: suite) pos' :: hds) ((c, ts) :: l)
section
variable {X : Cx} {n : Str} {i : Nat} {body : List Stmt} {h₀ : ExceptHandler} {hds : List ExceptHandler} {l : List (Value × Suite)} {pos : Pos} {tb : WX → TS} {Wout : WX}
theorem ps_try_manyAs (hs : X.stack = X.env :: X.outer) (hf : X.env.frame = some X.env.locals) (hN : X.N.Nodup) (hi : X.N[i]? = some n) (hln : X.env.kindOf n = some .local) (tk : Takes X Wout)
    (hb : ∀ (W : WX) (pn : List (Addr × Obj)) (xe : Value → Shared → Prop), Takes (X.tr pn xe) W → PassesOwn (model X.prog X.w) X.A X.env xe → PSs (X.tr pn xe) body (tb W)) (hh : HdsAs X n (h₀ :: hds) l) :
    PS X (.Try body (h₀ :: hds) [] [] pos) (fun D σ H => tb (wManyAs X.K i Wout D l) D σ H) := by
  refine ⟨fun pins s σ H D I h => ?_⟩
  have ok := I.ok
  have hfr : X.A.frames = some (X.env :: X.outer) := by rw [ok.frames, hs]
  have hloc : Loc X.env.scope n := .inl hln
  refine wpAny_Try_except ?_
  refine wpAny_mono ((hb (wManyAs X.K i Wout D l) (X.pn ++ pins) (fun e s₁ => wpAny (model X.prog X.w) X.A (noteFrame e X.env) (fun _ s₂ => wpAny (model X.prog X.w) X.A (setFlight e none) (fun _ s₃ =>
    wpAny (model X.prog X.w) X.A (handleBy e X.env (h₀ :: hds)) (SP X pins D) X.xe s₃) X.xe s₂) X.xe s₁) (fun u s' xx => ?_) PassesOwn.looking).run [] s σ H D (I.toTry _) h) (fun f s1 hsp => ?_) (fun e s1 he => he)
  · obtain ⟨a, B, sI, pins', σ', H', cls, d, rfl, J', nb, up, sky, na, os, ag, w⟩ := xx
    have J : Inv X pins σ' H' sI := J'.ofTry ok
    have sky' : Sky B (X.env :: X.outer) a (Zc cls d) X.env.locals s'.heap := by rw [← hs]; exact sky
    show wpAny (model X.prog X.w) X.A (noteFrame (.ref a) X.env) _ _ _
    refine Sky.land Zc.steady hfr hf sky' fun h3 fl3 up3 => ?_
    have J3 : Inv X pins σ' H' { s' with heap := h3 } := J.landed nb fl3.1 (up.trans up3) os ag
    obtain ⟨oe3, vs3, he3, hz3, hd3⟩ := fl3.there
    have nfr : a ∉ frs (X.env :: X.outer) := fun hm => by
      obtain ⟨_, o', e', hnf⟩ := fl3.2.2.1.mem hm
      rw [he3] at e'
      cases e'
      exact hnf _ hd3
    have nL : a ≠ X.env.locals := fun z => nfr (List.mem_filterMap.mpr ⟨X.env, List.mem_cons_self, by rw [hf, z]⟩)
    have nF : a ∉ X.fs := fun hm => by
      obtain ⟨e, he, q⟩ := List.mem_filterMap.mp hm
      exact nfr (List.mem_filterMap.mpr ⟨e, List.mem_cons_of_mem _ he, q⟩)
    have S3 := J3.suite he3 hd3 na nL nF
    have go : ∀ {hds' : List ExceptHandler} {l' : List (Value × Suite)}, HdsAs X n hds' l' → wManyAs X.K i Wout D l' cls d σ' H' → wpAny (model X.prog X.w) X.A (handleBy (.ref a) X.env hds') (SP X pins D) X.xe { s' with heap := h3 } := by
      intro hds' l' hk
      induction hk with
      | nil =>
        intro w
        refine wpAny_handleBy_nil ?_
        obtain ⟨k1, k2, k3, oe, vs, T, oT, ts', he, hz, hd, h1, hr⟩ := id fl3
        unfold PySem.passOn
        refine wpAny_bind (wpAny_field he hd h1 ?_)
        rw [if_neg (show ¬ ((Value.ref T == Value.none) = true) from by simp)]
        have fin : wpAny (model X.prog X.w) X.A (setFlight (.ref a) X.env.frame) (fun _ s4 => wpAny (model X.prog X.w) X.A (throw (.ref a) : Sem Flow) (SP X pins D) X.xe s4) X.xe { s' with heap := h3 } := by
          rw [hf]
          refine HandSPX.setFlight_upZ fl3 fun h4 hh4 up4 => wpAny_throw (tk _ _ ?_)
          exact ⟨a, B, sI, pins, σ', H', cls, d, rfl, J, nb, (up.trans up3).trans up4, .inr (.inr (by rw [hs]; exact hh4)), na, os, ag, w⟩
        first
          | exact wpAny_bind (wpAny_pure (wpAny_bind fin))
          | exact wpAny_bind fin
      | @cons x c ts b₀ suite np pos' hds2 l2 hc hsu r ih =>
        intro w
        obtain ⟨b, hb1, hyes, hno⟩ := w
        refine wpAny_handleBy_cons (codeAny_handlers_test ?_) (by intro q; cases q)
        have LT : PySem.W.Looks (model X.prog X.w) h3 (typeOf (.ref a)) cls := fun A Q E s k q => wpAny_typeOf_ref (k _ _ he3) (by rw [hz3.1]; exact q)
        have LM := PySem.W.exm_one (M := model X.prog X.w) (J3.kIn) LT hb1
        have test : ∀ {Q : Value → Shared → Prop} {E : Value → Shared → Prop}, Q c { s' with heap := h3 } → wpAny (model X.prog X.w) (X.A.mark (some (.ref a))) (eval (.Name x np) X.env) Q E { s' with heap := h3 } := fun {Q E} q => by
          obtain ⟨hg, hdbg, hm | ⟨hm, hv, hnn⟩⟩ := hc
          · exact ld_glob (X := X.suite a ((a, oe3) :: (X.pn ++ pins))) S3 hg hm q hdbg
          · exact ld_blt (X := X.suite a ((a, oe3) :: (X.pn ++ pins))) S3 hg hm hv q hnn hdbg
        refine test (LM.here ?_)
        cases b with
        | true =>
          refine codeAny_handlers_suite_as ?_
          refine HandSPX.lands_againZ fl3 fun h4 fl4 up4 => ?_
          have J4 : Inv X pins σ' H' { s' with heap := h4 } := J.landed nb fl4.1 ((up.trans up3).trans up4) os ag
          obtain ⟨oe4, vs4, he4, hz4, hd4⟩ := fl4.there
          have S4 := J4.suite he4 hd4 na nL nF
          refine store_ok (X := X.suite a ((a, oe4) :: (X.pn ++ pins))) (v := .ref a) S4 hN hi hloc rfl (fun s5 S5 => ?_) (.inr hln)
          refine wpAny_mono ((hsu a oe4 cls d (X.pn ++ pins) hz4 ⟨_, hd4⟩).run [] s5 _ H' _ S5 (hyes rfl a na)) (fun f s6 hsp => ?_) (fun _ _ z => False.elim z)
          have fin : ∀ {σ6 : L2.St} {H6 : Hp} {Q : Shared → Prop}, Inv (X.suite a ((a, oe4) :: (X.pn ++ pins))) [] σ6 H6 s6 → (∀ s7, Inv X pins (σ6.set i none) H6 s7 → Q s7) →
              wpAny (model X.prog X.w) X.A (do bindName X.env n .none; unbindBehindTheSuite X.env n pos') (fun _ s7 => Q s7) X.xe s6 := fun {σ6 H6 Q} S6 hq => gone_ok (S6.unsuite ok) hN hi hln hq
          cases f with
          | ret u =>
            obtain ⟨v6, σ6, H6, S6, r6, q6⟩ := hsp
            exact fin S6 fun s7 J7 => ⟨_, _, _, J7, r6, q6⟩
          | _ =>
            obtain ⟨σ6, H6, S6, q6⟩ := hsp
            exact fin S6 fun s7 J7 => ⟨_, _, J7, q6⟩
        | false =>
          show wpAny _ X.A (handleBy (.ref a) X.env hds2) _ _ _
          exact ih (hno rfl)
    exact go hh w
  · cases f with
    | next =>
      obtain ⟨σ', H', J', q⟩ := hsp
      exact wpAny_execs_nil ⟨σ', H', J'.ofTry ok, q⟩
    | ret u =>
      obtain ⟨v, σ', H', J', r, q⟩ := hsp
      exact ⟨v, σ', H', J'.ofTry ok, r, q⟩
    | _ =>
      obtain ⟨σ', H', J', q⟩ := hsp
      exact ⟨σ', H', J'.ofTry ok, q⟩
end
section
variable {X : Cx} {σ : L2.St} {H : Hp} {N : List Str} {L Lc : List (Str × KN)} {k : Nat} {pos p0 p1 p2 p3 : Pos} {Q : VK} {D : Ends}
/-- try: body, except x as n: suite, except x' as n: suite' (both end by return); q1, q2 tell what is asked where the one or the other catches -/
theorem rs_try_as2 (c : CtxS X N L) (hs : X.stack = X.env :: X.outer) (hf : X.env.frame = some X.env.locals) {x x' n : Str} {c0 c1 : Value} {b₀ b₁ : Stmt} {body suite suite' : List Stmt} {np np' pos' pos'' : Pos} (hn : (n, KN.loc) ∈ L) (mn : n ∈ N) (hc : Names X x c0) (hc' : Names X x' c1)
    (q : ∀ (pn : List (Addr × Obj)) (xe : Value → Shared → Prop) (W : WX), Takes (X.tr pn xe) W → PassesOwn (model X.prog X.w) X.A X.env xe →
      (∀ (cls : Value) (d : Option Addr) (σ' : L2.St) (H' : Hp) (st : List Stmt), ((PySem.W.exmOne X.K cls c0 = some true ∧ st = b₀ :: suite) ∨ (PySem.W.exmOne X.K cls c0 = some false ∧ PySem.W.exmOne X.K cls c1 = some true ∧ st = b₁ :: suite')) →
        (∀ (a : Addr) (oe : Obj) (pn2 : List (Addr × Obj)) (nx bk ct : L2.St → Hp → Prop) (σa : L2.St), H' a = none → (∀ i : Nat, N[i]? = some n → σa = σ'.set i (some (.ref a))) → σ'.length = N.length → Zc cls d oe → (∃ vs, oe.data = .fields vs) → CtxS (X.suite a ((a, oe) :: pn2)) N L →
          RB (X.suite a ((a, oe) :: pn2)) st { nx := nx, rt := D.rt, bk := bk, ct := ct } σa H') → W cls d σ' H') →
      RB (X.tr pn xe) body D σ H) :
    RS X (.Try body [.ExceptHandler (some (.Name x np)) (some n) (b₀ :: suite) pos', .ExceptHandler (some (.Name x' np')) (some n) (b₁ :: suite') pos''] [] [] pos) D σ H := by
  obtain ⟨i, h1⟩ := List.mem_iff_getElem?.mp mn
  have su : ∀ (bb : Stmt) (ss : List Stmt) (a : Addr) (oe : Obj) (cls : Value) (d : Option Addr) (pn : List (Addr × Obj)), Zc cls d oe → (∃ vs, oe.data = .fields vs) →
      PSs (X.suite a ((a, oe) :: pn)) (bb :: ss) (fun D σ H => ∀ (oe : Obj) (pn2 : List (Addr × Obj)), σ.length = N.length → Zc cls d oe → (∃ vs, oe.data = .fields vs) → RB (X.suite a ((a, oe) :: pn2)) (bb :: ss) D σ H) := fun bb ss a oe cls d pn hz hd =>
    ⟨fun pins s σ H D I h => PSs.self.run pins s σ H D I (h oe pn (by rw [I.len, ← c.n]) hz hd)⟩
  refine rs_of (ps_try_manyAs (i := i) (n := n) (Wout := fun _ _ _ _ => False) (tb := fun W D σ H => ∀ (pn : List (Addr × Obj)) (xe : Value → Shared → Prop), Takes (X.tr pn xe) W → PassesOwn (model X.prog X.w) X.A X.env xe → RB (X.tr pn xe) body D σ H)
    (l := [(c0, fun a cls d D σ H => ∀ (oe : Obj) (pn2 : List (Addr × Obj)), σ.length = N.length → Zc cls d oe → (∃ vs, oe.data = .fields vs) → RB (X.suite a ((a, oe) :: pn2)) (b₀ :: suite) D σ H), (c1, fun a cls d D σ H => ∀ (oe : Obj) (pn2 : List (Addr × Obj)), σ.length = N.length → Zc cls d oe → (∃ vs, oe.data = .fields vs) → RB (X.suite a ((a, oe) :: pn2)) (b₁ :: suite') D σ H)])
    hs hf (by rw [c.n]; exact c.nd) (by rw [c.n]; exact h1) (c.look _ hn) takes0 (fun W pn xe tk po => ?_) (.cons hc (su b₀ suite) (.cons hc' (su b₁ suite') .nil))) ?_
  · exact ⟨fun pins s σ H D I h => PSs.self.run pins s σ H D I (h pn xe tk po)⟩
  · intro pn xe tk po
    refine q pn xe _ tk po fun cls d σ' H' st hst r => ?_
    rcases hst with ⟨e, rfl⟩ | ⟨e, e2, rfl⟩
    · refine ⟨true, e, fun _ a ha oe pn2 hl hz hd => ?_, fun z => nomatch z⟩
      exact r a oe pn2 _ _ _ _ ha (fun j hj => by rw [nodup_ix c.nd hj h1]) (by simpa using hl) hz hd ⟨c.n, c.nd, c.look, c.dbg⟩
    · refine ⟨false, e, (fun z => nomatch z), fun _ => ⟨true, e2, fun _ a ha oe pn2 hl hz hd => ?_, fun z => nomatch z⟩⟩
      exact r a oe pn2 _ _ _ _ ha (fun j hj => by rw [nodup_ix c.nd hj h1]) (by simpa using hl) hz hd ⟨c.n, c.nd, c.look, c.dbg⟩
/-- math.gcd by its name -/
theorem re_gcd (c : Ctx X N L k) {x : Str} {e : Expr} {es : List Expr} (h : (x, KN.glob) ∈ L) (hm : X.mg x = some (.builtin "math.gcd")) (q : RA X (e :: es) σ H fun vs H1 => ∃ a b : Int, vs = [.int a, .int b] ∧ Q (.int ((Nat.gcd a.natAbs b.natAbs : Nat) : Int)) H1)
    (he : starEach (e :: es) X.env = (false, eval e X.env) :: starEach es X.env := by with_unfolding_all rfl) (hpl : (backTo pos (starEach es X.env)).any (·.1) = false := by with_unfolding_all rfl) : RE X (.Call (.Name x p0) (e :: es) [] pos) σ H Q :=
  re_of (pe_callBfun cr_gcd (c.gl h) hm PA.self (c.d1 h) he hpl) q
/-- f() -/
theorem re_call0 (c : Ctx X N L k) {x : Str} {n : Nat} {sp : Sp} (F : DefP X.prog X.w X.K X.mg X.base CX0 x [] n sp) (hn : n ≤ k) (h : (x, KN.glob) ∈ L) (q : sp [] H Q E0) : RE X (.Call (.Name x p0) [] [] pos) σ H Q := by
  obtain ⟨f, fd, F1, m, kp, b⟩ := F.ex
  exact re_of (pe_call0 F1 (c.room.mono hn) (c.gl h) m kp b .nil pass0 (c.d1 h)) q
end
end GT
namespace GT
open PySem PySem.Spec PyProof.Rows L2
/-- what holds something -/
def Old (H : Hp) : Addr → Prop := fun a => H a ≠ none
theorem Fr.sub {B B' : Addr → Prop} {H H' : Hp} (f : Fr B H H') (s : ∀ a, B a → B' a) : Fr B' H H' := fun a o n e => f a o (fun z => n (s a z)) e
theorem Fr.old {H H' : Hp} (f : Fr NoB H H') {a : Addr} (h : Old H a) : Old H' a := fun e => h (f.free e)
theorem old_box {H : Hp} {b : Addr} (h : BoxAt H b) : Old H b := by
  obtain ⟨g, r, h1, _⟩ := h
  intro e
  rw [h1] at e
  cases e
theorem old_at {H : Hp} {b : Addr} {o : HO} (h : H b = some o) : Old H b := fun e => by rw [h] at e; cases e
theorem Dts.mono {K : PySem.W.Frag} {B B' : Addr → Prop} {H : Hp} {vs : List V} {ds : List D} (h : Dts K B H vs ds) (s : ∀ a, B' a → B a) : Dts K B' H vs ds := ⟨h.1, fun i v d a b => (h.2 i v d a b).mono s⟩
theorem dep_up {n : Nat} {d : D} (h : Dep n d) : ∀ m, n ≤ m → Dep m d := by
  induction h with
  | non => exact fun _ _ => .non
  | bl => exact fun _ _ => .bl
  | int => exact fun _ _ => .int
  | str => exact fun _ _ => .str
  | lst _ ih =>
    intro m hm
    obtain ⟨k, rfl⟩ : ∃ k, m = k + 1 := ⟨m - 1, by omega⟩
    exact .lst fun d hd => ih d hd k (by omega)
  | tup _ ih =>
    intro m hm
    obtain ⟨k, rfl⟩ : ∃ k, m = k + 1 := ⟨m - 1, by omega⟩
    exact .tup fun d hd => ih d hd k (by omega)
theorem dts_set {K : PySem.W.Frag} {B : Addr → Prop} {H : Hp} {vs : List V} {ds : List D} {v : V} {d : D} {j : Nat} (h : Dts K B H vs ds) (hv : Dt K B H v d) : Dts K B H (vs.set j v) (ds.set j d) := by
  refine ⟨by rw [List.length_set, List.length_set, h.1], fun i u e h1 h2 => ?_⟩
  rw [List.getElem?_set] at h1 h2
  by_cases z : j = i
  · subst z
    rw [if_pos rfl] at h1 h2
    split at h1
    · split at h2
      · cases h1
        cases h2
        exact hv
      · cases h2
    · cases h1
  · rw [if_neg z] at h1 h2
    exact h.2 i u e h1 h2
theorem dts_app {K : PySem.W.Frag} {B : Addr → Prop} {H : Hp} {vs ws : List V} {ds es : List D} (h : Dts K B H vs ds) (g : Dts K B H ws es) : Dts K B H (vs ++ ws) (ds ++ es) := by
  refine ⟨by rw [List.length_append, List.length_append, h.1, g.1], fun i u e h1 h2 => ?_⟩
  rcases Nat.lt_or_ge i vs.length with z | z
  · rw [List.getElem?_append_left z] at h1
    rw [List.getElem?_append_left (by rw [← h.1]; exact z)] at h2
    exact h.2 i u e h1 h2
  · rw [List.getElem?_append_right z] at h1
    rw [List.getElem?_append_right (by rw [← h.1]; exact z), ← h.1] at h2
    exact g.2 _ u e h1 h2
theorem dts_strs {K : PySem.W.Frag} {B : Addr → Prop} {H : Hp} : ∀ ls : List Str, Dts K B H (ls.map V.str) (ls.map D.str)
  | [] => .nil
  | _ :: r => .cons .str (dts_strs r)
theorem dep_strs {n : Nat} {ls : List Str} : ∀ d ∈ ls.map D.str, Dep n d := fun d hd => by
  obtain ⟨s, _, rfl⟩ := List.mem_map.mp hd
  exact .str
/-! ### displays of constants -/
inductive DE : Expr → D → Prop
  | non {j : Nat} {p : Pos} : DE (.Constant .none j p) .non
  | bl {b : Bool} {j : Nat} {p : Pos} : DE (.Constant (.bool b) j p) (.bl b)
  | int {i : Int} {j : Nat} {p : Pos} : DE (.Constant (.int i) j p) (.int i)
  | str {s : Str} {j : Nat} {p : Pos} : DE (.Constant (.str s) j p) (.str s)
  | neg {i : Int} {j : Nat} {p p' : Pos} : DE (.UnaryOp .USub (.Constant (.int i) j p) p') (.int (-i))
  | sub {a b : Expr} {i j : Int} {p : Pos} (h1 : DE a (.int i)) (h2 : DE b (.int j)) : DE (.BinOp a .Sub b p) (.int (i - j))
  | add {a b : Expr} {i j : Int} {p : Pos} (h1 : DE a (.int i)) (h2 : DE b (.int j)) : DE (.BinOp a .Add b p) (.int (i + j))
  | mul {a : Expr} {i j : Int} {n : Nat} {p p' : Pos} (h1 : DE a (.int i)) (h2 : -(2 ^ 64) < j ∧ j < 2 ^ 64) : DE (.BinOp a .Mult (.Constant (.int j) n p') p) (.int (i * j))
  | pow {a b : Expr} {i j : Int} {p : Pos} (h1 : DE a (.int i)) (h2 : DE b (.int j)) (hc : CPow i j) : DE (.BinOp a .Pow b p) (.int (i ^ j.toNat))
  | tup {es : List Expr} {ds : List D} {k : Nat} {p : Pos} (hl : es.length = ds.length) (h1 : ds.length ≤ 1000) (h : ∀ (i : Nat) e d, es[i]? = some e → ds[i]? = some d → DE e d) : DE (.Tuple es k p) (.tup ds)
  | lst {es : List Expr} {ds : List D} {p : Pos} (hl : es.length = ds.length) (h1 : ds.length ≤ 1000) (h : ∀ (i : Nat) e d, es[i]? = some e → ds[i]? = some d → DE e d) : DE (.List es p) (.lst ds)
inductive DEs : List Expr → List D → Prop
  | nil : DEs [] []
  | cons {e : Expr} {d : D} {es : List Expr} {ds : List D} (h : DE e d) (t : DEs es ds) : DEs (e :: es) (d :: ds)
theorem DEs.len {es : List Expr} {ds : List D} (h : DEs es ds) : es.length = ds.length := by
  induction h with
  | nil => rfl
  | cons _ _ ih => rw [List.length_cons, List.length_cons, ih]
theorem DEs.at_ {es : List Expr} {ds : List D} (h : DEs es ds) : ∀ (i : Nat) e d, es[i]? = some e → ds[i]? = some d → DE e d := by
  induction h with
  | nil => intro i e d h; simp at h
  | cons h0 _ ih =>
    intro i e d h1 h2
    cases i with
    | zero =>
      cases h1
      cases h2
      exact h0
    | succ i => exact ih i e d (by simpa using h1) (by simpa using h2)
theorem DE.tupS {es : List Expr} {ds : List D} {k : Nat} {p : Pos} (h : DEs es ds) (h1 : ds.length ≤ 1000) : DE (.Tuple es k p) (.tup ds) := .tup h.len h1 h.at_
theorem DE.lstS {es : List Expr} {ds : List D} {p : Pos} (h : DEs es ds) (h1 : ds.length ≤ 1000) : DE (.List es p) (.lst ds) := .lst h.len h1 h.at_
theorem DE.star {e : Expr} {d : D} (h : DE e d) (es : List Expr) (env : Env) : starEach (e :: es) env = (false, eval e env) :: starEach es env := by
  cases h <;> rfl
section
variable {X : Cx}
theorem ra_de {es : List Expr} {ds : List D} (hl : es.length = ds.length) (ih : ∀ (i : Nat) e d, es[i]? = some e → ds[i]? = some d → DE e d ∧ ∀ (σ : L2.St) (H : Hp) (Q : VK), (∀ v H', Fr NoB H H' → Dt X.K (Old H) H' v d → Q v H') → RE X e σ H Q) :
    ∀ (σ : L2.St) (H : Hp) (Q : List V → Hp → Prop), (∀ vs H', Fr NoB H H' → Dts X.K (Old H) H' vs ds → Q vs H') → RA X es σ H Q := by
  induction es generalizing ds with
  | nil =>
    intro σ H Q q
    cases ds with
    | nil => exact ra_nil (q [] H Fr.refl .nil)
    | cons d r => cases hl
  | cons e es ihl =>
    intro σ H Q q
    cases ds with
    | nil => cases hl
    | cons d r =>
      obtain ⟨h0, r0⟩ := ih 0 e d rfl rfl
      refine ra_cons (r0 σ H _ fun v H1 f1 d1 => ?_) (h0.star _ _)
      refine ihl (ds := r) (by simpa using hl) (fun i e' d' a b => ih (i + 1) e' d' (by simpa using a) (by simpa using b)) σ H1 _ fun vs H2 f2 d2 => ?_
      exact q _ H2 (f1.trans f2) (.cons (d1.fr f2.any) (d2.mono fun a h => f1.old h))
theorem re_de {e : Expr} {d : D} (h : DE e d) : ∀ (σ : L2.St) (H : Hp) (Q : VK), (∀ v H', Fr NoB H H' → Dt X.K (Old H) H' v d → Q v H') → RE X e σ H Q := by
  induction h with
  | non => exact fun σ H Q q => re_non (q _ H Fr.refl .non)
  | bl => exact fun σ H Q q => re_bl (q _ H Fr.refl .bl)
  | int => exact fun σ H Q q => re_int (q _ H Fr.refl .int)
  | str => exact fun σ H Q q => re_str (q _ H Fr.refl .str)
  | neg => exact fun σ H Q q => re_neg (re_int ⟨_, rfl, q _ H Fr.refl .int⟩)
  | sub _ _ i1 i2 =>
    intro σ H Q q
    refine re_bin (i1 σ H _ fun v H1 f1 d1 => i2 σ H1 _ fun w H2 f2 d2 => ?_)
    cases d1
    cases d2
    exact ov_sub (q _ H2 (f1.trans f2) .int)
  | add _ _ i1 i2 =>
    intro σ H Q q
    refine re_bin (i1 σ H _ fun v H1 f1 d1 => i2 σ H1 _ fun w H2 f2 d2 => ?_)
    cases d1
    cases d2
    exact ov_add (q _ H2 (f1.trans f2) .int)
  | mul _ h2 i1 =>
    intro σ H Q q
    refine re_bin (i1 σ H _ fun v H1 f1 d1 => re_int ?_)
    cases d1
    exact ov_mulR h2 (q _ H1 f1 .int)
  | pow _ _ hc i1 i2 =>
    intro σ H Q q
    refine re_bin (i1 σ H _ fun v H1 f1 d1 => i2 σ H1 _ fun w H2 f2 d2 => ?_)
    cases d1
    cases d2
    exact ov_pow hc (q _ H2 (f1.trans f2) .int)
  | @tup es ds k p hl h1 h ih =>
    intro σ H Q q
    refine re_tup (ra_de hl (fun i e d a b => ⟨h i e d a b, ih i e d a b⟩) σ H _ fun vs H1 f1 d1 => ⟨by rw [d1.1]; exact Nat.le_trans h1 (by decide), fun a ha => ?_⟩)
    exact q _ _ (f1.trans (Fr.new ha)) (Dt.newT ha (fun z => f1.old z ha) d1)
  | @lst es ds p hl h1 h ih =>
    intro σ H Q q
    refine re_lst (ra_de hl (fun i e d a b => ⟨h i e d a b, ih i e d a b⟩) σ H _ fun vs H1 f1 d1 => ⟨by rw [d1.1]; exact Nat.le_trans h1 (by decide), fun a ha => ?_⟩)
    exact q _ _ (f1.trans (Fr.new ha)) (Dt.newL ha (fun z => f1.old z ha) d1)
/-- a list of constants -/
theorem re_dataL {es : List Expr} {ds : List D} {p : Pos} (h : DEs es ds) (h1 : ds.length ≤ 1000) {σ : L2.St} {H : Hp} {Q : VK} (q : ∀ a vs H', H a = none → Fr NoB H H' → H' a = some (.lst vs) → Dts X.K (Old H) H' vs ds → Q (.ref a) H') : RE X (.List es p) σ H Q := by
  refine re_lst (ra_de h.len (fun i e d a b => ⟨h.at_ i e d a b, re_de (h.at_ i e d a b)⟩) σ H _ fun vs H1 f1 d1 => ⟨by rw [d1.1]; exact Nat.le_trans h1 (by decide), fun a ha => ?_⟩)
  exact q a vs _ (f1.free ha) (f1.trans (Fr.new ha)) upd_same (d1.fr (Fr.new ha))
end
/-! ### // by any number but nought -/
section
variable {X : Cx} {H : Hp} {Q : VK}
theorem op_fdivX : OpR X (binaryOp .FloorDiv) (rI (fun _ j => j ≠ 0 ∧ j.natAbs.log2 < 9000) fun i j => .int (i.fdiv j)) := opI fun _ _ _ _ _ _ _ hc q => floordiv_int hc.1 q (.inl (PyProof.noPylong_of_log2 hc.2))
theorem ov_fdivX {i j : Int} {b : Nat} (h : j ≠ 0) (hb : j.natAbs < 2 ^ b) (h0 : 0 < b) (h9 : b ≤ 9000) (q : Q (.int (i.fdiv j)) H) : OpV X .FloorDiv (.int i) (.int j) H Q :=
  ⟨⟨_, op_fdivX, i, j, rfl, rfl, ⟨h, Nat.lt_of_lt_of_le (PySem.Flt.log2_lt_of h0 hb) h9⟩, q⟩⟩
end
end GT
namespace GT
open PySem PySem.Spec PyProof.Rows L2
section
variable {X : Cx} {σ : L2.St} {H H1 : Hp} {N : List Str} {L Lc : List (Str × KN)} {k : Nat} {pos p0 p1 p2 p3 pe : Pos} {Q : VK} {D : Ends} {scope : Scope} {x : Str} {elt t : Expr} {ifs : List Expr} {a p : Addr} {xs : List V}
/-- e[::-1], e a list -/
theorem re_revL {e : Expr} {k : Nat} (q : RE X e σ H fun x H1 => ∃ a xs, x = .ref a ∧ SqL X.K H1 a xs ∧ ∀ p, H1 p = none → Q (.ref p) (upd H1 p (.lst xs.reverse))) :
    RE X (.Subscript e (.Slice none none (some (.UnaryOp .USub (.Constant (.int 1) k p1) p2)) p3) pos) σ H Q := re_of (pe_revL PE.self) q
/-- t[lo:] of a tuple -/
theorem sv_tupD (h : SqT X.K H p xs) {lo : Nat} (h2 : lo ≤ xs.length) (q1 : lo = 0 → Q (.ref p) H) (q : lo ≠ 0 → ∀ l, H l = none → Q (.ref l) (upd H l (.tup (xs.drop lo)))) : SlV X (.ref p) (some (lo : Int)) none H Q := by
  refine ⟨⟨_, sl_tupA, p, xs, rfl, h, fun z => ?_, fun z l hl => ?_⟩⟩
  · have := z.1
    rw [HT.sIx_nat] at this
    exact q1 (by omega)
  · have z2 : lo ≠ 0 := fun e => z ⟨by rw [HT.sIx_nat, e]; simp, HT.sIx_none _ _⟩
    have e : cutV xs (some (lo : Int)) none = xs.drop lo := by
      show (xs.drop (HT.sIx xs.length 0 (some (lo : Int)))).take (HT.sIx xs.length xs.length none - HT.sIx xs.length 0 (some (lo : Int))) = _
      rw [HT.sIx_nat, HT.sIx_none, Nat.min_eq_left h2]
      exact List.take_of_length_le (by rw [List.length_drop]; exact Nat.le_refl _)
    rw [e]
    exact q z2 l hl
/-- [.. for x in z], z a tuple -/
theorem re_lc_tup (c : Ctx X N L k) (Lc : List (Str × KN)) (hok : lcOk N L scope Lc x = true) {l : Expr}
    (q : RE X l σ H fun v H1 => ∃ a xs, v = .ref a ∧ SqT X.K H1 a xs ∧ CTurns X N Lc k scope x elt ifs (fun H => SqT X.K H a xs) xs.length (fun i y => xs[i]? = some y) σ H1 Q)
    (hs : ∀ x, foldedSetIterable l X.env x = pure x := by intro _; with_unfolding_all rfl) : RE X (.ListComp elt [⟨.Name x p0, l, ifs, 0⟩] scope pos) σ H Q := by
  obtain ⟨S, hx, hl, ok⟩ := lcOk_of c hok
  obtain ⟨i, hput, bk, g⟩ := blk_at (p0 := p0) c S hx hl ok
  refine re_of (pe_lc c.calm c.nodup (pi_tup PE.self) bk g (fun s H C cl fp => PTs.rta c S s H C cl fp) (fun s H C cl fp => PE.rea c S s H C cl fp) hs) ?_
  refine pe_mono q fun v H1 ⟨a, xs, e, h1, q1⟩ => ⟨a, e, ⟨xs, h1⟩, lc_go hput walk_tup q1⟩
/-- y = [.. for x in z] on one line, z a tuple -/
theorem rs_lc_tup (c : Ctx X N L k) (Lc : List (Str × KN)) (hok : lcOk N L scope Lc x = true) {l : Expr} {y : Str} {py cp : Pos} (hy : (y, KN.loc) ∈ L) (my : y ∈ N)
    (q : RE X l σ H fun v H1 => ∃ a xs, v = .ref a ∧ SqT X.K H1 a xs ∧ CTurns X N Lc k scope x elt ifs (fun H => SqT X.K H a xs) xs.length (fun i y => xs[i]? = some y) σ H1 fun v H2 => ∃ σ', Put N σ y v σ' ∧ D.nx σ' H2)
    (hln : (py.line == cp.line) = true := by with_unfolding_all rfl) (ha : (scope.names.any fun (n, k) => n == y && (k == .local || k == .cell)) = false := by decide +kernel)
    (hs : ∀ x, foldedSetIterable l X.env x = pure x := by intro _; with_unfolding_all rfl) : RS X (.Assign [.Name y py] (.ListComp elt [⟨.Name x p0, l, ifs, 0⟩] scope cp) pos) D σ H := by
  obtain ⟨S, hx, hl, ok⟩ := lcOk_of c hok
  obtain ⟨i, hput, bk, g⟩ := blk_at (p0 := p0) c S hx hl ok
  obtain ⟨i2, h1, h2⟩ := c.put my
  refine rs_of (ps_setLc (i := i2) c.calm c.nodup h1 (c.lcl hy) (sw_true c.kind (c.lcl hy) hln ha) (pi_tup PE.self) bk g (fun s H C cl fp => PTs.rta c S s H C cl fp) (fun s H C cl fp => PE.rea c S s H C cl fp) hs) ?_
  refine pe_mono q fun v H1 ⟨a, xs, e, h1, q1⟩ => ⟨a, e, ⟨xs, h1⟩, lc_go hput (walk_tup (xs := xs)) (Q := fun v H1 => D.nx (σ.set i2 (some v)) H1) (fun Dn hD => ?_ : CTurns X N Lc k scope x elt ifs (fun H => SqT X.K H a xs) xs.length (fun i y => xs[i]? = some y) σ H1 fun v H1 => D.nx (σ.set i2 (some v)) H1)⟩
  obtain ⟨Pv, a1, a2, a3, a4⟩ := q1 Dn hD
  refine ⟨Pv, a1, a2, a3, fun H2 hp => ?_⟩
  obtain ⟨σ', p, d⟩ := a4 H2 hp
  rw [h2 p] at d
  exact d
/-- [x for x in xs if t], told by how the walked thing stands -/
theorem cturns_filterS {stand : Hp → Prop} {f : V → Bool} (hl : xs.length < sizeLine) (hs : ∀ H', Fr NoB H1 H' → stand H') (hx : (x, KN.loc) ∈ Lc) {σf : V → L2.St} (hp : ∀ y, Put N σ x y (σf y))
    (ht : ∀ (y : V) (H' : Hp), y ∈ xs → Fr NoB H1 H' → ∀ (s : Shared) (Hb : Hp) (C : Addr) (cl : List (Str × Addr)) (fp : List Addr), Ctx (X.blk s Hb scope (compEnvC scope cl C X.env) fp) N Lc k →
      RT (X.blk s Hb scope (compEnvC scope cl C X.env) fp) t (σf y) H' fun b H'' => b = f y ∧ Fr NoB H' H'')
    (q : ∀ (Dn : Addr) (H' : Hp), H1 Dn = none → Fr NoB H1 H' → H' Dn = some (.lst (xs.filter f)) → Q (.ref Dn) H') :
    CTurns X N Lc k scope x (.Name x pe) [t] stand xs.length (fun i y => xs[i]? = some y) σ H1 Q := by
  intro Dn hD
  refine ⟨fun i H' => H' Dn = some (.lst ((xs.take i).filter f)) ∧ Fr NoB H1 H', ⟨upd_same, Fr.new hD⟩, fun i H _ h => hs H h.2, ?_, ?_⟩
  · rintro i y H' hi hy ⟨h1, h2⟩
    refine ⟨σf y, hp y, fun s Hb C cl fp cb => rts_one (rt_mono (ht y H' (List.mem_of_getElem? hy) h2 s Hb C cl fp cb) ?_)⟩
    rintro b H'' ⟨e, f2⟩
    have e2 := f2 Dn _ (fun z => z) h1
    cases hb : f y with
    | false =>
      rw [e, hb]
      refine iteF ⟨?_, h2.trans f2⟩
      rw [filter_succ hy, hb, e2]
      simp
    | true =>
      rw [e, hb]
      refine iteT fun s Hb C cl fp cb => re_name cb (hp y).slot hx .loc ?_
      have hlen : ((xs.take i).filter f).length < sizeLine := Nat.lt_of_le_of_lt (Nat.le_trans (List.length_filter_le _ _) (by rw [List.length_take]; omega)) hl
      refine ⟨_, e2, hlen, ?_, (h2.trans f2).put hD⟩
      rw [upd_same, filter_succ hy, hb]
      rfl
  · rintro H' ⟨h1, h2⟩
    rw [List.take_length] at h1
    exact q Dn H' hD h2 h1
/-- [c for x in xs], c a constant that changes nothing -/
theorem cturns_const {stand : Hp → Prop} {n : Nat} {it : Nat → V → Prop} {w : V} (hl : n < sizeLine) (hs : ∀ H', Fr NoB H1 H' → stand H') {σf : V → L2.St} (hp : ∀ y, Put N σ x y (σf y))
    (he : ∀ (Y : Cx) (σ : L2.St) (H : Hp) (Q : VK), Q w H → RE Y elt σ H Q) (q : ∀ (Dn : Addr) (H' : Hp), H1 Dn = none → Fr NoB H1 H' → H' Dn = some (.lst (List.replicate n w)) → Q (.ref Dn) H') :
    CTurns X N Lc k scope x elt [] stand n it σ H1 Q := by
  intro Dn hD
  refine ⟨fun i H' => H' Dn = some (.lst (List.replicate i w)) ∧ Fr NoB H1 H', ⟨upd_same, Fr.new hD⟩, fun i H _ h => hs H h.2, ?_, fun H' h => q Dn H' hD h.2 h.1⟩
  rintro i y H' hi hy ⟨h1, h2⟩
  refine ⟨σf y, hp y, fun s Hb C cl fp cb => rts_nil (iteT fun s Hb C cl fp cb => he _ _ _ _ ?_)⟩
  refine ⟨_, h1, by rw [List.length_replicate]; omega, ?_, h2.put hD⟩
  rw [upd_same, List.replicate_succ']
theorem swapped_folded3 {x y z : Expr} {a b d : Expr} {kt k2 : Nat} {q1 q2 : Pos} {env : Env} (h : [a, b, d].all (foldedForSure 8) = true) : swappedStores [.Tuple [x, y, z] kt q1] (.Tuple [a, b, d] k2 q2) env = pure none := by
  unfold swappedStores
  dsimp only
  rw [h]
  repeat' first
    | rfl
    | (rename_i hh _; exact absurd rfl hh)
    | split
/-- x, y, z = e, e of three -/
theorem rs_tup3 (c : Ctx X N L k) {x y z : Str} {e : Expr} {j j' j2 : KN} {kt : Nat} {q0 q1 q2 q3 : Pos} (h : (x, j) ∈ L) (m : Own j) (hx : x ∈ N) (h' : (y, j') ∈ L) (m' : Own j') (hy : y ∈ N) (h2 : (z, j2) ∈ L) (m2 : Own j2) (hz : z ∈ N) {D : Ends}
    (q : RE X e σ H fun w H1 => ∃ t u v r, w = .ref t ∧ SqT X.K H1 t [u, v, r] ∧ ∃ σ' σ'' σ3, Put N σ x u σ' ∧ Put N σ' y v σ'' ∧ Put N σ'' z r σ3 ∧ D.nx σ3 H1)
    (hw : swappedStores [.Tuple [.Name x q0, .Name y q1, .Name z q2] kt q3] e X.env = pure none) (hs : swapsWithSole [.Tuple [.Name x q0, .Name y q1, .Name z q2] kt q3] e pos.line X.env = pure false := by with_unfolding_all rfl)
    (h1 : (assignEach [.Tuple [.Name x q0, .Name y q1, .Name z q2] kt q3] X.env).map (·.2) = [assign (.Tuple [.Name x q0, .Name y q1, .Name z q2] kt q3) X.env] := by with_unfolding_all rfl)
    (hn : (assignEach [.Name x q0, .Name y q1, .Name z q2] X.env).length = 3 := by with_unfolding_all rfl) (hst : (assignEach [.Name x q0, .Name y q1, .Name z q2] X.env).findIdx? (·.1) = none := by with_unfolding_all rfl)
    (ha : (assignEach [.Name x q0, .Name y q1, .Name z q2] X.env).map (·.2) = assign (.Name x q0) X.env :: (assignEach [.Name y q1, .Name z q2] X.env).map (·.2) := by with_unfolding_all rfl) (hb : (assignEach [.Name y q1, .Name z q2] X.env).map (·.2) = assign (.Name y q1) X.env :: (assignEach [.Name z q2] X.env).map (·.2) := by with_unfolding_all rfl)
    (hd : (assignEach [.Name z q2] X.env).map (·.2) = assign (.Name z q2) X.env :: (assignEach [] X.env).map (·.2) := by with_unfolding_all rfl) :
    RS X (.Assign [.Tuple [.Name x q0, .Name y q1, .Name z q2] kt q3] e pos) D σ H := by
  obtain ⟨i, g, e2⟩ := c.pg (p0 := q0) h m hx
  obtain ⟨i', g', e2'⟩ := c.pg (p0 := q1) h' m' hy
  obtain ⟨i2, g2, e3⟩ := c.pg (p0 := q2) h2 m2 hz
  refine rs_of (ps_asg PE.self (pg_tup (n := 3) c.calm (pgs_cons g (pgs_cons g' (pgs_cons g2 pgs_nil hd) hb) ha) hn hst) hs hw h1) (pe_mono q fun w H1 ⟨t, u, v, r, e1, hT, σ', σ'', σ3, a1, a2, a3, rr⟩ => ?_)
  subst e1
  rw [e3 a3, e2' a2, e2 a1] at rr
  exact ⟨t, _, rfl, hT, rfl, _, _, rfl, _, _, rfl, _, _, rfl, rfl, rr⟩
end
end GT
namespace GT
open PySem PySem.Spec PyProof.Rows L2
section
variable {X : Cx} {σ : L2.St} {H : Hp} {N : List Str} {L : List (Str × KN)} {k : Nat} {pos p0 p1 p2 p3 : Pos} {Q : VK} {D : Ends} {p : Addr} {z : Str} {v x : V} {xs : List V}
/-- d[k], d a dict of the module -/
theorem iv_kd (h : KDct X.K X.w p z v) (q : Q v H) : IxV X (.ref p) (.str z) H Q := ⟨⟨_, ix_kdict, p, z, v, rfl, rfl, h, q⟩⟩
/-- x in l of flat items -/
theorem cv_inV (h : SqL X.K H p xs ∨ SqT X.K H p xs) (f : flatV x = true) (fs : xs.all flatV = true) (q : Q (.bl (inV x xs)) H) : CpV X .In x (.ref p) H Q := ⟨⟨_, op_in_seq, p, xs, rfl, h, f, fs, q⟩⟩
theorem lv_intS {n : Int} (h : PySem.intText? z = some n) (hl : z.length ≤ 640) (q : Q (.int n) H) : ClV X (.type "int") [.str z] H Q := ⟨⟨_, call_int_str, z, n, rfl, h, hl, q⟩⟩
theorem lv_strI {i : Int} (h : i.natAbs.log2 < 1920) (q : Q (.str (toString i)) H) : ClV X (.type "str") [.int i] H Q := ⟨⟨_, call_str_int, i, rfl, h, q⟩⟩
/-- a.find(b) -/
theorem re_find {o e : Expr} {apos : Pos} (q : RE X o σ H fun x H1 => ∃ a, x = .str a ∧ RE X e σ H1 fun y H2 => ∃ b, y = .str b ∧ Q (.int (Txt.find a b)) H2)
    (hs : starEach [e] X.env = [(false, eval e X.env)] := by with_unfolding_all rfl) (hbase : attributeBase o "find" X.env (eval o X.env) = eval o X.env := by with_unfolding_all rfl) (hline : (apos.endLine == pos.line) = true := by with_unfolding_all rfl) :
    RE X (.Call (.Attribute o "find" apos) [e] [] pos) σ H Q :=
  re_of (pe_m1 PySem.F.slot_str_find PySem.F.type_str_find mt_find PE.self PE.self hs hbase hline) (pe_mono q fun x H1 ⟨a, e1, q1⟩ => ⟨⟨a, e1⟩, pe_mono q1 fun y H2 ⟨b, e2, q2⟩ => ⟨a, b, e1, by rw [e2], q2⟩⟩)
/-- for x in z, z a text -/
theorem rs_for_str (c : Ctx X N L k) {x : Str} {l : Expr} {body : List Stmt} {j : KN} (h : (x, j) ∈ L) (m : Own j) (hx : x ∈ N)
    (q : RE X l σ H fun v H1 => ∃ z, v = .str z ∧ Turns X N x body D (fun _ => True) z.cps.size (fun i y => ∃ c, z.cps[i]? = some c ∧ y = .str ⟨#[c]⟩) σ H1)
    (hs : ∀ x, foldedSetIterable l X.env x = pure x := by intro _; with_unfolding_all rfl) : RS X (.For (.Name x p0) l body [] pos) D σ H := by
  obtain ⟨i, g, h2⟩ := c.pg (p0 := p0) h m hx
  refine rs_of (ps_for c.po c.calm (pi_str PE.self) g PSs.self hs) (pe_mono q fun v H1 ⟨z, e, Pv, p1, p2, p3, p4⟩ => ⟨z, e, ?_⟩)
  refine for_it walk_str (tb := fun D σ H => RB X body D σ H) (g := gName i) Pv p1 p2 (fun j y σ H H' hj p yy => ?_) p4
  obtain ⟨rfl, yy⟩ := yy
  obtain ⟨σ', hp, r⟩ := p3 j y σ H' hj yy p
  rw [h2 hp] at r
  exact r
/-- for x, y in t, t a tuple of pairs -/
theorem rs_for_tup2 (c : Ctx X N L k) {x y : Str} {l : Expr} {body : List Stmt} {j j' : KN} {kt : Nat} {q0 q1 q2 : Pos} (h : (x, j) ∈ L) (m : Own j) (hx : x ∈ N) (h' : (y, j') ∈ L) (m' : Own j') (hy : y ∈ N)
    (q : RE X l σ H fun v H1 => ∃ a xs, v = .ref a ∧ SqT X.K H1 a xs ∧ ∃ Pv : Nat → L2.St → Hp → Prop, Pv 0 σ H1 ∧ (∀ i σ H, Pv i σ H → SqT X.K H a xs) ∧
      (∀ i w σ H, xs[i]? = some w → Pv i σ H → ∃ t u v, w = .ref t ∧ SqT X.K H t [u, v] ∧ ∃ σ' σ'', Put N σ x u σ' ∧ Put N σ' y v σ'' ∧ RB X body { D with nx := Pv (i + 1), ct := Pv (i + 1), bk := D.nx } σ'' H) ∧ (∀ σ H, Pv xs.length σ H → D.nx σ H))
    (hs : ∀ x, foldedSetIterable l X.env x = pure x := by intro _; with_unfolding_all rfl)
    (hn : (assignEach [.Name x q0, .Name y q1] X.env).length = 2 := by with_unfolding_all rfl) (hst : (assignEach [.Name x q0, .Name y q1] X.env).findIdx? (·.1) = none := by with_unfolding_all rfl)
    (ha : (assignEach [.Name x q0, .Name y q1] X.env).map (·.2) = assign (.Name x q0) X.env :: (assignEach [.Name y q1] X.env).map (·.2) := by with_unfolding_all rfl) (hb : (assignEach [.Name y q1] X.env).map (·.2) = assign (.Name y q1) X.env :: (assignEach [] X.env).map (·.2) := by with_unfolding_all rfl) :
    RS X (.For (.Tuple [.Name x q0, .Name y q1] kt q2) l body [] pos) D σ H := by
  obtain ⟨i, g, h2⟩ := c.pg (p0 := q0) h m hx
  obtain ⟨i', g', h2'⟩ := c.pg (p0 := q1) h' m' hy
  refine rs_of (ps_for c.po c.calm (pi_tup PE.self) (pg_tup (n := 2) c.calm (pgs_cons g (pgs_cons g' pgs_nil hb) ha) hn hst) PSs.self hs) (pe_mono q fun v H1 ⟨a, xs, e, hq, Pv, p1, p2, p3, p4⟩ => ⟨a, e, ⟨xs, hq⟩, ?_⟩)
  refine for_tup (K := X.K) (a := a) (xs := xs) Pv p1 (fun i σ H _ p => p2 i σ H p) (fun i w σ H e p => ?_) p4
  obtain ⟨t, u, v, rfl, hT, σ', σ'', a1, a2, r⟩ := p3 i w σ H e p
  rw [h2' a2, h2 a1] at r
  exact ⟨t, _, rfl, hT, rfl, _, _, rfl, _, _, rfl, rfl, r⟩
/-- f'{a}..{b}', a and b whole numbers -/
theorem re_fstr3 {e1 e2 : Expr} {j : Nat} (hz : z.length ≤ 1000) (q : RE X e1 σ H fun x H1 => ∃ i : Int, x = .int i ∧ i.natAbs.log2 < 1920 ∧ ((toString i : Str)).length ≤ 1000 ∧ RE X e2 σ H1 fun y H2 => ∃ k : Int, y = .int k ∧ k.natAbs.log2 < 1920 ∧ ((toString k : Str)).length ≤ 1000 ∧
      Q (.str ((Str.empty ++ (toString i : Str)) ++ z ++ (toString k : Str))) H2) :
    RE X (.JoinedStr [.FormattedValue e1 (-1) none p1, .Constant (.str z) j p2, .FormattedValue e2 (-1) none p3] pos) σ H Q := by
  have len : ∀ a b : Str, (a ++ b).length = a.length + b.length := fun a b => by
    show (a ++ b).cps.size = a.cps.size + b.cps.size
    have := congrArg List.length (TL.tl_append a b)
    simpa [TL.tl] using this
  have big : ∀ n : Nat, n ≤ 100000 → n ≤ sizeLine := fun n h => Nat.le_trans h (by decide)
  have e0 : Str.empty.length = 0 := rfl
  refine re_of (pe_joined (.cons (pe_fmt PE.self) (.cons pe_str (.cons (pe_fmt PE.self) .nil)))) ?_
  refine pe_mono q fun x H1 ⟨i, e1, hi, li, q1⟩ => .inr ⟨i, e1, hi, ?_⟩
  refine ⟨_, rfl, big _ (by rw [len, e0]; omega), ?_⟩
  refine ⟨z, rfl, big _ (by rw [len, len, e0]; omega), ?_⟩
  refine pe_mono q1 fun y H2 ⟨k, e2, hk, lk, q2⟩ => .inr ⟨k, e2, hk, ?_⟩
  exact ⟨_, rfl, big _ (by rw [len, len, len, e0]; omega), q2⟩
end
end GT
namespace GT
open PySem PySem.Spec PyProof.Rows L2
/-! ### tuples and tables of the top, told by Bools -/
def tupAB (K : PySem.W.Frag) (a : Addr) (vs : List V) : Bool := match K.lookup a with
  | none => false
  | some o => match o.cls, o.data with
    | .type c, .seq its _ => (c == "tuple" && Nat.ble its.size sizeLine) && He.relAll vs its.toList
    | _, _ => false
theorem tupAB_ok {K : PySem.W.Frag} {a : Addr} {vs : List V} (h : tupAB K a vs = true) (H : Hp) : SqT K H a vs := by
  unfold tupAB at h
  split at h
  · cases h
  · rename_i o ho
    split at h
    · rename_i c its n hc hd
      simp only [Bool.and_eq_true, beq_iff_eq] at h
      obtain ⟨⟨h1, h2⟩, h3⟩ := h
      exact .inr ⟨o, its, n, ho, by rw [hc, h1], hd, Nat.le_of_ble_eq_true h2, He.relAll_ok h3⟩
    · cases h
/-- the addresses that a tuple of the top holds -/
def itsOf (K : PySem.W.Frag) (a : Addr) : List Addr := match K.lookup a with
  | none => []
  | some o => match o.data with
    | .seq its _ => its.toList.filterMap fun v => match v with
      | .ref p => some p
      | _ => none
    | _ => []
/-- what a table holds at a key, where it is an object -/
def atK (K : PySem.W.Frag) (d : Addr) (x : Str) : Addr := match PySem.W.nsIn K d x with
  | some (some (.ref p)) => p
  | _ => 0
theorem kdct_of {K : PySem.W.Frag} {w : World} {d : Addr} {x : Str} {es : Array DictEntry} {n : Nat} (D : KDict K w d es n) (h : He.eqO (PySem.W.nsIn K d x) (some (some (.ref (atK K d x)))) = true) : KDct K w d x (.ref (atK K d x)) :=
  ⟨es, n, _, D.at_, D.lit, He.eqO_ok h, rfl⟩
end GT
namespace K03
open PySem PySem.Spec PyProof.Rows L2 GT
def top (i : Nat) : Stmt := PySem.Challenge.pw_goodtill_k03_whole_fractions_and_texts.main.body.getD i (.Pass ⟨0, 0, 0, 0⟩)
/-! fraction_text -/
abbrev sq_fraction_text : Stmt := top 17
abbrev nq_fraction_text : List Str := ["one", "n", "d"]
abbrev lq_fraction_text : List (Str × KN) := [("one", .loc), ("n", .loc), ("d", .loc), ("str", .glob)]
theorem mq_fraction_text : Nms sq_fraction_text nq_fraction_text ["one"] lq_fraction_text := ⟨⟨rfl, rfl, rfl, by decide +kernel, rfl, by decide +kernel, by decide +kernel⟩, by decide +kernel, by decide +kernel, by decide +kernel⟩
/-! state_behind -/
abbrev sq_state_behind : Stmt := top 18
abbrev nq_state_behind : List Str := ["state", "sign", "signs", "later"]
abbrev lq_state_behind : List (Str × KN) := [("state", .loc), ("sign", .loc), ("signs", .loc), ("later", .loc), ("STEPS", .glob)]
theorem mq_state_behind : Nms sq_state_behind nq_state_behind ["state", "sign"] lq_state_behind := ⟨⟨rfl, rfl, rfl, by decide +kernel, rfl, by decide +kernel, by decide +kernel⟩, by decide +kernel, by decide +kernel, by decide +kernel⟩
/-! sign_fault -/
abbrev sq_sign_fault : Stmt := top 19
abbrev nq_sign_fault : List Str := ["text", "state", "at", "sign"]
abbrev lq_sign_fault : List (Str × KN) := [("text", .loc), ("state", .loc), ("at", .loc), ("sign", .loc), ("enumerate", .glob), ("state_behind", .glob), ("LAST_STATES", .glob), ("len", .glob)]
theorem mq_sign_fault : Nms sq_sign_fault nq_sign_fault ["text"] lq_sign_fault := ⟨⟨rfl, rfl, rfl, by decide +kernel, rfl, by decide +kernel, by decide +kernel⟩, by decide +kernel, by decide +kernel, by decide +kernel⟩
/-! read_fraction -/
abbrev sq_read_fraction : Stmt := top 20
abbrev nq_read_fraction : List Str := ["text", "fault", "stroke", "n", "d"]
abbrev lq_read_fraction : List (Str × KN) := [("text", .loc), ("isinstance", .glob), ("str", .glob), ("BadText", .glob), ("fault", .loc), ("sign_fault", .glob), ("stroke", .loc), ("int", .glob), ("n", .loc), ("d", .loc), ("gcd", .glob)]
theorem mq_read_fraction : Nms sq_read_fraction nq_read_fraction ["text"] lq_read_fraction := ⟨⟨rfl, rfl, rfl, by decide +kernel, rfl, by decide +kernel, by decide +kernel⟩, by decide +kernel, by decide +kernel, by decide +kernel⟩
/-! _law_box -/
abbrev sq_box : Stmt := top 22
abbrev nq_box : List Str := ["script", "k", "cell", "great"]
abbrev lq_box : List (Str × KN) := [("script", .loc), ("k", .loc), ("cell", .loc), ("len", .glob), ("abs", .glob), ("int", .glob), ("great", .loc)]
theorem mq_box : Nms sq_box nq_box ["script", "k"] lq_box := ⟨⟨rfl, rfl, rfl, by decide +kernel, rfl, by decide +kernel, by decide +kernel⟩, by decide +kernel, by decide +kernel, by decide +kernel⟩
/-! _law_take -/
abbrev sq_take : Stmt := top 23
abbrev nq_take : List Str := ["box", "many", "digit", "raw"]
abbrev lq_take : List (Str × KN) := [("box", .loc), ("many", .loc), ("digit", .loc), ("int", .glob), ("raw", .loc)]
theorem mq_take : Nms sq_take nq_take ["box", "many"] lq_take := ⟨⟨rfl, rfl, rfl, by decide +kernel, rfl, by decide +kernel, by decide +kernel⟩, by decide +kernel, by decide +kernel, by decide +kernel⟩
/-! _law_pick -/
abbrev sq_pick : Stmt := top 24
abbrev nq_pick : List Str := ["box", "some"]
abbrev lq_pick : List (Str × KN) := [("box", .loc), ("some", .loc), ("_law_take", .glob), ("len", .glob)]
theorem mq_pick : Nms sq_pick nq_pick ["box", "some"] lq_pick := ⟨⟨rfl, rfl, rfl, by decide +kernel, rfl, by decide +kernel, by decide +kernel⟩, by decide +kernel, by decide +kernel, by decide +kernel⟩
/-! _law_whole -/
abbrev sq_whole : Stmt := top 25
abbrev nq_whole : List Str := ["box", "way", "sign", "found", "turn"]
abbrev lq_whole : List (Str × KN) := [("box", .loc), ("way", .loc), ("_law_take", .glob), ("sign", .loc), ("_law_pick", .glob), ("found", .loc), ("turn", .loc), ("range", .glob)]
theorem mq_whole : Nms sq_whole nq_whole ["box"] lq_whole := ⟨⟨rfl, rfl, rfl, by decide +kernel, rfl, by decide +kernel, by decide +kernel⟩, by decide +kernel, by decide +kernel, by decide +kernel⟩
/-! _law_part -/
abbrev sq_part : Stmt := top 26
abbrev nq_part : List Str := ["one", "two", "turn"]
abbrev lq_part : List (Str × KN) := [("one", .loc), ("two", .loc), ("abs", .glob), ("turn", .loc), ("range", .glob), ("int", .glob)]
theorem mq_part : Nms sq_part nq_part ["one", "two"] lq_part := ⟨⟨rfl, rfl, rfl, by decide +kernel, rfl, by decide +kernel, by decide +kernel⟩, by decide +kernel, by decide +kernel, by decide +kernel⟩
/-! _law_fraction -/
abbrev sq_fraction : Stmt := top 27
abbrev nq_fraction : List Str := ["box", "low", "top", "part"]
abbrev lq_fraction : List (Str × KN) := [("box", .loc), ("low", .loc), ("_law_pick", .glob), ("_law_take", .glob), ("abs", .glob), ("_law_whole", .glob), ("top", .loc), ("part", .loc), ("_law_part", .glob)]
theorem mq_fraction : Nms sq_fraction nq_fraction ["box"] lq_fraction := ⟨⟨rfl, rfl, rfl, by decide +kernel, rfl, by decide +kernel, by decide +kernel⟩, by decide +kernel, by decide +kernel, by decide +kernel⟩
/-! _law_figures -/
abbrev sq_figures : Stmt := top 28
abbrev nq_figures : List Str := ["number", "found", "left", "turn"]
abbrev lq_figures : List (Str × KN) := [("number", .loc), ("found", .loc), ("left", .loc), ("abs", .glob), ("turn", .loc), ("range", .glob), ("int", .glob)]
theorem mq_figures : Nms sq_figures nq_figures ["number"] lq_figures := ⟨⟨rfl, rfl, rfl, by decide +kernel, rfl, by decide +kernel, by decide +kernel⟩, by decide +kernel, by decide +kernel, by decide +kernel⟩
/-! _law_due -/
abbrev sq_due : Stmt := top 29
abbrev nq_due : List Str := ["one"]
abbrev lq_due : List (Str × KN) := [("one", .loc), ("_law_figures", .glob)]
theorem mq_due : Nms sq_due nq_due ["one"] lq_due := ⟨⟨rfl, rfl, rfl, by decide +kernel, rfl, by decide +kernel, by decide +kernel⟩, by decide +kernel, by decide +kernel, by decide +kernel⟩
/-! _law_worth -/
abbrev sq_worth : Stmt := top 30
abbrev nq_worth : List Str := ["figures", "found", "sign"]
abbrev lq_worth : List (Str × KN) := [("figures", .loc), ("found", .loc), ("sign", .loc)]
theorem mq_worth : Nms sq_worth nq_worth ["figures"] lq_worth := ⟨⟨rfl, rfl, rfl, by decide +kernel, rfl, by decide +kernel, by decide +kernel⟩, by decide +kernel, by decide +kernel, by decide +kernel⟩
/-! _law_read -/
abbrev sq_read : Stmt := top 31
abbrev nq_read : List Str := ["text", "state", "bar", "place", "sign", "figure", "top", "low"]
abbrev lq_read : List (Str × KN) := [("text", .loc), ("state", .loc), ("bar", .loc), ("len", .glob), ("place", .loc), ("range", .glob), ("sign", .loc), ("figure", .loc), ("top", .loc), ("_law_worth", .glob), ("low", .loc), ("_law_part", .glob)]
theorem mq_read : Nms sq_read nq_read ["text"] lq_read := ⟨⟨rfl, rfl, rfl, by decide +kernel, rfl, by decide +kernel, by decide +kernel⟩, by decide +kernel, by decide +kernel, by decide +kernel⟩
/-! _law_bent -/
abbrev sq_bent : Stmt := top 32
abbrev nq_bent : List Str := ["box", "text", "way", "spot", "sign", "turn"]
abbrev lq_bent : List (Str × KN) := [("box", .cell), ("text", .loc), ("way", .loc), ("spot", .loc), ("_law_take", .glob), ("len", .glob), ("sign", .loc), ("_law_pick", .glob), ("range", .glob)]
theorem mq_bent : Nms sq_bent nq_bent ["box", "text"] lq_bent := ⟨⟨rfl, rfl, rfl, by decide +kernel, rfl, by decide +kernel, by decide +kernel⟩, by decide +kernel, by decide +kernel, by decide +kernel⟩
abbrev lq_bent_c0 : List (Str × KN) := [("turn", .loc), ("_law_take", .glob), ("box", .cap)]
/-! _law_same -/
abbrev sq_same : Stmt := top 33
abbrev nq_same : List Str := ["told", "due", "is_kind", "one", "other"]
abbrev lq_same : List (Str × KN) := [("told", .loc), ("due", .loc), ("isinstance", .glob), ("tuple", .glob), ("list", .glob), ("is_kind", .loc), ("len", .glob), ("one", .loc), ("other", .loc), ("zip", .glob), ("_law_same", .glob), ("bool", .glob), ("int", .glob), ("str", .glob)]
theorem mq_same : Nms sq_same nq_same ["told", "due"] lq_same := ⟨⟨rfl, rfl, rfl, by decide +kernel, rfl, by decide +kernel, by decide +kernel⟩, by decide +kernel, by decide +kernel, by decide +kernel⟩
/-! _law_heard -/
abbrev sq_heard : Stmt := top 34
abbrev nq_heard : List Str := ["ask", "fault", "other"]
abbrev lq_heard : List (Str × KN) := [("ask", .loc), ("BadText", .glob), ("fault", .loc), ("other", .loc), ("isinstance", .glob), ("BadDeed", .glob), ("BadEvent", .glob), ("BadFraction", .glob), ("BadLabel", .glob), ("BadName", .glob), ("BadOctets", .glob), ("BadRoster", .glob), ("BadRun", .glob), ("BadView", .glob), ("Refused", .glob), ("OwnError", .glob), ("ValueError", .glob)]
theorem mq_heard : Nms sq_heard nq_heard ["ask"] lq_heard := ⟨⟨rfl, rfl, rfl, by decide +kernel, rfl, by decide +kernel, by decide +kernel⟩, by decide +kernel, by decide +kernel, by decide +kernel⟩
/-! _law_read_right -/
abbrev sq_read_right : Stmt := top 35
abbrev nq_read_right : List Str := ["text", "due", "got"]
abbrev lq_read_right : List (Str × KN) := [("text", .cell), ("due", .loc), ("_law_read", .glob), ("got", .loc), ("_law_heard", .glob), ("_law_same", .glob), ("fraction_text", .glob)]
theorem mq_read_right : Nms sq_read_right nq_read_right ["text"] lq_read_right := ⟨⟨rfl, rfl, rfl, by decide +kernel, rfl, by decide +kernel, by decide +kernel⟩, by decide +kernel, by decide +kernel, by decide +kernel⟩
abbrev lq_read_right_l0 : List (Str × KN) := [("read_fraction", .glob), ("text", .cap)]
/-! _law_fixed -/
abbrev sq_fixed : Stmt := top 36
abbrev nq_fixed : List Str := ["found"]
abbrev lq_fixed : List (Str × KN) := [("found", .loc)]
theorem mq_fixed : Nms sq_fixed nq_fixed [] lq_fixed := ⟨⟨rfl, rfl, rfl, by decide +kernel, rfl, by decide +kernel, by decide +kernel⟩, by decide +kernel, by decide +kernel, by decide +kernel⟩
/-! law -/
abbrev sq_law : Stmt := top 37
abbrev nq_law : List Str := ["script", "text", "k", "box", "turn", "one", "bend", "odd"]
abbrev lq_law : List (Str × KN) := [("script", .loc), ("text", .loc), ("_law_fixed", .glob), ("_law_read_right", .glob), ("k", .loc), ("range", .glob), ("max", .glob), ("min", .glob), ("len", .glob), ("box", .loc), ("_law_box", .glob), ("turn", .loc), ("one", .loc), ("_law_fraction", .glob), ("_law_due", .glob), ("_law_same", .glob), ("fraction_text", .glob), ("read_fraction", .glob), ("bend", .loc), ("_law_bent", .glob), ("odd", .cell), ("_law_pick", .glob), ("_law_heard", .glob)]
theorem mq_law : Nms sq_law nq_law ["script"] lq_law := ⟨⟨rfl, rfl, rfl, by decide +kernel, rfl, by decide +kernel, by decide +kernel⟩, by decide +kernel, by decide +kernel, by decide +kernel⟩
abbrev lq_law_l0 : List (Str × KN) := [("read_fraction", .glob), ("odd", .cap)]
end K03
namespace K03
open PySem PySem.Spec PyProof.Rows L2 GT
local macro_rules | `(tactic| walk_at "gm") => `(tactic| with_reducible (repeat (first | exact List.mem_cons_self | apply List.mem_cons_of_mem)))
local macro_rules | `(tactic| walk_at "gs") => `(tactic| with_reducible (repeat (first | exact Slot.here | exact Put.here | apply Slot.there | apply Put.there)))
local macro_rules | `(tactic| walk_at "gCall") => `(tactic| first
  | (show RE _ (.Call (.Name "len" _) _ _ _) _ _ _; refine re_c_len (by assumption) (by walk_at "gm") (by assumption) ?_)
  | (show RE _ (.Call (.Name "isinstance" _) _ _ _) _ _ _; refine re_c_isinstance (by assumption) (by walk_at "gm") (by assumption) ?_)
  | (show RE _ (.Call (.Name "int" _) _ _ _) _ _ _; refine re_c_int (by assumption) (by walk_at "gm") (by assumption) ?_)
  | (show RE _ (.Call (.Name "abs" _) _ _ _) _ _ _; refine re_c_abs (by assumption) (by walk_at "gm") (by assumption) ?_)
  | (show RE _ (.Call (.Name "min" _) _ _ _) _ _ _; refine re_c_min (by assumption) (by walk_at "gm") (by assumption) ?_)
  | (show RE _ (.Call (.Name "max" _) _ _ _) _ _ _; refine re_c_max (by assumption) (by walk_at "gm") (by assumption) ?_)
  | (show RE _ (.Call (.Name "tuple" _) _ _ _) _ _ _; refine re_c_tuple (by assumption) (by walk_at "gm") (by assumption) ?_)
  | (show RE _ (.Call (.Name "list" _) _ _ _) _ _ _; refine re_c_list (by assumption) (by walk_at "gm") (by assumption) ?_))
local macro_rules | `(tactic| walk_at "gName") => `(tactic| first
  | refine re_name (by assumption) (by walk_at "gs") (by walk_at "gm") (by constructor) ?_
  | (show RE _ (.Name "int" _) _ _ _; refine re_ty_int (by assumption) (by walk_at "gm") (by assumption) ?_)
  | (show RE _ (.Name "bool" _) _ _ _; refine re_ty_bool (by assumption) (by walk_at "gm") (by assumption) ?_)
  | (show RE _ (.Name "str" _) _ _ _; refine re_ty_str (by assumption) (by walk_at "gm") (by assumption) ?_)
  | (show RE _ (.Name "tuple" _) _ _ _; refine re_ty_tuple (by assumption) (by walk_at "gm") (by assumption) ?_)
  | (show RE _ (.Name "list" _) _ _ _; refine re_ty_list (by assumption) (by walk_at "gm") (by assumption) ?_)
  | (show RE _ (.Name "ValueError" _) _ _ _; refine re_ty_ValueError (by assumption) (by walk_at "gm") (by assumption) ?_))
local macro_rules | `(tactic| walk_at "gRE") => `(tactic| first
  | (show RE _ (.Name _ _) _ _ _; walk_at "gName")
  | (show RE _ (.Constant _ _ _) _ _ _; first | refine re_int ?_ | refine re_str ?_ | refine re_non ?_ | refine re_bl ?_)
  | (show RE _ (.BinOp _ _ _ _) _ _ _; refine re_bin ?_)
  | (show RE _ (.Compare _ [_] [_] _) _ _ _; refine re_cmp ?_)
  | (show RE _ (.Subscript _ (.Slice _ _ _ _) _) _ _ _; refine re_slice ?_)
  | (show RE _ (.Subscript _ _ _) _ _ _; refine re_ix ?_)
  | (show RE _ (.Call (.Name _ _) _ _ _) _ _ _; walk_at "gCall")
  | (show RE _ (.Tuple _ _ _) _ _ _; refine re_tup ?_)
  | (show RE _ (.List _ _) _ _ _; refine re_lst ?_)
  | (show RE _ (.IfExp _ _ _ _) _ _ _; refine re_if ?_)
  | (show RE _ (.BoolOp _ _ _) _ _ _; first | refine re_one ?_ | refine re_and ?_ | refine re_or ?_)
  | (show RE _ (.UnaryOp _ _ _) _ _ _; first | refine re_not ?_ | refine re_neg ?_))
local macro_rules | `(tactic| walk_at "gRT") => `(tactic| first
  | (show RT _ (.Compare _ [_] [_] _) _ _ _; refine rt_cmp ?_)
  | (show RT _ (.BoolOp _ _ _) _ _ _; refine rt_bool ?_)
  | (show RT _ (.UnaryOp .Not _ _) _ _ _; refine rt_not ?_)
  | (show RT _ (.Call _ _ _ _) _ _ _; refine rt_val ?_)
  | (show RT _ (.Name _ _) _ _ _; refine rt_val ?_))
local macro_rules | `(tactic| walk_at "gRS") => `(tactic| first
  | (show RS _ (.Return (some _) _) _ _ _; refine rs_ret ?_)
  | (show RS _ (.If _ _ _ _) _ _ _; refine rs_if ?_)
  | (show RS _ (.Assign [.Subscript _ _ _] _ _) _ _ _; refine rs_sub ?_)
  | (show RS _ (.Assign [.Name _ _] (.ListComp _ _ _ _) _) _ _ _; fail)
  | (show RS _ (.Assign [.Name _ _] _ _) _ _ _; refine rs_set (by assumption) (by walk_at "gm") (by constructor) (by walk_at "gm") ?_)
  | (show RS _ (.Expr _ _) _ _ _; refine rs_expr ?_)
  | (show RS _ (.Pass _) _ _ _; refine rs_pass ?_)
  | (show RS _ (.Break _) _ _ _; refine rs_break ?_)
  | (show RS _ (.Continue _) _ _ _; refine rs_continue ?_))
local macro_rules | `(tactic| walk_at "gV") => `(tactic| first
  | (show OpV _ _ _ _ _ _; first | refine ov_add ?_ | refine ov_sub ?_ | refine ov_mulR (by decide) ?_ | refine ov_mulL (by decide) ?_ | refine ov_mod (by first | decide | assumption) ?_)
  | (show CpV _ _ _ _ _ _; first | refine cv_lt ?_ | refine cv_le ?_ | refine cv_gt ?_ | refine cv_ge ?_ | refine cv_eqI ?_ | refine cv_neI ?_ | refine cv_eqS ?_ | refine cv_neS ?_ | refine cv_isN_n ?_ | refine cv_isN_s ?_ | refine cv_isN_i ?_ | refine cv_isN_b ?_ | refine cv_isN_r ?_ | refine cv_notN_n ?_ | refine cv_notN_s ?_ | refine cv_notN_i ?_ | refine cv_notN_b ?_ | refine cv_notN_r ?_ | refine cv_ltS ?_ | refine cv_gtS ?_ | refine cv_isB_b ?_ | refine cv_isB_i ?_ | refine cv_isB_s ?_ | refine cv_isB_n ?_)
  | (show IxV _ _ _ _ _; first | refine iv_list (by assumption) (by with_unfolding_all exact rfl) ?_ | refine iv_list (SqL.of (by assumption)) (by with_unfolding_all exact rfl) ?_ | refine iv_tup (SqT.of (by assumption)) (by with_unfolding_all exact rfl) ?_)
  | (show ClV _ _ _ _ _; first | refine lv_isT_n (b := false) (by decide +kernel) ?_ | refine lv_isT_n (b := true) (by decide +kernel) ?_ | refine lv_isT_b (b := false) (by decide +kernel) ?_ | refine lv_isT_b (b := true) (by decide +kernel) ?_ | refine lv_isT_i (b := false) (by decide +kernel) ?_ | refine lv_isT_i (b := true) (by decide +kernel) ?_ | refine lv_isT_s (b := false) (by decide +kernel) ?_ | refine lv_isT_s (b := true) (by decide +kernel) ?_ | refine lv_isT_l (b := false) (by assumption) (by decide +kernel) ?_ | refine lv_isT_l (b := true) (by assumption) (by decide +kernel) ?_ | refine lv_isT_t (b := false) (by assumption) (by decide +kernel) ?_ | refine lv_isT_t (b := true) (by assumption) (by decide +kernel) ?_ | refine lv_int ?_ | refine lv_abs ?_ | refine lv_max (Ctx.calm (by assumption)) ?_ | refine lv_min (Ctx.calm (by assumption)) ?_))
local macro_rules | `(tactic| walk_at "e1") => `(tactic| with_reducible first
  | (show RE _ _ _ _ _; walk_at "gRE")
  | (show RA _ _ _ _ _; first | refine ra_cons ?_ | refine ra_nil ?_)
  | (show RT _ _ _ _ _; walk_at "gRT")
  | (show RW _ _ _ _ _; first | refine rw_and1 ?_ | refine rw_or1 ?_ | refine rw_and ?_ | refine rw_or ?_)
  | (show RS _ _ _ _ _; walk_at "gRS")
  | refine rb_nil ?_
  | (show RO _ _ _ _ _; first | refine ro_none ?_ | refine ro_some ?_)
  | (show if true = true then _ else _; refine iteT ?_)
  | (show if false = true then _ else _; refine iteF ?_)
  | (show if (!true) = true then _ else _; refine iteNT ?_)
  | (show if (!false) = true then _ else _; refine iteNF ?_)
  | walk_at "gV"
  | refine ⟨_, rfl, ?_⟩
  | refine ⟨_, by walk_at "gs", ?_⟩)
local macro_rules | `(tactic| walk_at "e") => `(tactic| repeat walk_at "e1")
local macro_rules | `(tactic| walk_at "g1") => `(tactic| first | walk_at "e1" | with_reducible refine rb_cons ?_)
local macro_rules | `(tactic| walk_at "g") => `(tactic| repeat walk_at "g1")
local macro_rules | `(tactic| walk_at "g0") => `(tactic| (refine rb_cons ?_; walk_at "g"))
local macro_rules | `(tactic| walk_at "e0") => `(tactic| (refine rb_cons ?_; walk_at "e"))
local macro_rules | `(tactic| walk_at "de") => `(tactic| repeat (first | exact DEs.nil | apply DEs.cons | exact DE.non | exact DE.bl | exact DE.int | exact DE.str | exact DE.neg | apply DE.tupS | apply DE.lstS | apply DE.sub | apply DE.add | apply DE.mul | apply DE.pow | exact ⟨by decide, by decide, by decide⟩ | (show List.length _ ≤ 1000; decide) | decide))
/-- a draw: below many -/
def spTake : Sp := fun vs H Q _ => ∃ (b : Addr) (n : Int), vs = [.ref b, .int n] ∧ BoxAt H b ∧ 0 < n ∧ n < 2 ^ 31 ∧
  ∀ (d : Int) (H' : Hp), 0 ≤ d → d < n → Fr (· = b) H H' → BoxAt H' b → Q (.int d) H'
theorem fr_box {H : Hp} {b : Addr} {o : HO} : Fr (· = b) H (upd H b o) := fun a u n e => by
  rw [upd_ne n]
  exact e
theorem body_take {X : Cx} (c : Ctx X nq_take lq_take 0) (zi : X.mg "int" = none) {vs : List V} {H : Hp} {Q : VK} {E : XK} (h : spTake vs H Q E) : RB X (defBody sq_take) { nx := fun _ H' => Q .non H', rt := Q } (start nq_take vs) H := by
  obtain ⟨b, n, rfl, hB, h0, h1, q⟩ := h
  obtain ⟨g, r, hb, g0, r0, r1⟩ := id hB
  show RB X (defBody sq_take) _ [some (.ref b), some (.int n), none, none] H
  walk_at "g0"
  refine ite2 (fun e => ?_) (fun e => ?_)
  · walk_at "g"
    refine ov_fdiv (wide_div (b := 32) h0 (by omega) (by decide) (by decide)) ?_
    walk_at "g"
    refine ⟨b, [.int g, .int r], 0, 0, rfl, rfl, hb, rfl, ?_⟩
    walk_at "g"
    exact q _ _ (Int.emod_nonneg _ (by omega)) (Int.emod_lt_of_pos _ h0) fr_box ⟨g / n, r, upd_same, Int.ediv_nonneg g0 (by omega), r0, r1⟩
  · walk_at "g"
    refine ⟨b, [.int g, .int r], 1, 1, rfl, rfl, hb, rfl, ?_⟩
    walk_at "g"
    refine iv_list (SqL.of upd_same) (by exact rfl) ?_
    walk_at "g"
    refine ov_fdiv (wide_div (b := 32) (by decide) (by decide) (by decide) (by decide)) ?_
    walk_at "g"
    have m1 : ∀ z : Int, 0 ≤ z % 2147483563 + 1 ∧ z % 2147483563 + 1 < 2 ^ 32 := fun z => by omega
    exact q _ _ (Int.emod_nonneg _ (by omega)) (Int.emod_lt_of_pos _ h0) fr_box ⟨g, _, upd_same, g0, (m1 _).1, (m1 _).2⟩
/-- an item of a list, or a sign of a text, by a draw -/
def spPick (K : PySem.W.Frag) : Sp := fun vs H Q _ => ∃ (b : Addr), BoxAt H b ∧
  ((∃ p xs, vs = [.ref b, .ref p] ∧ H p = some (.lst xs) ∧ p ≠ b ∧ 0 < xs.length ∧ xs.length < 2 ^ 31 ∧ ∀ v H', v ∈ xs → Fr (· = b) H H' → BoxAt H' b → Q v H'))
theorem mem_at {α : Type} {xs : List α} {d : Int} (h0 : 0 ≤ d) (h1 : d < (xs.length : Int)) : ∃ v, atI xs d = some v ∧ v ∈ xs := by
  have h2 : d.toNat < xs.length := by omega
  refine ⟨xs[d.toNat], ?_, List.getElem_mem h2⟩
  unfold atI ixN
  rw [if_pos h0, if_pos h1]
  show xs[d.toNat]? = _
  rw [List.getElem?_eq_getElem h2]
theorem body_pick {X : Cx} (c : Ctx X nq_pick lq_pick 1) (zl : X.mg "len" = none) (dT : DefP X.prog X.w X.K X.mg X.base CX0 "_law_take" ["box", "many"] 1 spTake) {vs : List V} {H : Hp} {Q : VK} {E : XK} (h : spPick X.K vs H Q E) :
    RB X (defBody sq_pick) { nx := fun _ H' => Q .non H', rt := Q } (start nq_pick vs) H := by
  obtain ⟨b, hB, p, xs, rfl, hp, hpb, h0, h1, q⟩ := h
  show RB X (defBody sq_pick) _ [some (.ref b), some (.ref p)] H
  walk_at "g0"
  refine re_call c dT (by decide) (by walk_at "gm") ?_
  walk_at "g"
  refine lv_lenL (SqL.of hp) ?_
  walk_at "g"
  refine ⟨b, _, rfl, hB, by omega, by omega, fun d H' d0 d1 f hB' => ?_⟩
  obtain ⟨v, hv, hm⟩ := mem_at (xs := xs) d0 d1
  exact iv_list (SqL.of (f _ _ hpb hp)) hv (q v H' hm f hB')
/-- the box of a draw -/
def spBox (K : PySem.W.Frag) : Sp := fun vs H Q _ => ∃ (a : Addr) (ns : List Int) (k : Int), vs = [.ref a, .int k] ∧ SqL K H a (ns.map V.int) ∧ ns.length ≤ 63 ∧ 0 ≤ k ∧ k < 1000 ∧
  ∀ p H', H p = none → Fr NoB H H' → BoxAt H' p → Q (.ref p) H'
theorem body_box {X : Cx} (c : Ctx X nq_box lq_box 0) (zl : X.mg "len" = none) (zi : X.mg "int" = none) (za : X.mg "abs" = none) {vs : List V} {H : Hp} {Q : VK} {E : XK} (h : spBox X.K vs H Q E) :
    RB X (defBody sq_box) { nx := fun _ H' => Q .non H', rt := Q } (start nq_box vs) H := by
  obtain ⟨a, ns, k, rfl, hS, h63, k0, k1, q⟩ := h
  have lm : (ns.map V.int).length = ns.length := List.length_map _
  have item : ∀ i : Int, 0 ≤ i → i < (ns.length : Int) → ∃ v, atI (ns.map V.int) i = some (.int v) := fun i h0 h1 => by
    obtain ⟨v, h2, h3⟩ := mem_at (xs := ns.map V.int) h0 (by rw [lm]; exact h1)
    obtain ⟨w, _, e⟩ := List.mem_map.mp h3
    exact ⟨w, by rw [h2, e]⟩
  have fin : ∀ g z : Int, 0 ≤ g → ∀ p, H p = none → Q (.ref p) (upd H p (.lst [.int g, .int (z % 2147483563 + 1)])) := fun g z hg p hp =>
    q p _ hp (Fr.new hp) ⟨g, _, upd_same, hg, by omega, by omega⟩
  -- behind the choice of the cell
  have rest : ∀ cell : Int, 0 ≤ cell → RB X (List.drop 2 (defBody sq_box)) { nx := fun _ H' => Q .non H', rt := Q } [some (.ref a), some (.int k), some (.int cell), none] H := fun cell hc => by
    walk_at "g0"
    refine ov_pow ⟨by decide, by decide, by decide⟩ ?_
    walk_at "g"
    refine ite2 (fun e => ?_) (fun e => ?_)
    · walk_at "g"
      exact ⟨by show 2 ≤ sizeLine; decide, fun p hp => fin _ _ hc p hp⟩
    · walk_at "g"
      exact ⟨by show 2 ≤ sizeLine; decide, fun p hp => fin _ _ (by decide) p hp⟩
  show RB X (defBody sq_box) _ [some (.ref a), some (.int k), none, none] H
  walk_at "g0"
  refine lv_lenL hS ?_
  walk_at "g"
  refine ite2 (fun e => ?_) (fun e => ?_)
  · obtain ⟨v, hv⟩ := item k k0 (by rw [lm] at e; exact of_decide_eq_true e)
    walk_at "g"
    refine iv_list hS hv ?_
    walk_at "e"
    exact rest _ (by split <;> omega)
  · walk_at "g"
    refine lv_lenL hS ?_
    walk_at "g"
    refine ite2 (fun e => ?_) (fun e => ?_)
    · rw [lm] at e
      have hn : (0 : Int) < ns.length := of_decide_eq_true e
      obtain ⟨v, hv⟩ := item (k % ns.length) (Int.emod_nonneg _ (by omega)) (Int.emod_lt_of_pos _ hn)
      walk_at "g"
      refine lv_lenL hS ?_
      rw [lm]
      walk_at "g"
      refine iv_list hS hv ?_
      walk_at "e"
      exact rest _ (by omega)
    · walk_at "e"
      exact rest _ (by omega)
def isIn (lo hi : Int) : V → Bool
  | .int i => decide (lo ≤ i) && decide (i ≤ hi)
  | _ => false
def isLow : V → Bool
  | .str s => s.cps.toList.all (fun c => decide (97 ≤ c) && decide (c ≤ 122)) && decide (0 < s.length) && decide (s.length ≤ 30)
  | _ => false
theorem isIn_of {lo hi : Int} {v : V} (h : isIn lo hi v = true) : ∃ i, v = .int i ∧ lo ≤ i ∧ i ≤ hi := by
  cases v <;> simp [isIn] at h
  exact ⟨_, rfl, h.1, h.2⟩
theorem isLow_of {v : V} (h : isLow v = true) : ∃ s, v = .str s ∧ Low s ∧ 0 < s.length ∧ s.length ≤ 30 := by
  cases v with
  | str s =>
    unfold isLow at h
    rw [Bool.and_eq_true, Bool.and_eq_true] at h
    obtain ⟨⟨h1, h2⟩, h3⟩ := h
    refine ⟨s, rfl, fun c hc => ?_, of_decide_eq_true h2, of_decide_eq_true h3⟩
    have := List.all_eq_true.mp h1 c hc
    simpa using this
  | _ => cases h
theorem sz30 {n : Nat} (h : n ≤ 100000) : n ≤ sizeLine := Nat.le_trans h (by decide)

/-! ### fractions -/
def gi (a b : Int) : Int := ((Nat.gcd a.natAbs b.natAbs : Nat) : Int)
def fc (n d : Int) : Int := if d < 0 then -(gi n d) else gi n d
def fN (n d : Int) : Int := n.fdiv (fc n d)
def fM (n d : Int) : Int := d.fdiv (fc n d)
def isI : D → Bool
  | .int _ => true
  | _ => false
def fp (n m : Int) : Option Int := if m < 1 then some 1 else if gi n m = 1 then none else some 2
def fd2 : D → D → Option Int
  | .int n, .int m => fp n m
  | .int _, _ => some 1
  | _, _ => some 0
def fdl : List D → Option Int
  | [a, b] => fd2 a b
  | _ => some (-1)
def fd : D → Option Int
  | .tup ds => fdl ds
  | _ => some (-1)
def W3 (n : Int) : Prop := n.natAbs < 2 ^ 300
theorem gi_pos {n d : Int} (h : d ≠ 0) : 0 < gi n d := by
  unfold gi
  have := Nat.gcd_pos_of_pos_right n.natAbs (Int.natAbs_pos.mpr h)
  omega
theorem gi_w {n d : Int} (h : d ≠ 0) (w : W3 d) : (gi n d).natAbs < 2 ^ 300 := by
  unfold gi
  have h1 : Nat.gcd n.natAbs d.natAbs ≤ d.natAbs := Nat.gcd_le_right _ (Int.natAbs_pos.mpr h)
  rw [Int.natAbs_natCast]
  exact Nat.lt_of_le_of_lt h1 w
theorem two_of {α : Type} {l : List α} (h : l.length = 2) : ∃ a b, l = [a, b] := by
  match l, h with
  | [a, b], _ => exact ⟨a, b, rfl⟩
theorem dt_int {K : PySem.W.Frag} {B : Addr → Prop} {H : Hp} {v : V} {d : D} (h : Dt K B H v d) (e : isI d = true) : ∃ n, d = .int n ∧ v = .int n := by
  cases h <;> first | exact ⟨_, rfl, rfl⟩ | cases e
def eB (i a b : Nat) : Prop := (i % 2 = 0 ∧ b < 2 ^ (300 - i / 2)) ∨ (i % 2 = 1 ∧ a < 2 ^ (300 - i / 2) ∧ b < a)
theorem eB_step {i a b : Nat} (hi : i < 600) (h : eB i a b) (hb : 0 < b) : eB (i + 1) b (a % b) := by
  have h1 := Nat.mod_lt a hb
  rcases h with ⟨p, h⟩ | ⟨p, h, hba⟩
  · refine .inr ⟨by omega, ?_, h1⟩
    have e : (i + 1) / 2 = i / 2 := by omega
    rw [e]
    exact h
  · refine .inl ⟨by omega, ?_⟩
    have e : (i + 1) / 2 = i / 2 + 1 := by omega
    rw [e]
    obtain ⟨k, hk⟩ : ∃ k, 300 - i / 2 = k + 1 := ⟨299 - i / 2, by omega⟩
    have e2 : 300 - (i / 2 + 1) = k := by omega
    rw [hk] at h
    rw [e2]
    rw [Nat.pow_succ] at h
    have h2 : a % b + b ≤ a := by
      have h3 := Nat.div_add_mod a b
      have h4 : 1 ≤ a / b := (Nat.one_le_div_iff hb).mpr (by omega)
      have h5 : b * 1 ≤ b * (a / b) := Nat.mul_le_mul_left b h4
      omega
    omega
def spPart : Sp := fun vs H Q _ => ∃ a b : Int, vs = [.int a, .int b] ∧ W3 a ∧ W3 b ∧ Q (.int (gi a b)) H
theorem abs_nat (a : Int) : (if a < 0 then -a else a) = ((a.natAbs : Nat) : Int) := by split <;> omega
theorem body_part {X : Cx} (c : Ctx X nq_part lq_part 0) (za : X.mg "abs" = none) (zr : X.mg "range" = none) (zi : X.mg "int" = none) {vs : List V} {H : Hp} {Q : VK} {E : XK} (h : spPart vs H Q E) :
    RB X (defBody sq_part) { nx := fun _ H' => Q .non H', rt := Q } (start nq_part vs) H := by
  obtain ⟨a, b, rfl, wa, wb, q⟩ := h
  show RB X (defBody sq_part) _ [some (.int a), some (.int b), none] H
  refine rb_cons ?_
  refine rs_par2 c (by walk_at "gm") (by walk_at "gm") (by walk_at "gm") (by walk_at "gm") (by decide) ?_
  walk_at "e"
  rw [abs_nat, abs_nat]
  refine ⟨.int ((a.natAbs : Nat) : Int), .int ((b.natAbs : Nat) : Int), _, _, rfl, by walk_at "gs", by walk_at "gs", ?_⟩
  have q1 : Q (.int ((Nat.gcd a.natAbs b.natAbs : Nat) : Int)) H := q
  generalize a.natAbs = m at *
  have wb' : b.natAbs < 2 ^ 300 := wb
  generalize b.natAbs = n at *
  have done : ∀ (x : Nat) (s y : Option V), x = Nat.gcd m n → RB X (List.drop 2 (defBody sq_part)) { nx := fun _ H' => Q .non H', rt := Q } [some (.int (x : Int)), y, s] H := by
    rintro x s y rfl
    walk_at "g0"
    exact q1
  refine rb_cons ?_
  refine rs_for_range c (by walk_at "gm") .loc (by walk_at "gm") (by walk_at "gm") zr ?_
  walk_at "e"
  refine ⟨by decide, by decide, ?_⟩
  refine ⟨fun i σ H' => H' = H ∧ ∃ (x y : Nat) (s : Option V), Nat.gcd x y = Nat.gcd m n ∧ eB i x y ∧ σ = [some (.int (x : Int)), some (.int (y : Int)), s], ⟨rfl, m, n, none, rfl, .inl ⟨rfl, wb'⟩, rfl⟩, fun _ _ _ _ _ => trivial, ?_, ?_⟩
  · rintro i u σ H' hi rfl ⟨rfl, x, y, s, hg, hb, rfl⟩
    have hi : i < 600 := hi
    refine ⟨_, by walk_at "gs", ?_⟩
    walk_at "e0"
    refine ite2 (fun e => ?_) (fun e => ?_)
    · have y0 : y = 0 := by have := of_decide_eq_true e; omega
      subst y0
      walk_at "e0"
      exact done x _ _ (by rw [← hg, Nat.gcd_zero_right])
    · walk_at "e"
      have y0 : 0 < y := by
        rcases Nat.eq_zero_or_pos y with z | z
        · exact absurd (decide_eq_true (by omega)) e
        · exact z
      refine rb_cons ?_
      refine rs_par2 c (by walk_at "gm") (by walk_at "gm") (by walk_at "gm") (by walk_at "gm") (by decide) ?_
      walk_at "e"
      refine ov_mod (by omega) ?_
      walk_at "e"
      refine ⟨_, _, _, _, rfl, by walk_at "gs", by walk_at "gs", ?_⟩
      walk_at "g"
      rw [← Int.natCast_emod]
      exact ⟨rfl, y, x % y, _, by rw [← hg, Nat.gcd_comm y (x % y), ← Nat.gcd_rec, Nat.gcd_comm], eB_step hi hb y0, rfl⟩
  · rintro σ H' ⟨rfl, x, y, s, hg, hb, rfl⟩
    have y0 : y = 0 := by
      rcases hb with ⟨_, h⟩ | ⟨h, _⟩
      · have h2 : y < 2 ^ 0 := h
        omega
      · exact absurd (show (600 : Nat) % 2 = 1 from h) (by decide)
    subst y0
    exact done x _ _ (by rw [← hg, Nat.gcd_zero_right])
def W1 (n : Int) : Prop := n.natAbs < 10 ^ 40
theorem W1.w3 {n : Int} (h : W1 n) : W3 n := Nat.lt_trans h (by decide +kernel)
def spWhole : Sp := fun vs H Q _ => ∃ b : Addr, vs = [.ref b] ∧ BoxAt H b ∧ ∀ (n : Int) H', W1 n → Fr (· = b) H H' → BoxAt H' b → Q (.int n) H'
theorem sgn_mul {s n : Int} (hs : s = 1 ∨ s = -1) : (s * n).natAbs = n.natAbs := by
  rcases hs with rfl | rfl
  · rw [Int.one_mul]
  · rw [Int.neg_mul, Int.one_mul, Int.natAbs_neg]
theorem body_whole {X : Cx} (c : Ctx X nq_whole lq_whole 2) (zr : X.mg "range" = none) (dT : DefP X.prog X.w X.K X.mg X.base CX0 "_law_take" ["box", "many"] 1 spTake) (dP : DefP X.prog X.w X.K X.mg X.base CX0 "_law_pick" ["box", "some"] 2 (spPick X.K))
    {vs : List V} {H : Hp} {Q : VK} {E : XK} (h : spWhole vs H Q E) : RB X (defBody sq_whole) { nx := fun _ H' => Q .non H', rt := Q } (start nq_whole vs) H := by
  obtain ⟨b, rfl, hB, q⟩ := h
  show RB X (defBody sq_whole) _ [some (.ref b), none, none, none, none] H
  walk_at "e0"
  refine re_call c dT (by decide) (by walk_at "gm") ?_
  walk_at "e"
  refine ⟨b, 6, rfl, hB, by decide, by decide, fun way H1 w0 w6 f1 hB1 => ?_⟩
  walk_at "e"
  walk_at "e0"
  refine re_call c dP (by decide) (by walk_at "gm") ?_
  walk_at "e"
  refine ⟨by show 3 ≤ sizeLine; decide, fun p hp => ?_⟩
  walk_at "e"
  refine ⟨b, hB1.fr (Fr.new hp), p, _, rfl, upd_same, hB1.ne hp, by show 0 < 3; decide, by show 3 < 2 ^ 31; decide, fun v H2 hv f2 hB2 => ?_⟩
  obtain ⟨s, rfl, hs⟩ : ∃ s : Int, v = .int s ∧ (s = 1 ∨ s = -1) := by
    simp only [List.mem_cons, List.not_mem_nil, or_false] at hv
    rcases hv with rfl | rfl | rfl
    · exact ⟨1, rfl, .inl rfl⟩
    · exact ⟨1, rfl, .inl rfl⟩
    · exact ⟨_, rfl, .inr rfl⟩
  have f02 : Fr (· = b) H H2 := f1.trans ((Fr.new hp).trans f2)
  have sb : -(2 ^ 64) < s ∧ s < 2 ^ 64 := by rcases hs with rfl | rfl <;> decide
  have fin : ∀ (n : Int) (H3 : Hp), n.natAbs < 10 ^ 40 → Fr (· = b) H2 H3 → BoxAt H3 b → Q (.int (s * n)) H3 := fun n H3 hn f3 hB3 => q _ H3 (by unfold W1; rw [sgn_mul hs]; exact hn) (f02.trans f3) hB3
  walk_at "e"
  walk_at "e0"
  refine ite2 (fun e => ?_) (fun e => ?_)
  · walk_at "e0"
    refine re_call c dT (by decide) (by walk_at "gm") ?_
    walk_at "e"
    refine ⟨b, 7, rfl, hB2, by decide, by decide, fun n H3 n0 n7 f3 hB3 => ?_⟩
    refine ov_mul (.inl sb) (fin n H3 (Nat.lt_of_lt_of_le (by omega : n.natAbs < 7) (by decide +kernel)) f3 hB3)
  · walk_at "e"
    walk_at "e0"
    refine ite2 (fun e => ?_) (fun e => ?_)
    · walk_at "e0"
      refine re_call c dT (by decide) (by walk_at "gm") ?_
      walk_at "e"
      refine ov_pow ⟨by decide, by decide, by decide⟩ ?_
      walk_at "e"
      refine ⟨b, _, rfl, hB2, by decide, by decide, fun n H3 n0 n7 f3 hB3 => ?_⟩
      have n8 : n < 1000000001 := n7
      refine ov_mul (.inl sb) (fin n H3 (Nat.lt_of_lt_of_le (by omega : n.natAbs < 2000000000) (by decide +kernel)) f3 hB3)
    · walk_at "e"
      walk_at "e0"
      refine ite2 (fun e => ?_) (fun e => ?_)
      · walk_at "e0"
        refine re_call c dP (by decide) (by walk_at "gm") ?_
        refine ra_cons ?_
        refine re_name c (by walk_at "gs") (by walk_at "gm") .loc ?_
        refine ra_cons ?_
        refine re_dataL (ds := [.int 1, .int 2, .int 12, .int 60, .int 9973, .int (10 ^ (4 : Int).toNat), .int (10 ^ (9 : Int).toNat), .int (2 ^ (32 : Int).toNat), .int (2 ^ (63 : Int).toNat), .int (2 ^ (64 : Int).toNat), .int (10 ^ (20 : Int).toNat), .int (10 ^ (40 : Int).toNat - 1)]) (by walk_at "de") (by decide) fun a vs H3 ha f3 h3 d3 => ?_
        walk_at "e"
        have l12 : vs.length = 12 := d3.1
        refine ⟨b, hB2.fr f3, a, vs, rfl, h3, hB2.ne ha, by omega, by omega, fun v H4 hv f4 hB4 => ?_⟩
        obtain ⟨i, hi⟩ := List.mem_iff_getElem?.mp hv
        have il : i < 12 := by
          rcases Nat.lt_or_ge i vs.length with z | z
          · omega
          · rw [List.getElem?_eq_none z] at hi; cases hi
        obtain ⟨n, rfl, hn⟩ : ∃ n : Int, v = .int n ∧ n.natAbs < 10 ^ 40 := by
          have key : ∀ n : Int, Dt X.K (Old H2) H3 v (.int n) → v = .int n := fun n h => by cases h; rfl
          rcases (by omega : i = 0 ∨ i = 1 ∨ i = 2 ∨ i = 3 ∨ i = 4 ∨ i = 5 ∨ i = 6 ∨ i = 7 ∨ i = 8 ∨ i = 9 ∨ i = 10 ∨ i = 11) with rfl | rfl | rfl | rfl | rfl | rfl | rfl | rfl | rfl | rfl | rfl | rfl
          all_goals exact ⟨_, key _ (d3.2 _ v _ hi rfl), by decide +kernel⟩
        exact ov_mul (.inl sb) (fin n H4 hn (f3.any.trans f4) hB4)
      · walk_at "e"
        walk_at "e0"
        refine rb_cons ?_
        refine rs_for_range c (by walk_at "gm") .loc (by walk_at "gm") (by walk_at "gm") zr ?_
        walk_at "e"
        refine re_call c dT (by decide) (by walk_at "gm") ?_
        walk_at "e"
        refine ⟨b, 9, rfl, hB2, by decide, by decide, fun m H3 m0 m9 f3 hB3 => ?_⟩
        walk_at "e"
        refine ⟨by omega, by omega, ?_⟩
        refine ⟨fun i σ H' => Fr (· = b) H2 H' ∧ BoxAt H' b ∧ ∃ (n : Nat) (s4 : Option V), n < 10000 ^ i ∧ σ = [some (.ref b), some (.int way), some (.int s), some (.int (n : Int)), s4], ⟨f3, hB3, 0, none, by decide, rfl⟩, fun _ _ _ _ _ => trivial, ?_, ?_⟩
        · rintro i y σ H4 hi rfl ⟨f4, hB4, n, s4, ni, rfl⟩
          refine ⟨_, by walk_at "gs", ?_⟩
          walk_at "e0"
          refine ov_pow ⟨by decide, by decide, by decide⟩ ?_
          walk_at "e"
          refine re_call c dT (by decide) (by walk_at "gm") ?_
          walk_at "e"
          refine ov_pow ⟨by decide, by decide, by decide⟩ ?_
          walk_at "e"
          refine ⟨b, _, rfl, hB4, by decide, by decide, fun d H5 d0 d9 f5 hB5 => ?_⟩
          have d10 : d < 10000 := d9
          obtain ⟨e, rfl⟩ : ∃ e : Nat, d = (e : Int) := ⟨d.toNat, by omega⟩
          walk_at "e"
          refine ⟨f4.trans f5, hB5, n * 10000 + e, some (.int (i : Int)), ?_, ?_⟩
          · rw [Nat.pow_succ]
            omega
          · have e1 : ((n * 10000 + e : Nat) : Int) = (n : Int) * 10 ^ (4 : Int).toNat + (e : Int) := by
              have : (10 : Int) ^ (4 : Int).toNat = 10000 := by decide
              rw [this]
              omega
            rw [e1]
        · rintro σ H4 ⟨f4, hB4, n, s4, ni, rfl⟩
          walk_at "e0"
          refine ov_mul (.inl sb) (fin n H4 ?_ f4 hB4)
          have h9 : 10000 ^ (1 + m).toNat ≤ 10000 ^ 9 := Nat.pow_le_pow_right (by decide) (by omega)
          have h11 : 10000 ^ 9 < 10 ^ 40 := by decide +kernel
          rw [Int.natAbs_natCast]
          omega
theorem w3_small {n : Int} (h : -(2 ^ 64) < n ∧ n < 2 ^ 64) : W3 n := by
  unfold W3
  have h1 : n.natAbs < 2 ^ 64 := by omega
  exact Nat.lt_trans h1 (by decide +kernel)
theorem fc_dvd_left {n d : Int} : fc n d ∣ n := by
  have h : gi n d ∣ n := Int.natAbs_dvd_natAbs.mp (by unfold gi; rw [Int.natAbs_natCast]; exact Nat.gcd_dvd_left _ _)
  unfold fc
  split
  · exact (Int.neg_dvd).mpr h
  · exact h
theorem fc_dvd_right {n d : Int} : fc n d ∣ d := by
  have h : gi n d ∣ d := Int.natAbs_dvd_natAbs.mp (by unfold gi; rw [Int.natAbs_natCast]; exact Nat.gcd_dvd_right _ _)
  unfold fc
  split
  · exact (Int.neg_dvd).mpr h
  · exact h
theorem fc_abs {n d : Int} : (fc n d).natAbs = Nat.gcd n.natAbs d.natAbs := by
  unfold fc gi
  split
  · rw [Int.natAbs_neg, Int.natAbs_natCast]
  · rw [Int.natAbs_natCast]
theorem frac_ok {n d : Int} (d0 : d ≠ 0) : fd (.tup [.int (fN n d), .int (fM n d)]) = none ∧ (fN n d).natAbs ≤ n.natAbs ∧ (fM n d).natAbs ≤ d.natAbs := by
  have c0 : fc n d ≠ 0 := by
    have := gi_pos (n := n) d0
    unfold fc
    split <;> omega
  obtain ⟨a, ha⟩ := fc_dvd_left (n := n) (d := d)
  obtain ⟨e, he⟩ := fc_dvd_right (n := n) (d := d)
  have hN : fN n d = a := by
    unfold fN
    have := Int.mul_fdiv_cancel_left a c0
    rwa [← ha] at this
  have hM : fM n d = e := by
    unfold fM
    have := Int.mul_fdiv_cancel_left e c0
    rwa [← he] at this
  have na : n.natAbs = (fc n d).natAbs * a.natAbs := by rw [← Int.natAbs_mul, ← ha]
  have de : d.natAbs = (fc n d).natAbs * e.natAbs := by rw [← Int.natAbs_mul, ← he]
  have cp : 0 < (fc n d).natAbs := Int.natAbs_pos.mpr c0
  have g1 : Nat.gcd a.natAbs e.natAbs = 1 := by
    have h1 : (fc n d).natAbs = (fc n d).natAbs * Nat.gcd a.natAbs e.natAbs := by
      have h2 := Nat.gcd_mul_left (fc n d).natAbs a.natAbs e.natAbs
      rw [← na, ← de, ← fc_abs] at h2
      exact h2
    have h3 : (fc n d).natAbs * Nat.gcd a.natAbs e.natAbs = (fc n d).natAbs * 1 := by rw [Nat.mul_one]; exact h1.symm
    exact Nat.eq_of_mul_eq_mul_left cp h3
  have ep : ¬ e < 1 := by
    intro z
    have z2 : e ≤ 0 := by omega
    have c1 : (d < 0 → fc n d < 0) ∧ (0 < d → 0 < fc n d) := by
      have := gi_pos (n := n) d0
      unfold fc
      constructor
      · intro h
        rw [if_pos h]
        omega
      · intro h
        rw [if_neg (by omega)]
        omega
    rcases Int.lt_or_gt_of_ne d0 with h | h
    · have h1 := Int.mul_nonneg_of_nonpos_of_nonpos (Int.le_of_lt (c1.1 h)) z2
      rw [← he] at h1
      omega
    · have h1 := Int.mul_nonpos_of_nonneg_of_nonpos (Int.le_of_lt (c1.2 h)) z2
      rw [← he] at h1
      omega
  rw [hN, hM]
  refine ⟨?_, ?_, ?_⟩
  · show fp a e = none
    unfold fp gi
    rw [if_neg ep, g1]
    rfl
  · rw [na]
    exact Nat.le_mul_of_pos_left _ cp
  · rw [de]
    exact Nat.le_mul_of_pos_left _ cp
def Nt (H0 : Hp) (b : Addr) : Prop := ∀ o, (∀ ps, o ≠ .tbl ps) → H0 b ≠ some o
theorem Fx.nt {H0 H : Hp} {b : Addr} (f : Fx NoB H0 H) (h : H b = none) : Nt H0 b := fun o t e => by
  have := f b o (fun z => z) t e
  rw [h] at this
  cases this
theorem fx_boxX {H0 H H' : Hp} {b : Addr} (f : Fx NoB H0 H) (hb : Nt H0 b) (g : Fx (· = b) H H') : Fx NoB H0 H' := fun a o n t e => g a o (fun q => hb o t (by rw [← q]; exact e)) t (f a o n t e)
/-- the same data, of so many levels -/
def spSame (K : PySem.W.Frag) (n : Nat) : Sp := fun vs H Q _ => ∃ (d : D) (u v : V) (B B' : Addr → Prop), vs = [u, v] ∧ Dt K B H u d ∧ Dt K B' H v d ∧ Dep n d ∧ ∀ H', Fr NoB H H' → Q (.bl true) H'
theorem body_same {X : Cx} {n : Nat} (c : Ctx X nq_same lq_same n) (zl : X.mg "len" = none) (zi : X.mg "isinstance" = none) (zt : X.mg "tuple" = none) (zL : X.mg "list" = none) (zz : X.mg "zip" = none) (zb : X.mg "bool" = none) (zI : X.mg "int" = none) (zs : X.mg "str" = none)
    (rec : ∀ m, n = m + 1 → DefP X.prog X.w X.K X.mg X.base CX0 "_law_same" ["told", "due"] (m + 1) (spSame X.K m)) {vs : List V} {H : Hp} {Q : VK} {E : XK} (h : spSame X.K n vs H Q E) :
    RB X (defBody sq_same) { nx := fun _ H' => Q .non H', rt := Q } (start nq_same vs) H := by
  obtain ⟨d, u, v, B, B', rfl, hu, hv, hd, q⟩ := h
  have q0 := q H Fr.refl
  -- behind the kinds: row by row
  have rest : ∀ (a b : Addr) (xs ys : List V) (ds : List D) (m : Nat), n = m + 1 → (∃ Sq : Hp → Addr → List V → Prop, (Sq = (fun H => SqL X.K H) ∨ Sq = fun H => SqT X.K H) ∧ ∀ H', Fr NoB H H' → Sq H' a xs ∧ Sq H' b ys) → Dts X.K B H xs ds → Dts X.K B' H ys ds → (∀ d ∈ ds, Dep m d) →
      ∀ (nx : L2.St → Hp → Prop) (tl : List Stmt), tl = List.drop 1 ((fun s => match s with | Stmt.If _ x _ _ => x | _ => []) ((defBody sq_same).headD (.Pass ⟨0, 0, 0, 0⟩))) →
      RB X tl { nx := nx, rt := Q } [some (.ref a), some (.ref b), some (.bl true), none, none] H := by
    rintro a b xs ys ds m hm ⟨Sq, hSq, sq⟩ hx hy hds nx tl rfl
    have lenQ : ∀ (a : Addr) (xs : List V) (H' : Hp) (Q' : VK), Sq H' a xs → Q' (.int xs.length) H' → ClV X (.builtin "len") [.ref a] H' Q' := fun a xs H' Q' hs hq => by
      rcases hSq with rfl | rfl
      · exact lv_lenL hs hq
      · exact lv_lenT hs hq
    have el : xs.length = ys.length := hx.1.trans hy.1.symm
    walk_at "e0"
    refine lenQ _ _ _ _ (sq H Fr.refl).1 ?_
    walk_at "e"
    refine lenQ _ _ _ _ (sq H Fr.refl).2 ?_
    walk_at "e"
    rw [el]
    simp only [decide_true]
    walk_at "e"
    refine rb_cons ?_
    refine rs_for_zip c (by walk_at "gm") .loc (by walk_at "gm") (by walk_at "gm") .loc (by walk_at "gm") (by walk_at "gm") zz ?_
    walk_at "e"
    refine ⟨a, b, xs, ys, rfl, el, Sq, hSq, (sq H Fr.refl).1, (sq H Fr.refl).2, fun i σ H' => Fr NoB H H' ∧ ∃ s1 s2 : Option V, σ = [some (.ref a), some (.ref b), some (.bl true), s1, s2], ⟨Fr.refl, none, none, rfl⟩, fun i σ H' h => sq H' h.1, ?_, ?_⟩
    · rintro i u v σ H' T hu hv ⟨f, s1, s2, rfl⟩ hT
      refine ⟨_, _, by walk_at "gs", by walk_at "gs", ?_⟩
      walk_at "e0"
      refine re_call c (rec m hm) (by omega) (by walk_at "gm") ?_
      walk_at "e"
      have hi : i < ds.length := by
        rw [← hx.1]
        rcases Nat.lt_or_ge i xs.length with z | z
        · exact z
        · rw [List.getElem?_eq_none z] at hu; cases hu
      have hdi : ds[i]? = some ds[i] := List.getElem?_eq_getElem hi
      have f2 := f.trans (Fr.new (o := .tup [u, v]) hT)
      refine ⟨ds[i], u, v, B, B', rfl, (hx.2 i u _ hu hdi).fr f2.any, (hy.2 i v _ hv hdi).fr f2.any, hds _ (List.getElem_mem hi), fun H'' f3 => ?_⟩
      walk_at "e"
      exact ⟨f2.trans f3, _, _, rfl⟩
    · rintro σ H' ⟨f, s1, s2, rfl⟩
      walk_at "g"
      exact q H' f
  cases hu with
  | non =>
    cases hv
    show RB X (defBody sq_same) _ [some .non, some .non, none, none, none] H
    walk_at "g0"
    exact q0
  | bl =>
    cases hv
    rename_i bb
    show RB X (defBody sq_same) _ [some (.bl bb), some (.bl bb), none, none, none] H
    cases bb
    · walk_at "g0"
      refine iteDN (by decide) ?_
      walk_at "g"
      refine iteD rfl ?_
      walk_at "g"
      refine cv_eq (by rfl) ?_
      rw [decide_eq_true rfl]
      exact q0
    · walk_at "g0"
      refine iteD rfl ?_
      walk_at "g"
      refine cv_eq (by rfl) ?_
      rw [decide_eq_true rfl]
      exact q0
  | int =>
    cases hv
    rename_i ii
    show RB X (defBody sq_same) _ [some (.int ii), some (.int ii), none, none, none] H
    walk_at "g0"
    rw [decide_eq_true rfl]
    exact q0
  | str =>
    cases hv
    rename_i ss
    show RB X (defBody sq_same) _ [some (.str ss), some (.str ss), none, none, none] H
    walk_at "g0"
    rw [decide_eq_true rfl]
    exact q0
  | @lst a xs ds nb ta la ha =>
    cases hv with
    | @lst b ys _ nb' tb lb hb =>
      cases hd with
      | @lst m _ hds =>
        show RB X (defBody sq_same) _ [some (.ref a), some (.ref b), none, none, none] H
        walk_at "e0"
        walk_at "e0"
        refine rest a b xs ys ds m rfl ⟨fun H => SqL X.K H, .inl rfl, fun H' f => ⟨SqL.of (f _ _ (fun z => z) ta), SqL.of (f _ _ (fun z => z) tb)⟩⟩ ⟨la, ha⟩ ⟨lb, hb⟩ hds _ _ rfl
  | @tup a xs ds nb ta la ha =>
    cases hv with
    | @tup b ys _ nb' tb lb hb =>
      cases hd with
      | @tup m _ hds =>
        show RB X (defBody sq_same) _ [some (.ref a), some (.ref b), none, none, none] H
        walk_at "e0"
        walk_at "e0"
        refine rest a b xs ys ds m rfl ⟨fun H => SqT X.K H, .inr rfl, fun H' f => ⟨SqT.of (f _ _ (fun z => z) ta), SqT.of (f _ _ (fun z => z) tb)⟩⟩ ⟨la, ha⟩ ⟨lb, hb⟩ hds _ _ rfl
/-! ### a draw from a display -/
/-- what stands for e draws at the box alone and gives data for which P holds -/
def It (X : Cx) (b : Addr) (σ : L2.St) (H0 : Hp) (P : D → Prop) (e : Expr) : Prop :=
  ∀ (H1 : Hp) (Q : VK), Fr (· = b) H0 H1 → BoxAt H1 b → (∀ v d H2, P d → Fr (· = b) H1 H2 → BoxAt H2 b → Dt X.K (· = b) H2 v d → Q v H2) → RE X e σ H1 Q
def NoStar (e : Expr) : Prop := ∀ es env, starEach (e :: es) env = (false, eval e env) :: starEach es env
inductive ItL (X : Cx) (b : Addr) (σ : L2.St) (H0 : Hp) (P : D → Prop) : List Expr → Prop
  | nil : ItL X b σ H0 P []
  | cons {e : Expr} {es : List Expr} (s : NoStar e) (h : It X b σ H0 P e) (t : ItL X b σ H0 P es) : ItL X b σ H0 P (e :: es)
section
variable {X : Cx} {b : Addr} {σ : L2.St} {H0 : Hp} {P : D → Prop}
theorem it_de {e : Expr} {d : D} (h : DE e d) (hp : P d) : It X b σ H0 P e := fun H1 Q _ hB k => re_de h σ H1 Q fun v H2 f hd => k v d H2 hp f.any (hB.fr f) (hd.mono fun a e => by subst e; exact old_box hB)
theorem ra_its {es : List Expr} (h : ItL X b σ H0 P es) : ∀ (H1 : Hp) (Q : List V → Hp → Prop), Fr (· = b) H0 H1 → BoxAt H1 b →
    (∀ vs H2, vs.length = es.length → (∀ v ∈ vs, ∃ d, P d ∧ Dt X.K (· = b) H2 v d) → Fr (· = b) H1 H2 → BoxAt H2 b → Q vs H2) → RA X es σ H1 Q := by
  induction h with
  | nil => exact fun H1 Q f hB q => ra_nil (q [] H1 rfl (fun v hv => by cases hv) Fr.refl hB)
  | cons s h t ih =>
    intro H1 Q f hB q
    refine ra_cons (h H1 _ f hB fun v d H2 hp f2 hB2 hd => ih H2 _ (f.trans f2) hB2 fun vs H3 hl hv f3 hB3 => ?_) (s _ _)
    refine q _ H3 (by rw [List.length_cons, List.length_cons, hl]) (fun u hu => ?_) (f2.trans f3) hB3
    rcases List.mem_cons.mp hu with rfl | hu
    · exact ⟨d, hp, hd.fr f3⟩
    · exact hv u hu
theorem re_pickI {N : List Str} {L : List (Str × KN)} {k : Nat} (c : Ctx X N L k) (hk : 2 ≤ k) (dP : DefP X.prog X.w X.K X.mg X.base CX0 "_law_pick" ["box", "some"] 2 (spPick X.K)) {es : List Expr} {p0 p1 p2 p3 : Pos} {j : KN} (hg : (("_law_pick" : Str), KN.glob) ∈ L) (hb : (("box" : Str), j) ∈ L) (mb : Mine j) (sb : Slot N σ "box" (.ref b))
    (hB : BoxAt H0 b) (h : ItL X b σ H0 P es) (h0 : 0 < es.length) (h1 : es.length ≤ 1000) {Q : VK} (q : ∀ v d H2, P d → Dt X.K (· = b) H2 v d → Fr (· = b) H0 H2 → BoxAt H2 b → Q v H2) :
    RE X (.Call (.Name "_law_pick" p0) [.Name "box" p1, .List es p2] [] p3) σ H0 Q := by
  refine re_call c dP hk hg (ra_cons (re_name c sb hb mb ?_))
  refine ra_cons (re_lst (ra_its h H0 _ Fr.refl hB fun vs H1 hl hv f1 hB1 => ⟨by rw [hl]; exact Nat.le_trans h1 (by decide), fun a ha => ?_⟩))
  have g : Fr NoB H1 (upd H1 a (.lst vs)) := Fr.new ha
  refine ra_nil ⟨b, hB1.fr g, a, vs, rfl, upd_same, hB1.ne ha, by omega, by omega, fun v H2 hm f2 hB2 => ?_⟩
  obtain ⟨d, hp, hd⟩ := hv v hm
  exact q v d H2 hp ((hd.fr g.any).fr f2) (f1.trans (g.any.trans f2)) hB2
end
theorem gi_eq (a b : Int) : gi a b = ((Int.gcd a b : Nat) : Int) := rfl
def Lw (n m : Int) : Prop := 0 < m ∧ gi n m = 1
theorem Lw.g {n m : Int} (h : Lw n m) : Int.gcd n m = 1 := by
  have h2 := h.2
  rw [gi_eq] at h2
  omega
theorem lw_mk {n m : Int} (h : 0 < m) (g : Int.gcd n m = 1) : Lw n m := ⟨h, by rw [gi_eq, g]; rfl⟩
theorem lw_0 {m : Int} (h : Lw 0 m) : m = 1 := by
  have g := h.g
  rw [Int.zero_gcd] at g
  have := h.1
  omega
theorem dep_ints {n : Nat} {l : List Int} : ∀ d ∈ l.map D.int, Dep n d := fun d hd => by
  obtain ⟨i, _, rfl⟩ := List.mem_map.mp hd
  exact .int
/-! ### pairs of whole numbers -/
theorem lw_of_fd {n m : Int} (h : fd (.tup [.int n, .int m]) = none) : Lw n m := by
  have h1 : fp n m = none := h
  unfold fp at h1
  split at h1
  · cases h1
  · split at h1
    · exact ⟨by omega, by assumption⟩
    · cases h1
theorem lw_frac {n d : Int} (d0 : d ≠ 0) : Lw (fN n d) (fM n d) := lw_of_fd (frac_ok d0).1
theorem frac_eq {n d : Int} (d0 : d ≠ 0) : fN n d * d = n * fM n d := by
  have c0 : fc n d ≠ 0 := by
    have := gi_pos (n := n) d0
    unfold fc
    split <;> omega
  obtain ⟨a, ha⟩ := fc_dvd_left (n := n) (d := d)
  obtain ⟨e, he⟩ := fc_dvd_right (n := n) (d := d)
  have hN : fN n d = a := by
    unfold fN
    have := Int.mul_fdiv_cancel_left a c0
    rwa [← ha] at this
  have hM : fM n d = e := by
    unfold fM
    have := Int.mul_fdiv_cancel_left e c0
    rwa [← he] at this
  rw [hN, hM]
  generalize fc n d = c at *
  rw [he, ha]
  simp only [Int.mul_assoc, Int.mul_comm, Int.mul_left_comm]
def dF (n m : Int) : D := .tup [.int n, .int m]
theorem dep_F {k : Nat} (n m : Int) : Dep (k + 1) (dF n m) := .tup fun d hd => dep_ints (l := [n, m]) d hd
/-- v is a pair of these whole numbers -/
def At2 (H : Hp) (v : V) (n m : Int) : Prop := ∃ a, v = .ref a ∧ H a = some (.tup [.int n, .int m])
section
variable {H H' : Hp} {v : V} {n m : Int} {b p : Addr} {K : PySem.W.Frag} {B : Addr → Prop}
theorem At2.fr (h : At2 H v n m) (f : Fr NoB H H') : At2 H' v n m := by
  obtain ⟨a, e, h⟩ := h
  exact ⟨a, e, f _ _ (fun z => z) h⟩
theorem At2.fx (h : At2 H v n m) (f : Fx NoB H H') : At2 H' v n m := by
  obtain ⟨a, e, h⟩ := h
  exact ⟨a, e, f.tup (fun z => z) h⟩
theorem At2.ne {xs : List V} (h : At2 H v n m) (hb : H b = some (.lst xs)) : ∃ a, v = .ref a ∧ ¬ a = b ∧ H a = some (.tup [.int n, .int m]) := by
  obtain ⟨a, e, h⟩ := h
  exact ⟨a, e, (fun z => by rw [z, hb] at h; cases h), h⟩
theorem At2.draw (h : At2 H v n m) (hB : BoxAt H b) (f : Fr (· = b) H H') : At2 H' v n m := by
  obtain ⟨g, r, hb, _⟩ := hB
  obtain ⟨a, e, ne, h⟩ := h.ne hb
  exact ⟨a, e, f _ _ ne h⟩
theorem At2.put {xs : List V} {o : HO} (h : At2 H v n m) (hb : H b = some (.lst xs)) : At2 (upd H b o) v n m := by
  obtain ⟨a, e, ne, h⟩ := h.ne hb
  exact ⟨a, e, by rw [upd_ne ne]; exact h⟩
theorem At2.dt (h : At2 H v n m) : Dt K NoB H v (dF n m) := by
  obtain ⟨a, rfl, h⟩ := h
  exact Dt.ofT (fun z => z) h (.cons .int (.cons .int .nil))
theorem At2.dtb (h : At2 H v n m) (hB : BoxAt H b) : Dt K (· = b) H v (dF n m) := by
  obtain ⟨g, r, hb, _⟩ := hB
  obtain ⟨a, rfl, ne, h⟩ := h.ne hb
  exact Dt.ofT ne h (.cons .int (.cons .int .nil))
theorem At2.of_dt (h : Dt K B H v (dF n m)) : At2 H v n m := by
  unfold dF at h
  cases h with
  | @tup a us _ _ ha hl hh =>
    obtain ⟨u1, u2, rfl⟩ := two_of hl
    have e1 := hh 0 u1 _ rfl rfl
    have e2 := hh 1 u2 _ rfl rfl
    cases e1
    cases e2
    exact ⟨a, rfl, ha⟩
theorem At2.new (hp : H p = none) : At2 (upd H p (.tup [.int n, .int m])) (.ref p) n m := ⟨p, rfl, upd_same⟩
end
def WA (n : Int) : Prop := n.natAbs ≤ 10 ^ 40
theorem WA.w3 {n : Int} (h : WA n) : W3 n := Nat.lt_of_le_of_lt h (by decide +kernel)
theorem wa_small {n : Int} (h : -(2 ^ 64) < n ∧ n < 2 ^ 64) : WA n := by
  unfold WA
  exact Nat.le_trans (show n.natAbs ≤ 2 ^ 64 by omega) (by decide +kernel)
abbrev DT (X : Cx) := DefP X.prog X.w X.K X.mg X.base CX0
def spFrac : Sp := fun vs H Q _ => ∃ b : Addr, vs = [.ref b] ∧ BoxAt H b ∧ ∀ (n m : Int) v H', Lw n m → WA n → WA m → Fr (· = b) H H' → BoxAt H' b → At2 H' v n m → Q v H'
section
variable {X : Cx} {vs : List V} {H : Hp} {Q : VK} {E : XK}
theorem body_fraction (c : Ctx X nq_fraction lq_fraction 3) (za : X.mg "abs" = none) (dT : DT X "_law_take" ["box", "many"] 1 spTake) (dP : DT X "_law_pick" ["box", "some"] 2 (spPick X.K)) (dW : DT X "_law_whole" ["box"] 3 spWhole) (dG : DT X "_law_part" ["one", "two"] 1 spPart) (h : spFrac vs H Q E) :
    RB X (defBody sq_fraction) { nx := fun _ H' => Q .non H', rt := Q } (start nq_fraction vs) H := by
  obtain ⟨b, rfl, hB, q⟩ := h
  show RB X (defBody sq_fraction) _ [some (.ref b), none, none, none] H
  refine rb_cons (rs_set c (by walk_at "gm") .loc (by walk_at "gm") ?_)
  have tiny : ∀ {i : Int}, 0 < i ∧ i < 2 ^ 64 → ∃ k : Int, D.int i = .int k ∧ 0 < k ∧ WA k := fun h => ⟨_, rfl, h.1, wa_small (by omega)⟩
  refine re_pickI (P := fun d => ∃ k : Int, d = .int k ∧ 0 < k ∧ WA k) c (by decide) dP (by walk_at "gm") (by walk_at "gm") .loc (by walk_at "gs") hB (.cons (fun _ _ => rfl) (it_de .int (tiny (by decide))) (.cons (fun _ _ => rfl) (it_de .int (tiny (by decide))) (.cons (fun _ _ => rfl) (it_de .int (tiny (by decide))) (.cons (fun _ _ => rfl) (it_de .int (tiny (by decide)))
    (.cons (fun _ _ => rfl) (it_de .int (tiny (by decide))) (.cons (fun _ _ => rfl) (it_de .int (tiny (by decide))) (.cons (fun _ _ => rfl) (it_de .int (tiny (by decide))) (.cons (fun _ _ => rfl) (it_de (.pow .int .int ⟨by decide, by decide, by decide⟩) (tiny (by decide)))
    (.cons (fun _ _ => rfl) ?_ (.cons (fun _ _ => rfl) ?_ (.cons (fun _ _ => rfl) ?_ .nil))))))))))) (by decide) (by decide) fun v d H1 hd dv f1 hB1 => ?_
  · intro H3 K f hB3 k
    walk_at "e"
    refine re_call c dT (by decide) (by walk_at "gm") ?_
    walk_at "e"
    refine ⟨b, 12, rfl, hB3, by decide, by decide, fun x H4 x0 x1 f4 hB4 => ?_⟩
    walk_at "e"
    exact k _ (.int (1 + x)) H4 (tiny (by omega)) f4 hB4 .int
  · intro H3 K f hB3 k
    walk_at "e"
    refine re_call c dT (by decide) (by walk_at "gm") ?_
    walk_at "e"
    refine ov_pow ⟨by decide, by decide, by decide⟩ ?_
    walk_at "e"
    refine ⟨b, _, rfl, hB3, by decide, by decide, fun x H4 x0 x1 f4 hB4 => ?_⟩
    have x2 : x < 10000 := x1
    walk_at "e"
    exact k _ (.int (1 + x)) H4 (tiny (by omega)) f4 hB4 .int
  · intro H3 K f hB3 k
    walk_at "e"
    refine re_call c dW (by decide) (by walk_at "gm") ?_
    walk_at "e"
    refine ⟨b, rfl, hB3, fun x H4 wx f4 hB4 => ?_⟩
    walk_at "e"
    rw [abs_nat]
    have w2 : x.natAbs < 10 ^ 40 := wx
    refine k _ (.int (((x.natAbs : Nat) : Int) + 1)) H4 ⟨_, rfl, by omega, ?_⟩ f4 hB4 .int
    unfold WA
    omega
  · obtain ⟨low, rfl, l0, wl⟩ := hd
    obtain rfl : v = .int low := by cases dv; rfl
    refine ⟨_, by walk_at "gs", ?_⟩
    walk_at "e0"
    refine re_call c dW (by decide) (by walk_at "gm") ?_
    walk_at "e"
    refine ⟨b, rfl, hB1, fun top H2 wt f2 hB2 => ?_⟩
    walk_at "e"
    have wt3 : W3 top := W1.w3 wt
    walk_at "e0"
    refine re_call c dG (by decide) (by walk_at "gm") ?_
    walk_at "e"
    refine ⟨top, low, rfl, wt3, wl.w3, ?_⟩
    walk_at "e"
    walk_at "e0"
    have d0 : low ≠ 0 := by omega
    have gp := gi_pos (n := top) d0
    have gw := gi_w (n := top) d0 wl.w3
    have ef : fc top low = gi top low := by unfold fc; rw [if_neg (by omega)]
    refine ov_fdivX (by omega) gw (by decide) (by decide) ?_
    walk_at "e"
    refine ov_fdivX (by omega) gw (by decide) (by decide) ?_
    walk_at "e"
    refine ⟨by show 2 ≤ sizeLine; decide, fun p hp => ?_⟩
    obtain ⟨fok, wn, wm⟩ := frac_ok (n := top) d0
    have lw := lw_of_fd fok
    unfold fN at lw wn
    unfold fM at lw wm
    rw [ef] at lw wn wm
    refine q _ _ _ _ lw (Nat.le_trans wn (Nat.le_of_lt wt)) (Nat.le_trans wm wl) ((f1.trans f2).trans (Fr.new hp)) (hB2.fr (Fr.new hp)) (At2.new hp)
end
/-! ### the texts of fractions, sign by sign -/
inductive S6 | be | mi | no | ab | st | bn
  deriving DecidableEq
def isD (c : Nat) : Bool := decide (48 ≤ c) && decide (c ≤ 57)
def isP (c : Nat) : Bool := decide (49 ≤ c) && decide (c ≤ 57)
def stp : S6 → Nat → Option S6
  | .be, c => if c = 45 then some .mi else if c = 48 then some .no else if isP c = true then some .ab else none
  | .mi, c => if isP c = true then some .ab else none
  | .no, c => if c = 47 then some .st else none
  | .ab, c => if isD c = true then some .ab else if c = 47 then some .st else none
  | .st, c => if isP c = true then some .bn else none
  | .bn, c => if isD c = true then some .bn else none
def fin : S6 → Bool
  | .no => true
  | .ab => true
  | .bn => true
  | _ => false
def fltF : S6 → Nat → List Nat → Option Nat
  | s, i, [] => if fin s = true then none else some i
  | s, i, c :: r => match stp s c with
    | none => some i
    | some s' => fltF s' (i + 1) r
def flt (l : List Nat) : Option Nat := fltF .be 0 l
def Ds (l : List Nat) : Prop := ∀ c ∈ l, isD c = true
/-- a number of figures that begins with none but its only one a nought -/
def Pos1 (l : List Nat) : Prop := ∃ c r, l = c :: r ∧ isP c = true ∧ Ds r
def Num1 (l : List Nat) : Prop := l = [48] ∨ Pos1 l ∨ ∃ r, l = 45 :: r ∧ Pos1 r
theorem isP_D {c : Nat} (h : isP c = true) : isD c = true := by
  unfold isP at h
  unfold isD
  simp only [Bool.and_eq_true, decide_eq_true_eq] at *
  omega
theorem isD_47 {c : Nat} (h : isD c = true) : c ≠ 47 ∧ c ≠ 45 ∧ 48 ≤ c ∧ c ≤ 57 := by
  unfold isD at h
  simp only [Bool.and_eq_true, decide_eq_true_eq] at h
  omega
theorem Ds.tail {c : Nat} {l : List Nat} (h : Ds (c :: l)) : isD c = true ∧ Ds l := ⟨h c List.mem_cons_self, fun x hx => h x (List.mem_cons_of_mem _ hx)⟩
theorem flt_bn {l : List Nat} : ∀ {i : Nat}, fltF .bn i l = none → Ds l := by
  induction l with
  | nil => intro i _ c hc; cases hc
  | cons c r ih =>
    intro i h
    unfold fltF at h
    by_cases hd : isD c = true
    · have e : stp .bn c = some .bn := by simp only [stp]; rw [if_pos hd]
      rw [e] at h
      intro x hx
      rcases List.mem_cons.mp hx with rfl | hx
      · exact hd
      · exact ih h x hx
    · have e : stp .bn c = none := by simp only [stp]; rw [if_neg hd]
      rw [e] at h
      cases h
theorem flt_st {l : List Nat} {i : Nat} (h : fltF .st i l = none) : Pos1 l := by
  cases l with
  | nil => cases h
  | cons c r =>
    unfold fltF at h
    by_cases hd : isP c = true
    · have e : stp .st c = some .bn := by simp only [stp]; rw [if_pos hd]
      rw [e] at h
      exact ⟨c, r, rfl, hd, flt_bn h⟩
    · have e : stp .st c = none := by simp only [stp]; rw [if_neg hd]
      rw [e] at h
      cases h
/-- what goes on behind figures: figures, or figures, a stroke and a number -/
theorem flt_ab {l : List Nat} : ∀ {i : Nat}, fltF .ab i l = none → Ds l ∨ ∃ a e, l = a ++ 47 :: e ∧ Ds a ∧ Pos1 e := by
  induction l with
  | nil => intro i _; exact .inl fun c hc => by cases hc
  | cons c r ih =>
    intro i h
    unfold fltF at h
    by_cases hd : isD c = true
    · have e : stp .ab c = some .ab := by simp only [stp]; rw [if_pos hd]
      rw [e] at h
      rcases ih h with h | ⟨a, e, rfl, ha, he⟩
      · refine .inl fun x hx => ?_
        rcases List.mem_cons.mp hx with rfl | hx
        · exact hd
        · exact h x hx
      · refine .inr ⟨c :: a, e, rfl, fun x hx => ?_, he⟩
        rcases List.mem_cons.mp hx with rfl | hx
        · exact hd
        · exact ha x hx
    · by_cases h47 : c = 47
      · have e : stp .ab c = some .st := by simp only [stp]; rw [if_neg hd, if_pos h47]
        rw [e] at h
        subst h47
        exact .inr ⟨[], r, rfl, (fun x hx => by cases hx), flt_st h⟩
      · have e : stp .ab c = none := by simp only [stp]; rw [if_neg hd, if_neg h47]
        rw [e] at h
        cases h
def Sl (l : List Nat) : Prop := ∃ a e, l = a ++ 47 :: e ∧ Num1 a ∧ Pos1 e
theorem flt_none {l : List Nat} (h : flt l = none) : Num1 l ∨ Sl l := by
  unfold flt at h
  cases l with
  | nil => cases h
  | cons c r =>
    unfold fltF at h
    by_cases h45 : c = 45
    · have e : stp .be c = some .mi := by simp only [stp]; rw [if_pos h45]
      rw [e] at h
      subst h45
      cases r with
      | nil => cases h
      | cons d t =>
        have h2 : fltF .mi (0 + 1) (d :: t) = none := h
        unfold fltF at h2
        by_cases hd : isP d = true
        · have e : stp .mi d = some .ab := by simp only [stp]; rw [if_pos hd]
          rw [e] at h2
          rcases flt_ab h2 with h | ⟨a, e, rfl, ha, he⟩
          · exact .inl (.inr (.inr ⟨_, rfl, d, t, rfl, hd, h⟩))
          · exact .inr ⟨45 :: d :: a, e, rfl, .inr (.inr ⟨_, rfl, d, a, rfl, hd, ha⟩), he⟩
        · have e : stp .mi d = none := by simp only [stp]; rw [if_neg hd]
          rw [e] at h2
          cases h2
    · by_cases h48 : c = 48
      · have e : stp .be c = some .no := by simp only [stp]; rw [if_neg h45, if_pos h48]
        rw [e] at h
        subst h48
        cases r with
        | nil => exact .inl (.inl rfl)
        | cons d t =>
          have h2 : fltF .no (0 + 1) (d :: t) = none := h
          unfold fltF at h2
          by_cases hd : d = 47
          · have e : stp .no d = some .st := by simp only [stp]; rw [if_pos hd]
            rw [e] at h2
            subst hd
            exact .inr ⟨[48], t, rfl, .inl rfl, flt_st h2⟩
          · have e : stp .no d = none := by simp only [stp]; rw [if_neg hd]
            rw [e] at h2
            cases h2
      · by_cases hd : isP c = true
        · have e : stp .be c = some .ab := by simp only [stp]; rw [if_neg h45, if_neg h48, if_pos hd]
          rw [e] at h
          rcases flt_ab h with h | ⟨a, e, rfl, ha, he⟩
          · exact .inl (.inr (.inl ⟨c, r, rfl, hd, h⟩))
          · exact .inr ⟨c :: a, e, rfl, .inr (.inl ⟨c, a, rfl, hd, ha⟩), he⟩
        · have e : stp .be c = none := by simp only [stp]; rw [if_neg h45, if_neg h48, if_neg hd]
          rw [e] at h
          cases h
/-! ### and back -/
theorem bn_none {l : List Nat} (h : Ds l) : ∀ i, fltF .bn i l = none := by
  induction l with
  | nil => intro i; rfl
  | cons c r ih =>
    intro i
    obtain ⟨hd, hr⟩ := h.tail
    unfold fltF
    have e : stp .bn c = some .bn := by simp only [stp]; rw [if_pos hd]
    rw [e]
    exact ih hr _
theorem st_none {l : List Nat} (h : Pos1 l) (i : Nat) : fltF .st i l = none := by
  obtain ⟨c, r, rfl, hp, hr⟩ := h
  unfold fltF
  have e : stp .st c = some .bn := by simp only [stp]; rw [if_pos hp]
  rw [e]
  exact bn_none hr _
theorem ab_none {a : List Nat} (h : Ds a) : ∀ {t : List Nat} {i : Nat}, (t = [] ∨ ∃ e, t = 47 :: e ∧ Pos1 e) → fltF .ab i (a ++ t) = none := by
  induction a with
  | nil =>
    intro t i ht
    rcases ht with rfl | ⟨e, rfl, he⟩
    · rfl
    · rw [List.nil_append]
      unfold fltF
      have e : stp .ab 47 = some .st := rfl
      rw [e]
      exact st_none he _
  | cons c r ih =>
    intro t i ht
    obtain ⟨hd, hr⟩ := h.tail
    rw [List.cons_append]
    unfold fltF
    have e : stp .ab c = some .ab := by simp only [stp]; rw [if_pos hd]
    rw [e]
    exact ih hr ht
theorem num_none {a t : List Nat} (h : Num1 a) (ht : t = [] ∨ ∃ e, t = 47 :: e ∧ Pos1 e) : flt (a ++ t) = none := by
  unfold flt
  rcases h with rfl | ⟨c, r, rfl, hp, hr⟩ | ⟨_, rfl, c, r, rfl, hp, hr⟩
  · rcases ht with rfl | ⟨e, rfl, he⟩
    · rfl
    · show fltF .no 1 (47 :: e) = none
      unfold fltF
      have e1 : stp .no 47 = some .st := rfl
      rw [e1]
      exact st_none he _
  · rw [List.cons_append]
    unfold fltF
    have hc := isP_D hp
    obtain ⟨_, h45, _, _⟩ := isD_47 hc
    have h48 : c ≠ 48 := fun z => by subst z; revert hp; decide
    have e : stp .be c = some .ab := by simp only [stp]; rw [if_neg h45, if_neg h48, if_pos hp]
    rw [e]
    exact ab_none hr ht
  · show fltF .mi 1 (c :: (r ++ t)) = none
    unfold fltF
    have e : stp .mi c = some .ab := by simp only [stp]; rw [if_pos hp]
    rw [e]
    exact ab_none hr ht
/-! ### numbers -/
open NumText TL in
theorem ds_all {l : List Nat} (h : Ds l) : AllDigits l := fun c hc => by
  have := isD_47 (h c hc)
  omega
open NumText in
theorem val_snoc (l : List Nat) (c : Nat) : digitsVal (l ++ [c]) = digitsVal l * 10 + (c - 48) := by
  unfold digitsVal
  rw [List.foldl_append]
  rfl
open TL in
theorem num_ds (n : Nat) : Ds (numL n) := fun c hc => by
  have := numL_digits n c hc
  unfold isD
  simp only [Bool.and_eq_true, decide_eq_true_eq]
  omega
open TL in
theorem num_pos (n : Nat) (h : 0 < n) : Pos1 (numL n) := by
  induction n using Nat.strongRecOn with
  | _ n ih =>
    by_cases h10 : n < 10
    · rw [numL_lt h10]
      refine ⟨48 + n, [], rfl, ?_, fun c hc => by cases hc⟩
      unfold isP
      simp only [Bool.and_eq_true, decide_eq_true_eq]
      omega
    · rw [numL_step (by omega)]
      obtain ⟨c, r, e, hp, hr⟩ := ih (n / 10) (by omega) (by omega)
      rw [e]
      refine ⟨c, r ++ [48 + n % 10], rfl, hp, fun x hx => ?_⟩
      rcases List.mem_append.mp hx with hx | hx
      · exact hr x hx
      · rw [List.mem_singleton.mp hx]
        unfold isD
        simp only [Bool.and_eq_true, decide_eq_true_eq]
        omega
theorem snoc_ind {P : List Nat → Prop} (h0 : P []) (h1 : ∀ l c, P l → P (l ++ [c])) (l : List Nat) : P l := by
  have key : ∀ l : List Nat, P l.reverse := by
    intro l
    induction l with
    | nil => exact h0
    | cons c r ih =>
      rw [List.reverse_cons]
      exact h1 _ _ ih
  have h := key l.reverse
  rwa [List.reverse_reverse] at h
open TL NumText in
theorem val_num {l : List Nat} (h : Pos1 l) : 0 < digitsVal l ∧ numL (digitsVal l) = l := by
  obtain ⟨c, r, rfl, hp, hr⟩ := h
  have hc := isD_47 (isP_D hp)
  have h49 : 49 ≤ c := by
    unfold isP at hp
    simp only [Bool.and_eq_true, decide_eq_true_eq] at hp
    omega
  revert hr
  refine snoc_ind (P := fun r => Ds r → 0 < digitsVal (c :: r) ∧ numL (digitsVal (c :: r)) = c :: r) (fun _ => ?_) (fun r d ih hr => ?_) r
  · have e : digitsVal [c] = c - 48 := by
      unfold digitsVal
      simp
    rw [e]
    refine ⟨by omega, ?_⟩
    rw [numL_lt (by omega)]
    have : 48 + (c - 48) = c := by omega
    rw [this]
  · obtain ⟨i1, i2⟩ := ih fun x hx => hr x (List.mem_append_left _ hx)
    have hd := isD_47 (hr d (List.mem_append_right _ (List.mem_singleton.mpr rfl)))
    have e : c :: (r ++ [d]) = (c :: r) ++ [d] := rfl
    rw [e, val_snoc]
    refine ⟨by omega, ?_⟩
    rw [numL_step (by omega)]
    have e1 : (digitsVal (c :: r) * 10 + (d - 48)) / 10 = digitsVal (c :: r) := by omega
    have e2 : (digitsVal (c :: r) * 10 + (d - 48)) % 10 = d - 48 := by omega
    rw [e1, e2, i2]
    have : 48 + (d - 48) = d := by omega
    rw [this]
open NumText in
/-- the number that a text of figures tells -/
def valI : List Nat → Int
  | 45 :: r => -((digitsVal r : Nat) : Int)
  | l => ((digitsVal l : Nat) : Int)
open TL in
def numI (n : Int) : List Nat := if n < 0 then 45 :: numL n.natAbs else numL n.natAbs
theorem valI_pos {l : List Nat} (h : l.head? ≠ some 45) : valI l = ((NumText.digitsVal l : Nat) : Int) := by
  unfold valI
  split
  · exact absurd rfl h
  · rfl
theorem pos_head {l : List Nat} (h : Pos1 l) : l.head? ≠ some 45 := by
  obtain ⟨c, r, rfl, hp, _⟩ := h
  have := isD_47 (isP_D hp)
  intro e
  have e2 : c = 45 := Option.some.inj e
  omega
theorem val_numI {l : List Nat} (h : Num1 l) : numI (valI l) = l := by
  rcases h with rfl | h | ⟨r, rfl, h⟩
  · decide +kernel
  · obtain ⟨h0, e⟩ := val_num h
    rw [valI_pos (pos_head h)]
    unfold numI
    rw [if_neg (by omega), Int.natAbs_natCast]
    exact e
  · obtain ⟨h0, e⟩ := val_num h
    show numI (-((NumText.digitsVal r : Nat) : Int)) = _
    unfold numI
    rw [if_pos (by omega), Int.natAbs_neg, Int.natAbs_natCast, e]
theorem numI_num (n : Int) : Num1 (numI n) := by
  unfold numI
  split
  · exact .inr (.inr ⟨_, rfl, num_pos _ (by omega)⟩)
  · rcases Nat.eq_zero_or_pos n.natAbs with e | e
    · rw [e]
      exact .inl (TL.numL_lt (by decide))
    · exact .inr (.inl (num_pos _ e))
theorem valI_num (n : Int) : valI (numI n) = n := by
  unfold numI
  split
  · show -((NumText.digitsVal (TL.numL n.natAbs) : Nat) : Int) = n
    rw [TL.numL_val]
    omega
  · rcases Nat.eq_zero_or_pos n.natAbs with e | e
    · have : n = 0 := by omega
      subst this
      decide +kernel
    · rw [valI_pos (pos_head (num_pos _ e)), TL.numL_val]
      omega
theorem num_47 {a : List Nat} (h : Num1 a) : 47 ∉ a := by
  have ps : ∀ {l : List Nat}, Pos1 l → 47 ∉ l := fun h hm => by
    obtain ⟨c, r, rfl, hp, hr⟩ := h
    rcases List.mem_cons.mp hm with e | hm
    · exact (isD_47 (isP_D hp)).1 e.symm
    · exact (isD_47 (hr _ hm)).1 rfl
  rcases h with rfl | h | ⟨r, rfl, h⟩
  · decide
  · exact ps h
  · intro hm
    rcases List.mem_cons.mp hm with e | hm
    · cases e
    · exact ps h hm
/-! ### what a text tells -/
inductive Rd
  | bad (i : Int)
  | good (n d : Int)
def cutAt (l : List Nat) : Nat := l.findIdx (fun c => decide (c = 47))
def rd (l : List Nat) : Rd := match flt l with
  | some i => .bad i
  | none => if cutAt l = l.length then .good (valI l) 1 else
      if ((NumText.digitsVal (l.drop (cutAt l + 1)) : Nat) : Int) = 1 ∨ gi (valI (l.take (cutAt l))) ((NumText.digitsVal (l.drop (cutAt l + 1)) : Nat) : Int) ≠ 1 then .bad ((cutAt l + 1 : Nat) : Int)
      else .good (valI (l.take (cutAt l))) ((NumText.digitsVal (l.drop (cutAt l + 1)) : Nat) : Int)
theorem cut_none {l : List Nat} (h : 47 ∉ l) : cutAt l = l.length := by
  unfold cutAt
  rw [List.findIdx_eq_length]
  intro x hx
  exact decide_eq_false fun e => h (e ▸ hx)
theorem cut_app {a e : List Nat} (h : 47 ∉ a) : cutAt (a ++ 47 :: e) = a.length := by
  unfold cutAt
  rw [List.findIdx_append]
  have h1 : a.findIdx (fun c => decide (c = 47)) = a.length := cut_none h
  have h2 : (47 :: e).findIdx (fun c => decide (c = 47)) = 0 := by
    rw [List.findIdx_cons]
    rfl
  rw [h1, if_neg (Nat.lt_irrefl _), h2, Nat.zero_add]
theorem take_app {a e : List Nat} : (a ++ 47 :: e).take a.length = a := by
  rw [List.take_append_of_le_length (Nat.le_refl _), List.take_length]
theorem drop_app {a e : List Nat} : (a ++ 47 :: e).drop (a.length + 1) = e := by
  rw [← List.drop_drop, List.drop_append_of_le_length (Nat.le_refl _), List.drop_length]
  rfl
theorem rd_bad {l : List Nat} {i : Nat} (h : flt l = some i) : rd l = .bad i := by
  unfold rd
  rw [h]
theorem rd_num {l : List Nat} (h : Num1 l) : rd l = .good (valI l) 1 := by
  have f : flt l = none := by
    have := num_none h (t := []) (.inl rfl)
    rwa [List.append_nil] at this
  unfold rd
  rw [f]
  show (if cutAt l = l.length then _ else _) = _
  rw [if_pos (cut_none (num_47 h))]
theorem rd_sl {a e : List Nat} (h : Num1 a) (g : Pos1 e) : rd (a ++ 47 :: e) = if ((NumText.digitsVal e : Nat) : Int) = 1 ∨ gi (valI a) ((NumText.digitsVal e : Nat) : Int) ≠ 1 then .bad ((a.length + 1 : Nat) : Int) else .good (valI a) ((NumText.digitsVal e : Nat) : Int) := by
  have f : flt (a ++ 47 :: e) = none := num_none h (.inr ⟨e, rfl, g⟩)
  unfold rd
  rw [f]
  show (if cutAt (a ++ 47 :: e) = (a ++ 47 :: e).length then _ else _) = _
  rw [cut_app (num_47 h), if_neg (by rw [List.length_append, List.length_cons]; omega), take_app, drop_app]
/-- the text of a fraction -/
def txF (n d : Int) : List Nat := if d = 1 then numI n else numI n ++ 47 :: TL.numL d.toNat
theorem rd_txF {n d : Int} (h : Lw n d) : rd (txF n d) = .good n d := by
  have d0 := h.1
  unfold txF
  by_cases e : d = 1
  · rw [if_pos e, rd_num (numI_num n), valI_num, e]
  · rw [if_neg e, rd_sl (numI_num n) (num_pos _ (by omega)), valI_num, TL.numL_val]
    have e2 : ((d.toNat : Nat) : Int) = d := by omega
    rw [e2, if_neg (fun z => by rcases z with z | z; exact e z; exact z h.2)]
theorem rd_good {l : List Nat} {n d : Int} (h : rd l = .good n d) : l = txF n d ∧ Lw n d := by
  cases f : flt l with
  | some i =>
    rw [rd_bad f] at h
    cases h
  | none =>
    rcases flt_none f with h1 | ⟨a, e, rfl, h1, h2⟩
    · rw [rd_num h1] at h
      cases h
      refine ⟨?_, by decide, ?_⟩
      · unfold txF
        rw [if_pos rfl, val_numI h1]
      · rw [gi_eq, Int.gcd_one]
        rfl
    · rw [rd_sl h1 h2] at h
      split at h
      · cases h
      · rename_i z
        cases h
        obtain ⟨p, e1⟩ := val_num h2
        have z1 : ¬ ((NumText.digitsVal e : Nat) : Int) = 1 := fun y => z (.inl y)
        refine ⟨?_, by omega, ?_⟩
        · unfold txF
          rw [if_neg z1, val_numI h1, Int.toNat_natCast, e1]
        · exact Classical.byContradiction fun y => z (.inr y)
/-! ### the program's tables -/
def pN : S6 → Str
  | .be => "begin"
  | .mi => "minus"
  | .no => "nought"
  | .ab => "above"
  | .st => "stroke"
  | .bn => "beneath"
def rowsOf : S6 → List (Str × S6)
  | .be => [("-", .mi), ("0", .no), ("123456789", .ab)]
  | .mi => [("123456789", .ab)]
  | .no => [("/", .st)]
  | .ab => [("0123456789", .ab), ("/", .st)]
  | .st => [("123456789", .bn)]
  | .bn => [("0123456789", .bn)]
structure StepsP (X : Cx) (a : Addr) : Prop where
  g : X.mg "STEPS" = some (.ref a)
  rows : ∀ s, ∃ (t : Addr) (ts : List Addr), KDct X.K X.w a (pN s) (.ref t) ∧ (∀ H, SqT X.K H t (ts.map V.ref)) ∧ ts.length = (rowsOf s).length ∧ ∀ (i : Nat) tt r, ts[i]? = some tt → (rowsOf s)[i]? = some r → ∀ H, SqT X.K H tt [.str r.1, .str (pN r.2)]
structure LastP (X : Cx) (a : Addr) : Prop where
  g : X.mg "LAST_STATES" = some (.ref a)
  seq : ∀ H, SqT X.K H a [.str "nought", .str "above", .str "beneath"]
def hit (c : Nat) (r : Str × S6) : Option S6 := if c ∈ r.1.cps.toList then some r.2 else none
theorem mem_D {c : Nat} : c ∈ ("0123456789" : Str).cps.toList ↔ isD c = true := by
  have e : ("0123456789" : Str).cps.toList = [48, 49, 50, 51, 52, 53, 54, 55, 56, 57] := by decide +kernel
  rw [e]
  unfold isD
  simp only [Bool.and_eq_true, decide_eq_true_eq, List.mem_cons, List.not_mem_nil, or_false]
  omega
theorem mem_P {c : Nat} : c ∈ ("123456789" : Str).cps.toList ↔ isP c = true := by
  have e : ("123456789" : Str).cps.toList = [49, 50, 51, 52, 53, 54, 55, 56, 57] := by decide +kernel
  rw [e]
  unfold isP
  simp only [Bool.and_eq_true, decide_eq_true_eq, List.mem_cons, List.not_mem_nil, or_false]
  omega
theorem mem_1 {c : Nat} : (c ∈ ("-" : Str).cps.toList ↔ c = 45) ∧ (c ∈ ("0" : Str).cps.toList ↔ c = 48) ∧ (c ∈ ("/" : Str).cps.toList ↔ c = 47) := by
  have e1 : ("-" : Str).cps.toList = [45] := by decide +kernel
  have e2 : ("0" : Str).cps.toList = [48] := by decide +kernel
  have e3 : ("/" : Str).cps.toList = [47] := by decide +kernel
  rw [e1, e2, e3]
  simp
theorem stp_rows (s : S6) (c : Nat) : (rowsOf s).findSome? (hit c) = stp s c := by
  obtain ⟨m1, m2, m3⟩ := mem_1 (c := c)
  cases s <;> simp only [rowsOf, stp, List.findSome?_cons, List.findSome?_nil, hit, mem_D, mem_P, m1, m2, m3]
  · by_cases h1 : c = 45
    · rw [if_pos h1, if_pos h1]
    · rw [if_neg h1, if_neg h1]
      by_cases h2 : c = 48
      · rw [if_pos h2, if_pos h2]
      · rw [if_neg h2, if_neg h2]
        by_cases h3 : isP c = true
        · rw [if_pos h3]
        · rw [if_neg h3]
  · by_cases h3 : isP c = true
    · rw [if_pos h3]
    · rw [if_neg h3]
  · by_cases h3 : c = 47
    · rw [if_pos h3]
    · rw [if_neg h3]
  · by_cases h3 : isD c = true
    · rw [if_pos h3, if_pos h3]
    · rw [if_neg h3, if_neg h3]
      by_cases h4 : c = 47
      · rw [if_pos h4]
      · rw [if_neg h4]
  · by_cases h3 : isP c = true
    · rw [if_pos h3]
    · rw [if_neg h3]
  · by_cases h3 : isD c = true
    · rw [if_pos h3]
    · rw [if_neg h3]
def oP : Option S6 → V
  | none => .non
  | some s => .str (pN s)
def spSB : Sp := fun vs H Q _ => ∃ (s : S6) (c : Nat), vs = [.str (pN s), .str ⟨#[c]⟩] ∧ Q (oP (stp s c)) H
section
variable {X : Cx} {vs : List V} {H : Hp} {Q : VK} {E : XK}
theorem body_state_behind (c : Ctx X nq_state_behind lq_state_behind 0) {a : Addr} (T : StepsP X a) (h : spSB vs H Q E) : RB X (defBody sq_state_behind) { nx := fun _ H' => Q .non H', rt := Q } (start nq_state_behind vs) H := by
  obtain ⟨s, ch, rfl, q⟩ := h
  obtain ⟨t, ts, hk, ht, hl, hr⟩ := T.rows s
  show RB X (defBody sq_state_behind) _ [some (.str (pN s)), some (.str ⟨#[ch]⟩), none, none] H
  refine rb_cons ?_
  refine rs_for_tup2 c (by walk_at "gm") .loc (by walk_at "gm") (by walk_at "gm") .loc (by walk_at "gm") ?_
  refine re_ix (re_glob (v := .ref a) c (by walk_at "gm") T.g rfl ?_)
  walk_at "e"
  refine iv_kd hk ?_
  refine ⟨t, _, rfl, ht H, fun i σ H' => H' = H ∧ ((rowsOf s).drop i).findSome? (hit ch) = stp s ch ∧ ∃ s3 s4 : Option V, σ = [some (.str (pN s)), some (.str ⟨#[ch]⟩), s3, s4], ⟨rfl, stp_rows s ch, none, none, rfl⟩, fun i σ H' h => by rw [h.1]; exact ht H, ?_, ?_⟩
  · rintro i w σ H' hw ⟨rfl, hf, s3, s4, rfl⟩
    rw [List.getElem?_map] at hw
    obtain ⟨tt, htt, rfl⟩ := Option.map_eq_some_iff.mp hw
    have hi : i < (rowsOf s).length := by
      rw [← hl]
      rcases Nat.lt_or_ge i ts.length with z | z
      · exact z
      · rw [List.getElem?_eq_none z] at htt; cases htt
    obtain ⟨r, hr1⟩ : ∃ r, (rowsOf s)[i]? = some r := ⟨_, List.getElem?_eq_getElem hi⟩
    refine ⟨tt, .str r.1, .str (pN r.2), rfl, hr i tt r htt hr1 H', _, _, by walk_at "gs", by walk_at "gs", ?_⟩
    rw [List.drop_eq_getElem_cons hi, List.findSome?_cons] at hf
    have er : (rowsOf s)[i] = r := by
      rw [List.getElem?_eq_getElem hi] at hr1
      exact Option.some.inj hr1
    rw [er] at hf
    walk_at "e0"
    refine cv_inC ?_
    walk_at "e"
    refine ite2 (fun e => ?_) (fun e => ?_)
    · have e2 : hit ch r = some r.2 := by unfold hit; rw [if_pos (of_decide_eq_true e)]
      rw [e2] at hf
      have hf2 : some r.2 = stp s ch := hf
      walk_at "e0"
      rw [← hf2] at q
      exact q
    · have e2 : hit ch r = none := by unfold hit; rw [if_neg (fun z => e (decide_eq_true z))]
      rw [e2] at hf
      walk_at "e"
      exact ⟨rfl, hf, _, _, rfl⟩
  · rintro σ H' ⟨rfl, hf, s3, s4, rfl⟩
    rw [List.length_map, hl, List.drop_length] at hf
    have hf2 : none = stp s ch := hf
    rw [← hf2] at q
    walk_at "e0"
    exact q
theorem fin_inV (s : S6) : inV (.str (pN s)) [.str "nought", .str "above", .str "beneath"] = fin s := by cases s <;> decide +kernel
theorem flt_step {l : List Nat} {s : S6} {i c : Nat} (h : l[i]? = some c) : fltF s i (l.drop i) = match stp s c with | none => some i | some s' => fltF s' (i + 1) (l.drop (i + 1)) := by
  have hi : i < l.length := by
    rcases Nat.lt_or_ge i l.length with z | z
    · exact z
    · rw [List.getElem?_eq_none z] at h; cases h
  rw [List.drop_eq_getElem_cons hi]
  rw [List.getElem?_eq_getElem hi] at h
  rw [Option.some.inj h]
  rfl
def spSF : Sp := fun vs H Q _ => ∃ z : Str, vs = [.str z] ∧ z.length ≤ 1000 ∧ ∀ H', Fr NoB H H' → Q (oI (oN (flt z.cps.toList))) H'
theorem body_sign_fault (c : Ctx X nq_sign_fault lq_sign_fault 1) {a : Addr} (T : LastP X a) (ze : X.mg "enumerate" = none) (zl : X.mg "len" = none) (dS : DT X "state_behind" ["state", "sign"] 1 spSB) (h : spSF vs H Q E) :
    RB X (defBody sq_sign_fault) { nx := fun _ H' => Q .non H', rt := Q } (start nq_sign_fault vs) H := by
  obtain ⟨z, rfl, hz, q⟩ := h
  show RB X (defBody sq_sign_fault) _ [some (.str z), none, none, none] H
  walk_at "e0"
  refine rb_cons ?_
  refine rs_for_enumS c (by walk_at "gm") .loc (by walk_at "gm") (by walk_at "gm") .loc (by walk_at "gm") (by walk_at "gm") ze ?_
  walk_at "e"
  refine ⟨fun i σ H' => Fr NoB H H' ∧ ∃ (s : S6) (s3 s4 : Option V), fltF s i (z.cps.toList.drop i) = flt z.cps.toList ∧ σ = [some (.str z), some (.str (pN s)), s3, s4], ⟨Fr.refl, .be, none, none, rfl, rfl⟩, fun _ _ _ _ _ => trivial, ?_, ?_⟩
  · rintro i u v σ H1 T1 hi hu hv ⟨f1, s, s3, s4, hf, rfl⟩ hT
    cases hu
    obtain ⟨ch, hch, rfl⟩ := Option.map_eq_some_iff.mp hv
    have hl : z.cps.toList[i]? = some ch := by rw [Array.getElem?_toList]; exact hch
    have f2 : Fr NoB H (upd H1 T1 (.tup [.int (i : Nat), .str ⟨#[ch]⟩])) := f1.trans (Fr.new hT)
    rw [flt_step hl] at hf
    refine ⟨_, _, by walk_at "gs", by walk_at "gs", ?_⟩
    walk_at "e0"
    refine re_call c dS (by decide) (by walk_at "gm") ?_
    walk_at "e"
    refine ⟨s, ch, rfl, ?_⟩
    walk_at "e"
    walk_at "e0"
    cases hs : stp s ch with
    | none =>
      rw [hs] at hf
      have hf2 : some i = flt z.cps.toList := hf
      show CpV _ _ V.non V.non _ _
      walk_at "e"
      walk_at "e0"
      have q2 := q _ f2
      rw [← hf2] at q2
      exact q2
    | some s' =>
      rw [hs] at hf
      show CpV _ _ (V.str (pN s')) V.non _ _
      walk_at "e"
      exact ⟨f2, s', _, _, hf, rfl⟩
  · rintro σ H1 ⟨f1, s, s3, s4, hf, rfl⟩
    have e1 : z.cps.size = z.cps.toList.length := by simp
    rw [e1, List.drop_length] at hf
    have hf2 : (if fin s = true then none else some z.cps.toList.length) = flt z.cps.toList := hf
    have q2 := q _ f1
    rw [← hf2] at q2
    refine rb_cons (rs_if (rt_cmp (re_name c (by walk_at "gs") (by walk_at "gm") .loc (re_glob (v := .ref a) c (by walk_at "gm") T.g rfl ?_))))
    refine cv_inV (.inr (T.seq _)) rfl rfl ?_
    rw [fin_inV]
    refine ⟨_, rfl, ?_⟩
    cases hs : fin s with
    | true =>
      rw [hs, if_pos rfl] at q2
      walk_at "e"
      walk_at "e0"
      exact q2
    | false =>
      rw [hs, if_neg (by simp)] at q2
      walk_at "e"
      walk_at "e0"
      refine lv_lenS (Nat.le_trans hz (by decide)) ?_
      have e3 : z.length = z.cps.toList.length := e1
      rw [e3]
      exact q2
/-! ### reading -/
theorem at_47 {z : Str} (i : Nat) : StrLaws.At z ("/" : Str) z.length i ↔ z.cps.toList[i]? = some 47 := by
  have e : TL.tl ("/" : Str) = [47] := by decide +kernel
  rw [TL.at_iff (by rw [e]; simp), e]
  show (((z.cps.toList.drop i).take 1) == [47]) = true ↔ _
  rw [beq_iff_eq]
  cases h : z.cps.toList[i]? with
  | none =>
    rw [List.drop_eq_nil_of_le (List.getElem?_eq_none_iff.mp h)]
    simp
  | some c =>
    have hi : i < z.cps.toList.length := by
      rcases Nat.lt_or_ge i z.cps.toList.length with y | y
      · exact y
      · rw [List.getElem?_eq_none y] at h; cases h
    rw [List.drop_eq_getElem_cons hi]
    rw [List.getElem?_eq_getElem hi] at h
    rw [Option.some.inj h]
    simp
theorem find_no {z : Str} (h : 47 ∉ z.cps.toList) : Txt.find z ("/" : Str) = -1 := by
  rcases PyProof.Rows.find_whole z ("/" : Str) with ⟨e, _⟩ | ⟨i, _, hi, _⟩
  · exact e
  · exact absurd (List.mem_of_getElem? ((at_47 i).mp hi)) h
theorem find_at {z : Str} {a e : List Nat} (hz : z.cps.toList = a ++ 47 :: e) (h : 47 ∉ a) : Txt.find z ("/" : Str) = (a.length : Int) := by
  have ha : StrLaws.At z ("/" : Str) z.length a.length := (at_47 _).mpr (by rw [hz, List.getElem?_append_right (Nat.le_refl _), Nat.sub_self]; rfl)
  rcases PyProof.Rows.find_whole z ("/" : Str) with ⟨_, e⟩ | ⟨i, e, hi, hm⟩
  · exact absurd ha (e _)
  · rw [e]
    have h1 : ¬ i < a.length := fun y => by
      have := (at_47 i).mp hi
      rw [hz, List.getElem?_append_left y] at this
      exact h (List.mem_of_getElem? this)
    have h2 : ¬ a.length < i := fun y => hm _ y ha
    omega
theorem int_num1 {z : Str} (h : Num1 z.cps.toList) (hl : z.length ≤ 640) : PySem.intText? z = some (valI z.cps.toList) := by
  have hl2 : z.length ≤ 4300 := by omega
  rcases h with h | h | ⟨r, h, hp⟩
  · have e := intText_digits (x := z) (by rw [h]; intro c hc; rw [List.mem_singleton.mp hc]; omega) (by rw [h]; simp) hl2
    rw [e, h]
    decide
  · obtain ⟨c, r, e, hp, hr⟩ := id h
    have e := intText_digits (x := z) (ds_all (by rw [e]; intro x hx; rcases List.mem_cons.mp hx with rfl | hx; exact isP_D hp; exact hr x hx)) (by rw [e]; simp) hl2
    rw [e, valI_pos (pos_head h)]
  · obtain ⟨c, t, e, hc, ht⟩ := hp
    have e := intText_neg (x := z) h (ds_all (by rw [e]; intro x hx; rcases List.mem_cons.mp hx with rfl | hx; exact isP_D hc; exact ht x hx)) (by rw [e]; simp) hl2
    rw [e, h]
    rfl
theorem num1_of_pos {l : List Nat} (h : Pos1 l) : Num1 l := .inr (.inl h)
theorem cut_to (z : Str) (k : Nat) : (cutS z none (some (k : Int))).cps.toList = z.cps.toList.take k := by
  have e : z.length = z.cps.toList.length := by show z.cps.size = _; simp
  show ((z.cps.toList.drop (HT.sIx z.length 0 none)).take (HT.sIx z.length z.length (some (k : Int)) - HT.sIx z.length 0 none)) = _
  rw [HT.sIx_nat, HT.sIx_none, List.drop_zero, Nat.sub_zero, e]
  rcases Nat.le_total k z.cps.toList.length with h | h
  · rw [Nat.min_eq_left h]
  · rw [Nat.min_eq_right h, List.take_length, List.take_of_length_le h]
theorem cut_from (z : Str) (k : Nat) : (cutS z (some (k : Int)) none).cps.toList = z.cps.toList.drop k := by
  have e : z.length = z.cps.toList.length := by show z.cps.size = _; simp
  show ((z.cps.toList.drop (HT.sIx z.length 0 (some (k : Int)))).take (HT.sIx z.length z.length none - HT.sIx z.length 0 (some (k : Int)))) = _
  rw [HT.sIx_nat, HT.sIx_none, e]
  rcases Nat.le_total k z.cps.toList.length with h | h
  · rw [Nat.min_eq_left h]
    exact List.take_of_length_le (by rw [List.length_drop]; exact Nat.le_refl _)
  · rw [Nat.min_eq_right h, List.drop_length, List.drop_eq_nil_of_le h]
    simp
/-- what is told of a value -/
def rdD : D → Rd
  | .str z => rd z.cps.toList
  | _ => .bad (-1)
def spRF (K : PySem.W.Frag) (C : Addr) : Sp := fun vs H Q E => ∃ (B : Addr → Prop) (v : V) (d : D), vs = [v] ∧ Dt K B H v d ∧ (∀ z, d = .str z → z.length ≤ 600) ∧
  (∀ i, rdD d = .bad i → ∀ x H', Fr NoB H H' → H' x = none → E (.ref C) (some x) (upd H' x (.xd [("at", .int i)]))) ∧ (∀ n m, rdD d = .good n m → ∀ p H', Fr NoB H H' → H' p = none → Q (.ref p) (upd H' p (.tup [.int n, .int m])))
theorem body_read_fraction (c : Ctx X nq_read_fraction lq_read_fraction 2) {CR : Addr} (EC : ErrC X.prog X.w X.K X.mg X.base "BadText" "at" CR) (zi : X.mg "isinstance" = none) (zs : X.mg "str" = none) (zI : X.mg "int" = none) (zg : X.mg "gcd" = some (.builtin "math.gcd"))
    (dF : DT X "sign_fault" ["text"] 2 spSF) (tk : Takes X (fun cls d _ H' => E cls d H')) (h : spRF X.K CR vs H Q E) :
    RB X (defBody sq_read_fraction) { nx := fun _ H' => Q .non H', rt := Q } (start nq_read_fraction vs) H := by
  obtain ⟨B, v, d, rfl, hv, hd, qe, q⟩ := h
  have odd : ∀ (u : V), rdD d = .bad (-1) → RB X [(defBody sq_read_fraction).headD (.Pass ⟨0, 0, 0, 0⟩)] { nx := fun _ H' => True, rt := Q } [some u, none, none, none, none] H → True := fun _ _ _ => trivial
  have bad : ∀ (σ : L2.St) (Dz : Ends) (p1 p2 p3 p4 p5 p6 : Pos) (j : Nat), rdD d = .bad (-1) → RB X [.Raise (some (.Call (.Name "BadText" p1) [.UnaryOp .USub (.Constant (.int 1) j p2) p3] [] p4)) none p5] Dz σ H := by
    intro σ Dz p1 p2 p3 p4 p5 p6 j e
    refine rb_cons ?_
    refine rs_raise c EC (by decide) (by walk_at "gm") tk ?_
    walk_at "e"
    exact fun x hx => qe (-1) e x H Fr.refl hx
  cases hv with
  | non =>
    show RB X (defBody sq_read_fraction) _ [some .non, none, none, none, none] H
    walk_at "e0"
    exact bad _ _ _ _ _ _ _ ⟨0, 0, 0, 0⟩ _ rfl
  | bl =>
    rename_i b
    show RB X (defBody sq_read_fraction) _ [some (.bl b), none, none, none, none] H
    walk_at "e0"
    exact bad _ _ _ _ _ _ _ ⟨0, 0, 0, 0⟩ _ rfl
  | int =>
    rename_i b
    show RB X (defBody sq_read_fraction) _ [some (.int b), none, none, none, none] H
    walk_at "e0"
    exact bad _ _ _ _ _ _ _ ⟨0, 0, 0, 0⟩ _ rfl
  | @lst a vs ds n t l hh =>
    show RB X (defBody sq_read_fraction) _ [some (.ref a), none, none, none, none] H
    walk_at "e0"
    exact bad _ _ _ _ _ _ _ ⟨0, 0, 0, 0⟩ _ rfl
  | @tup a vs ds n t l hh =>
    show RB X (defBody sq_read_fraction) _ [some (.ref a), none, none, none, none] H
    walk_at "e0"
    exact bad _ _ _ _ _ _ _ ⟨0, 0, 0, 0⟩ _ rfl
  | str =>
    rename_i z
    have hz := hd z rfl
    have hz2 : z.length ≤ sizeLine := Nat.le_trans hz (by decide)
    have e1 : z.length = z.cps.toList.length := by show z.cps.size = _; simp
    have qe1 : ∀ i, rd z.cps.toList = .bad i → ∀ x H', Fr NoB H H' → H' x = none → E (.ref CR) (some x) (upd H' x (.xd [("at", .int i)])) := qe
    have q1 : ∀ n m, rd z.cps.toList = .good n m → ∀ p H', Fr NoB H H' → H' p = none → Q (.ref p) (upd H' p (.tup [.int n, .int m])) := q
    show RB X (defBody sq_read_fraction) _ [some (.str z), none, none, none, none] H
    walk_at "e0"
    walk_at "e0"
    refine re_call c dF (by decide) (by walk_at "gm") ?_
    walk_at "e"
    refine ⟨z, rfl, by omega, fun H1 f1 => ?_⟩
    walk_at "e"
    walk_at "e0"
    cases hf : flt z.cps.toList with
    | some i =>
      show CpV _ _ (V.int (i : Nat)) V.non _ _
      walk_at "e"
      refine rb_cons ?_
      refine rs_raise c EC (by decide) (by walk_at "gm") tk ?_
      walk_at "e"
      exact fun x hx => qe1 i (rd_bad hf) x H1 f1 hx
    | none =>
      show CpV _ _ V.non V.non _ _
      walk_at "e"
      refine rb_cons (rs_set c (by walk_at "gm") .loc (by walk_at "gm") ?_)
      refine re_find ?_
      walk_at "e"
      rcases flt_none hf with h1 | ⟨a, e, hz3, h1, h2⟩
      · rw [find_no (num_47 h1)]
        walk_at "e0"
        refine iteD rfl ?_
        walk_at "e0"
        refine lv_intS (X := X) (H := H1) (z := z) (n := valI z.cps.toList) ?_ ?_ ?_
        · exact int_num1 h1 (by omega)
        · omega
        walk_at "e"
        refine ⟨by show 2 ≤ sizeLine; decide, fun p hp => ?_⟩
        exact q1 _ _ (rd_num h1) p H1 f1 hp
      · have hr := rd_sl h1 h2
        rw [← hz3] at hr
        rw [find_at hz3 (num_47 h1)]
        walk_at "e0"
        refine iteDN (by omega) ?_
        walk_at "e"
        refine rb_cons ?_
        refine rs_par2 c (by walk_at "gm") (by walk_at "gm") (by walk_at "gm") (by walk_at "gm") (by decide) ?_
        walk_at "e"
        refine sv_str hz2 ?_
        walk_at "e"
        have t1 : (cutS z none (some (a.length : Int))).cps.toList = a := by rw [cut_to, hz3, take_app]
        have t2 : (cutS z (some ((a.length : Int) + 1)) none).cps.toList = e := by
          have := cut_from z (a.length + 1)
          rw [hz3, drop_app] at this
          exact this
        have l1 := cutS_length z none (some (a.length : Int))
        have l2 := cutS_length z (some ((a.length : Int) + 1)) none
        refine lv_intS (int_num1 (by rw [t1]; exact h1) (by omega)) (by omega) ?_
        walk_at "e"
        refine sv_str hz2 ?_
        walk_at "e"
        refine lv_intS (int_num1 (by rw [t2]; exact num1_of_pos h2) (by omega)) (by omega) ?_
        rw [t1, t2, valI_pos (pos_head h2)]
        walk_at "e"
        refine ⟨_, _, _, _, rfl, by walk_at "gs", by walk_at "gs", ?_⟩
        have raise : ∀ (Dz : Ends), rd z.cps.toList = .bad ((a.length + 1 : Nat) : Int) → RB X ((fun s => match s with | Stmt.If _ x _ _ => x | _ => []) ((defBody sq_read_fraction).getD 6 (.Pass ⟨0, 0, 0, 0⟩))) Dz [some (.str z), some .non, some (.int (a.length : Int)), some (.int (valI a)), some (.int ((NumText.digitsVal e : Nat) : Int))] H1 := by
          intro Dz hb
          refine rb_cons ?_
          refine rs_raise c EC (by decide) (by walk_at "gm") tk ?_
          walk_at "e"
          exact fun x hx => qe1 _ hb x H1 f1 hx
        walk_at "e0"
        refine ite2 (fun e2 => ?_) (fun e2 => ?_)
        · refine raise _ ?_
          rw [hr, if_pos (.inl (of_decide_eq_true e2))]
        · walk_at "e"
          refine re_gcd c (by walk_at "gm") zg ?_
          walk_at "e"
          refine ⟨_, _, rfl, ?_⟩
          walk_at "e"
          refine ite2 (fun e3 => ?_) (fun e3 => ?_)
          · refine raise _ ?_
            rw [hr, if_pos (.inr (fun y => by
              have y2 : (((valI a).natAbs.gcd ((NumText.digitsVal e : Nat) : Int).natAbs : Nat) : Int) = 1 := y
              rw [decide_eq_true y2] at e3
              cases e3))]
          · walk_at "e"
            walk_at "e0"
            refine ⟨by show 2 ≤ sizeLine; decide, fun p hp => ?_⟩
            refine q1 _ _ ?_ p H1 f1 hp
            rw [hr, if_neg (fun y => by
              rcases y with y | y
              · exact e2 (decide_eq_true y)
              · refine y ?_
                have e4 : decide ((((valI a).natAbs.gcd ((NumText.digitsVal e : Nat) : Int).natAbs : Nat) : Int) = 1) = true := by simpa using e3
                exact of_decide_eq_true e4)]
end
/-! ### numbers as texts -/
theorem tl_int (n : Int) : (Str.ofString (toString n)).cps.toList = numI n := by
  cases n with
  | ofNat m =>
    have e : numI (Int.ofNat m) = TL.numL m := by
      unfold numI
      rw [if_neg (by show ¬ ((m : Nat) : Int) < 0; omega)]
      rfl
    rw [e]
    exact TL.tl_num m
  | negSucc m =>
    have e : numI (Int.negSucc m) = 45 :: TL.numL (m + 1) := by
      unfold numI
      rw [if_pos (Int.negSucc_lt_zero m)]
      rfl
    rw [e, PyProof.Rows.signs_ofString]
    show ("-" ++ Nat.repr (m + 1)).toList.map Char.toNat = _
    rw [String.toList_append, List.map_append, Nat.toList_repr]
    rfl
theorem numL_le {n : Nat} (h : n ≤ 10 ^ 40) : (TL.numL n).length ≤ 41 := TL.numL_len (by decide) (Nat.lt_of_le_of_lt h (by decide +kernel))
theorem numI_le {n : Int} (h : WA n) : (numI n).length ≤ 42 := by
  have := numL_le h
  unfold numI
  split
  · rw [List.length_cons]
    omega
  · omega
theorem str_len (z : Str) : z.length = z.cps.toList.length := by show z.cps.size = _; simp
def WT (n : Int) : Prop := n.natAbs < 10 ^ 90
theorem WA.wt {n : Int} (h : WA n) : WT n := Nat.lt_of_le_of_lt h (by decide +kernel)
theorem int_len {n : Int} (h : WT n) : (Str.ofString (toString n)).length ≤ 91 := by
  have h1 : (TL.numL n.natAbs).length ≤ 90 := TL.numL_len (by decide) h
  rw [str_len, tl_int]
  unfold numI
  split
  · rw [List.length_cons]
    omega
  · omega
theorem int_log {n : Int} (h : WT n) : n.natAbs.log2 < 1920 := Nat.lt_of_lt_of_le (PySem.Flt.log2_lt_of (k := 300) (by decide) (Nat.lt_trans h (by decide +kernel))) (by decide)
theorem tl_app (a b : Str) : (a ++ b).cps.toList = a.cps.toList ++ b.cps.toList := TL.tl_append a b
theorem str_ext {a b : Str} (h : a.cps.toList = b.cps.toList) : a = b := TL.ext_tl h
theorem txF_len {n d : Int} (h : WA n) (g : WA d) : (txF n d).length ≤ 84 := by
  have h1 := numI_le h
  have h2 : (TL.numL d.toNat).length ≤ 41 := numL_le (by have : d.natAbs ≤ 10 ^ 40 := g; omega)
  unfold txF
  split
  · omega
  · rw [List.length_append, List.length_cons]
    omega
def spFT : Sp := fun vs H Q _ => ∃ (v : V) (n d : Int), vs = [v] ∧ At2 H v n d ∧ WT n ∧ WT d ∧ 0 < d ∧ ∀ z : Str, z.cps.toList = txF n d → Q (.str z) H
section
variable {X : Cx} {vs : List V} {H : Hp} {Q : VK} {E : XK}
theorem body_fraction_text (c : Ctx X nq_fraction_text lq_fraction_text 0) (zs : X.mg "str" = none) (h : spFT vs H Q E) : RB X (defBody sq_fraction_text) { nx := fun _ H' => Q .non H', rt := Q } (start nq_fraction_text vs) H := by
  obtain ⟨v, n, d, rfl, ⟨a, rfl, ha⟩, wn, wd, d0, q⟩ := h
  show RB X (defBody sq_fraction_text) _ [some (.ref a), none, none] H
  refine rb_cons ?_
  refine rs_tup2 c (by walk_at "gm") .loc (by walk_at "gm") (by walk_at "gm") .loc (by walk_at "gm") ?_ (by with_unfolding_all rfl)
  walk_at "e"
  refine ⟨a, _, _, rfl, SqT.of ha, _, _, by walk_at "gs", by walk_at "gs", ?_⟩
  walk_at "e0"
  refine ite2 (fun e => ?_) (fun e => ?_)
  · have e1 : d = 1 := of_decide_eq_true e
    refine rb_cons (rs_ret ?_)
    refine re_c_str c (by walk_at "gm") zs ?_
    walk_at "e"
    refine lv_strI (int_log wn) ?_
    refine q _ ?_
    rw [tl_int]
    unfold txF
    rw [if_pos e1]
  · have e1 : ¬ d = 1 := fun z => e (decide_eq_true z)
    walk_at "e"
    refine rb_cons (rs_ret ?_)
    refine re_fstr3 (by decide) ?_
    walk_at "e"
    refine ⟨int_log wn, Nat.le_trans (int_len wn) (by decide), ?_⟩
    walk_at "e"
    refine ⟨int_log wd, Nat.le_trans (int_len wd) (by decide), ?_⟩
    refine q _ ?_
    rw [tl_app, tl_app, tl_app, tl_int, tl_int]
    have e2 : Str.empty.cps.toList = [] := rfl
    have e3 : ("/" : Str).cps.toList = [47] := by decide +kernel
    have e4 : numI d = TL.numL d.toNat := by
      unfold numI
      rw [if_neg (by omega)]
      have : d.natAbs = d.toNat := by omega
      rw [this]
    rw [e2, List.nil_append, e4]
    show numI n ++ ("/" : Str).cps.toList ++ _ = _
    rw [e3]
    unfold txF
    rw [if_neg e1]
    simp
/-! ### the law's figures -/
theorem fig_at : ∀ k : Nat, k < 10 → atI ("0123456789" : Str).cps.toList (k : Int) = some (48 + k) := by
  have h : ∀ k : Fin 10, atI ("0123456789" : Str).cps.toList (k.val : Int) = some (48 + k.val) := by decide +kernel
  exact fun k hk => h ⟨k, hk⟩
def spFig : Sp := fun vs H Q _ => ∃ n : Int, vs = [.int n] ∧ WA n ∧ ∀ z : Str, z.cps.toList = numI n → Q (.str z) H
theorem body_figures (c : Ctx X nq_figures lq_figures 0) (za : X.mg "abs" = none) (zr : X.mg "range" = none) (zi : X.mg "int" = none) (h : spFig vs H Q E) : RB X (defBody sq_figures) { nx := fun _ H' => Q .non H', rt := Q } (start nq_figures vs) H := by
  obtain ⟨n, rfl, wn, q⟩ := h
  show RB X (defBody sq_figures) _ [some (.int n), none, none, none] H
  refine rb_cons ?_
  refine rs_par2 c (by walk_at "gm") (by walk_at "gm") (by walk_at "gm") (by walk_at "gm") (by decide) ?_
  walk_at "e"
  rw [abs_nat]
  refine ⟨_, _, _, _, rfl, by walk_at "gs", by walk_at "gs", ?_⟩
  have wn2 : n.natAbs ≤ 10 ^ 40 := wn
  have done : ∀ (z : Str) (s3 s4 : Option V), z.cps.toList = TL.numL n.natAbs → RB X (List.drop 2 (defBody sq_figures)) { nx := fun _ H' => Q .non H', rt := Q } [some (.int n), some (.str z), s3, s4] H := by
    intro z s3 s4 hz
    have lz : z.length ≤ 41 := by rw [str_len, hz]; exact numL_le wn
    walk_at "e0"
    refine ite2 (fun e => ?_) (fun e => ?_)
    · walk_at "e"
      refine ov_adds (sz30 (by show 1 + z.length ≤ 100000; omega)) ?_
      refine q _ ?_
      rw [tl_app, hz]
      have e3 : ("-" : Str).cps.toList = [45] := by decide +kernel
      show ("-" : Str).cps.toList ++ _ = _
      rw [e3]
      unfold numI
      rw [if_pos (of_decide_eq_true e)]
      rfl
    · walk_at "e"
      refine q _ ?_
      rw [hz]
      unfold numI
      rw [if_neg (fun y => e (decide_eq_true y))]
  refine rb_cons ?_
  refine rs_for_range c (by walk_at "gm") .loc (by walk_at "gm") (by walk_at "gm") zr ?_
  walk_at "e"
  refine ⟨by decide, by decide, ?_⟩
  refine ⟨fun i σ H' => H' = H ∧ ∃ (z : Str) (m : Nat) (s4 : Option V), TL.numL m ++ z.cps.toList = TL.numL n.natAbs ∧ m < 10 ^ (120 - i) ∧ (0 < i → 0 < m) ∧ z.length = i ∧ σ = [some (.int n), some (.str z), some (.int (m : Int)), s4],
    ⟨rfl, "", n.natAbs, none, List.append_nil _, Nat.lt_of_le_of_lt wn2 (by decide +kernel), (fun z => absurd z (by decide)), rfl, rfl⟩, fun _ _ _ _ _ => trivial, ?_, ?_⟩
  · rintro i y σ H' hi rfl ⟨rfl, z, m, s4, hz, hm, hp, lz, rfl⟩
    have hi : i < 120 := hi
    have dg := fig_at (m % 10) (Nat.mod_lt m (by decide))
    refine ⟨_, by walk_at "gs", ?_⟩
    walk_at "e0"
    refine iv_str (by decide) (n := 48 + m % 10) (by rw [show (m : Int) % 10 = ((m % 10 : Nat) : Int) by omega]; exact dg) ?_
    walk_at "e"
    refine ov_adds (sz30 (by show 1 + z.length ≤ 100000; omega)) ?_
    walk_at "e"
    walk_at "e0"
    refine ov_fdiv (wide_div (b := 32) (by decide) (by decide) (by decide) (by decide)) ?_
    walk_at "e"
    walk_at "e0"
    have e5 : ((⟨#[48 + m % 10]⟩ : Str) ++ z).cps.toList = (48 + m % 10) :: z.cps.toList := by rw [tl_app]; rfl
    have l5 : ((⟨#[48 + m % 10]⟩ : Str) ++ z).length = i + 1 := by rw [str_len, e5, List.length_cons, ← str_len, lz]
    have e6 : (m : Int) / 10 = ((m / 10 : Nat) : Int) := by omega
    rw [e6]
    refine ite2 (fun e => ?_) (fun e => ?_)
    · have m0 : m / 10 = 0 := by have := of_decide_eq_true e; omega
      walk_at "e0"
      refine done _ _ _ ?_
      rw [e5, ← hz, TL.numL_lt (by omega)]
      have : m % 10 = m := by omega
      rw [this]
      rfl
    · have m0 : 0 < m / 10 := by
        rcases Nat.eq_zero_or_pos (m / 10) with y | y
        · exact absurd (decide_eq_true (by omega)) e
        · exact y
      walk_at "e"
      refine ⟨rfl, _, m / 10, _, ?_, ?_, fun _ => m0, l5, rfl⟩
      · rw [e5, ← hz, TL.numL_step (n := m) (by omega), List.append_assoc]
        rfl
      · obtain ⟨k, hk⟩ : ∃ k, 120 - i = k + 1 := ⟨119 - i, by omega⟩
        have hk2 : 120 - (i + 1) = k := by omega
        rw [hk, Nat.pow_succ] at hm
        rw [hk2]
        omega
  · rintro σ H' ⟨rfl, z, m, s4, hz, hm, hp, lz, rfl⟩
    have h1 : m < 10 ^ 0 := hm
    have h2 := hp (by decide)
    omega
def spDue : Sp := fun vs H Q _ => ∃ (v : V) (n d : Int), vs = [v] ∧ At2 H v n d ∧ WA n ∧ WA d ∧ 0 < d ∧ ∀ z : Str, z.cps.toList = txF n d → Q (.str z) H
theorem body_due (c : Ctx X nq_due lq_due 1) (dF : DT X "_law_figures" ["number"] 1 spFig) (h : spDue vs H Q E) : RB X (defBody sq_due) { nx := fun _ H' => Q .non H', rt := Q } (start nq_due vs) H := by
  obtain ⟨v, n, d, rfl, ⟨a, rfl, ha⟩, wn, wd, d0, q⟩ := h
  show RB X (defBody sq_due) _ [some (.ref a)] H
  walk_at "e0"
  refine ite2 (fun e => ?_) (fun e => ?_)
  · have e1 : d = 1 := of_decide_eq_true e
    walk_at "e"
    refine re_call c dF (by decide) (by walk_at "gm") ?_
    walk_at "e"
    refine ⟨n, rfl, wn, fun z hz => q z ?_⟩
    unfold txF
    rw [if_pos e1, hz]
  · have e1 : ¬ d = 1 := fun z => e (decide_eq_true z)
    walk_at "e"
    refine re_call c dF (by decide) (by walk_at "gm") ?_
    walk_at "e"
    refine ⟨n, rfl, wn, fun z hz => ?_⟩
    have l1 : z.length ≤ 42 := by rw [str_len, hz]; exact numI_le wn
    walk_at "e"
    have e3 : ("/" : Str).cps.toList = [47] := by decide +kernel
    have l2 : (z ++ ("/" : Str)).length ≤ 43 := by rw [str_len, tl_app, e3, List.length_append, ← str_len]; show z.length + 1 ≤ 43; omega
    refine ov_adds (sz30 (by show z.length + 1 ≤ 100000; omega)) ?_
    walk_at "e"
    refine re_call c dF (by decide) (by walk_at "gm") ?_
    walk_at "e"
    refine ⟨d, rfl, wd, fun y hy => ?_⟩
    have l3 : y.length ≤ 42 := by rw [str_len, hy]; exact numI_le wd
    refine ov_adds (sz30 (by show (z ++ ("/" : Str)).length + y.length ≤ 100000; omega)) ?_
    refine q _ ?_
    have e4 : numI d = TL.numL d.toNat := by
      unfold numI
      rw [if_neg (by omega)]
      have : d.natAbs = d.toNat := by omega
      rw [this]
    rw [tl_app, tl_app, hz, hy, e4]
    show numI n ++ ("/" : Str).cps.toList ++ _ = _
    rw [e3]
    unfold txF
    rw [if_neg e1]
    simp
theorem fig_ix {c : Nat} (h : isD c = true) : Txt.index0 "0123456789" ⟨#[c]⟩ = some (c - 48) := by
  have k : ∀ i : Fin 10, Txt.index0 "0123456789" ⟨#[48 + i.val]⟩ = some i.val := by decide +kernel
  obtain ⟨_, _, h1, h2⟩ := isD_47 h
  have e := k ⟨c - 48, by omega⟩
  have e1 : 48 + (c - 48) = c := by omega
  simp only [e1] at e
  exact e
def spWorth : Sp := fun vs H Q _ => ∃ z : Str, vs = [.str z] ∧ Ds z.cps.toList ∧ Q (.int ((NumText.digitsVal z.cps.toList : Nat) : Int)) H
theorem body_worth (c : Ctx X nq_worth lq_worth 0) (h : spWorth vs H Q E) : RB X (defBody sq_worth) { nx := fun _ H' => Q .non H', rt := Q } (start nq_worth vs) H := by
  obtain ⟨z, rfl, hd, q⟩ := h
  show RB X (defBody sq_worth) _ [some (.str z), none, none] H
  walk_at "e0"
  refine rb_cons ?_
  refine rs_for_str c (by walk_at "gm") .loc (by walk_at "gm") ?_
  walk_at "e"
  refine ⟨fun i σ H' => H' = H ∧ ∃ s3 : Option V, σ = [some (.str z), some (.int ((NumText.digitsVal (z.cps.toList.take i) : Nat) : Int)), s3], ⟨rfl, none, rfl⟩, fun _ _ _ _ _ => trivial, ?_, ?_⟩
  · rintro i y σ H' hi ⟨ch, hch, rfl⟩ ⟨rfl, s3, rfl⟩
    have hl : z.cps.toList[i]? = some ch := by rw [Array.getElem?_toList]; exact hch
    have hD := hd ch (List.mem_of_getElem? hl)
    obtain ⟨_, _, h1, h2⟩ := isD_47 hD
    refine ⟨_, by walk_at "gs", ?_⟩
    walk_at "e0"
    refine re_sindex c.calm ?_
    walk_at "e"
    refine ⟨⟨#[ch]⟩, ch - 48, rfl, fig_ix hD, ?_⟩
    walk_at "e"
    refine ⟨rfl, some (.str ⟨#[ch]⟩), ?_⟩
    rw [List.take_succ, hl, Option.toList_some, val_snoc]
    have e : (((NumText.digitsVal (z.cps.toList.take i) * 10 + (ch - 48) : Nat)) : Int) = ((NumText.digitsVal (z.cps.toList.take i) : Nat) : Int) * 10 + ((ch - 48 : Nat) : Int) := by omega
    rw [e]
  · rintro σ H' ⟨rfl, s3, rfl⟩
    have e1 : z.cps.size = z.cps.toList.length := by simp
    rw [e1, List.take_length]
    walk_at "g0"
    exact q
end
theorem at_nat {α : Type} {xs : List α} {i : Nat} {v : α} (h : xs[i]? = some v) : atI xs (i : Int) = some v := by
  have h2 : i < xs.length := by
    rcases Nat.lt_or_ge i xs.length with z | z
    · exact z
    · rw [List.getElem?_eq_none z] at h; cases h
  unfold atI ixN
  rw [if_pos (Int.natCast_nonneg i), if_pos (by omega)]
  exact h
/-! ### the law's reading -/
def lN : S6 → Str
  | .be => "begin"
  | .mi => "minus"
  | .no => "nought"
  | .ab => "upper"
  | .st => "bar"
  | .bn => "lower"
def pre6 : S6 → Bool
  | .st => false
  | .bn => false
  | _ => true
def BarI (l : List Nat) (s : S6) (i bar : Nat) : Prop := (pre6 s = true → bar = l.length ∧ 47 ∉ l.take i) ∧ (pre6 s = false → bar = cutAt l ∧ bar < l.length)
def isS (s : S6) : Bool := decide (s = .st)
theorem cut_take {l : List Nat} {i : Nat} (h : 47 ∉ l.take i) (g : l[i]? = some 47) : cutAt l = i := by
  have hi : i < l.length := by
    rcases Nat.lt_or_ge i l.length with y | y
    · exact y
    · rw [List.getElem?_eq_none y] at g; cases g
  have e : l = l.take i ++ 47 :: l.drop (i + 1) := by
    rw [List.getElem?_eq_getElem hi] at g
    have e2 := List.drop_eq_getElem_cons hi
    rw [Option.some.inj g] at e2
    rw [← e2, List.take_append_drop]
  have e3 := cut_app (e := l.drop (i + 1)) h
  rw [← e, List.length_take] at e3
  omega
theorem bar_step {l : List Nat} {s s' : S6} {i bar c : Nat} (h : BarI l s i bar) (g : l[i]? = some c) (e : stp s c = some s') : BarI l s' (i + 1) (if isS s' = true then i else bar) := by
  have hi : i < l.length := by
    rcases Nat.lt_or_ge i l.length with y | y
    · exact y
    · rw [List.getElem?_eq_none y] at g; cases g
  have tk : ∀ x, x ∈ l.take (i + 1) → x ∈ l.take i ∨ x = c := fun x hx => by
    rw [List.take_succ, g] at hx
    simpa using hx
  have keep : pre6 s = true → pre6 s' = true → isS s' = false → c ≠ 47 → BarI l s' (i + 1) (if isS s' = true then i else bar) := by
    intro p p' q q'
    rw [q, if_neg (by simp)]
    refine ⟨fun _ => ⟨(h.1 p).1, fun hm => ?_⟩, fun z => by rw [p'] at z; cases z⟩
    rcases tk _ hm with y | y
    · exact (h.1 p).2 y
    · exact q' y.symm
  have stroke : pre6 s = true → s' = .st → c = 47 → BarI l s' (i + 1) (if isS s' = true then i else bar) := by
    rintro p rfl rfl
    refine ⟨fun z => (nomatch z), fun _ => ?_⟩
    show i = cutAt l ∧ i < l.length
    exact ⟨(cut_take (h.1 p).2 g).symm, hi⟩
  have low : pre6 s = false → s' = .bn → BarI l s' (i + 1) (if isS s' = true then i else bar) := by
    rintro p rfl
    exact ⟨fun z => (nomatch z), fun _ => h.2 p⟩
  cases s <;> simp only [stp] at e
  · split at e
    · cases e; exact keep rfl rfl rfl (by omega)
    · split at e
      · cases e; exact keep rfl rfl rfl (by omega)
      · split at e
        · rename_i hp
          cases e; exact keep rfl rfl rfl (isD_47 (isP_D hp)).1
        · cases e
  · split at e
    · rename_i hp
      cases e; exact keep rfl rfl rfl (isD_47 (isP_D hp)).1
    · cases e
  · split at e
    · rename_i hc
      cases e; exact stroke rfl rfl hc
    · cases e
  · split at e
    · rename_i hp
      cases e; exact keep rfl rfl rfl (isD_47 hp).1
    · split at e
      · rename_i hc
        cases e; exact stroke rfl rfl hc
      · cases e
  · split at e
    · cases e; exact low rfl rfl
    · cases e
  · split at e
    · cases e; exact low rfl rfl
    · cases e
theorem one_eq {c d : Nat} {w : Str} (h : w = ⟨#[d]⟩) : decide ((⟨#[c]⟩ : Str) = w) = decide (c = d) := by
  subst h
  by_cases e : c = d
  · rw [e, decide_eq_true rfl, decide_eq_true rfl]
  · rw [decide_eq_false e, decide_eq_false (fun z => e (by
      have := congrArg (fun x : Str => x.cps.toList) z
      simpa using this))]
theorem dec_D (c : Nat) : decide (c ∈ ("0123456789" : Str).cps.toList) = isD c := by
  cases h : isD c with
  | true => exact decide_eq_true (mem_D.mpr h)
  | false => exact decide_eq_false fun z => by rw [mem_D.mp z] at h; cases h
theorem five (c : Nat) : c = 45 ∨ c = 48 ∨ c = 47 ∨ isP c = true ∨ (c ≠ 45 ∧ c ≠ 48 ∧ c ≠ 47 ∧ isP c = false) := by
  by_cases h1 : c = 45
  · exact .inl h1
  · by_cases h2 : c = 48
    · exact .inr (.inl h2)
    · by_cases h3 : c = 47
      · exact .inr (.inr (.inl h3))
      · cases h4 : isP c with
        | true => exact .inr (.inr (.inr (.inl rfl)))
        | false => exact .inr (.inr (.inr (.inr ⟨h1, h2, h3, rfl⟩)))
theorem val_lt {l : List Nat} (h : Ds l) : NumText.digitsVal l < 10 ^ l.length := by
  revert h
  refine snoc_ind (P := fun l => Ds l → NumText.digitsVal l < 10 ^ l.length) (fun _ => by decide) (fun l c ih h => ?_) l
  have i1 := ih fun x hx => h x (List.mem_append_left _ hx)
  have hc := isD_47 (h c (List.mem_append_right _ (List.mem_singleton.mpr rfl)))
  rw [val_snoc, List.length_append, List.length_singleton, Nat.pow_succ]
  omega
theorem val_w3 {l : List Nat} (h : Ds l) (hl : l.length ≤ 90) : W3 ((NumText.digitsVal l : Nat) : Int) := by
  have h1 := val_lt h
  have h2 : 10 ^ l.length ≤ 10 ^ 90 := Nat.pow_le_pow_right (by decide) hl
  have h3 : 10 ^ 90 < 2 ^ 300 := by decide +kernel
  unfold W3
  rw [Int.natAbs_natCast]
  omega
theorem pos_ds {l : List Nat} (h : Pos1 l) : Ds l := by
  obtain ⟨c, r, rfl, hp, hr⟩ := h
  intro x hx
  rcases List.mem_cons.mp hx with rfl | hx
  · exact isP_D hp
  · exact hr x hx
theorem valI_w3 {l : List Nat} (h : Num1 l) (hl : l.length ≤ 90) : W3 (valI l) := by
  rcases h with rfl | h | ⟨r, rfl, h⟩
  · exact w3_small (by decide +kernel)
  · rw [valI_pos (pos_head h)]
    exact val_w3 (pos_ds h) hl
  · have := val_w3 (pos_ds h) (by rw [List.length_cons] at hl; omega)
    show W3 (-((NumText.digitsVal r : Nat) : Int))
    unfold W3 at *
    rw [Int.natAbs_neg]
    exact this
theorem cut_mid (z : Str) (k : Nat) : (cutS z (some 1) (some (k : Int))).cps.toList = (z.cps.toList.drop 1).take (k - 1) := by
  have e : z.length = z.cps.toList.length := str_len z
  show ((z.cps.toList.drop (HT.sIx z.length 0 (some ((1 : Nat) : Int)))).take (HT.sIx z.length z.length (some (k : Int)) - HT.sIx z.length 0 (some ((1 : Nat) : Int)))) = _
  rw [HT.sIx_nat, HT.sIx_nat, e]
  generalize z.cps.toList = l
  rcases Nat.lt_or_ge l.length 1 with h | h
  · have : l = [] := List.eq_nil_of_length_eq_zero (by omega)
    subst this
    simp
  · rw [Nat.min_eq_left h]
    rcases Nat.le_total k l.length with y | y
    · rw [Nat.min_eq_left y]
    · rw [Nat.min_eq_right y, List.take_of_length_le (by rw [List.length_drop]; exact Nat.le_refl _), List.take_of_length_le (by rw [List.length_drop]; omega)]
def tb45 : S6 → Option S6
  | .be => some .mi
  | _ => none
def tb48 : S6 → Option S6
  | .be => some .no
  | .ab => some .ab
  | .bn => some .bn
  | _ => none
def tb47 : S6 → Option S6
  | .no => some .st
  | .ab => some .st
  | _ => none
def tbP : S6 → Option S6
  | .be => some .ab
  | .mi => some .ab
  | .no => none
  | .ab => some .ab
  | .st => some .bn
  | .bn => some .bn
def tbN : S6 → Option S6 := fun _ => none
theorem cls5 (ch : Nat) : ((fun s => stp s ch) = tb45 ∧ decide (ch = 45) = true ∧ decide (ch = 48) = false ∧ decide (ch = 47) = false ∧ isD ch = false) ∨ ((fun s => stp s ch) = tb48 ∧ decide (ch = 45) = false ∧ decide (ch = 48) = true ∧ decide (ch = 47) = false ∧ isD ch = true) ∨
    ((fun s => stp s ch) = tb47 ∧ decide (ch = 45) = false ∧ decide (ch = 48) = false ∧ decide (ch = 47) = true ∧ isD ch = false) ∨ ((fun s => stp s ch) = tbP ∧ decide (ch = 45) = false ∧ decide (ch = 48) = false ∧ decide (ch = 47) = false ∧ isD ch = true) ∨
    ((fun s => stp s ch) = tbN ∧ decide (ch = 45) = false ∧ decide (ch = 48) = false ∧ decide (ch = 47) = false ∧ isD ch = false) := by
  rcases five ch with rfl | rfl | rfl | hp | ⟨n1, n2, n3, n4⟩
  · exact .inl ⟨funext fun s => by cases s <;> rfl, rfl, rfl, rfl, rfl⟩
  · exact .inr (.inl ⟨funext fun s => by cases s <;> rfl, rfl, rfl, rfl, rfl⟩)
  · exact .inr (.inr (.inl ⟨funext fun s => by cases s <;> rfl, rfl, rfl, rfl, rfl⟩))
  · have hD := isP_D hp
    have h3 := isD_47 hD
    have h48 : ch ≠ 48 := fun z => by subst z; revert hp; decide
    refine .inr (.inr (.inr (.inl ⟨funext fun s => ?_, decide_eq_false h3.2.1, decide_eq_false h48, decide_eq_false h3.1, hD⟩)))
    cases s <;> simp only [stp, tbP]
    · rw [if_neg h3.2.1, if_neg h48, if_pos hp]
    · rw [if_pos hp]
    · rw [if_neg h3.1]
    · rw [if_pos hD]
    · rw [if_pos hp]
    · rw [if_pos hD]
  · have hD : isD ch = false := by
      cases h : isD ch with
      | false => rfl
      | true =>
        have h2 := isD_47 h
        exfalso
        have : isP ch = true := by
          unfold isP
          simp only [Bool.and_eq_true, decide_eq_true_eq]
          omega
        rw [n4] at this
        cases this
    have hD2 : ¬ isD ch = true := by rw [hD]; simp
    have hP2 : ¬ isP ch = true := by rw [n4]; simp
    refine .inr (.inr (.inr (.inr ⟨funext fun s => ?_, decide_eq_false n1, decide_eq_false n2, decide_eq_false n3, hD⟩)))
    cases s <;> simp only [stp, tbN]
    · rw [if_neg n1, if_neg n2, if_neg hP2]
    · rw [if_neg hP2]
    · rw [if_neg n3]
    · rw [if_neg hD2, if_neg n3]
    · rw [if_neg hP2]
    · rw [if_neg hD2]
theorem iteQT {p : Prop} [Decidable p] {A B : Prop} (hp : decide p = true) (h : A) : if decide p = true then A else B := by
  rw [hp]
  exact h
theorem iteQF {p : Prop} [Decidable p] {A B : Prop} (hp : decide p = false) (h : B) : if decide p = true then A else B := by
  rw [hp]
  exact h
theorem iteNQT {p : Prop} [Decidable p] {A B : Prop} (hp : decide p = true) (h : B) : if (!decide p) = true then A else B := by
  rw [hp]
  exact h
theorem iteNQF {p : Prop} [Decidable p] {A B : Prop} (hp : decide p = false) (h : A) : if (!decide p) = true then A else B := by
  rw [hp]
  exact h
theorem iteNDT {p : Prop} [Decidable p] {A B : Prop} (hp : p) (h : B) : if (!decide p) = true then A else B := by
  rw [decide_eq_true hp]
  exact h
theorem iteNDF {p : Prop} [Decidable p] {A B : Prop} (hp : ¬ p) (h : A) : if (!decide p) = true then A else B := by
  rw [decide_eq_false hp]
  exact h
def dRd : Rd → D
  | .bad i => .tup [.str "none", .int i]
  | .good n d => .tup [.str "told", dF n d]
def spRead (K : PySem.W.Frag) : Sp := fun vs H Q _ => ∃ z : Str, vs = [.str z] ∧ z.length ≤ 90 ∧ ∀ p H', Fr NoB H H' → Dt K NoB H' (.ref p) (dRd (rd z.cps.toList)) → Q (.ref p) H'
theorem chain {X : Cx} (c : Ctx X nq_read lq_read 1) (Dz : Ends) (s : S6) (bar i ch : Nat) (z : Str) (H' : Hp)
    (go : ∀ s', stp s ch = some s' → Dz.nx [some (V.str z), some (.str (lN s')), some (.int ((if isS s' = true then i else bar : Nat) : Int)), some (.int (i : Nat)), some (.str ⟨#[ch]⟩), some (.bl (isD ch)), none, none] H')
    (stop : stp s ch = none → ∀ p, H' p = none → Dz.rt (.ref p) (upd H' p (.tup [.str "none", .int (i : Nat)]))) :
    RB X (List.drop 2 ((fun s => match s with | Stmt.For _ _ b _ _ => b | _ => []) ((defBody sq_read).getD 1 (.Pass ⟨0, 0, 0, 0⟩)))) Dz [some (V.str z), some (.str (lN s)), some (.int (bar : Int)), some (.int (i : Nat)), some (.str ⟨#[ch]⟩), some (.bl (isD ch)), none, none] H' := by
  have facts : ∃ (tbl : S6 → Option S6) (bM b0 bS bD : Bool), (∀ s, stp s ch = tbl s) ∧ decide ((⟨#[ch]⟩ : Str) = "-") = bM ∧ decide ((⟨#[ch]⟩ : Str) = "0") = b0 ∧ decide ((⟨#[ch]⟩ : Str) = "/") = bS ∧ isD ch = bD ∧
      ((tbl = tb45 ∧ bM = true ∧ b0 = false ∧ bS = false ∧ bD = false) ∨ (tbl = tb48 ∧ bM = false ∧ b0 = true ∧ bS = false ∧ bD = true) ∨ (tbl = tb47 ∧ bM = false ∧ b0 = false ∧ bS = true ∧ bD = false) ∨ (tbl = tbP ∧ bM = false ∧ b0 = false ∧ bS = false ∧ bD = true) ∨ (tbl = tbN ∧ bM = false ∧ b0 = false ∧ bS = false ∧ bD = false)) := by
    refine ⟨fun s => stp s ch, _, _, _, _, fun _ => rfl, rfl, rfl, rfl, rfl, ?_⟩
    rw [one_eq (c := ch) (d := 45) (w := "-") (by decide +kernel), one_eq (c := ch) (d := 48) (w := "0") (by decide +kernel), one_eq (c := ch) (d := 47) (w := "/") (by decide +kernel)]
    exact cls5 ch
  obtain ⟨tbl, bM, b0, bS, bD, st, hM2, h02, hS2, hD2, cl⟩ := facts
  rw [hD2] at go ⊢
  obtain ⟨nx, rt, bk, ct⟩ := Dz
  rcases cl with ⟨rfl, rfl, rfl, rfl, rfl⟩ | ⟨rfl, rfl, rfl, rfl, rfl⟩ | ⟨rfl, rfl, rfl, rfl, rfl⟩ | ⟨rfl, rfl, rfl, rfl, rfl⟩ | ⟨rfl, rfl, rfl, rfl, rfl⟩
  all_goals (cases s)
  all_goals (refine rb_cons ?_)
  all_goals (repeat (first | walk_at "g1" | with_reducible refine iteQT hM2 ?_ | with_reducible refine iteQF hM2 ?_ | with_reducible refine iteQT h02 ?_ | with_reducible refine iteQF h02 ?_ | with_reducible refine iteQT hS2 ?_ | with_reducible refine iteQF hS2 ?_ | with_reducible refine iteNQT h02 ?_ | with_reducible refine iteNQF h02 ?_ | with_reducible refine iteD (by decide +kernel) ?_ | with_reducible refine iteDN (by decide +kernel) ?_ | with_reducible refine iteNDT (by decide +kernel) ?_ | with_reducible refine iteNDF (by decide +kernel) ?_ | (show RS _ (.Assign [.Tuple _ _ _] _ _) _ _ _; refine rs_par2 c (by walk_at "gm") (by walk_at "gm") (by walk_at "gm") (by walk_at "gm") (by decide) ?_) | with_reducible refine ⟨_, _, _, _, rfl, by walk_at "gs", by walk_at "gs", ?_⟩))
  all_goals first
    | exact ⟨by show 2 ≤ sizeLine; decide, stop (st _)⟩
    | exact go _ (st _)
theorem num_head {a : List Nat} (h : Num1 a) : ∃ c0 a', a = c0 :: a' ∧ ((c0 = 45 ∧ Ds a' ∧ valI a = -((NumText.digitsVal a' : Nat) : Int)) ∨ (c0 ≠ 45 ∧ Ds a ∧ valI a = ((NumText.digitsVal a : Nat) : Int))) := by
  rcases h with rfl | h | ⟨r, rfl, h⟩
  · exact ⟨48, [], rfl, .inr ⟨by decide, (fun x hx => by rw [List.mem_singleton.mp hx]; rfl), rfl⟩⟩
  · have hv := valI_pos (pos_head h)
    have hd := pos_ds h
    obtain ⟨c, r, rfl, hp, hr⟩ := h
    exact ⟨c, r, rfl, .inr ⟨(isD_47 (isP_D hp)).2.1, hd, hv⟩⟩
  · exact ⟨45, r, rfl, .inl ⟨rfl, pos_ds h, rfl⟩⟩
section
variable {X : Cx} {vs : List V} {H : Hp} {Q : VK} {E : XK}
theorem body_read (c : Ctx X nq_read lq_read 1) (zl : X.mg "len" = none) (zr : X.mg "range" = none) (dW : DT X "_law_worth" ["figures"] 1 spWorth) (dG : DT X "_law_part" ["one", "two"] 1 spPart) (h : spRead X.K vs H Q E) :
    RB X (defBody sq_read) { nx := fun _ H' => Q .non H', rt := Q } (start nq_read vs) H := by
  obtain ⟨z, rfl, hz, q⟩ := h
  have hz2 : z.length ≤ sizeLine := Nat.le_trans hz (by decide)
  have e1 := str_len z
  have none_ : ∀ (i : Int) (H1 : Hp), H1 = H → rd z.cps.toList = .bad i → ∀ p, H1 p = none → Q (.ref p) (upd H1 p (.tup [.str "none", .int i])) := by
    rintro i H1 rfl hr p hp
    refine q p _ (Fr.new hp) ?_
    rw [hr]
    exact Dt.newT hp (fun z => z) (.cons .str (.cons .int .nil))
  show RB X (defBody sq_read) _ [some (.str z), none, none, none, none, none, none, none] H
  refine rb_cons ?_
  refine rs_par2 c (by walk_at "gm") (by walk_at "gm") (by walk_at "gm") (by walk_at "gm") (by decide) ?_
  walk_at "e"
  refine lv_lenS hz2 ?_
  walk_at "e"
  refine ⟨_, _, _, _, rfl, by walk_at "gs", by walk_at "gs", ?_⟩
  refine rb_cons ?_
  refine rs_for_range c (by walk_at "gm") .loc (by walk_at "gm") (by walk_at "gm") zr ?_
  walk_at "e"
  refine lv_lenS hz2 ?_
  walk_at "e"
  refine ⟨by omega, by omega, ?_⟩
  rw [Int.toNat_natCast]
  refine ⟨fun i σ H' => H' = H ∧ ∃ (s : S6) (bar : Nat) (s4 s5 s6 : Option V), fltF s i (z.cps.toList.drop i) = flt z.cps.toList ∧ BarI z.cps.toList s i bar ∧ σ = [some (.str z), some (.str (lN s)), some (.int (bar : Int)), s4, s5, s6, none, none],
    ⟨rfl, .be, z.length, none, none, none, rfl, ⟨fun _ => ⟨e1, by simp⟩, fun z => (nomatch z)⟩, rfl⟩, fun _ _ _ _ _ => trivial, ?_, ?_⟩
  · rintro i y σ H' hi rfl ⟨rfl, s, bar, s4, s5, s6, hf, hb, rfl⟩
    obtain ⟨ch, hl⟩ : ∃ ch, z.cps.toList[i]? = some ch := ⟨_, List.getElem?_eq_getElem (by omega)⟩
    rw [flt_step hl] at hf
    refine ⟨_, by walk_at "gs", ?_⟩
    walk_at "e0"
    refine iv_str hz2 (at_nat hl) ?_
    walk_at "e"
    walk_at "e0"
    refine cv_inC ?_
    rw [dec_D]
    walk_at "e"
    have go : ∀ s', stp s ch = some s' → (H' = H' ∧ ∃ (s : S6) (bar' : Nat) (s4 s5 s6 : Option V), fltF s (i + 1) (z.cps.toList.drop (i + 1)) = flt z.cps.toList ∧ BarI z.cps.toList s (i + 1) bar' ∧
        [some (V.str z), some (.str (lN s')), some (.int ((if isS s' = true then i else bar : Nat) : Int)), some (.int (i : Nat)), some (.str ⟨#[ch]⟩), some (.bl (isD ch)), none, none] = [some (.str z), some (.str (lN s)), some (.int (bar' : Int)), s4, s5, s6, none, none]) := by
      intro s' hs
      rw [hs] at hf
      exact ⟨rfl, s', _, _, _, _, hf, bar_step hb hl hs, rfl⟩
    refine chain c _ s bar i ch z H' go fun hs => ?_
    rw [hs] at hf
    have hf2 : some i = flt z.cps.toList := hf
    exact none_ _ H' rfl (rd_bad hf2.symm)
  · rintro σ H' ⟨rfl, s, bar, s4, s5, s6, hf, hb, rfl⟩
    rw [e1, List.drop_length] at hf
    have hf2 : (if fin s = true then none else some z.cps.toList.length) = flt z.cps.toList := hf
    have told : ∀ (n d : Int), rd z.cps.toList = .good n d → ∀ p1, H' p1 = none → ∀ p2, upd H' p1 (.tup [.int n, .int d]) p2 = none → Q (.ref p2) (upd (upd H' p1 (.tup [.int n, .int d])) p2 (.tup [.str "told", .ref p1])) := by
      intro n d hr p1 h1 p2 h2
      refine q p2 _ ((Fr.new h1).trans (Fr.new h2)) ?_
      rw [hr]
      exact Dt.newT h2 (fun z => z) (.cons .str (.cons (Dt.newT h1 (fun z => z) (.cons .int (.cons .int .nil))) .nil))
    have stop : fin s = false → ∀ p, H' p = none → Q (.ref p) (upd H' p (.tup [.str "none", .int (z.length : Int)])) := by
      intro hs
      rw [hs, if_neg (by simp)] at hf2
      rw [e1]
      exact none_ _ H' rfl (rd_bad hf2.symm)
    have rest : fin s = true → RB X (List.drop 3 (defBody sq_read)) { nx := fun _ H' => Q .non H', rt := Q } [some (.str z), some (.str (lN s)), some (.int (bar : Int)), s4, s5, s6, none, none] H' := by
      intro hs
      rw [hs, if_pos rfl] at hf2
      obtain ⟨a, ha, hbar, hcase⟩ : ∃ a, Num1 a ∧ (bar = a.length ∧ z.cps.toList.take bar = a) ∧ ((z.cps.toList = a ∧ bar = z.cps.toList.length) ∨ ∃ e, z.cps.toList = a ++ 47 :: e ∧ Pos1 e ∧ bar ≠ z.cps.toList.length) := by
        rcases flt_none hf2.symm with h1 | ⟨a, e, hz3, h1, h2⟩
        · have hbar : bar = z.cps.toList.length := by
            cases hp : pre6 s with
            | true => exact (hb.1 hp).1
            | false =>
              obtain ⟨b1, b2⟩ := hb.2 hp
              rw [cut_none (num_47 h1)] at b1
              exact b1
          exact ⟨_, h1, ⟨hbar, by rw [hbar, List.take_length]⟩, .inl ⟨rfl, hbar⟩⟩
        · have hbar : bar = a.length := by
            cases hp : pre6 s with
            | true =>
              have := (hb.1 hp).2
              rw [e1, List.take_length, hz3] at this
              exact absurd (List.mem_append_right _ List.mem_cons_self) this
            | false =>
              obtain ⟨b1, b2⟩ := hb.2 hp
              rw [hz3, cut_app (num_47 h1)] at b1
              exact b1
          exact ⟨a, h1, ⟨hbar, by rw [hbar, hz3, take_app]⟩, .inr ⟨e, hz3, h2, by rw [hbar, hz3, List.length_append, List.length_cons]; omega⟩⟩
      obtain ⟨c0, a', rfl, hc0⟩ := num_head ha
      have hl0 : z.cps.toList[0]? = some c0 := by
        rcases hcase with ⟨e, _⟩ | ⟨e, e2, _⟩
        · rw [e]; rfl
        · rw [e2]; rfl
      have t1 : (cutS z none (some (bar : Int))).cps.toList = c0 :: a' := by rw [cut_to]; exact hbar.2
      have t2 : (cutS z (some 1) (some (bar : Int))).cps.toList = a' := by
        rw [cut_mid, ← List.drop_take, hbar.2]
        rfl
      have lb : bar ≤ 90 := by
        rcases hcase with ⟨_, e⟩ | ⟨e, e2, _⟩
        · omega
        · have := hbar.1
          rw [e2, List.length_append] at e1
          omega
      have more : ∀ (s5' : Option V), RB X (List.drop 5 (defBody sq_read)) { nx := fun _ H' => Q .non H', rt := Q } [some (.str z), some (.str (lN s)), some (.int (bar : Int)), s4, s5', s6, some (.int (valI (c0 :: a'))), none] H' := by
        intro s5'
        walk_at "e0"
        refine lv_lenS hz2 ?_
        walk_at "e"
        rcases hcase with ⟨hz3, hb2⟩ | ⟨e, hz3, h2, hb2⟩
        · refine iteD (by omega) ?_
          walk_at "e0"
          refine ⟨by show 2 ≤ sizeLine; decide, fun p1 hp1 => ?_⟩
          walk_at "e"
          refine ⟨by show 2 ≤ sizeLine; decide, fun p2 hp2 => ?_⟩
          refine told _ 1 ?_ p1 hp1 p2 hp2
          rw [hz3]
          exact rd_num ha
        · refine iteDN (by omega) ?_
          have t3 : (cutS z (some ((bar : Int) + 1)) none).cps.toList = e := by
            have := cut_from z (bar + 1)
            rw [hz3, hbar.1, drop_app] at this
            rw [hbar.1]
            exact this
          obtain ⟨v0, _⟩ := val_num h2
          have hr := rd_sl ha h2
          rw [← hz3] at hr
          have le : e.length ≤ 90 := by
            rw [hz3] at e1
            simp only [List.length_append, List.length_cons] at e1
            omega
          walk_at "e"
          walk_at "e0"
          refine re_call c dW (by decide) (by walk_at "gm") ?_
          walk_at "e"
          refine sv_str hz2 ?_
          walk_at "e"
          refine ⟨_, rfl, by rw [t3]; exact pos_ds h2, ?_⟩
          rw [t3]
          walk_at "e"
          walk_at "e0"
          have no : ((NumText.digitsVal e : Nat) : Int) = 1 ∨ gi (valI (c0 :: a')) ((NumText.digitsVal e : Nat) : Int) ≠ 1 → ∀ p, H' p = none → Q (.ref p) (upd H' p (.tup [.str "none", .int ((bar : Int) + 1)])) := by
            intro hh p hp
            rw [hbar.1]
            refine none_ _ H' rfl ?_ p hp
            rw [hr, if_pos hh]
            rfl
          refine ite2 (fun e2 => ?_) (fun e2 => ?_)
          · have e3 : (1 : Int) < ((NumText.digitsVal e : Nat) : Int) := of_decide_eq_true e2
            walk_at "e"
            refine re_call c dG (by decide) (by walk_at "gm") ?_
            walk_at "e"
            refine ⟨_, _, rfl, valI_w3 ha (by have := hbar.1; omega), val_w3 (pos_ds h2) le, ?_⟩
            walk_at "e"
            refine ite2 (fun e4 => ?_) (fun e4 => ?_)
            · walk_at "e"
              refine ⟨by show 2 ≤ sizeLine; decide, fun p1 hp1 => ?_⟩
              walk_at "e"
              refine ⟨by show 2 ≤ sizeLine; decide, fun p2 hp2 => ?_⟩
              refine told _ _ ?_ p1 hp1 p2 hp2
              rw [hr, if_neg (fun y => by
                rcases y with y | y
                · omega
                · exact y (of_decide_eq_true e4))]
            · walk_at "e"
              exact ⟨by show 2 ≤ sizeLine; decide, no (.inr fun y => e4 (decide_eq_true y))⟩
          · walk_at "e"
            exact ⟨by show 2 ≤ sizeLine; decide, no (.inl (by
              have : ¬ (1 : Int) < ((NumText.digitsVal e : Nat) : Int) := fun y => e2 (decide_eq_true y)
              omega))⟩
      walk_at "e0"
      refine iv_str hz2 (at_nat hl0) ?_
      walk_at "e"
      rw [one_eq (c := c0) (d := 45) (w := "-") (by decide +kernel)]
      rcases hc0 with ⟨h45, hd, hv⟩ | ⟨h45, hd, hv⟩
      · refine iteD h45 ?_
        walk_at "e"
        walk_at "e0"
        refine re_call c dW (by decide) (by walk_at "gm") ?_
        walk_at "e"
        refine iteD (by decide) ?_
        walk_at "e"
        refine sv_str hz2 ?_
        walk_at "e"
        refine ⟨_, rfl, by rw [t2]; exact hd, ?_⟩
        rw [t2]
        walk_at "e"
        have e6 : (0 - 1 : Int) * ((NumText.digitsVal a' : Nat) : Int) = valI (c0 :: a') := by rw [hv]; omega
        rw [e6]
        exact more _
      · refine iteDN h45 ?_
        walk_at "e"
        walk_at "e0"
        refine re_call c dW (by decide) (by walk_at "gm") ?_
        walk_at "e"
        refine iteDN (by decide) ?_
        walk_at "e"
        refine sv_str hz2 ?_
        walk_at "e"
        refine ⟨_, rfl, by rw [t1]; exact hd, ?_⟩
        rw [t1]
        walk_at "e"
        have e6 : (1 : Int) * ((NumText.digitsVal (c0 :: a') : Nat) : Int) = valI (c0 :: a') := by rw [hv]; omega
        rw [e6]
        exact more _
    refine rb_cons ?_
    cases s
    all_goals (repeat (first | walk_at "e1" | with_reducible refine iteD (by decide +kernel) ?_ | with_reducible refine iteDN (by decide +kernel) ?_))
    all_goals first
      | exact rest rfl
      | (refine rb_cons ?_; walk_at "e"; refine lv_lenS hz2 ?_; walk_at "e"; exact ⟨by show 2 ≤ sizeLine; decide, stop rfl⟩)
end
theorem joined_signs (cs : List Nat) : Txt.join "" (cs.map fun c => (⟨#[c]⟩ : Str)) = ⟨cs.toArray⟩ := by
  have e := TL.tl_join "" (cs.map fun c => (⟨#[c]⟩ : Str))
  have h : ∀ l : List (List Nat), TL.joinL (TL.tl "") l = l.flatten := fun l => by
    have e0 : TL.tl ("" : Str) = [] := by decide +kernel
    rw [e0]
    induction l with
    | nil => rfl
    | cons p r ih =>
      cases r with
      | nil => simp [TL.joinL]
      | cons q r =>
        show p ++ ([] ++ TL.joinL [] (q :: r)) = _
        rw [ih, List.nil_append]
        rfl
  rw [h, List.map_map] at e
  have e2 : ∀ l : List Nat, (List.map (TL.tl ∘ fun c => (⟨#[c]⟩ : Str)) l).flatten = l := fun l => by
    have e3 : (TL.tl ∘ fun c => (⟨#[c]⟩ : Str)) = fun c => [c] := by funext c; rfl
    rw [e3]
    induction l with
    | nil => rfl
    | cons c r ih => simpa using ih
  rw [e2] at e
  refine TL.ext_tl ?_
  rw [TL.join_eq]
  exact e
def spBent : Sp := fun vs H Q _ => ∃ (b : Addr) (z : Str), vs = [.ref b, .str z] ∧ BoxAt H b ∧ z.length ≤ 84 ∧ ∀ (w : Str) H', w.length ≤ 90 → Fr (· = b) H H' → BoxAt H' b → Q (.str w) H'
theorem len_app (a b : Str) : (a ++ b).length = a.length + b.length := by rw [str_len, tl_app, List.length_append, ← str_len, ← str_len]
theorem len_to (z : Str) (k : Nat) : (cutS z none (some (k : Int))).length ≤ k := by rw [str_len, cut_to, List.length_take]; omega
theorem len_from (z : Str) (k : Nat) : (cutS z (some (k : Int)) none).length = z.length - k := by rw [str_len, cut_from, List.length_drop, ← str_len]
section
variable {X : Cx} {vs : List V} {H : Hp} {Q : VK} {E : XK}
theorem body_bent (c : Ctx X nq_bent lq_bent 2) (zl : X.mg "len" = none) (zr : X.mg "range" = none) (dT : DT X "_law_take" ["box", "many"] 1 spTake) (dP : DT X "_law_pick" ["box", "some"] 2 (spPick X.K)) (h : spBent vs H Q E) :
    RB X (defBody sq_bent) { nx := fun _ H' => Q .non H', rt := Q } (start nq_bent vs) H := by
  obtain ⟨b, z, rfl, hB, hz, q⟩ := h
  have hz2 : z.length ≤ sizeLine := Nat.le_trans hz (by decide)
  show RB X (defBody sq_bent) _ [some (.ref b), some (.str z), none, none, none, none] H
  refine rb_cons ?_
  refine rs_par2 c (by walk_at "gm") (by walk_at "gm") (by walk_at "gm") (by walk_at "gm") (by decide) ?_
  refine ra_cons ?_
  refine re_call c dT (by decide) (by walk_at "gm") ?_
  walk_at "e"
  refine ⟨b, 7, rfl, hB, by decide, by decide, fun way H1 w0 w7 f1 hB1 => ?_⟩
  walk_at "e"
  refine re_call c dT (by decide) (by walk_at "gm") ?_
  walk_at "e"
  refine lv_lenS hz2 ?_
  walk_at "e"
  refine ⟨b, _, rfl, hB1, by omega, by omega, fun sp H2 s0 s1 f2 hB2 => ?_⟩
  obtain ⟨spot, rfl⟩ : ∃ k : Nat, sp = (k : Int) := ⟨sp.toNat, by omega⟩
  walk_at "e"
  refine ⟨_, _, _, _, rfl, by walk_at "gs", by walk_at "gs", ?_⟩
  have f02 := f1.trans f2
  have l1 := len_to z spot
  have l2 := len_from z spot
  have l3 := len_from z (spot + 1)
  refine rb_cons (rs_set c (by walk_at "gm") .loc (by walk_at "gm") ?_)
  refine re_ix (re_str ?_)
  have sm : ∀ {i : Int}, 0 ≤ i ∧ i < 15 → ∃ k : Int, D.int i = .int k ∧ 0 ≤ k ∧ k < 15 := fun h => ⟨_, rfl, h⟩
  refine re_pickI (P := fun d => ∃ k : Int, d = .int k ∧ 0 ≤ k ∧ k < 15) c (by decide) dP (by walk_at "gm") (by walk_at "gm") .cell (by walk_at "gs") hB2 (.cons (fun _ _ => rfl) (it_de .int (sm (by decide))) (.cons (fun _ _ => rfl) (it_de .int (sm (by decide))) (.cons (fun _ _ => rfl) (it_de .int (sm (by decide))) (.cons (fun _ _ => rfl) (it_de .int (sm (by decide))) (.cons (fun _ _ => rfl) (it_de .int (sm (by decide)))
    (.cons (fun _ _ => rfl) (it_de .int (sm (by decide))) (.cons (fun _ _ => rfl) (it_de .int (sm (by decide))) (.cons (fun _ _ => rfl) (it_de .int (sm (by decide))) (.cons (fun _ _ => rfl) (it_de .int (sm (by decide))) (.cons (fun _ _ => rfl) (it_de .int (sm (by decide))) (.cons (fun _ _ => rfl) (it_de .int (sm (by decide))) (.cons (fun _ _ => rfl) (it_de .int (sm (by decide))) (.cons (fun _ _ => rfl) (it_de .int (sm (by decide)))
    (.cons (fun _ _ => rfl) ?_ .nil)))))))))))))) (by decide) (by decide) fun v d H3 hd dv f3 hB3 => ?_
  · intro H3 K f hB3 k
    walk_at "e"
    refine re_call c dT (by decide) (by walk_at "gm") ?_
    walk_at "e"
    exact ⟨b, 15, rfl, hB3, by decide, by decide, fun x H4 x0 x1 f4 hB4 => k _ (.int x) H4 (sm ⟨x0, x1⟩) f4 hB4 .int⟩
  obtain ⟨k, rfl, k0, k1⟩ := hd
  obtain rfl : v = .int k := by cases dv; rfl
  have l15 : ("0123456789-/+. " : Str).cps.toList.length = 15 := by decide +kernel
  obtain ⟨ch, hch, _⟩ := mem_at (xs := ("0123456789-/+. " : Str).cps.toList) k0 (by rw [l15]; exact k1)
  refine iv_str (by decide) hch ?_
  have f03 := f02.trans f3
  have fin : ∀ w : Str, w.length ≤ 90 → Q (.str w) H3 := fun w hw => q w H3 hw f03 hB3
  have one : (⟨#[ch]⟩ : Str).length = 1 := rfl
  walk_at "e"
  walk_at "e0"
  refine ite2 (fun e => ?_) (fun e => ?_)
  · walk_at "e0"
    refine sv_str hz2 (fin _ ?_)
    omega
  walk_at "e"
  walk_at "e0"
  refine ite2 (fun e => ?_) (fun e => ?_)
  · walk_at "e0"
    refine ov_adds (sz30 (by omega)) (fin _ ?_)
    rw [len_app]
    omega
  walk_at "e"
  walk_at "e0"
  refine ite2 (fun e => ?_) (fun e => ?_)
  · walk_at "e0"
    refine sv_str hz2 ?_
    walk_at "e"
    refine ov_adds (sz30 (by omega)) ?_
    walk_at "e"
    refine sv_str hz2 ?_
    refine ov_adds (sz30 (by rw [len_app]; omega)) (fin _ ?_)
    rw [len_app, len_app]
    omega
  walk_at "e"
  walk_at "e0"
  refine ite2 (fun e => ?_) (fun e => ?_)
  · walk_at "e0"
    refine sv_str hz2 ?_
    walk_at "e"
    refine ov_adds (sz30 (by omega)) ?_
    walk_at "e"
    refine sv_str hz2 ?_
    have e5 : (cutS z (some ((spot : Int) + 1)) none).length = z.length - (spot + 1) := l3
    refine ov_adds (sz30 (by rw [len_app]; omega)) (fin _ ?_)
    rw [len_app, len_app]
    omega
  walk_at "e"
  walk_at "e0"
  refine ite2 (fun e => ?_) (fun e => ?_)
  · walk_at "e0"
    refine sv_str hz2 ?_
    walk_at "e"
    refine sv_str hz2 ?_
    have e5 : (cutS z (some ((spot : Int) + 1)) none).length = z.length - (spot + 1) := l3
    refine ov_adds (sz30 (by omega)) (fin _ ?_)
    rw [len_app]
    omega
  walk_at "e"
  walk_at "e0"
  refine ite2 (fun e => ?_) (fun e => ?_)
  · walk_at "e0"
    have e3 : ("/" : Str).length = 1 := by decide +kernel
    refine ov_adds (sz30 (by show z.length + ("/" : Str).length ≤ 100000; omega)) ?_
    have st : ∀ {s : Str}, s.length ≤ 2 → ∃ k : Str, D.str s = .str k ∧ k.length ≤ 2 := fun h => ⟨_, rfl, h⟩
    refine re_pickI (P := fun d => ∃ k : Str, d = .str k ∧ k.length ≤ 2) c (by decide) dP (by walk_at "gm") (by walk_at "gm") .cell (by walk_at "gs") hB3 (.cons (fun _ _ => rfl) (it_de .str (st (by decide))) (.cons (fun _ _ => rfl) (it_de .str (st (by decide))) (.cons (fun _ _ => rfl) (it_de .str (st (by decide))) (.cons (fun _ _ => rfl) (it_de .str (st (by decide)))
      (.cons (fun _ _ => rfl) (it_de .str (st (by decide))) (.cons (fun _ _ => rfl) (it_de .str (st (by decide))) (.cons (fun _ _ => rfl) (it_de .str (st (by decide))) (.cons (fun _ _ => rfl) (it_de .str (st (by decide))) .nil)))))))) (by decide) (by decide) fun v d H4 hd dv f4 hB4 => ?_
    obtain ⟨s, rfl, hs⟩ := hd
    obtain rfl : v = .str s := by cases dv; rfl
    have e4 : (z ++ ("/" : Str)).length = z.length + 1 := by rw [len_app, e3]
    refine ov_adds (sz30 (by show (z ++ ("/" : Str)).length + s.length ≤ 100000; omega)) (q _ H4 ?_ (f03.trans f4) hB4)
    show ((z ++ ("/" : Str)) ++ s).length ≤ 90
    rw [len_app]
    omega
  walk_at "e"
  refine rb_cons (rs_ret ?_)
  refine re_join ?_
  walk_at "e"
  refine re_lc_range c lq_bent_c0 (by decide +kernel) (by walk_at "gm") zr ?_
  refine re_call c dT (by decide) (by walk_at "gm") ?_
  walk_at "e"
  refine ⟨b, 7, rfl, hB3, by decide, by decide, fun m H4 m0 m7 f4 hB4 => ?_⟩
  refine ⟨m, rfl, by omega, by omega, fun Dn hD => ?_⟩
  have ff : Fr (· = b) H H4 := f03.trans f4
  refine ⟨fun i H' => ∃ cs : List Nat, cs.length = i ∧ H' Dn = some (.lst (cs.map fun c => V.str ⟨#[c]⟩)) ∧ BoxAt H' b ∧ Fr (· = b) H H', ⟨[], rfl, upd_same, hB4.fr (Fr.new hD), ff.trans (Fr.new hD)⟩, fun _ _ _ _ => trivial, ?_, ?_⟩
  · rintro i y H' hi rfl ⟨cs, h1, h3, h4, h5⟩
    refine ⟨_, by walk_at "gs", fun s Hb C cl fp cb => rts_nil (iteT fun s Hb C cl fp cb => ?_)⟩
    walk_at "e"
    refine re_call cb dT (by decide) (by walk_at "gm") ?_
    walk_at "e"
    refine ⟨b, 12, rfl, h4, by decide, by decide, fun d H'' d0 d1 f5 hB5 => ?_⟩
    have l12 : ("0123456789-/" : Str).cps.toList.length = 12 := by decide +kernel
    obtain ⟨n, hn, _⟩ := mem_at (xs := ("0123456789-/" : Str).cps.toList) d0 (by rw [l12]; exact d1)
    refine iv_str (by decide) hn ?_
    have e : Dn ≠ b := hB4.ne hD
    refine ⟨_, f5 _ _ e h3, by rw [List.length_map]; exact Nat.lt_of_le_of_lt (by omega : cs.length ≤ 8) (by decide), cs ++ [n], by simp [h1], ?_, hB5.put e, (h5.trans f5).put (ff.gone e hD)⟩
    rw [upd_same, List.map_append]
    rfl
  · rintro H' ⟨cs, h1, h3, h4, h5⟩
    have h8 : cs.length ≤ 8 := by omega
    refine ⟨Dn, cs.map fun c => ⟨#[c]⟩, rfl, .inl (SqL.of ?_), ?_, ?_⟩
    · rw [h3, List.map_map]
      rfl
    · have e1 : (List.map (fun x : Str => x.length) (List.map (fun c => (⟨#[c]⟩ : Str)) cs)).sum = cs.length := by
        rw [List.map_map]
        clear h1 h3 h8
        induction cs with
        | nil => rfl
        | cons c r ih =>
          rw [List.map_cons, List.sum_cons, ih, List.length_cons]
          show 1 + r.length = _
          omega
      rw [e1, List.length_map]
      have e2 : ("" : Str).length = 0 := by decide +kernel
      show cs.length + cs.length * ("" : Str).length ≤ 16777216
      rw [e2]
      omega
    · have e3 := joined_signs cs
      refine q _ H' ?_ h5 h4
      show (Txt.join "" (cs.map fun c => (⟨#[c]⟩ : Str))).length ≤ 90
      rw [e3]
      show cs.toArray.size ≤ 90
      rw [List.size_toArray]
      omega
/-! ### the texts that are written out -/
abbrev fx1 : List Str := ["", "-", "0", "-0", "-0/1", "00", "01", "0/", "0/1", "0/2", "1/1", "1/0", "1/01", "5/", "5/1", "5/2", "-5/2", "--5", "5-", "+5"]
abbrev fx2 : List Str := ["5\n", "-5\n", "5/2\n", "\n5", "1_0", "5/1_0", "5 /2", "5/ 2", "0x5", "5.0", "1e3", "0\n", "0/\n"]
abbrev fx3 : List Str := [" 5", "5 ", "5/2 ", "5//2", "5/-2", "6/4", "6/4x", "6/x", "6/12/", "/2", "-/2", "1.5", "10", "-10", "10/100", "7/49", "49/7", "1/10"]
theorem dts_strs_inv {K : PySem.W.Frag} {B : Addr → Prop} {H : Hp} : ∀ {ls : List Str} {vs : List V}, Dts K B H vs (ls.map D.str) → vs = ls.map V.str
  | [], vs, h => List.eq_nil_of_length_eq_zero h.1
  | s :: r, [], h => by cases h.1
  | s :: r, v :: t, h => by
    have hv : Dt K B H v (.str s) := h.2 0 v _ rfl rfl
    have ht := dts_strs_inv (ls := r) (vs := t) ⟨by have := h.1; simpa using this, fun i u y a b => h.2 (i + 1) u y a b⟩
    rw [ht]
    cases hv
    rfl
def spFixed : Sp := fun vs H Q _ => vs = [] ∧ ∀ p (ws : List Str) H', Fr NoB H H' → H' p = some (.lst (ws.map V.str)) → (∀ w ∈ ws, w.length ≤ 90) → Q (.ref p) H'
theorem fx_len : ∀ w ∈ fx1 ++ fx2 ++ fx3, w.length ≤ 90 := by
  have h : (fx1 ++ fx2 ++ fx3).all (fun w => decide (w.length ≤ 90)) = true := by decide +kernel
  intro w hw
  exact of_decide_eq_true (List.all_eq_true.mp h w hw)
theorem body_fixed (c : Ctx X nq_fixed lq_fixed 0) (h : spFixed vs H Q E) : RB X (defBody sq_fixed) { nx := fun _ H' => Q .non H', rt := Q } (start nq_fixed vs) H := by
  obtain ⟨rfl, q⟩ := h
  show RB X (defBody sq_fixed) _ [none] H
  refine rb_cons (rs_set c (by walk_at "gm") .loc (by walk_at "gm") ?_)
  refine re_dataL (ds := fx1.map D.str) (by walk_at "de") (by decide) fun l vs1 H1 hl f1 h1 d1 => ?_
  obtain rfl := dts_strs_inv d1
  have hlH : H l = none := hl
  refine ⟨_, by walk_at "gs", ?_⟩
  refine rb_cons (rs_expr (re_extend ?_))
  refine re_name c (by walk_at "gs") (by walk_at "gm") .loc ?_
  refine ⟨l, _, rfl, h1, ?_⟩
  refine re_dataL (ds := fx2.map D.str) (by walk_at "de") (by decide) fun b vs2 H2 hb f2 h2 d2 => ?_
  obtain rfl := dts_strs_inv d2
  have nbl : b ≠ l := fun e => by rw [e, h1] at hb; cases hb
  refine ⟨b, _, _, rfl, f2 _ _ (fun z => z) h1, h2, by decide, ?_⟩
  have f3 : Fr NoB H (upd H2 l (.lst (fx1.map V.str ++ fx2.map V.str))) := (f1.trans f2).put hlH
  have h3 : upd H2 l (.lst (fx1.map V.str ++ fx2.map V.str)) l = some (.lst (fx1.map V.str ++ fx2.map V.str)) := upd_same
  generalize upd H2 l (.lst (fx1.map V.str ++ fx2.map V.str)) = H3 at f3 h3 ⊢
  refine rb_cons (rs_expr (re_extend ?_))
  refine re_name c (by walk_at "gs") (by walk_at "gm") .loc ?_
  refine ⟨l, _, rfl, h3, ?_⟩
  refine re_dataL (ds := fx3.map D.str) (by walk_at "de") (by decide) fun b3 vs3 H4 hb3 f4 h4 d4 => ?_
  obtain rfl := dts_strs_inv d4
  refine ⟨b3, _, _, rfl, f4 _ _ (fun z => z) h3, h4, by decide, ?_⟩
  walk_at "e"
  walk_at "e0"
  refine q l (fx1 ++ fx2 ++ fx3) _ ((f3.trans f4).put hlH) ?_ fx_len
  rw [List.map_append, List.map_append]
  exact upd_same
end
structure HeardC (K : PySem.W.Frag) (mg : Str → Option Value) (nm fl : Str) (bads : List Str) (CR : Addr) : Prop where
  gR : mg nm = some (.ref CR)
  exm : PySem.W.exmOne K (.ref CR) (.ref CR) = some true
  isi : mg "isinstance" = none
  ve : mg "ValueError" = none
  kv : PySem.W.kitOne K (.ref CR) (.type "ValueError") = some true
  own : ∃ CO : Addr, mg "OwnError" = some (.ref CO) ∧ PySem.W.kitOne K (.ref CR) (.ref CO) = some true
  bad : ∃ Cs : Str → Addr, (∀ n ∈ bads, mg n = some (.ref (Cs n))) ∧ PySem.W.kitAny K (.ref CR) (bads.map fun n => .ref (Cs n)) = some false
  kit : KitC K CR
  xf : XfC K CR
  no : PySem.W.findIn K (.ref CR) fl = some none
def Caught (fl wd : Str) (C : Addr) (Q : VK) (cls : Value) (d : Option Addr) (H1 : Hp) : Prop :=
  cls = .ref C ∧ ∃ (dd : Addr) (v : V), d = some dd ∧ H1 dd = some (.xd [(fl, v)]) ∧ ∀ p H2, H1 p = none → Fr NoB H1 H2 → H2 p = some (.tup [.str wd, v, .bl true, .bl true, .bl false]) → Q (.ref p) H2
abbrev bads_1 : List Str := ["BadDeed", "BadEvent", "BadFraction", "BadLabel", "BadName", "BadOctets", "BadRoster", "BadRun", "BadView", "Refused"]
def THeard (C : Addr) : (XK → Hp → VK → Prop) → Hp → VK → Prop := fun tl H Q =>
  tl (fun cls d H1 => Caught "at" "none" C Q cls d H1) H (fun v H1 => ∀ p H2, H1 p = none → Fr NoB H1 H2 → H2 p = some (.tup [.str "told", v]) → Q (.ref p) H2)
theorem heard_gives {X : Cx} {CR g : Addr} {cdg : Value} {q : Str} (C : HeardC X.K X.mg "BadText" "at" bads_1 CR) : LamX.GivesTo X nq_heard "_law_heard" (defScope sq_heard) g cdg (defBody sq_heard) "ask" q (THeard CR) := by
  intro f c' s H Q tl act hc h
  have cS : CtxS (cxOf C8.CX0 X.prog X.w X.K X.mg X.base nq_heard "_law_heard" (defScope sq_heard) g cdg X.A X.stack s H C8.E0).nox nq_heard lq_heard := ⟨rfl, mq_heard.S.nd, knIs_of mq_heard rfl (fun _ => rfl), mq_heard.db⟩
  have rb : RB (cxOf C8.CX0 X.prog X.w X.K X.mg X.base nq_heard "_law_heard" (defScope sq_heard) g cdg X.A X.stack s H C8.E0).nox (defBody sq_heard) { nx := fun _ H' => Q .non H', rt := Q } (start nq_heard [.ref f]) H := by
    refine rb_cons ?_
    refine rs_try_as cS rfl rfl (by walk_at "gm") (by walk_at "gm") ⟨cS.gl (by walk_at "gm"), by decide +kernel, .inl C.gR⟩ ?_
    intro pn xe W tk po hW
    walk_at "g0"
    refine pe_mono (re_of (act W pn xe _ _ _ tk ?_) ⟨rfl, hc, h⟩) fun v H1 k => ?_
    · rintro cls d σ' H1 ⟨rfl, dd, v, rfl, hd, k⟩
      refine hW _ _ _ _ C.exm fun a oe pn2 nx bk ct σa ha hσ hl hz hf c2 => ?_
      obtain rfl := hσ 1 rfl
      obtain ⟨x, y, z, rfl⟩ : ∃ x y z, σ' = [x, y, z] := by
        match σ', hl with
        | [x, y, z], _ => exact ⟨x, y, z, rfl⟩
      obtain ⟨CO, mO, kO⟩ := C.own
      obtain ⟨Cs, mB, kB⟩ := C.bad
      show RB _ _ _ [x, some (.ref a), z] H1
      refine rb_cons ?_
      refine rs_setS c2 (by walk_at "gm") (by walk_at "gm") ?_
      refine re_isX c2 (by walk_at "gm") C.isi ?_
      refine ra_cons ?_
      refine re_nameS c2 (by walk_at "gs") (by walk_at "gm") .loc ?_
      refine ra_cons ?_
      refine re_tup ?_
      repeat (refine ra_cons ?_; refine re_globS c2 (v := .ref (Cs _)) (by walk_at "gm") (mB _ (by walk_at "gm")) rfl ?_)
      refine ra_nil ?_
      refine ⟨by show 10 ≤ sizeLine; decide, fun tp htp => ?_⟩
      refine ra_nil ?_
      have dt : dd ≠ tp := fun e => by rw [e, htp] at hd; cases hd
      refine lv_isXT C.kit hz hf (fs := [("at", v)]) (by rw [upd_ne dt]; exact hd) upd_same (.cons (.own _) (.cons (.own _) (.cons (.own _) (.cons (.own _) (.cons (.own _) (.cons (.own _) (.cons (.own _) (.cons (.own _) (.cons (.own _) (.cons (.own _) .nil)))))))))) kB ?_
      refine ⟨_, by walk_at "gs", ?_⟩
      refine rb_cons ?_
      refine rs_ret ?_
      refine re_tup ?_
      refine ra_cons (re_str ?_)
      refine ra_cons ?_
      refine re_field (fs := [("at", v)]) (v := v) C.xf C.no hz hf ?_
      refine re_nameS c2 (by walk_at "gs") (by walk_at "gm") .loc ?_
      refine ⟨rfl, by rw [upd_ne dt]; exact hd, rfl, ?_⟩
      refine ra_cons ?_
      refine re_isX c2 (by walk_at "gm") C.isi ?_
      refine ra_cons ?_
      refine re_nameS c2 (by walk_at "gs") (by walk_at "gm") .loc ?_
      refine ra_cons ?_
      refine re_globS c2 (v := .ref CO) (by walk_at "gm") mO rfl ?_
      refine ra_nil ?_
      refine lv_isX C.kit hz hf (fs := [("at", v)]) (by rw [upd_ne dt]; exact hd) (.own _) kO ?_
      refine ra_cons ?_
      refine re_isX c2 (by walk_at "gm") C.isi ?_
      refine ra_cons ?_
      refine re_nameS c2 (by walk_at "gs") (by walk_at "gm") .loc ?_
      refine ra_cons ?_
      refine re_bltnS c2 (v := .ty "ValueError") (by walk_at "gm") C.ve (by decide +kernel) rfl ?_
      refine ra_nil ?_
      refine lv_isX C.kit hz hf (fs := [("at", v)]) (by rw [upd_ne dt]; exact hd) (.ty _) C.kv ?_
      refine ra_cons ?_
      refine re_nameS c2 (by walk_at "gs") (by walk_at "gm") .loc ?_
      refine ra_nil ?_
      refine ⟨by show 5 ≤ sizeLine; decide, fun p hp => ?_⟩
      exact k p _ ((Fr.new (B := NoB) htp).free hp) ((Fr.new htp).trans (Fr.new hp)) upd_same
    · refine ra_nil ⟨by show 2 ≤ sizeLine; decide, fun p hp => ?_⟩
      exact k p _ hp (Fr.new hp) upd_same
  exact rb.ex
theorem at5X {X Xl : Cx} {x : Str} {ps : List Str} {n : Nat} {sp : Sp} (d : DefP X.prog X.w X.K X.mg X.base (L2.CX X.prog X.w) x ps n sp) (a : At5 Xl X.prog X.w X.K X.mg X.base) : DefP Xl.prog Xl.w Xl.K Xl.mg Xl.base (L2.CX Xl.prog Xl.w) x ps n sp := by
  obtain ⟨p1, p2, p3, p4, p5⟩ := a
  rw [p1, p2, p3, p4, p5]
  exact d
theorem tab_box {H H' : Hp} {P b : Addr} {q : Str} {xs : List V} (t : LamX.TabS H P q) (hb : H b = some (.lst xs)) (f : Fr (· = b) H H') : LamX.TabS H' P q := by
  obtain ⟨ps, h1, h2, h3⟩ := t
  have n1 : ¬ P = b := fun e => by rw [e, hb] at h1; cases h1
  refine ⟨ps, f _ _ n1 h1, h2, fun pos cv hc => ?_⟩
  obtain ⟨c, e, hco⟩ := h3 pos cv hc
  exact ⟨c, e, f _ _ (fun e2 => by rw [e2, hb] at hco; cases hco) hco⟩
theorem tabs_box {H H' : Hp} {T : List (Addr × Str)} {b : Addr} (t : LamX.Tabs T H) (hB : BoxAt H b) (f : Fr (· = b) H H') : LamX.Tabs T H' := fun p hp => by
  obtain ⟨g, r, hg, _⟩ := id hB
  exact tab_box (t p hp) hg f
structure KeyC (X : Cx) (CXs : CXT) (x : Str) (ps ks : List Str) (g : List Value → List Value → List Value) (gV : List V → List V → List V) (n : Nat) (sp : Sp) : Prop where
  ex : ∃ (f : Addr) (fd : FuncData), FnOk X.prog X.w X.K X.mg X.base CXs n f fd ps sp ∧ X.mg x = some (.ref f) ∧ PySem.W.keepIn X.K (.ref f) = true ∧ KBinds X.K fd ps ks g gV
theorem key5X {X Xl : Cx} {x : Str} {ps ks : List Str} {g : List Value → List Value → List Value} {gV : List V → List V → List V} {n : Nat} {sp : Sp} (d : KeyC X (L2.CX X.prog X.w) x ps ks g gV n sp) (a : At5 Xl X.prog X.w X.K X.mg X.base) : KeyC Xl (L2.CX Xl.prog Xl.w) x ps ks g gV n sp := by
  obtain ⟨f, fd, h1, h2, h3, h4⟩ := d.ex
  obtain ⟨p1, p2, p3, p4, p5⟩ := a
  exact ⟨f, fd, by rw [p1, p2, p3, p4, p5]; exact h1, by rw [p4]; exact h2, by rw [p3]; exact h3, by rw [p3]; exact h4⟩
def g1 {α : Type} : List α → List α → List α
  | [], [z] => [z]
  | _, _ => []
abbrev qR : Str := "_law_read_right" ++ ".<locals>." ++ "<lambda>"
abbrev qL : Str := "law" ++ ".<locals>." ++ "<lambda>"
abbrev TT (P1 P2 : Addr) : List (Addr × Str) := [(P1, qR), (P2, qL)]
theorem hu2 {P1 P2 : Addr} (n : P1 ≠ P2) {p r : Addr × Str} (h : p ∈ TT P1 P2) (g : r ∈ TT P1 P2) (e : p.1 = r.1) : p.2 = r.2 := by
  simp only [List.mem_cons, List.not_mem_nil, or_false] at h g
  rcases h with rfl | rfl
  · rcases g with rfl | rfl
    · rfl
    · exact absurd e n
  · rcases g with rfl | rfl
    · exact absurd e.symm n
    · rfl
structure Lam (X : Cx) (cc P C g : Addr) (fdh : FuncData) : Prop where
  code : X.env.code = .ref cc
  TB : LamX.TabB X.base X.mg cc P
  FH : FnP X.K "_law_heard" sq_heard g fdh
  gx : X.mg "_law_heard" = some (.ref g)
  bH : Binds X.K fdh ["ask"] []
  h1 : HeardC X.K X.mg "BadText" "at" bads_1 C
def dGot (r : Rd) : D := match r with
  | .bad i => .tup [.str "none", .int i, .bl true, .bl true, .bl false]
  | .good n d => .tup [.str "told", dF n d]
theorem dep_got (r : Rd) : Dep 3 (dGot r) := by
  cases r with
  | bad i =>
    refine .tup fun d hd => ?_
    simp only [List.mem_cons, List.not_mem_nil, or_false] at hd
    rcases hd with rfl | rfl | rfl | rfl | rfl
    · exact .str
    · exact .int
    · exact .bl
    · exact .bl
    · exact .bl
  | good n m =>
    refine .tup fun d hd => ?_
    rcases List.mem_cons.mp hd with rfl | hd
    · exact .str
    · obtain rfl := List.mem_singleton.mp hd
      exact dep_F n m
/-- what is heard of a reading, asked by a lambda -/
theorem heard_ask {X : Cx} {σ : L2.St} {H : Hp} {N : List Str} {L : List (Str × KN)} {k : Nat} {Q : VK} {p0 p1 p2 : Pos} (c : Ctx X N L k) (hk : 5 ≤ k) {T : List (Addr × Str)} {cc P C1 g : Addr} {fdh : FuncData} {params : Arguments} {scope : Scope} {body : Expr} {v : V} {d : D} (Ll : List (Str × KN)) (hok : lamOk L scope Ll = true)
    (LA : Lam X cc P C1 g fdh) (hmT : (P, X.env.qual ++ "<lambda>") ∈ T) (hu : ∀ p ∈ T, p.1 = P → p.2 = X.env.qual ++ "<lambda>") (hgl : (("_law_heard" : Str), KN.glob) ∈ L)
    (hbody : ∀ (Xl : Cx), Ctx Xl N Ll 3 → At5 Xl X.prog X.w X.K X.mg X.base → ∀ (E : XK), Takes Xl (fun cls d _ H' => E cls d H') → ∀ (H2 : Hp) (K : VK), spRF X.K C1 [v] H2 K E → RE Xl body σ H2 K)
    (t : LamX.Tabs T H) (hv : Dt X.K NoB H v d) (hz : ∀ z, d = .str z → z.length ≤ 600) (q : ∀ pg H', Fx NoB H H' → LamX.Tabs T H' → Dt X.K NoB H' (.ref pg) (dGot (rdD d)) → Q (.ref pg) H')
    (hdef : defaultsOf params X.env = ([], []) := by with_unfolding_all rfl) (hbind : ∀ (q : Str) (cl : List (Str × Addr)) (pm cv ctv : Value), bindArgs (PySem.W.kla_fn "<lambda>" q params body scope cl pm cv ctv) ⟨[], []⟩ = pure [] := by intros; with_unfolding_all rfl) :
    RE X (.Call (.Name "_law_heard" p0) [.Lambda params body scope p1] [] p2) σ H Q := by
  refine re_lamcall c (T := T) (kl := 3) Ll hok LA.FH LA.gx LA.bH mq_heard.S rfl (Or.inl (by decide +kernel)) (by decide +kernel) (fun cdg => heard_gives LA.h1) LA.TB LA.code hmT hu (by omega) hgl ⟨t, fun H2 e2 t2 => ?_⟩ hdef hbind
  have f2 : Fx NoB H H2 := Fx.ext e2
  refine LamR.intro (Ll := Ll) c hok fun Xl cl al tkl => ?_
  have hv2 : Dt X.K NoB H2 v d := f2.dt hv
  refine hbody Xl cl al _ tkl H2 _ ⟨NoB, v, d, rfl, hv2, hz, fun i hi x H3 f3 hx => ⟨rfl, x, .int i, rfl, upd_same, fun pg H4 hpg f4 h4 => ?_⟩, fun n m hn p H3 f3 hp pg H4 hpg f4 h4 => ?_⟩
  · have g4 := (f3.trans (Fr.new (B := NoB) (o := .xd [("at", .int i)]) hx)).trans f4
    refine q pg H4 (f2.trans g4.fx) (t2.ext fun b o e => g4 b o (fun z => z) e) ?_
    rw [hi]
    exact Dt.ofT (fun z => z) h4 (.cons .str (.cons .int (.cons .bl (.cons .bl (.cons .bl .nil)))))
  · have g4 := (f3.trans (Fr.new (B := NoB) (o := .tup [.int n, .int m]) hp)).trans f4
    refine q pg H4 (f2.trans g4.fx) (t2.ext fun b o e => g4 b o (fun z => z) e) ?_
    rw [hn]
    exact Dt.ofT (fun z => z) h4 (.cons .str (.cons ((Dt.newT hp (fun z => z) (.cons .int (.cons .int .nil))).fr f4) .nil))
theorem rd_wt {l : List Nat} {n d : Int} (h : rd l = .good n d) (hl : l.length ≤ 90) : WT n ∧ WT d := by
  obtain ⟨e, lw⟩ := rd_good h
  have num : ∀ m : Nat, (TL.numL m).length ≤ 90 → m < 10 ^ 90 := fun m hm => by
    have h1 := val_lt (num_ds m)
    rw [TL.numL_val] at h1
    exact Nat.lt_of_lt_of_le h1 (Nat.pow_le_pow_right (by decide) hm)
  have hi : ∀ (n : Int), (numI n).length ≤ 90 → WT n := fun n hn => by
    refine num _ ?_
    unfold numI at hn
    split at hn
    · rw [List.length_cons] at hn
      omega
    · exact hn
  rw [e] at hl
  unfold txF at hl
  split at hl
  · rename_i d1
    refine ⟨hi n hl, ?_⟩
    rw [d1]
    show (1 : Int).natAbs < 10 ^ 90
    exact Nat.lt_of_lt_of_le (by decide : (1 : Int).natAbs < 10) (by decide +kernel)
  · rw [List.length_append, List.length_cons] at hl
    refine ⟨hi n (by omega), ?_⟩
    have h2 := num d.toNat (by omega)
    have := lw.1
    show d.natAbs < 10 ^ 90
    have e2 : d.natAbs = d.toNat := by omega
    rw [e2]
    exact h2
def spRR (P1 P2 : Addr) : Sp := fun vs H Q _ => ∃ z : Str, vs = [.str z] ∧ z.length ≤ 90 ∧ LamX.Tabs (TT P1 P2) H ∧ ∀ H', Fx NoB H H' → LamX.Tabs (TT P1 P2) H' → Q (.bl true) H'
section
variable {X : Cx} {vs : List V} {H : Hp} {Q : VK} {E : XK}
theorem body_read_right (c : Ctx X nq_read_right lq_read_right 5) {cc P1 P2 C1 g : Addr} {fdh : FuncData} (n2 : P1 ≠ P2) (hq : X.env.qual = "_law_read_right" ++ ".<locals>.") (LA : Lam X cc P1 C1 g fdh) (dR : DT X "_law_read" ["text"] 2 (spRead X.K))
    (dF : DefP X.prog X.w X.K X.mg X.base (L2.CX X.prog X.w) "read_fraction" ["text"] 3 (spRF X.K C1)) (dT : DT X "fraction_text" ["one"] 1 spFT) (dS : DT X "_law_same" ["told", "due"] 4 (spSame X.K 3)) (h : spRR P1 P2 vs H Q E) :
    RB X (defBody sq_read_right) { nx := fun _ H' => Q .non H', rt := Q } (start nq_read_right vs) H := by
  obtain ⟨z, rfl, hz, hT, q⟩ := h
  have tb : ∀ {H1 H2 : Hp}, Fr NoB H1 H2 → LamX.Tabs (TT P1 P2) H1 → LamX.Tabs (TT P1 P2) H2 := fun f t => t.ext fun b o e => f b o (fun z => z) e
  show RB X (defBody sq_read_right) _ [some (.str z), none, none] H
  walk_at "e0"
  refine re_call c dR (by decide) (by walk_at "gm") ?_
  walk_at "e"
  refine ⟨z, rfl, hz, fun p H1 f1 hp => ?_⟩
  walk_at "e"
  refine rb_cons (rs_set c (by walk_at "gm") .loc (by walk_at "gm") ?_)
  refine heard_ask c (by decide) (T := TT P1 P2) (v := .str z) (d := .str z) lq_read_right_l0 (by decide +kernel) LA (by rw [hq]; walk_at "gm") (fun r hr e => by rw [hq]; exact hu2 n2 hr (r := (P1, qR)) (by walk_at "gm") e) (by walk_at "gm") (fun Xl cl al E tkl H2 K hs => ?_) (tb f1 hT) .str (fun w e => by cases e; omega) fun pg H2 f2 t2 dg => ?_
  · refine re_callX cl (at5X dF al) (by decide) (by walk_at "gm") (passes_call tkl (fun cls d σ H h => h)) ?_
    walk_at "e"
    exact hs
  have dg2 : Dt X.K NoB H2 (.ref pg) (dGot (rd z.cps.toList)) := dg
  have f02 : Fx NoB H H2 := f1.fx.trans f2
  have hp2 : Dt X.K NoB H2 (.ref p) (dRd (rd z.cps.toList)) := f2.dt hp
  have fin : ∀ (w : V), Dt X.K NoB H2 w (dGot (rd z.cps.toList)) → (∀ H', Fr NoB H2 H' → Q (.bl true) H') := fun _ _ H' f => q H' (f02.trans f.fx) (tb f t2)
  refine ⟨_, by walk_at "gs", ?_⟩
  cases hr : rd z.cps.toList with
  | bad i =>
    rw [hr] at dg2 hp2
    cases hp2 with
    | @tup _ us _ _ hpp hl hh =>
      obtain ⟨u1, u2, rfl⟩ := two_of hl
      have h1 := hh 0 u1 _ rfl rfl
      have h2 := hh 1 u2 _ rfl rfl
      cases h1
      cases h2
      walk_at "e0"
      refine iteD rfl ?_
      walk_at "e0"
      refine re_call c dS (by decide) (by walk_at "gm") ?_
      walk_at "e"
      refine ⟨by show 5 ≤ sizeLine; decide, fun pd hpd => ?_⟩
      walk_at "e"
      refine ⟨dGot (.bad i), _, _, NoB, NoB, rfl, dg2.fr (Fr.new hpd), Dt.newT hpd (fun z => z) (.cons .str (.cons .int (.cons .bl (.cons .bl (.cons .bl .nil))))), dep_got _, fun H4 f4 => ?_⟩
      have g := (Fr.new (B := NoB) hpd).trans f4
      exact q H4 (f02.trans g.fx) (tb g t2)
  | good n m =>
    rw [hr] at dg2 hp2
    obtain ⟨w1, w2⟩ := rd_wt hr (by rw [← str_len]; exact hz)
    obtain ⟨ez, lw⟩ := rd_good hr
    have hp3 := hp2
    cases hp2 with
    | @tup _ us _ _ hpp hl hh =>
      obtain ⟨u1, u2, rfl⟩ := two_of hl
      have h1 := hh 0 u1 _ rfl rfl
      have h2 : At2 H2 u2 n m := At2.of_dt (hh 1 u2 _ rfl rfl)
      cases h1
      walk_at "e0"
      refine iteDN (by decide +kernel) ?_
      walk_at "e"
      walk_at "e0"
      refine re_call c dS (by decide) (by walk_at "gm") ?_
      walk_at "e"
      refine ⟨dGot (.good n m), _, _, NoB, NoB, rfl, dg2, hp3, dep_got _, fun H4 f4 => ?_⟩
      have hpp4 := f4 _ _ (fun z => z) hpp
      walk_at "e"
      refine re_call c dS (by decide) (by walk_at "gm") ?_
      refine ra_cons ?_
      refine re_call c dT (by decide) (by walk_at "gm") ?_
      walk_at "e"
      refine ⟨u2, n, m, rfl, h2.fr f4, w1, w2, lw.1, fun y hy => ?_⟩
      obtain rfl : y = z := str_ext (by rw [hy, ez])
      walk_at "e"
      refine ⟨.str y, _, _, NoB, NoB, rfl, .str, .str, .str, fun H5 f5 => ?_⟩
      have g := f4.trans f5
      exact q H5 (f02.trans g.fx) (tb g t2)
end
structure St (T : List (Addr × Str)) (H0 : Hp) (b : Addr) (H : Hp) : Prop where
  fx : Fx NoB H0 H
  tab : LamX.Tabs T H
  nb : Nt H0 b
  box : BoxAt H b
theorem St.draw (s : St T H0 b H) (f : Fr (· = b) H H') (hb : BoxAt H' b) : St T H0 b H' := ⟨fx_boxX s.fx s.nb f.fx, tabs_box s.tab s.box f, s.nb, hb⟩
theorem St.fr (s : St T H0 b H) (f : Fr NoB H H') : St T H0 b H' := ⟨s.fx.trans f.fx, s.tab.ext fun b o e => f b o (fun z => z) e, s.nb, s.box.fr f⟩
theorem St.go (s : St T H0 b H) (f : Fx NoB H H') (t : LamX.Tabs T H') : St T H0 b H' := ⟨s.fx.trans f, t, s.nb, f.box s.box⟩
theorem St.goB (s : St T H0 b H) (f : Fx (· = b) H H') (t : LamX.Tabs T H') (hb : BoxAt H' b) : St T H0 b H' := ⟨fx_boxX s.fx s.nb f, t, s.nb, hb⟩
structure LawD (X : Cx) (P1 P2 C1 : Addr) : Prop where
  fx : DT X "_law_fixed" [] 1 spFixed
  bx : DT X "_law_box" ["script", "k"] 1 (spBox X.K)
  fr : DT X "_law_fraction" ["box"] 4 spFrac
  du : DT X "_law_due" ["one"] 2 spDue
  pk : DT X "_law_pick" ["box", "some"] 2 (spPick X.K)
  be : DT X "_law_bent" ["box", "text"] 3 spBent
  rr : DT X "_law_read_right" ["text"] 6 (spRR P1 P2)
  sm : DT X "_law_same" ["told", "due"] 4 (spSame X.K 3)
  ft : DT X "fraction_text" ["one"] 1 spFT
  kt : KeyC X CX0 "fraction_text" ["one"] ["one"] g1 g1 1 spFT
  rf : DefP X.prog X.w X.K X.mg X.base (L2.CX X.prog X.w) "read_fraction" ["text"] 3 (spRF X.K C1)
  kf : KeyC X (L2.CX X.prog X.w) "read_fraction" ["text"] ["text"] g1 g1 3 (spRF X.K C1)
  zl : X.mg "len" = none
  zr : X.mg "range" = none
  zm : X.mg "min" = none
  zM : X.mg "max" = none
theorem At2.dtT {K : PySem.W.Frag} {H : Hp} {v : V} {n m : Int} (h : At2 H v n m) : Dt K NoB H v (dF n m) := h.dt
def spLaw (K : PySem.W.Frag) (P1 P2 : Addr) : Sp := fun vs H Q _ => ∃ (a : Addr) (ns : List Int), vs = [.ref a] ∧ SqL K H a (ns.map V.int) ∧ ns.length ≤ 63 ∧ LamX.Tabs (TT P1 P2) H ∧ ∀ H', Q (.bl true) H'
theorem odd_bad {d : D} (h : ∀ z, d ≠ .str z) : rdD d = .bad (-1) := by
  cases d <;> first | rfl | exact absurd rfl (h _)
theorem body_law {X : Cx} {cc P1 P2 C1 g : Addr} {fdh : FuncData} (c : Ctx X nq_law lq_law 7) (n2 : P1 ≠ P2) (hq : X.env.qual = "law" ++ ".<locals>.") (LA : Lam X cc P2 C1 g fdh) (F : LawD X P1 P2 C1) {vs : List V} {H : Hp} {Q : VK} {E : XK} (h : spLaw X.K P1 P2 vs H Q E) :
    RB X (defBody sq_law) { nx := fun _ H' => Q .non H', rt := Q } (start nq_law vs) H := by
  obtain ⟨a, ns, rfl, hS, h63, hT, q⟩ := h
  have zl := F.zl
  have zr := F.zr
  have zm := F.zm
  have zM := F.zM
  have tb : ∀ {H1 H2 : Hp}, Fr NoB H1 H2 → LamX.Tabs (TT P1 P2) H1 → LamX.Tabs (TT P1 P2) H2 := fun f t => t.ext fun b o e => f b o (fun z => z) e
  show RB X (defBody sq_law) _ [some (.ref a), none, none, none, none, none, none, none] H
  refine rb_cons ?_
  refine rs_for_list c (by walk_at "gm") .loc (by walk_at "gm") ?_
  refine re_call0 c F.fx (by decide) (by walk_at "gm") ⟨rfl, fun l ws H1 f1 h1 hw => ?_⟩
  refine ⟨l, _, rfl, SqL.of h1, fun i σ H' => Fx NoB H1 H' ∧ LamX.Tabs (TT P1 P2) H' ∧ ∃ s1 : Option V, σ = [some (.ref a), s1, none, none, none, none, none, none], ⟨Fx.refl, tb f1 hT, _, rfl⟩, fun i σ H' _ h => h.1.seqL (fun z => z) (SqL.of h1), ?_, ?_⟩
  · rintro i v σ H2 hi hv ⟨f2, t2, s1, rfl⟩
    rw [List.getElem?_map] at hv
    obtain ⟨w, hw2, rfl⟩ := Option.map_eq_some_iff.mp hv
    refine ⟨_, by walk_at "gs", ?_⟩
    walk_at "e0"
    refine re_call c F.rr (by decide) (by walk_at "gm") ?_
    walk_at "e"
    refine ⟨w, rfl, hw w (List.mem_of_getElem? hw2), t2, fun H3 f3 t3 => ?_⟩
    walk_at "e"
    exact ⟨f2.trans f3, t3, _, rfl⟩
  · rintro σ H2 ⟨f2, t2, s1, rfl⟩
    have f02 : Fx NoB H H2 := f1.fx.trans f2
    refine rb_cons ?_
    refine rs_for_range c (by walk_at "gm") .loc (by walk_at "gm") (by walk_at "gm") zr ?_
    walk_at "e"
    refine lv_lenL (f02.seqL (fun z => z) hS) ?_
    rw [List.length_map]
    walk_at "e"
    obtain ⟨n, hn, n12⟩ : ∃ n : Nat, (if (if (12 : Int) < (ns.length : Int) then 12 else (ns.length : Int)) > 4 then (if (12 : Int) < (ns.length : Int) then 12 else (ns.length : Int)) else 4) = (n : Int) ∧ n ≤ 12 := by
      refine ⟨(if (if (12 : Int) < (ns.length : Int) then 12 else (ns.length : Int)) > 4 then (if (12 : Int) < (ns.length : Int) then 12 else (ns.length : Int)) else 4).toNat, ?_, ?_⟩
      · split <;> split <;> omega
      · split <;> split <;> omega
    rw [hn]
    refine ⟨by omega, by omega, ?_⟩
    rw [Int.toNat_natCast]
    refine ⟨fun i σ H' => Fx NoB H H' ∧ LamX.Tabs (TT P1 P2) H' ∧ ∃ s1 s2 s3 s4 s5 s6 s7 : Option V, σ = [some (.ref a), s1, s2, s3, s4, s5, s6, s7], ⟨f02, t2, _, _, _, _, _, _, _, rfl⟩, fun _ _ _ _ _ => trivial, ?_, ?_⟩
    · rintro i y σ H4 hi rfl ⟨f4, t4, s1, s2, s3, s4, s5, s6, s7, rfl⟩
      refine ⟨_, by walk_at "gs", ?_⟩
      walk_at "e0"
      refine re_call c F.bx (by decide) (by walk_at "gm") ?_
      walk_at "e"
      refine ⟨a, ns, i, rfl, f4.seqL (fun z => z) hS, h63, by omega, by omega, fun b H5 hb f5 hB5 => ?_⟩
      have S5 : St (TT P1 P2) H b H5 := ⟨f4.trans f5.fx, tb f5 t4, Fx.nt f4 hb, hB5⟩
      walk_at "e"
      refine rb_cons ?_
      refine rs_for_range c (by walk_at "gm") .loc (by walk_at "gm") (by walk_at "gm") zr ?_
      walk_at "e"
      refine ⟨by decide, by decide, ?_⟩
      refine ⟨fun t σ H' => St (TT P1 P2) H b H' ∧ ∃ u1 u4 u5 u6 u7 : Option V, σ = [some (.ref a), u1, some (.int (i : Nat)), some (.ref b), u4, u5, u6, u7], ⟨S5, _, _, _, _, _, rfl⟩, fun _ _ _ _ _ => trivial, ?_, ?_⟩
      · rintro t y σ H6 ht rfl ⟨S6, u1, u4, u5, u6, u7, rfl⟩
        refine ⟨_, by walk_at "gs", ?_⟩
        walk_at "e0"
        refine re_call c F.fr (by decide) (by walk_at "gm") ?_
        walk_at "e"
        refine ⟨b, rfl, S6.box, fun n m v H7 lw wn wm f7 hB7 hv => ?_⟩
        have S7 := S6.draw f7 hB7
        refine ⟨_, by walk_at "gs", ?_⟩
        walk_at "e0"
        refine re_call c F.du (by decide) (by walk_at "gm") ?_
        walk_at "e"
        refine ⟨v, n, m, rfl, hv, wn, wm, lw.1, fun z hz => ?_⟩
        have lz : z.length ≤ 84 := by rw [str_len, hz]; exact txF_len wn wm
        have rz : rdD (.str z) = .good n m := by
          show rd z.cps.toList = _
          rw [hz]
          exact rd_txF lw
        walk_at "e"
        walk_at "e0"
        refine re_call c F.sm (by decide) (by walk_at "gm") ?_
        refine ra_cons ?_
        refine re_call c F.ft (by decide) (by walk_at "gm") ?_
        walk_at "e"
        refine ⟨v, n, m, rfl, hv, wn.wt, wm.wt, lw.1, fun y hy => ?_⟩
        obtain rfl : y = z := str_ext (by rw [hy, hz])
        walk_at "e"
        refine ⟨.str y, _, _, NoB, NoB, rfl, .str, .str, .str, fun H8 f8 => ?_⟩
        have S8 := S7.fr f8
        have hv8 := hv.fr f8
        walk_at "e"
        refine re_call c F.sm (by decide) (by walk_at "gm") ?_
        refine ra_cons ?_
        refine re_callX c F.rf (by decide) (by walk_at "gm") passL ?_
        walk_at "e"
        refine ⟨NoB, .str y, .str y, rfl, .str, (fun w e => by cases e; omega), (fun i e => by rw [rz] at e; cases e), fun n' m' e p H9 f9 hp => ?_⟩
        rw [rz] at e
        cases e
        have g9 : Fr NoB H8 (upd H9 p (.tup [.int n, .int m])) := f9.trans (Fr.new hp)
        have a9 : At2 (upd H9 p (.tup [.int n, .int m])) (.ref p) n m := At2.new hp
        generalize upd H9 p (.tup [.int n, .int m]) = HA at g9 a9 ⊢
        walk_at "e"
        refine ⟨dF n m, _, _, NoB, NoB, rfl, a9.dt, (hv8.fr g9).dt, dep_F n m, fun HB fB => ?_⟩
        have SB := (S8.fr g9).fr fB
        have hvB := (hv8.fr g9).fr fB
        walk_at "e"
        refine rb_cons ?_
        refine rs_for_range c (by walk_at "gm") .loc (by walk_at "gm") (by walk_at "gm") zr ?_
        walk_at "e"
        refine ⟨by decide, by decide, ?_⟩
        refine ⟨fun j σ H' => St (TT P1 P2) H b H' ∧ At2 H' v n m ∧ ∃ u6 : Option V, σ = [some (.ref a), some (.str y), some (.int (i : Nat)), some (.ref b), some (.int (t : Nat)), some v, u6, u7], ⟨SB, hvB, _, rfl⟩, fun _ _ _ _ _ => trivial, ?_, ?_⟩
        · rintro j jj σ HC hj rfl ⟨SC, hvC, u6', rfl⟩
          refine ⟨_, by walk_at "gs", ?_⟩
          walk_at "e0"
          refine re_call c F.rr (by decide) (by walk_at "gm") ?_
          refine ra_cons ?_
          refine re_call c F.be (by decide) (by walk_at "gm") ?_
          walk_at "e"
          refine ⟨b, y, rfl, SC.box, lz, fun w HD hw fD hBD => ?_⟩
          have SD := SC.draw fD hBD
          refine ra_nil ⟨w, rfl, hw, SD.tab, fun HE fE tE => ?_⟩
          have SE := SD.go fE tE
          walk_at "e"
          exact ⟨SE, (hvC.draw SC.box fD).fx fE, _, rfl⟩
        · rintro σ HC ⟨SC, hvC, u6', rfl⟩
          walk_at "e0"
          refine re_call c F.sm (by decide) (by walk_at "gm") ?_
          refine ra_cons ?_
          obtain ⟨f, fd', F1, gx', kp, hk1⟩ := F.kt.ex
          refine re_callKO c F1 (by decide) (by walk_at "gm") gx' kp hk1 pass0 ?_
          refine rk_cons ?_
          walk_at "e"
          refine rk_nil ?_
          refine ⟨v, n, m, rfl, hvC, wn.wt, wm.wt, lw.1, fun y2 hy2 => ?_⟩
          obtain rfl : y2 = y := str_ext (by rw [hy2, hz])
          walk_at "e"
          refine ⟨.str y2, _, _, NoB, NoB, rfl, .str, .str, .str, fun HD fD => ?_⟩
          have SD := SC.fr fD
          have hvD := hvC.fr fD
          walk_at "e"
          refine re_call c F.sm (by decide) (by walk_at "gm") ?_
          refine ra_cons ?_
          obtain ⟨f', fd2, F2, gx2, kp2, hk2⟩ := F.kf.ex
          refine re_callKO c F2 (by decide) (by walk_at "gm") gx2 kp2 hk2 passL ?_
          refine rk_cons ?_
          walk_at "e"
          refine rk_nil ?_
          refine ⟨NoB, .str y2, .str y2, rfl, .str, (fun w e => by cases e; omega), (fun i e => by rw [rz] at e; cases e), fun n' m' e p HE fE hp => ?_⟩
          rw [rz] at e
          cases e
          have gE : Fr NoB HD (upd HE p (.tup [.int n, .int m])) := fE.trans (Fr.new hp)
          have aE : At2 (upd HE p (.tup [.int n, .int m])) (.ref p) n m := At2.new hp
          generalize upd HE p (.tup [.int n, .int m]) = HF at gE aE ⊢
          walk_at "e"
          refine ⟨dF n m, _, _, NoB, NoB, rfl, aE.dt, (hvD.fr gE).dt, dep_F n m, fun HG fG => ?_⟩
          have SG := (SD.fr gE).fr fG
          walk_at "e"
          exact ⟨SG, _, _, _, _, _, rfl⟩
      · rintro σ H6 ⟨S6, u1, u4, u5, u6, u7, rfl⟩
        refine rb_cons (rs_set c (by walk_at "gm") .cell (by walk_at "gm") ?_)
        refine re_pickI (P := fun d => ∀ z, d ≠ .str z) c (by decide) F.pk (by walk_at "gm") (by walk_at "gm") .loc (by walk_at "gs") S6.box (.cons (fun _ _ => rfl) (it_de .non (fun z e => nomatch e)) (.cons (fun _ _ => rfl) (it_de .int (fun z e => nomatch e)) (.cons (fun _ _ => rfl) (it_de .bl (fun z e => nomatch e)) (.cons (fun _ _ => rfl) (it_de (.tupS (.cons .int (.cons .int .nil)) (by decide)) (fun z e => nomatch e))
          (.cons (fun _ _ => rfl) (it_de (.lstS (.cons .str .nil) (by decide)) (fun z e => nomatch e)) (.cons (fun _ _ => rfl) (it_de (.tupS (.cons .str .nil) (by decide)) (fun z e => nomatch e)) .nil)))))) (by decide) (by decide) fun v d H7 hd dv f7 hB7 => ?_
        have S7 := S6.draw f7 hB7
        have hv : Dt X.K NoB H7 v d := dv.mono (fun _ z => z.elim)
        refine ⟨_, by walk_at "gs", ?_⟩
        walk_at "e0"
        refine re_call c F.sm (by decide) (by walk_at "gm") ?_
        refine ra_cons ?_
        refine heard_ask c (by decide) (T := TT P1 P2) (v := v) (d := d) lq_law_l0 (by decide +kernel) LA (by rw [hq]; walk_at "gm") (fun r hr e => by rw [hq]; exact hu2 n2 hr (r := (P2, qL)) (by walk_at "gm") e) (by walk_at "gm") (fun Xl cl al E tkl H2 K hs => ?_) S7.tab hv (fun z e => absurd e (hd z)) fun pg H8 f8 t8 dg => ?_
        · refine re_callX cl (at5X F.rf al) (by decide) (by walk_at "gm") (passes_call tkl (fun cls d σ H h => h)) ?_
          walk_at "e"
          exact hs
        have S8 := S7.go f8 t8
        rw [odd_bad hd] at dg
        walk_at "e"
        refine ⟨by show 5 ≤ sizeLine; decide, fun pd hpd => ?_⟩
        walk_at "e"
        refine ⟨dGot (.bad (-1)), _, _, NoB, NoB, rfl, dg.fr (Fr.new hpd), Dt.newT hpd (fun z => z) (.cons .str (.cons .int (.cons .bl (.cons .bl (.cons .bl .nil))))), dep_got _, fun H9 f9 => ?_⟩
        have S9 := (S8.fr (Fr.new hpd)).fr f9
        walk_at "e"
        exact ⟨S9.fx, S9.tab, _, _, _, _, _, _, _, rfl⟩
    · rintro σ H4 ⟨f4, t4, s1, s2, s3, s4, s5, s6, s7, rfl⟩
      walk_at "g0"
      exact q _
/-! ### the tables of the top -/
def stB (K : PySem.W.Frag) (s : S6) : Bool :=
  He.eqO (PySem.W.nsIn K (He.ga K "STEPS") (pN s)) (some (some (.ref (atK K (He.ga K "STEPS") (pN s))))) && (tupAB K (atK K (He.ga K "STEPS") (pN s)) ((itsOf K (atK K (He.ga K "STEPS") (pN s))).map V.ref) &&
    (decide ((itsOf K (atK K (He.ga K "STEPS") (pN s))).length = (rowsOf s).length) && ((itsOf K (atK K (He.ga K "STEPS") (pN s))).zip (rowsOf s)).all fun p => tupAB K p.1 [.str p.2.1, .str (pN p.2.2)]))
def stepsB (K : PySem.W.Frag) : Bool := stB K .be && (stB K .mi && (stB K .no && (stB K .ab && (stB K .st && stB K .bn))))
theorem stB_of {K : PySem.W.Frag} (h : stepsB K = true) (s : S6) : stB K s = true := by
  unfold stepsB at h
  obtain ⟨h1, h⟩ := He.ba h
  obtain ⟨h2, h⟩ := He.ba h
  obtain ⟨h3, h⟩ := He.ba h
  obtain ⟨h4, h⟩ := He.ba h
  obtain ⟨h5, h6⟩ := He.ba h
  cases s <;> assumption
/-! ### the facts of the top -/
def dD (x : Str) (st : Stmt) : He.DefD := ⟨(x, none), x, x, defArgs st, defBody st, defScope st, [], []⟩
abbrev sIniBadText : Stmt := inCls (top 12) 0
def dIniBadText : He.DefD := ⟨("BadText", some "__init__"), "__init__", "BadText.__init__", defArgs sIniBadText, defBody sIniBadText, defScope sIniBadText, [], []⟩
abbrev fns : List He.DefD := [dD "state_behind" sq_state_behind, dD "sign_fault" sq_sign_fault, dD "read_fraction" sq_read_fraction, dD "fraction_text" sq_fraction_text, dD "_law_take" sq_take, dD "_law_box" sq_box, dD "_law_pick" sq_pick, dD "_law_whole" sq_whole, dD "_law_part" sq_part, dD "_law_fraction" sq_fraction, dD "_law_figures" sq_figures, dD "_law_due" sq_due, dD "_law_worth" sq_worth, dD "_law_read" sq_read, dD "_law_bent" sq_bent, dD "_law_same" sq_same, dD "_law_read_right" sq_read_right, dD "_law_fixed" sq_fixed, dD "_law_heard" sq_heard, dD "law" sq_law]
abbrev fnA : List He.DefD := dIniBadText :: fns
abbrev frA : List Str := ["isinstance", "int", "bool", "tuple", "len", "list", "abs", "range", "max", "min", "zip", "str", "enumerate", "ValueError"]
abbrev clA : List Str := ["OwnError", "BadDeed", "BadEvent", "BadFraction", "BadLabel", "BadName", "BadOctets", "BadRoster", "BadRun", "BadText", "BadView", "Refused", "STEPS", "LAST_STATES"]
abbrev gcA : List He.Fa := []
abbrev faA : List He.Fa := (fns.map fun d => He.Fa.glo d.name) ++ (frA.map He.Fa.free ++ (clA.map He.Fa.glo ++ gcA))
def tbA : List He.Tab := [((fun K : PySem.W.Frag => He.ga K "STEPS"), ["begin", "minus", "nought", "above", "stroke", "beneath"])]
def ex0 (K : PySem.W.Frag) : Bool := (errB K "BadText" "at" && (kitCB K (He.ga K "BadText") && (decide (PySem.W.exmOne K (.ref (He.ga K "BadText")) (.ref (He.ga K "BadText")) = some true) && (decide (PySem.W.kitOne K (.ref (He.ga K "BadText")) (.type "ValueError") = some true) && (decide (PySem.W.kitOne K (.ref (He.ga K "BadText")) (.ref (He.ga K "OwnError")) = some true) && (decide (PySem.W.kitAny K (.ref (He.ga K "BadText")) (bads_1.map fun n => .ref (He.ga K n)) = some false) && (He.eqO (PySem.W.nsIn K mainGlobals "gcd") (some (some (.builtin "math.gcd"))) && decide ((He.cT K ("_law_read_right", none)).2 ≠ (He.cT K ("law", none)).2))))))))
def exA (K : PySem.W.Frag) : Bool := ex0 K && (stepsB K && (tupAB K (He.ga K "LAST_STATES") [.str "nought", .str "above", .str "beneath"]))
structure FA (K : PySem.W.Frag) (mg : Str → Option Value) (w : World) : Prop where
  fn : ∀ x st, dD x st ∈ fns → ∃ fd, FnP K x st (He.ga K x) fd ∧ mg x = some (.ref (He.ga K x))
  free : ∀ x ∈ frA, mg x = none
  err_BadText : ErrK K (He.ga K "BadText") (He.ma K (He.ga K "BadText") "__init__") "at"
  g_BadText : mg "BadText" = some (.ref (He.ga K "BadText"))
  ini_BadText : ∃ fd, FunD K "__init__" "BadText.__init__" (defArgs sIniBadText) (defBody sIniBadText) (defScope sIniBadText) [] [] (He.ma K (He.ga K "BadText") "__init__") fd
  heard_BadText : HeardC K mg "BadText" "at" bads_1 (He.ga K "BadText")
  blt_gcd : mg "gcd" = some (.builtin "math.gcd")
  ne_0_1 : (He.cT K ("_law_read_right", none)).2 ≠ (He.cT K ("law", none)).2
  steps : stepsB K = true
  last : tupAB K (He.ga K "LAST_STATES") [.str "nought", .str "above", .str "beneath"] = true
  tab_STEPS : ∃ es n, KDict K w (He.ga K "STEPS") es n
  g_STEPS : mg "STEPS" = some (.ref (He.ga K "STEPS"))
  g_LAST_STATES : mg "LAST_STATES" = some (.ref (He.ga K "LAST_STATES"))
theorem fA_of {w : World} {h : Heap} {K : PySem.W.Frag} {mg : Str → Option Value} {tf : List He.Defn} (X : K.In h) (G : h.Ns mainGlobals mg) (c : He.SaysX faA fnA tbA tf exA w h K) : FA K mg w := by
  have hg : ∀ x, He.Fa.glo x ∈ faA → mg x = some (.ref (He.ga K x)) := fun x hx => He.glo_ok X G (c.t.d.facts hx)
  have hf : ∀ x ∈ frA, mg x = none := fun x hx => He.free_ok X G (c.t.d.facts (List.mem_append_right _ (List.mem_append_left _ (List.mem_map.mpr ⟨x, hx, rfl⟩))))
  have hc : ∀ x ∈ clA, mg x = some (.ref (He.ga K x)) := fun x hx => hg x (List.mem_append_right _ (List.mem_append_right _ (List.mem_append_left _ (List.mem_map.mpr ⟨x, hx, rfl⟩))))
  have hy0 : exA K = true := c.more
  unfold exA at hy0
  obtain ⟨hx0, hy1⟩ := He.ba hy0
  obtain ⟨y0, hy2⟩ := He.ba hy1
  have y1 := hy2
  unfold ex0 at hx0
  obtain ⟨b0, hx1⟩ := He.ba hx0
  obtain ⟨b1, hx2⟩ := He.ba hx1
  obtain ⟨b2, hx3⟩ := He.ba hx2
  obtain ⟨b3, hx4⟩ := He.ba hx3
  obtain ⟨b4, hx5⟩ := He.ba hx4
  obtain ⟨b5, hx6⟩ := He.ba hx5
  obtain ⟨b6, hx7⟩ := He.ba hx6
  have b7 := hx7
  have er_BadText := errB_ok b0
  refine ⟨fun x st hx => ?_, hf, er_BadText, hc _ (by walk_at "gm"), c.t.d.defs (d := dIniBadText) (by walk_at "gm"), ⟨hc _ (by walk_at "gm"), of_decide_eq_true b2, hf _ (by walk_at "gm"), hf _ (by walk_at "gm"), of_decide_eq_true b3, ⟨_, hc _ (by walk_at "gm"), of_decide_eq_true b4⟩, ⟨He.ga K, fun n hn => hc n (by revert hn; revert n; decide), of_decide_eq_true b5⟩, kitCB_ok b1, er_BadText.xf, er_BadText.no⟩, PySem.W.mg_of X G (He.eqO_ok b6), of_decide_eq_true b7, y0, y1, c.t.tab 0, hc _ (by walk_at "gm"), hc _ (by walk_at "gm")⟩
  obtain ⟨fd, F⟩ := c.t.d.defs (d := dD x st) (List.mem_cons_of_mem _ (hx))
  exact ⟨fd, F, hg x (List.mem_append_left _ (List.mem_map.mpr ⟨_, hx, rfl⟩))⟩
theorem mIniBadText : Nms sIniBadText ["self", "at"] ["self", "at"] [("self", .loc), ("at", .loc)] := ⟨⟨rfl, rfl, rfl, by decide +kernel, rfl, by decide +kernel, by decide +kernel⟩, by decide +kernel, by decide +kernel, by decide +kernel⟩
theorem errC_BadText {P : Program} {w : World} {K : PySem.W.Frag} {mg : Str → Option Value} {base : Heap} (F : FA K mg w) : ErrC P w K mg base "BadText" "at" (He.ga K "BadText") := by
  obtain ⟨fd, Fi⟩ := F.ini_BadText
  refine ⟨F.err_BadText.oex, F.g_BadText, F.err_BadText.no, F.err_BadText.xf, _, fd, ["self", "at"], F.err_BadText.iC, F.err_BadText.tI, ?_, FunD.bindsN Fi fun _ _ _ _ _ _ us hl => match us, hl with | [_, _], _ => rfl⟩
  refine Fi.ok mIniBadText.S (fun vs H Q E h => ?_) (fun cdv A outer s H vs Q E hr h => ?_)
  · obtain ⟨a, C, v, rfl, _⟩ := h
    rfl
  · have c : Ctx (cxOf CX0 P w K mg base ["self", "at"] "BadText.__init__" (defScope sIniBadText) (He.ma K (He.ga K "BadText") "__init__") cdv A outer s H E).nox ["self", "at"] [("self", .loc), ("at", .loc)] 0 := ⟨rfl, mIniBadText.S.nd, knIs_of mIniBadText rfl (fun _ => rfl), mIniBadText.db, rfl, hr, PassesOwn.never, mIniBadText.S.kind⟩
    have rb : RB (cxOf CX0 P w K mg base ["self", "at"] "BadText.__init__" (defScope sIniBadText) (He.ma K (He.ga K "BadText") "__init__") cdv A outer s H E).nox (defBody sIniBadText) { nx := fun _ H' => Q .non H', rt := Q } (start ["self", "at"] vs) H := by
      obtain ⟨a, C, v, rfl, o, n, hh, q⟩ := h
      show RB _ (defBody sIniBadText) _ [some (.ref a), some v] H
      refine rb_cons (rs_ost ?_)
      walk_at "e"
      exact ⟨a, C, rfl, o, n, hh, fun dx h1 h2 => rb_nil (q dx h1 h2)⟩
    obtain ⟨t, ht, q⟩ := rb.ex
    exact ⟨t, ht.nox, q⟩
theorem stepsP {X : Cx} (F : FA X.K X.mg X.w) : StepsP X (He.ga X.K "STEPS") := by
  obtain ⟨es, n, D⟩ := F.tab_STEPS
  refine ⟨F.g_STEPS, fun s => ?_⟩
  have h := stB_of F.steps s
  unfold stB at h
  obtain ⟨h1, h⟩ := He.ba h
  obtain ⟨h2, h⟩ := He.ba h
  obtain ⟨h3, h4⟩ := He.ba h
  refine ⟨_, itsOf X.K (atK X.K (He.ga X.K "STEPS") (pN s)), kdct_of D h1, fun H => tupAB_ok h2 H, of_decide_eq_true h3, fun i tt r ht hr H => ?_⟩
  have := List.all_eq_true.mp h4 (tt, r) (List.mem_of_getElem? (i := i) (by rw [List.getElem?_zip_eq_some]; exact ⟨ht, hr⟩))
  exact tupAB_ok this H
theorem lastP {X : Cx} (F : FA X.K X.mg X.w) : LastP X (He.ga X.K "LAST_STATES") := ⟨F.g_LAST_STATES, fun H => tupAB_ok F.last H⟩
section
variable {P : Program} {w : World} {K : PySem.W.Frag} {mg : Str → Option Value} {base : Heap} {x : Str} {st : Stmt} {N ps : List Str} {L : List (Str × KN)} {k : Nat} {sp : Sp} {f : Addr} {fd : FuncData}
theorem fnOk_of (F : FnP K x st f fd) (M : Nms st N ps L) (len : ∀ vs H Q E, sp vs H Q E → vs.length = ps.length)
    (body : ∀ (X : Cx), Ctx X N L k → At5 X P w K mg base → ∀ (vs : List V) (H : Hp) (Q : VK) (E : XK), sp vs H Q E → RB X (defBody st) { nx := fun _ H' => Q .non H', rt := Q } (start N vs) H) : FnOk P w K mg base CX0 (k + 1) f fd ps sp := by
  refine F.ok M.S len (fun cdv A outer s H vs Q E hr h => ?_)
  have c : Ctx (cxOf CX0 P w K mg base N x (defScope st) f cdv A outer s H E).nox N L k := ⟨rfl, M.S.nd, knIs_of M rfl (fun _ => rfl), M.db, rfl, hr, PassesOwn.never, M.S.kind⟩
  obtain ⟨t, ht, q⟩ := (body _ c ⟨rfl, rfl, rfl, rfl, rfl⟩ vs H Q E h).ex
  exact ⟨t, ht.nox, q⟩
theorem fnC_of (F : FnP K x st (He.fAd K (x, none)) fd) : FnC K x st (He.fAd K (x, none)) (He.cT K (x, none)).1 fd := by
  obtain ⟨oc, od, dV, kV, doc, pm, an, cdv, ct, osl, e, lk, hcd, _, _⟩ := F.ex
  obtain ⟨c, rfl⟩ := He.codeIn_ref hcd
  have e2 : (He.cT K (x, none)).1 = c := He.codeOf_eq lk (by rw [e] <;> rfl)
  rw [e2]
  exact ⟨⟨oc, od, dV, kV, doc, pm, an, ct, osl, e, lk, hcd⟩, F.kp⟩
theorem fnOkC_of {cc : Addr} (F : FnC K x st f cc fd) (M : Nms st N ps L) (len : ∀ vs H Q E, sp vs H Q E → vs.length = ps.length)
    (body : ∀ (X : Cx), Ctx X N L k → At5 X P w K mg base → X.env.code = .ref cc → X.env.qual = x ++ ".<locals>." → ∀ (vs : List V) (H : Hp) (Q : VK) (E : XK), sp vs H Q E → RB X (defBody st) { nx := fun _ H' => Q .non H', rt := Q } (start N vs) H) : FnOk P w K mg base CX0 (k + 1) f fd ps sp := by
  obtain ⟨oc, od, dV, kV, doc, pm, an, ct, osl, rfl, lk, hcd⟩ := F.ex
  refine fn_of lk hcd M.S len (fun A outer s H vs Q E hr h => ?_)
  have c : Ctx (cxOf CX0 P w K mg base N x (defScope st) f (.ref cc) A outer s H E).nox N L k := ⟨rfl, M.S.nd, knIs_of M rfl (fun _ => rfl), M.db, rfl, hr, PassesOwn.never, M.S.kind⟩
  obtain ⟨t, ht, q⟩ := (body _ c ⟨rfl, rfl, rfl, rfl, rfl⟩ rfl rfl vs H Q E h).ex
  exact ⟨t, ht.nox, q⟩
theorem fnOkX_of (F : FnP K x st f fd) (M : Nms st N ps L) (len : ∀ vs H Q E, sp vs H Q E → vs.length = ps.length)
    (body : ∀ (X : Cx), Ctx X N L k → At5 X P w K mg base → ∀ (vs : List V) (H : Hp) (Q : VK) (E : XK), Takes X (fun cls d _ H' => E cls d H') → sp vs H Q E → RB X (defBody st) { nx := fun _ H' => Q .non H', rt := Q } (start N vs) H) : FnOk P w K mg base (L2.CX P w) (k + 1) f fd ps sp := by
  refine F.ok M.S len (fun cdv A outer s H vs Q E hr h => ?_)
  have c : Ctx (cxOf (L2.CX P w) P w K mg base N x (defScope st) f cdv A outer s H E) N L k := ⟨rfl, M.S.nd, knIs_of M rfl (fun _ => rfl), M.db, rfl, hr, passes_of rfl, M.S.kind⟩
  exact (body _ c ⟨rfl, rfl, rfl, rfl, rfl⟩ vs H Q E (takes_of rfl rfl rfl rfl) h).ex
end
section
variable {Pg : Program} {w : World} {K : PySem.W.Frag} {mg : Str → Option Value} {base : Heap}
theorem d_state_behind (F : FA K mg w) : DefP Pg w K mg base CX0 "state_behind" ["state", "sign"] 1 (spSB) := by
  obtain ⟨fd, f, g⟩ := F.fn "state_behind" sq_state_behind (by walk_at "gm")
  refine defP_of f g mq_state_behind (FunD.bindsN f fun _ _ _ _ _ _ us hl => match us, hl with | [_, _], _ => rfl) (fun vs H Q E h => by first | (obtain ⟨rfl, _⟩ := h; rfl) | (obtain ⟨_, rfl, _⟩ := h; rfl) | (obtain ⟨_, _, rfl, _⟩ := h; rfl) | (obtain ⟨_, _, _, rfl, _⟩ := h; rfl) | (obtain ⟨_, _, _, _, rfl, _⟩ := h; rfl) | (obtain ⟨_, _, _, _, _, rfl, _⟩ := h; rfl) | (obtain ⟨_, _, _, _, _, _, rfl, _⟩ := h; rfl)) fun X c al vs H Q E h => ?_
  obtain ⟨rfl, rfl, rfl, rfl, rfl⟩ := al
  exact body_state_behind c (stepsP F) h
theorem d_sign_fault (F : FA K mg w) : DefP Pg w K mg base CX0 "sign_fault" ["text"] 2 (spSF) := by
  obtain ⟨fd, f, g⟩ := F.fn "sign_fault" sq_sign_fault (by walk_at "gm")
  refine defP_of f g mq_sign_fault (FunD.bindsN f fun _ _ _ _ _ _ us hl => match us, hl with | [_], _ => rfl) (fun vs H Q E h => by first | (obtain ⟨rfl, _⟩ := h; rfl) | (obtain ⟨_, rfl, _⟩ := h; rfl) | (obtain ⟨_, _, rfl, _⟩ := h; rfl) | (obtain ⟨_, _, _, rfl, _⟩ := h; rfl) | (obtain ⟨_, _, _, _, rfl, _⟩ := h; rfl) | (obtain ⟨_, _, _, _, _, rfl, _⟩ := h; rfl) | (obtain ⟨_, _, _, _, _, _, rfl, _⟩ := h; rfl)) fun X c al vs H Q E h => ?_
  obtain ⟨rfl, rfl, rfl, rfl, rfl⟩ := al
  exact body_sign_fault c (lastP F) (F.free _ (by walk_at "gm")) (F.free _ (by walk_at "gm")) (d_state_behind F) h
theorem d_read_fraction (F : FA K mg w) : DefP Pg w K mg base (L2.CX Pg w) "read_fraction" ["text"] 3 (spRF K (He.ga K "BadText")) := by
  obtain ⟨fd, f, g⟩ := F.fn "read_fraction" sq_read_fraction (by walk_at "gm")
  refine defPX_of f g mq_read_fraction (FunD.bindsN f fun _ _ _ _ _ _ us hl => match us, hl with | [_], _ => rfl) (fun vs H Q E h => by first | (obtain ⟨rfl, _⟩ := h; rfl) | (obtain ⟨_, rfl, _⟩ := h; rfl) | (obtain ⟨_, _, rfl, _⟩ := h; rfl) | (obtain ⟨_, _, _, rfl, _⟩ := h; rfl) | (obtain ⟨_, _, _, _, rfl, _⟩ := h; rfl) | (obtain ⟨_, _, _, _, _, rfl, _⟩ := h; rfl) | (obtain ⟨_, _, _, _, _, _, rfl, _⟩ := h; rfl)) fun X c al vs H Q E tk h => ?_
  obtain ⟨rfl, rfl, rfl, rfl, rfl⟩ := al
  exact body_read_fraction c (errC_BadText F) (F.free _ (by walk_at "gm")) (F.free _ (by walk_at "gm")) (F.free _ (by walk_at "gm")) F.blt_gcd (d_sign_fault F) tk h
theorem kb_read_fraction {f : Addr} {fd : FuncData} (F : FnP K "read_fraction" sq_read_fraction f fd) : KBinds K fd ["text"] ["text"] g1 g1 := by
  obtain ⟨oc, od, dV, kV, doc, pm, an, cdv, ct, osl, rfl, lk, hcd, hD, hK⟩ := F.ex
  rcases hD with ⟨_, rfl⟩ | ⟨e, _⟩
  · refine ⟨fun s us ws _ hl => ?_, fun {vs us zs ws} r rz => ?_⟩
    · match us, ws, hl with
      | [], [a0], _ => exact .of_eq rfl
    · match vs, us, r with
      | [], [], _ =>
        match zs, ws, rz with
        | [a0], [a0'], .cons h0 (.nil) => exact .cons h0 (.nil)
        | [], _, .nil => exact .nil
        | _ :: _ :: _, _, .cons _ (.cons _ (_)) => exact .nil
      | _ :: _, _, .cons _ _ => exact .nil
  · exact absurd rfl e
theorem key_read_fraction {X : Cx} (F : FA X.K X.mg X.w) : KeyC X (L2.CX X.prog X.w) "read_fraction" ["text"] ["text"] g1 g1 3 (spRF X.K (He.ga X.K "BadText")) := by
  obtain ⟨fd, f, g⟩ := F.fn "read_fraction" sq_read_fraction (by walk_at "gm")
  refine ⟨He.ga X.K "read_fraction", fd, ?_, g, f.kp, kb_read_fraction f⟩
  refine fnOkX_of f mq_read_fraction (fun vs H Q E h => by first | (obtain ⟨rfl, _⟩ := h; rfl) | (obtain ⟨_, rfl, _⟩ := h; rfl) | (obtain ⟨_, _, rfl, _⟩ := h; rfl) | (obtain ⟨_, _, _, rfl, _⟩ := h; rfl) | (obtain ⟨_, _, _, _, rfl, _⟩ := h; rfl) | (obtain ⟨_, _, _, _, _, rfl, _⟩ := h; rfl) | (obtain ⟨_, _, _, _, _, _, rfl, _⟩ := h; rfl)) fun Y c al vs H Q E tk h => ?_
  have F2 : FA Y.K Y.mg Y.w := by rw [al.k, al.m, al.w]; exact F
  have h2 := h
  try rw [← al.k] at h2
  exact body_read_fraction c (errC_BadText F2) (F2.free _ (by walk_at "gm")) (F2.free _ (by walk_at "gm")) (F2.free _ (by walk_at "gm")) F2.blt_gcd (d_sign_fault F2) tk h2
theorem d_fraction_text (F : FA K mg w) : DefP Pg w K mg base CX0 "fraction_text" ["one"] 1 (spFT) := by
  obtain ⟨fd, f, g⟩ := F.fn "fraction_text" sq_fraction_text (by walk_at "gm")
  refine defP_of f g mq_fraction_text (FunD.bindsN f fun _ _ _ _ _ _ us hl => match us, hl with | [_], _ => rfl) (fun vs H Q E h => by first | (obtain ⟨rfl, _⟩ := h; rfl) | (obtain ⟨_, rfl, _⟩ := h; rfl) | (obtain ⟨_, _, rfl, _⟩ := h; rfl) | (obtain ⟨_, _, _, rfl, _⟩ := h; rfl) | (obtain ⟨_, _, _, _, rfl, _⟩ := h; rfl) | (obtain ⟨_, _, _, _, _, rfl, _⟩ := h; rfl) | (obtain ⟨_, _, _, _, _, _, rfl, _⟩ := h; rfl)) fun X c al vs H Q E h => ?_
  obtain ⟨rfl, rfl, rfl, rfl, rfl⟩ := al
  exact body_fraction_text c (F.free _ (by walk_at "gm")) h
theorem kb_fraction_text {f : Addr} {fd : FuncData} (F : FnP K "fraction_text" sq_fraction_text f fd) : KBinds K fd ["one"] ["one"] g1 g1 := by
  obtain ⟨oc, od, dV, kV, doc, pm, an, cdv, ct, osl, rfl, lk, hcd, hD, hK⟩ := F.ex
  rcases hD with ⟨_, rfl⟩ | ⟨e, _⟩
  · refine ⟨fun s us ws _ hl => ?_, fun {vs us zs ws} r rz => ?_⟩
    · match us, ws, hl with
      | [], [a0], _ => exact .of_eq rfl
    · match vs, us, r with
      | [], [], _ =>
        match zs, ws, rz with
        | [a0], [a0'], .cons h0 (.nil) => exact .cons h0 (.nil)
        | [], _, .nil => exact .nil
        | _ :: _ :: _, _, .cons _ (.cons _ (_)) => exact .nil
      | _ :: _, _, .cons _ _ => exact .nil
  · exact absurd rfl e
theorem key_fraction_text {X : Cx} (F : FA X.K X.mg X.w) : KeyC X CX0 "fraction_text" ["one"] ["one"] g1 g1 1 (spFT) := by
  obtain ⟨fd, f, g⟩ := F.fn "fraction_text" sq_fraction_text (by walk_at "gm")
  refine ⟨He.ga X.K "fraction_text", fd, ?_, g, f.kp, kb_fraction_text f⟩
  refine fnOk_of f mq_fraction_text (fun vs H Q E h => by first | (obtain ⟨rfl, _⟩ := h; rfl) | (obtain ⟨_, rfl, _⟩ := h; rfl) | (obtain ⟨_, _, rfl, _⟩ := h; rfl) | (obtain ⟨_, _, _, rfl, _⟩ := h; rfl) | (obtain ⟨_, _, _, _, rfl, _⟩ := h; rfl) | (obtain ⟨_, _, _, _, _, rfl, _⟩ := h; rfl) | (obtain ⟨_, _, _, _, _, _, rfl, _⟩ := h; rfl)) fun Y c al vs H Q E h => ?_
  have F2 : FA Y.K Y.mg Y.w := by rw [al.k, al.m, al.w]; exact F
  have h2 := h
  try rw [← al.k] at h2
  exact body_fraction_text c (F2.free _ (by walk_at "gm")) h2
theorem d_take (F : FA K mg w) : DefP Pg w K mg base CX0 "_law_take" ["box", "many"] 1 (spTake) := by
  obtain ⟨fd, f, g⟩ := F.fn "_law_take" sq_take (by walk_at "gm")
  refine defP_of f g mq_take (FunD.bindsN f fun _ _ _ _ _ _ us hl => match us, hl with | [_, _], _ => rfl) (fun vs H Q E h => by first | (obtain ⟨rfl, _⟩ := h; rfl) | (obtain ⟨_, rfl, _⟩ := h; rfl) | (obtain ⟨_, _, rfl, _⟩ := h; rfl) | (obtain ⟨_, _, _, rfl, _⟩ := h; rfl) | (obtain ⟨_, _, _, _, rfl, _⟩ := h; rfl) | (obtain ⟨_, _, _, _, _, rfl, _⟩ := h; rfl) | (obtain ⟨_, _, _, _, _, _, rfl, _⟩ := h; rfl)) fun X c al vs H Q E h => ?_
  obtain ⟨rfl, rfl, rfl, rfl, rfl⟩ := al
  exact body_take c (F.free _ (by walk_at "gm")) h
theorem d_box (F : FA K mg w) : DefP Pg w K mg base CX0 "_law_box" ["script", "k"] 1 (spBox K) := by
  obtain ⟨fd, f, g⟩ := F.fn "_law_box" sq_box (by walk_at "gm")
  refine defP_of f g mq_box (FunD.bindsN f fun _ _ _ _ _ _ us hl => match us, hl with | [_, _], _ => rfl) (fun vs H Q E h => by first | (obtain ⟨rfl, _⟩ := h; rfl) | (obtain ⟨_, rfl, _⟩ := h; rfl) | (obtain ⟨_, _, rfl, _⟩ := h; rfl) | (obtain ⟨_, _, _, rfl, _⟩ := h; rfl) | (obtain ⟨_, _, _, _, rfl, _⟩ := h; rfl) | (obtain ⟨_, _, _, _, _, rfl, _⟩ := h; rfl) | (obtain ⟨_, _, _, _, _, _, rfl, _⟩ := h; rfl)) fun X c al vs H Q E h => ?_
  obtain ⟨rfl, rfl, rfl, rfl, rfl⟩ := al
  exact body_box c (F.free _ (by walk_at "gm")) (F.free _ (by walk_at "gm")) (F.free _ (by walk_at "gm")) h
theorem d_pick (F : FA K mg w) : DefP Pg w K mg base CX0 "_law_pick" ["box", "some"] 2 (spPick K) := by
  obtain ⟨fd, f, g⟩ := F.fn "_law_pick" sq_pick (by walk_at "gm")
  refine defP_of f g mq_pick (FunD.bindsN f fun _ _ _ _ _ _ us hl => match us, hl with | [_, _], _ => rfl) (fun vs H Q E h => by first | (obtain ⟨rfl, _⟩ := h; rfl) | (obtain ⟨_, rfl, _⟩ := h; rfl) | (obtain ⟨_, _, rfl, _⟩ := h; rfl) | (obtain ⟨_, _, _, rfl, _⟩ := h; rfl) | (obtain ⟨_, _, _, _, rfl, _⟩ := h; rfl) | (obtain ⟨_, _, _, _, _, rfl, _⟩ := h; rfl) | (obtain ⟨_, _, _, _, _, _, rfl, _⟩ := h; rfl)) fun X c al vs H Q E h => ?_
  obtain ⟨rfl, rfl, rfl, rfl, rfl⟩ := al
  exact body_pick c (F.free _ (by walk_at "gm")) (d_take F) h
theorem d_whole (F : FA K mg w) : DefP Pg w K mg base CX0 "_law_whole" ["box"] 3 (spWhole) := by
  obtain ⟨fd, f, g⟩ := F.fn "_law_whole" sq_whole (by walk_at "gm")
  refine defP_of f g mq_whole (FunD.bindsN f fun _ _ _ _ _ _ us hl => match us, hl with | [_], _ => rfl) (fun vs H Q E h => by first | (obtain ⟨rfl, _⟩ := h; rfl) | (obtain ⟨_, rfl, _⟩ := h; rfl) | (obtain ⟨_, _, rfl, _⟩ := h; rfl) | (obtain ⟨_, _, _, rfl, _⟩ := h; rfl) | (obtain ⟨_, _, _, _, rfl, _⟩ := h; rfl) | (obtain ⟨_, _, _, _, _, rfl, _⟩ := h; rfl) | (obtain ⟨_, _, _, _, _, _, rfl, _⟩ := h; rfl)) fun X c al vs H Q E h => ?_
  obtain ⟨rfl, rfl, rfl, rfl, rfl⟩ := al
  exact body_whole c (F.free _ (by walk_at "gm")) (d_take F) (d_pick F) h
theorem d_part (F : FA K mg w) : DefP Pg w K mg base CX0 "_law_part" ["one", "two"] 1 (spPart) := by
  obtain ⟨fd, f, g⟩ := F.fn "_law_part" sq_part (by walk_at "gm")
  refine defP_of f g mq_part (FunD.bindsN f fun _ _ _ _ _ _ us hl => match us, hl with | [_, _], _ => rfl) (fun vs H Q E h => by first | (obtain ⟨rfl, _⟩ := h; rfl) | (obtain ⟨_, rfl, _⟩ := h; rfl) | (obtain ⟨_, _, rfl, _⟩ := h; rfl) | (obtain ⟨_, _, _, rfl, _⟩ := h; rfl) | (obtain ⟨_, _, _, _, rfl, _⟩ := h; rfl) | (obtain ⟨_, _, _, _, _, rfl, _⟩ := h; rfl) | (obtain ⟨_, _, _, _, _, _, rfl, _⟩ := h; rfl)) fun X c al vs H Q E h => ?_
  obtain ⟨rfl, rfl, rfl, rfl, rfl⟩ := al
  exact body_part c (F.free _ (by walk_at "gm")) (F.free _ (by walk_at "gm")) (F.free _ (by walk_at "gm")) h
theorem d_fraction (F : FA K mg w) : DefP Pg w K mg base CX0 "_law_fraction" ["box"] 4 (spFrac) := by
  obtain ⟨fd, f, g⟩ := F.fn "_law_fraction" sq_fraction (by walk_at "gm")
  refine defP_of f g mq_fraction (FunD.bindsN f fun _ _ _ _ _ _ us hl => match us, hl with | [_], _ => rfl) (fun vs H Q E h => by first | (obtain ⟨rfl, _⟩ := h; rfl) | (obtain ⟨_, rfl, _⟩ := h; rfl) | (obtain ⟨_, _, rfl, _⟩ := h; rfl) | (obtain ⟨_, _, _, rfl, _⟩ := h; rfl) | (obtain ⟨_, _, _, _, rfl, _⟩ := h; rfl) | (obtain ⟨_, _, _, _, _, rfl, _⟩ := h; rfl) | (obtain ⟨_, _, _, _, _, _, rfl, _⟩ := h; rfl)) fun X c al vs H Q E h => ?_
  obtain ⟨rfl, rfl, rfl, rfl, rfl⟩ := al
  exact body_fraction c (F.free _ (by walk_at "gm")) (d_take F) (d_pick F) (d_whole F) (d_part F) h
theorem d_figures (F : FA K mg w) : DefP Pg w K mg base CX0 "_law_figures" ["number"] 1 (spFig) := by
  obtain ⟨fd, f, g⟩ := F.fn "_law_figures" sq_figures (by walk_at "gm")
  refine defP_of f g mq_figures (FunD.bindsN f fun _ _ _ _ _ _ us hl => match us, hl with | [_], _ => rfl) (fun vs H Q E h => by first | (obtain ⟨rfl, _⟩ := h; rfl) | (obtain ⟨_, rfl, _⟩ := h; rfl) | (obtain ⟨_, _, rfl, _⟩ := h; rfl) | (obtain ⟨_, _, _, rfl, _⟩ := h; rfl) | (obtain ⟨_, _, _, _, rfl, _⟩ := h; rfl) | (obtain ⟨_, _, _, _, _, rfl, _⟩ := h; rfl) | (obtain ⟨_, _, _, _, _, _, rfl, _⟩ := h; rfl)) fun X c al vs H Q E h => ?_
  obtain ⟨rfl, rfl, rfl, rfl, rfl⟩ := al
  exact body_figures c (F.free _ (by walk_at "gm")) (F.free _ (by walk_at "gm")) (F.free _ (by walk_at "gm")) h
theorem d_due (F : FA K mg w) : DefP Pg w K mg base CX0 "_law_due" ["one"] 2 (spDue) := by
  obtain ⟨fd, f, g⟩ := F.fn "_law_due" sq_due (by walk_at "gm")
  refine defP_of f g mq_due (FunD.bindsN f fun _ _ _ _ _ _ us hl => match us, hl with | [_], _ => rfl) (fun vs H Q E h => by first | (obtain ⟨rfl, _⟩ := h; rfl) | (obtain ⟨_, rfl, _⟩ := h; rfl) | (obtain ⟨_, _, rfl, _⟩ := h; rfl) | (obtain ⟨_, _, _, rfl, _⟩ := h; rfl) | (obtain ⟨_, _, _, _, rfl, _⟩ := h; rfl) | (obtain ⟨_, _, _, _, _, rfl, _⟩ := h; rfl) | (obtain ⟨_, _, _, _, _, _, rfl, _⟩ := h; rfl)) fun X c al vs H Q E h => ?_
  obtain ⟨rfl, rfl, rfl, rfl, rfl⟩ := al
  exact body_due c (d_figures F) h
theorem d_worth (F : FA K mg w) : DefP Pg w K mg base CX0 "_law_worth" ["figures"] 1 (spWorth) := by
  obtain ⟨fd, f, g⟩ := F.fn "_law_worth" sq_worth (by walk_at "gm")
  refine defP_of f g mq_worth (FunD.bindsN f fun _ _ _ _ _ _ us hl => match us, hl with | [_], _ => rfl) (fun vs H Q E h => by first | (obtain ⟨rfl, _⟩ := h; rfl) | (obtain ⟨_, rfl, _⟩ := h; rfl) | (obtain ⟨_, _, rfl, _⟩ := h; rfl) | (obtain ⟨_, _, _, rfl, _⟩ := h; rfl) | (obtain ⟨_, _, _, _, rfl, _⟩ := h; rfl) | (obtain ⟨_, _, _, _, _, rfl, _⟩ := h; rfl) | (obtain ⟨_, _, _, _, _, _, rfl, _⟩ := h; rfl)) fun X c al vs H Q E h => ?_
  obtain ⟨rfl, rfl, rfl, rfl, rfl⟩ := al
  exact body_worth c  h
theorem d_read (F : FA K mg w) : DefP Pg w K mg base CX0 "_law_read" ["text"] 2 (spRead K) := by
  obtain ⟨fd, f, g⟩ := F.fn "_law_read" sq_read (by walk_at "gm")
  refine defP_of f g mq_read (FunD.bindsN f fun _ _ _ _ _ _ us hl => match us, hl with | [_], _ => rfl) (fun vs H Q E h => by first | (obtain ⟨rfl, _⟩ := h; rfl) | (obtain ⟨_, rfl, _⟩ := h; rfl) | (obtain ⟨_, _, rfl, _⟩ := h; rfl) | (obtain ⟨_, _, _, rfl, _⟩ := h; rfl) | (obtain ⟨_, _, _, _, rfl, _⟩ := h; rfl) | (obtain ⟨_, _, _, _, _, rfl, _⟩ := h; rfl) | (obtain ⟨_, _, _, _, _, _, rfl, _⟩ := h; rfl)) fun X c al vs H Q E h => ?_
  obtain ⟨rfl, rfl, rfl, rfl, rfl⟩ := al
  exact body_read c (F.free _ (by walk_at "gm")) (F.free _ (by walk_at "gm")) (d_worth F) (d_part F) h
theorem d_bent (F : FA K mg w) : DefP Pg w K mg base CX0 "_law_bent" ["box", "text"] 3 (spBent) := by
  obtain ⟨fd, f, g⟩ := F.fn "_law_bent" sq_bent (by walk_at "gm")
  refine defP_of f g mq_bent (FunD.bindsN f fun _ _ _ _ _ _ us hl => match us, hl with | [_, _], _ => rfl) (fun vs H Q E h => by first | (obtain ⟨rfl, _⟩ := h; rfl) | (obtain ⟨_, rfl, _⟩ := h; rfl) | (obtain ⟨_, _, rfl, _⟩ := h; rfl) | (obtain ⟨_, _, _, rfl, _⟩ := h; rfl) | (obtain ⟨_, _, _, _, rfl, _⟩ := h; rfl) | (obtain ⟨_, _, _, _, _, rfl, _⟩ := h; rfl) | (obtain ⟨_, _, _, _, _, _, rfl, _⟩ := h; rfl)) fun X c al vs H Q E h => ?_
  obtain ⟨rfl, rfl, rfl, rfl, rfl⟩ := al
  exact body_bent c (F.free _ (by walk_at "gm")) (F.free _ (by walk_at "gm")) (d_take F) (d_pick F) h
theorem d_same_n (F : FA K mg w) : ∀ n, DefP Pg w K mg base CX0 "_law_same" ["told", "due"] (n + 1) (spSame K n) := by
  intro n
  induction n with
  | zero =>
    obtain ⟨fd, f, g⟩ := F.fn "_law_same" sq_same (by walk_at "gm")
    refine defP_of f g mq_same (FunD.bindsN f fun _ _ _ _ _ _ us hl => match us, hl with | [_, _], _ => rfl) (fun vs H Q E h => by first | (obtain ⟨rfl, _⟩ := h; rfl) | (obtain ⟨_, rfl, _⟩ := h; rfl) | (obtain ⟨_, _, rfl, _⟩ := h; rfl) | (obtain ⟨_, _, _, rfl, _⟩ := h; rfl) | (obtain ⟨_, _, _, _, rfl, _⟩ := h; rfl) | (obtain ⟨_, _, _, _, _, rfl, _⟩ := h; rfl) | (obtain ⟨_, _, _, _, _, _, rfl, _⟩ := h; rfl)) fun X c al vs H Q E h => ?_
    obtain ⟨rfl, rfl, rfl, rfl, rfl⟩ := al
    exact body_same c (F.free _ (by walk_at "gm")) (F.free _ (by walk_at "gm")) (F.free _ (by walk_at "gm")) (F.free _ (by walk_at "gm")) (F.free _ (by walk_at "gm")) (F.free _ (by walk_at "gm")) (F.free _ (by walk_at "gm")) (F.free _ (by walk_at "gm")) (fun m e => by omega) h
  | succ n ih =>
    obtain ⟨fd, f, g⟩ := F.fn "_law_same" sq_same (by walk_at "gm")
    refine defP_of f g mq_same (FunD.bindsN f fun _ _ _ _ _ _ us hl => match us, hl with | [_, _], _ => rfl) (fun vs H Q E h => by first | (obtain ⟨rfl, _⟩ := h; rfl) | (obtain ⟨_, rfl, _⟩ := h; rfl) | (obtain ⟨_, _, rfl, _⟩ := h; rfl) | (obtain ⟨_, _, _, rfl, _⟩ := h; rfl) | (obtain ⟨_, _, _, _, rfl, _⟩ := h; rfl) | (obtain ⟨_, _, _, _, _, rfl, _⟩ := h; rfl) | (obtain ⟨_, _, _, _, _, _, rfl, _⟩ := h; rfl)) fun X c al vs H Q E h => ?_
    obtain ⟨rfl, rfl, rfl, rfl, rfl⟩ := al
    exact body_same c (F.free _ (by walk_at "gm")) (F.free _ (by walk_at "gm")) (F.free _ (by walk_at "gm")) (F.free _ (by walk_at "gm")) (F.free _ (by walk_at "gm")) (F.free _ (by walk_at "gm")) (F.free _ (by walk_at "gm")) (F.free _ (by walk_at "gm")) (fun m e => by have e2 : m = n := (by omega); subst e2; exact ih) h
theorem d_same (F : FA K mg w) : DefP Pg w K mg base CX0 "_law_same" ["told", "due"] 4 (spSame K 3) := d_same_n F 3
theorem d_read_right (F : FA K mg w) (TB : LamX.TabB base mg (He.cT K ("_law_read_right", none)).1 (He.cT K ("_law_read_right", none)).2) : DefP Pg w K mg base CX0 "_law_read_right" ["text"] 6 (spRR (He.cT K ("_law_read_right", none)).2 (He.cT K ("law", none)).2) := by
  obtain ⟨fd0, f0, g0⟩ := F.fn "_law_read_right" sq_read_right (by walk_at "gm")
  obtain ⟨fdH, fH, gH⟩ := F.fn "_law_heard" sq_heard (by walk_at "gm")
  refine defPC_of (fnC_of f0) g0 mq_read_right (FunD.bindsN f0 fun _ _ _ _ _ _ us hl => match us, hl with | [_], _ => rfl) (fun vs H Q E h => by first | (obtain ⟨rfl, _⟩ := h; rfl) | (obtain ⟨_, rfl, _⟩ := h; rfl) | (obtain ⟨_, _, rfl, _⟩ := h; rfl) | (obtain ⟨_, _, _, rfl, _⟩ := h; rfl) | (obtain ⟨_, _, _, _, rfl, _⟩ := h; rfl) | (obtain ⟨_, _, _, _, _, rfl, _⟩ := h; rfl) | (obtain ⟨_, _, _, _, _, _, rfl, _⟩ := h; rfl)) fun X c al hc hq vs H Q E h => ?_
  obtain ⟨rfl, rfl, rfl, rfl, rfl⟩ := al
  exact body_read_right c F.ne_0_1 hq ⟨hc, TB, fH, gH, (FunD.bindsN fH fun _ _ _ _ _ _ us hl => match us, hl with | [_], _ => rfl), F.heard_BadText⟩ (d_read F) (d_read_fraction F) (d_fraction_text F) (d_same F) h
theorem d_fixed (F : FA K mg w) : DefP Pg w K mg base CX0 "_law_fixed" [] 1 (spFixed) := by
  obtain ⟨fd, f, g⟩ := F.fn "_law_fixed" sq_fixed (by walk_at "gm")
  refine defP_of f g mq_fixed (FunD.bindsN f fun _ _ _ _ _ _ us hl => match us, hl with | [], _ => rfl) (fun vs H Q E h => by first | (obtain ⟨rfl, _⟩ := h; rfl) | (obtain ⟨_, rfl, _⟩ := h; rfl) | (obtain ⟨_, _, rfl, _⟩ := h; rfl) | (obtain ⟨_, _, _, rfl, _⟩ := h; rfl) | (obtain ⟨_, _, _, _, rfl, _⟩ := h; rfl) | (obtain ⟨_, _, _, _, _, rfl, _⟩ := h; rfl) | (obtain ⟨_, _, _, _, _, _, rfl, _⟩ := h; rfl)) fun X c al vs H Q E h => ?_
  obtain ⟨rfl, rfl, rfl, rfl, rfl⟩ := al
  exact body_fixed c  h
end
abbrev tfA : List He.Defn := [("_law_read_right", none), ("law", none)]
abbrev hkA : PySem.W.Hook := He.hookX 5 faA fnA tbA tfA exA
theorem law_facts {Pg : Program} {w : World} {h : Heap} {K : PySem.W.Frag} {mg : Str → Option Value} {fa : Addr} (X : K.In h) (G : h.Ns mainGlobals mg) (hfa : mg "law" = some (.ref fa)) (c : He.SaysX faA fnA tbA tfA exA w h K) :
    ∃ fd : FuncData, (∀ (s : Shared) (v : Value), BindsTo s fd ⟨[v], []⟩ [("script", v)]) ∧ ∀ base : Heap, LamX.TabB base mg (He.cT K ("_law_read_right", none)).1 (He.cT K ("_law_read_right", none)).2 → LamX.TabB base mg (He.cT K ("law", none)).1 (He.cT K ("law", none)).2 → FnOk Pg w K mg base CX0 8 fa fd ["script"] (spLaw K (He.cT K ("_law_read_right", none)).2 (He.cT K ("law", none)).2) := by
  have F := fA_of X G c
  obtain ⟨fd, f, g⟩ := F.fn "law" sq_law (by walk_at "gm")
  have e := hfa.symm.trans g
  cases e
  have b := FunD.bindsA (ps := ["script"]) f fun _ _ _ _ _ _ us hl => match us, hl with | [_], _ => rfl
  refine ⟨fd, fun s v => b s [v] rfl, fun base TB0 TB1 => ?_⟩
  obtain ⟨fdH, fH, gH⟩ := F.fn "_law_heard" sq_heard (by walk_at "gm")
  refine fnOkC_of (fnC_of f) mq_law (fun vs H Q E h => by first | (obtain ⟨rfl, _⟩ := h; rfl) | (obtain ⟨_, rfl, _⟩ := h; rfl) | (obtain ⟨_, _, rfl, _⟩ := h; rfl) | (obtain ⟨_, _, _, rfl, _⟩ := h; rfl) | (obtain ⟨_, _, _, _, rfl, _⟩ := h; rfl) | (obtain ⟨_, _, _, _, _, rfl, _⟩ := h; rfl) | (obtain ⟨_, _, _, _, _, _, rfl, _⟩ := h; rfl)) fun X cx al hc hq vs H Q E h => ?_
  obtain ⟨rfl, rfl, rfl, rfl, rfl⟩ := al
  exact body_law cx F.ne_0_1 hq ⟨hc, TB1, fH, gH, (FunD.bindsN fH fun _ _ _ _ _ _ us hl => match us, hl with | [_], _ => rfl), F.heard_BadText⟩ ⟨d_fixed F, d_box F, d_fraction F, d_due F, d_pick F, d_bent F, d_read_right F TB0, d_same F, d_fraction_text F, key_fraction_text F, d_read_fraction F, key_read_fraction F, F.free _ (by walk_at "gm"), F.free _ (by walk_at "gm"), F.free _ (by walk_at "gm"), F.free _ (by walk_at "gm")⟩ h
end K03
open PySem PySem.W PySem.Calls PyProof.Rows
theorem PySem.Challenge.cw_goodtill_k03_whole_fractions_and_texts_holds : PySem.Challenge.rw_goodtill_k03_whole_fractions_and_texts.Holds := by
  w_on; o_law
  o_head K03.hkA
  case hw => w_witness2
  case hc =>
    refine LamX.walk_ofTsE (l := PySem.Challenge.rw_goodtill_k03_whole_fractions_and_texts) (n := 63) (k := 8) (x := "script") (CX := fun _ => L2.CX0) rfl (by decide) (by kernel_rfl) ⟨rfl, by decide, by decide⟩ ?F (fun _ _ _ _ _ z => z)
    intro w mg fa h Y G hmg0
    obtain ⟨K, KX, c⟩ := Y
    have hmg : mg ("law" : PySem.Str) = some (.ref fa) := hmg0
    obtain ⟨fd, hb, hF⟩ := K03.law_facts (Pg := (PySem.Challenge.rw_goodtill_k03_whole_fractions_and_texts).prog) KX G hmg c
    refine ⟨K, KX, fd, K03.tfA.map (He.cT K), K03.spLaw K (He.cT K ("_law_read_right", none)).2 (He.cT K ("law", none)).2, fun p hp => ?_, fun p hp => ?_, fun p hp => ?_, hb, fun H a ns hl hbits hH hS => ?_, fun base _ _ hT => ?_⟩
    · obtain ⟨t, ht, rfl⟩ := List.mem_map.mp hp
      exact c.empty _ ht
    · obtain ⟨t, ht, rfl⟩ := List.mem_map.mp hp
      exact c.out _ ht
    · obtain ⟨t, ht, rfl⟩ := List.mem_map.mp hp
      exact PySem.W.codeHd_of_K KX (c.hd _ ht)
    · refine ⟨a, ns, rfl, hS, hl, fun p hp => ?_, fun _ => rfl⟩
      simp only [List.mem_cons, List.not_mem_nil, or_false] at hp
      have at_ : ∀ t ∈ K03.tfA, LamX.TabS H (He.cT K t).2 p.2 := fun t ht => LamX.TabS.nil (hH _ (List.mem_map.mpr ⟨t, ht, rfl⟩))
      rcases hp with rfl | rfl
      · exact at_ _ List.mem_cons_self
      · exact at_ _ (List.mem_cons_of_mem _ List.mem_cons_self)
    · exact hF base (hT _ (List.mem_map.mpr ⟨_, by first | exact List.mem_cons_self | exact List.mem_cons_of_mem _ List.mem_cons_self | exact List.mem_cons_of_mem _ (List.mem_cons_of_mem _ List.mem_cons_self), rfl⟩)) (hT _ (List.mem_map.mpr ⟨_, by first | exact List.mem_cons_self | exact List.mem_cons_of_mem _ List.mem_cons_self | exact List.mem_cons_of_mem _ (List.mem_cons_of_mem _ List.mem_cons_self), rfl⟩))
namespace K03
end K03
