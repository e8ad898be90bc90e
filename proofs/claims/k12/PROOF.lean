import PyProof.Rows.All
import Wide.All
import OpenK.AllK
import Wide.FinOn
import HandS.ForMost
import HandS.ForExc
import HandS.Wide
import HandS.Zip
import HandS.Walk
import HandS.IsInst
import HandS.Flow
import HandS.TupAny
import HandS.Defaults
import HandS.Words
import HandS.SortKw
import HandS.StrMore
import HandS.ExcInit
import HandS.ExcField
import HandS.WordsExc
import HandS.Lambda
import KE.KExcIs
import HandS.HeadHook4
import HandS.HeadWalk
import HandS.Head2
import PyProof.Draws
import KE.GoesEnum
import HandS.Gcd
import HandS.TryMany
import HandS.Head3
import HandS.Style
import HandS.FStr
import HandS.Text
import HandS.More
import HandS.Replace
import HandS.HeadHook3
import HandS.CallLocal
import HandS.Strs
import HandS.Deep
import HandS.TupMul
import HandS.HotCalls
import HandS.Dict
import HandS.SetTxt0
import HandS.SetFor
import HandS.TryOnly
import PySem.Challenge.RW_goodtill_k12_events_entries_and_rosters
set_option Elab.async false
set_option linter.all false
set_option maxRecDepth 100000
set_option maxHeartbeats 4000000
/-! A core of one's own over the hand layer: what an expression, a test, a block asks, whatever rule serves it; so a def's body is walked from the left, rule by rule. -/
namespace GT
open PySem PySem.Spec PyProof.Rows L2
/-! ### what is asked, whatever rule serves -/
structure RE (X : Cx) (e : Expr) (σ : L2.St) (H : Hp) (Q : VK) : Prop where
  ex : ∃ t, PE X e t ∧ t σ H Q
structure RT (X : Cx) (e : Expr) (σ : L2.St) (H : Hp) (Q : Bool → Hp → Prop) : Prop where
  ex : ∃ t, PT X e t ∧ t σ H Q
structure RW (X : Cx) (e : Expr) (σ : L2.St) (H : Hp) (Q : Bool → Hp → Prop) : Prop where
  ex : ∃ t, PW X e t ∧ t σ H Q
structure RA (X : Cx) (es : List Expr) (σ : L2.St) (H : Hp) (Q : List V → Hp → Prop) : Prop where
  ex : ∃ t, PA X es t ∧ t σ H Q
structure RS (X : Cx) (st : Stmt) (D : Ends) (σ : L2.St) (H : Hp) : Prop where
  ex : ∃ t, PS X st t ∧ t D σ H
structure RB (X : Cx) (st : List Stmt) (D : Ends) (σ : L2.St) (H : Hp) : Prop where
  ex : ∃ t, PSs X st t ∧ t D σ H
structure RO (X : Cx) (e : Option Expr) (σ : L2.St) (H : Hp) (Q : Option Int → Hp → Prop) : Prop where
  ex : ∃ t, PO X e t ∧ t σ H Q
section
variable {X : Cx} {σ : L2.St} {H : Hp}
theorem PE.self {e : Expr} : PE X e (RE X e) := ⟨fun pins s σ H Q I h => by obtain ⟨t, ht, q⟩ := h.ex; exact ht.run pins s σ H Q I q⟩
theorem PT.self {e : Expr} : PT X e (RT X e) := ⟨fun pins s σ H Q I h => by obtain ⟨t, ht, q⟩ := h.ex; exact ht.run pins s σ H Q I q⟩
theorem PW.self {e : Expr} : PW X e (RW X e) := ⟨fun wh pins s σ H Q I h => by obtain ⟨t, ht, q⟩ := h.ex; exact ht.run wh pins s σ H Q I q⟩
theorem PA.self {es : List Expr} : PA X es (RA X es) := ⟨fun pos pins s σ H Q I h => by obtain ⟨t, ht, q⟩ := h.ex; exact ht.run pos pins s σ H Q I q⟩
theorem PS.self {st : Stmt} : PS X st (RS X st) := ⟨fun pins s σ H D I h => by obtain ⟨t, ht, q⟩ := h.ex; exact ht.run pins s σ H D I q⟩
theorem PSs.self {st : List Stmt} : PSs X st (RB X st) := ⟨fun pins s σ H D I h => by obtain ⟨t, ht, q⟩ := h.ex; exact ht.run pins s σ H D I q⟩
theorem re_of {e : Expr} {t : TE} {Q : VK} (h : PE X e t) (q : t σ H Q) : RE X e σ H Q := ⟨⟨t, h, q⟩⟩
theorem rt_of {e : Expr} {t : TT} {Q : Bool → Hp → Prop} (h : PT X e t) (q : t σ H Q) : RT X e σ H Q := ⟨⟨t, h, q⟩⟩
theorem rw_of {e : Expr} {t : TT} {Q : Bool → Hp → Prop} (h : PW X e t) (q : t σ H Q) : RW X e σ H Q := ⟨⟨t, h, q⟩⟩
theorem ra_of {e : List Expr} {t : TA} {Q : List V → Hp → Prop} (h : PA X e t) (q : t σ H Q) : RA X e σ H Q := ⟨⟨t, h, q⟩⟩
theorem rs_of {st : Stmt} {t : TS} {D : Ends} (h : PS X st t) (q : t D σ H) : RS X st D σ H := ⟨⟨t, h, q⟩⟩
theorem rb_of {st : List Stmt} {t : TS} {D : Ends} (h : PSs X st t) (q : t D σ H) : RB X st D σ H := ⟨⟨t, h, q⟩⟩
/-! ### slots by name -/
inductive Slot : List Str → L2.St → Str → V → Prop
  | here {x : Str} {N : List Str} {v : V} {σ : L2.St} : Slot (x :: N) (some v :: σ) x v
  | there {x y : Str} {N : List Str} {v : V} {o : Option V} {σ : L2.St} (h : Slot N σ x v) : Slot (y :: N) (o :: σ) x v
inductive Put : List Str → L2.St → Str → V → L2.St → Prop
  | here {x : Str} {N : List Str} {v : V} {o : Option V} {σ : L2.St} : Put (x :: N) (o :: σ) x v (some v :: σ)
  | there {x y : Str} {N : List Str} {v : V} {o : Option V} {σ σ' : L2.St} (h : Put N σ x v σ') : Put (y :: N) (o :: σ) x v (o :: σ')
theorem Slot.ix {N : List Str} {σ : L2.St} {x : Str} {v : V} (h : Slot N σ x v) : ∃ i : Nat, N[i]? = some x ∧ σ[i]? = some (some v) := by
  induction h with
  | here => exact ⟨0, rfl, rfl⟩
  | there _ ih => obtain ⟨i, h1, h2⟩ := ih; exact ⟨i + 1, h1, h2⟩
theorem Put.ix {N : List Str} {σ σ' : L2.St} {x : Str} {v : V} (h : Put N σ x v σ') : ∃ i : Nat, N[i]? = some x ∧ σ' = σ.set i (some v) := by
  induction h with
  | here => exact ⟨0, rfl, rfl⟩
  | there _ ih => obtain ⟨i, h1, h2⟩ := ih; exact ⟨i + 1, h1, by rw [h2]; rfl⟩
/-- a name: the def's own local, the def's own captured by an inner one, one from around, a global -/
inductive KN where
  | loc | cell | cap | glob
  deriving DecidableEq
def knOf : NameKind → Option KN
  | .local => some .loc
  | .cell => some .cell
  | .free => some .cap
  | .globalImplicit => some .glob
  | _ => none
def knAll : List (Str × NameKind) → List (Str × KN)
  | [] => []
  | (x, j) :: r => match knOf j with
    | some m => (x, m) :: knAll r
    | none => knAll r
inductive Mine : KN → Prop
  | loc : Mine .loc
  | cell : Mine .cell
  | cap : Mine .cap
inductive Own : KN → Prop
  | loc : Own .loc
  | cell : Own .cell
def KnIs (X : Cx) (x : Str) : KN → Prop
  | .loc => X.env.scope.names.lookup x = some .local
  | .cell => X.env.scope.names.lookup x = some .cell ∧ X.fn x = true
  | .cap => X.env.scope.names.lookup x = some .cell ∨ X.env.scope.names.lookup x = some .free
  | .glob => X.env.scope.names.lookup x = some .globalImplicit
def okName (x : Str) : Bool := !(x == ("__debug__" : Str)) && !(x == ("__classdict__" : Str)) && !decide (x = "__name__")
/-- where one stands: the def's names by slot, the scope's names, the room -/
structure Ctx (X : Cx) (N : List Str) (L : List (Str × KN)) (k : Nat) : Prop where
  n : X.N = N
  nd : N.Nodup
  look : ∀ p ∈ L, KnIs X p.1 p.2
  dbg : ∀ p ∈ L, okName p.1 = true
  calm : X.calm = true
  room : Room k X.A
  po : PassesOwn (model X.prog X.w) X.A X.env X.xe
  kind : X.env.scope.kind = .function
theorem lookup_mem {L : List (Str × NameKind)} {x : Str} {k : NameKind} (nd : (L.map (·.1)).Nodup) (h : (x, k) ∈ L) : L.lookup x = some k := by
  induction L with
  | nil => cases h
  | cons p r ih =>
    obtain ⟨y, j⟩ := p
    rw [List.map_cons, List.nodup_cons] at nd
    rcases List.mem_cons.mp h with e | e
    · cases e
      simp [List.lookup]
    · have hne : (x == y) = false := by
        rw [beq_eq_false_iff_ne]
        intro q
        subst q
        exact nd.1 (List.mem_map.mpr ⟨_, e, rfl⟩)
      simp only [List.lookup, hne]
      exact ih nd.2 e
theorem knAll_mem {x : Str} {m : KN} : ∀ {L : List (Str × NameKind)}, (x, m) ∈ knAll L → ∃ j, (x, j) ∈ L ∧ knOf j = some m
  | [], h => by cases h
  | (y, j) :: r, h => by
    unfold knAll at h
    cases e : knOf j with
    | none =>
      rw [e] at h
      obtain ⟨j', h1, h2⟩ := knAll_mem h
      exact ⟨j', List.mem_cons_of_mem _ h1, h2⟩
    | some m' =>
      rw [e] at h
      rcases List.mem_cons.mp h with q | q
      · cases q
        exact ⟨j, List.mem_cons_self, e⟩
      · obtain ⟨j', h1, h2⟩ := knAll_mem q
        exact ⟨j', List.mem_cons_of_mem _ h1, h2⟩
variable {N : List Str} {L : List (Str × KN)} {k : Nat}
theorem okName_of {x : Str} (h : okName x = true) : (x == ("__debug__" : Str)) = false ∧ (x == ("__classdict__" : Str)) = false ∧ x ≠ "__name__" := by
  unfold okName at h
  rw [Bool.and_eq_true, Bool.and_eq_true] at h
  obtain ⟨⟨h1, h2⟩, h3⟩ := h
  exact ⟨by simpa using h1, by simpa using h2, by simpa using h3⟩
theorem Ctx.gl (c : Ctx X N L k) {x : Str} (h : (x, KN.glob) ∈ L) : Gl X x := c.look _ h
theorem Ctx.d1 (c : Ctx X N L k) {x : Str} {j : KN} (h : (x, j) ∈ L) : (x == ("__debug__" : Str)) = false := (okName_of (c.dbg _ h)).1
theorem Ctx.d2 (c : Ctx X N L k) {x : Str} {j : KN} (h : (x, j) ∈ L) : (x == ("__classdict__" : Str)) = false := (okName_of (c.dbg _ h)).2.1
theorem Ctx.d3 (c : Ctx X N L k) {x : Str} {j : KN} (h : (x, j) ∈ L) : x ≠ "__name__" := (okName_of (c.dbg _ h)).2.2
theorem Ctx.vis (c : Ctx X N L k) {x : Str} {j : KN} (h : (x, j) ∈ L) (m : Mine j) : Vis X.env.scope x := by
  have e := c.look _ h
  cases m with
  | loc => exact Or.inl e
  | cell => exact Or.inr (Or.inl e.1)
  | cap => exact Or.inr e
theorem Ctx.loc (c : Ctx X N L k) {x : Str} {j : KN} (h : (x, j) ∈ L) (m : Own j) : Loc X.env.scope x := by
  have e := c.look _ h
  cases m with
  | loc => exact Or.inl e
  | cell => exact Or.inr e.1
theorem Ctx.fn (c : Ctx X N L k) {x : Str} {j : KN} (h : (x, j) ∈ L) (m : Own j) : X.fn x = true ∨ X.env.scope.names.lookup x = some .local := by
  have e := c.look _ h
  cases m with
  | loc => exact Or.inr e
  | cell => exact Or.inl e.2
theorem Ctx.lcl (c : Ctx X N L k) {x : Str} (h : (x, KN.loc) ∈ L) : X.env.scope.names.lookup x = some .local := c.look _ h
/-! ### expressions -/
variable {pos p0 p1 p2 : Pos} {Q : VK} {D : Ends}
theorem re_name (c : Ctx X N L k) {x : Str} {v : V} {j : KN} (s : Slot N σ x v) (h : (x, j) ∈ L) (m : Mine j) (q : Q v H) : RE X (.Name x pos) σ H Q := by
  obtain ⟨i, h1, h2⟩ := s.ix
  rw [← c.n] at h1
  exact re_of (pe_var h1 (c.vis h m) (c.d1 h) (c.d2 h)) ⟨v, h2, q⟩
theorem re_int {i : Int} {j : Nat} (q : Q (.int i) H) : RE X (.Constant (.int i) j pos) σ H Q := re_of pe_int q
theorem re_bl {b : Bool} {j : Nat} (q : Q (.bl b) H) : RE X (.Constant (.bool b) j pos) σ H Q := re_of pe_bl q
theorem re_non {j : Nat} (q : Q .non H) : RE X (.Constant .none j pos) σ H Q := re_of pe_non q
theorem re_str {x : Str} {j : Nat} (q : Q (.str x) H) : RE X (.Constant (.str x) j pos) σ H Q := re_of pe_str q
/-- a class or type of the module, a builtin's name, as a value -/
theorem re_glob (c : Ctx X N L k) {x : Str} {v : V} {u : Value} (h : (x, KN.glob) ∈ L) (hm : X.mg x = some u) (r : RelV v u) (q : Q v H) : RE X (.Name x pos) σ H Q := re_of (pe_glob (c.gl h) hm r (c.d1 h)) q
theorem re_bltn (c : Ctx X N L k) {x : Str} {v : V} {u : Value} (h : (x, KN.glob) ∈ L) (hm : X.mg x = none) (hv : bootBuiltins x = some u) (r : RelV v u) (q : Q v H) : RE X (.Name x pos) σ H Q := re_of (pe_bltn (c.gl h) hm hv r (c.d3 h) (c.d1 h)) q
/-! ### operators by values -/
structure OpV (X : Cx) (op : Operator) (x y : V) (H : Hp) (Q : VK) : Prop where
  ex : ∃ r, OpR X (binaryOp op) r ∧ r x y H Q
structure CpV (X : Cx) (op : CmpOp) (x y : V) (H : Hp) (Q : VK) : Prop where
  ex : ∃ r, OpR X (compareOp op) r ∧ r x y H Q
structure IxV (X : Cx) (x y : V) (H : Hp) (Q : VK) : Prop where
  ex : ∃ r, IxR X r ∧ r x y H Q
structure SlV (X : Cx) (x : V) (a b : Option Int) (H : Hp) (Q : VK) : Prop where
  ex : ∃ r, SlR X r ∧ r x a b H Q
theorem OpR.self {op : Operator} : OpR X (binaryOp op) (OpV X op) := fun pins s σ H x y v u Q I rx ry h => by
  obtain ⟨r, hr, q⟩ := h.ex
  exact hr pins s σ H x y v u Q I rx ry q
theorem CpR.self {op : CmpOp} : OpR X (compareOp op) (CpV X op) := fun pins s σ H x y v u Q I rx ry h => by
  obtain ⟨r, hr, q⟩ := h.ex
  exact hr pins s σ H x y v u Q I rx ry q
theorem IxR.self : IxR X (IxV X) := fun va sl pins s σ H x y v u Q I rx ry h => by
  obtain ⟨r, hr, q⟩ := h.ex
  exact hr va sl pins s σ H x y v u Q I rx ry q
theorem re_bin {a b : Expr} {op : Operator} (q : RE X a σ H fun x H1 => RE X b σ H1 fun y H2 => OpV X op x y H2 Q) : RE X (.BinOp a op b pos) σ H Q := re_of (pe_op OpR.self PE.self PE.self) q
theorem re_cmp {a b : Expr} {op : CmpOp} (q : RE X a σ H fun x H1 => RE X b σ H1 fun y H2 => CpV X op x y H2 Q) (hm : behindInMarks op b = false := by first | exact nobehind _ (by decide) (by decide) | with_unfolding_all rfl) : RE X (.Compare a [op] [b] pos) σ H Q :=
  re_of (pe_cmpR CpR.self PE.self PE.self hm) q
theorem rt_cmp {a b : Expr} {op : CmpOp} {Q : Bool → Hp → Prop} (q : RE X a σ H fun x H1 => RE X b σ H1 fun y H2 => CpV X op x y H2 fun v H3 => ∃ k, v = .bl k ∧ Q k H3) (hm : behindInMarks op b = false := by first | exact nobehind _ (by decide) (by decide) | with_unfolding_all rfl) :
    RT X (.Compare a [op] [b] pos) σ H Q := rt_of (pt_cmpR CpR.self PE.self PE.self hm) q
theorem re_ix {a b : Expr} (q : RE X a σ H fun x H1 => RE X b σ H1 fun y H2 => IxV X x y H2 Q) (hs : PlainIx b := by with_unfolding_all exact fun _ _ => rfl) : RE X (.Subscript a b pos) σ H Q := re_of (pe_ix IxR.self PE.self PE.self hs) q
theorem re_neg {a : Expr} (q : RE X a σ H fun x H1 => ∃ i, x = .int i ∧ Q (.int (-i)) H1) : RE X (.UnaryOp .USub a pos) σ H Q := re_of (pe_un un_neg PE.self) q
variable {i j : Int} {z w : Str} {x y : V}
theorem ov_add (q : Q (.int (i + j)) H) : OpV X .Add (.int i) (.int j) H Q := ⟨⟨_, op_add, i, j, rfl, rfl, q⟩⟩
theorem ov_sub (q : Q (.int (i - j)) H) : OpV X .Sub (.int i) (.int j) H Q := ⟨⟨_, op_sub, i, j, rfl, rfl, q⟩⟩
theorem ov_mul (h : CMul i j) (q : Q (.int (i * j)) H) : OpV X .Mult (.int i) (.int j) H Q := ⟨⟨_, op_mul, i, j, rfl, rfl, h, q⟩⟩
theorem ov_mulR (h : -(2 ^ 64) < j ∧ j < 2 ^ 64) (q : Q (.int (i * j)) H) : OpV X .Mult (.int i) (.int j) H Q := ov_mul (.inr h) q
theorem ov_mulL (h : -(2 ^ 64) < i ∧ i < 2 ^ 64) (q : Q (.int (i * j)) H) : OpV X .Mult (.int i) (.int j) H Q := ov_mul (.inl h) q
theorem ov_mulW (h : CMulW i j) (q : Q (.int (i * j)) H) : OpV X .Mult (.int i) (.int j) H Q := ⟨⟨_, op_mulW, i, j, rfl, rfl, h, q⟩⟩
theorem ov_mod (h : 0 < j) (q : Q (.int (i % j)) H) : OpV X .Mod (.int i) (.int j) H Q := ⟨⟨_, op_mod, i, j, rfl, rfl, h, q⟩⟩
theorem ov_fdiv (h : CDivW i j) (q : Q (.int (i / j)) H) : OpV X .FloorDiv (.int i) (.int j) H Q := ⟨⟨_, op_fdivW, i, j, rfl, rfl, h, q⟩⟩
theorem ov_pow (h : CPow i j) (q : Q (.int (i ^ j.toNat)) H) : OpV X .Pow (.int i) (.int j) H Q := ⟨⟨_, op_pow, i, j, rfl, rfl, h, q⟩⟩
theorem ov_powL {n m : Nat} (h : n ≤ 1000000 ∧ m < 2 ^ 64) (q : Q (.int ((m : Int) ^ n)) H) : OpV X .Pow (.int (m : Int)) (.int (n : Int)) H Q := ov_pow ⟨Int.natCast_nonneg n, by omega, by simpa using h.2⟩ (by simpa using q)
theorem ov_adds (h : z.length + w.length ≤ sizeLine) (q : Q (.str (z ++ w)) H) : OpV X .Add (.str z) (.str w) H Q := ⟨⟨_, op_add_str, z, w, rfl, rfl, h, q⟩⟩
theorem cv_lt (q : Q (.bl (decide (i < j))) H) : CpV X .Lt (.int i) (.int j) H Q := ⟨⟨_, op_lt, i, j, rfl, rfl, q⟩⟩
theorem cv_le (q : Q (.bl (decide (i ≤ j))) H) : CpV X .LtE (.int i) (.int j) H Q := ⟨⟨_, op_le, i, j, rfl, rfl, q⟩⟩
theorem cv_gt (q : Q (.bl (decide (j < i))) H) : CpV X .Gt (.int i) (.int j) H Q := ⟨⟨_, op_gt, i, j, rfl, rfl, q⟩⟩
theorem cv_ge (q : Q (.bl (decide (j ≤ i))) H) : CpV X .GtE (.int i) (.int j) H Q := ⟨⟨_, op_ge, i, j, rfl, rfl, q⟩⟩
theorem cv_eqI (q : Q (.bl (decide (i = j))) H) : CpV X .Eq (.int i) (.int j) H Q := ⟨⟨_, op_eq, rfl, by
  have e : decide (V.int i = V.int j) = decide (i = j) := by simp
  rw [e]; exact q⟩⟩
theorem cv_neI (q : Q (.bl (!decide (i = j))) H) : CpV X .NotEq (.int i) (.int j) H Q := ⟨⟨_, op_ne, rfl, by
  have e : decide (V.int i = V.int j) = decide (i = j) := by simp
  rw [e]; exact q⟩⟩
theorem cv_eqS (q : Q (.bl (decide (z = w))) H) : CpV X .Eq (.str z) (.str w) H Q := ⟨⟨_, op_eq, rfl, by
  have e : decide (V.str z = V.str w) = decide (z = w) := by simp
  rw [e]; exact q⟩⟩
theorem cv_neS (q : Q (.bl (!decide (z = w))) H) : CpV X .NotEq (.str z) (.str w) H Q := ⟨⟨_, op_ne, rfl, by
  have e : decide (V.str z = V.str w) = decide (z = w) := by simp
  rw [e]; exact q⟩⟩
/-- == of scalars (None, bools, ints, texts) -/
theorem cv_eq (h : scal x y = true) (q : Q (.bl (decide (x = y))) H) : CpV X .Eq x y H Q := ⟨⟨_, op_eq, h, q⟩⟩
theorem cv_ne (h : scal x y = true) (q : Q (.bl (!decide (x = y))) H) : CpV X .NotEq x y H Q := ⟨⟨_, op_ne, h, q⟩⟩
theorem cv_ltS (q : Q (.bl (decide (z.cps.toList < w.cps.toList))) H) : CpV X .Lt (.str z) (.str w) H Q := ⟨⟨_, op_lt_str, z, w, rfl, rfl, q⟩⟩
theorem cv_gtS (q : Q (.bl (decide (w.cps.toList < z.cps.toList))) H) : CpV X .Gt (.str z) (.str w) H Q := ⟨⟨_, op_gt_str, z, w, rfl, rfl, q⟩⟩
theorem cv_isN (q : Q (.bl (decide (x = .non))) H) : CpV X .Is x .non H Q := ⟨⟨_, op_isN, rfl, q⟩⟩
theorem cv_notN (q : Q (.bl (!decide (x = .non))) H) : CpV X .IsNot x .non H Q := ⟨⟨_, op_notN, rfl, q⟩⟩
theorem cv_isN_s (q : Q (.bl false) H) : CpV X .Is (.str z) .non H Q := cv_isN (by rw [decide_eq_false (fun e => nomatch e)]; exact q)
theorem cv_notN_s (q : Q (.bl true) H) : CpV X .IsNot (.str z) .non H Q := cv_notN (by rw [decide_eq_false (fun e => nomatch e)]; exact q)
theorem cv_isN_i (q : Q (.bl false) H) : CpV X .Is (.int i) .non H Q := cv_isN (by rw [decide_eq_false (fun e => nomatch e)]; exact q)
theorem cv_notN_i (q : Q (.bl true) H) : CpV X .IsNot (.int i) .non H Q := cv_notN (by rw [decide_eq_false (fun e => nomatch e)]; exact q)
theorem cv_isN_b {b : Bool} (q : Q (.bl false) H) : CpV X .Is (.bl b) .non H Q := cv_isN (by rw [decide_eq_false (fun e => nomatch e)]; exact q)
theorem cv_notN_b {b : Bool} (q : Q (.bl true) H) : CpV X .IsNot (.bl b) .non H Q := cv_notN (by rw [decide_eq_false (fun e => nomatch e)]; exact q)
theorem cv_isN_r {p : Addr} (q : Q (.bl false) H) : CpV X .Is (.ref p) .non H Q := cv_isN (by rw [decide_eq_false (fun e => nomatch e)]; exact q)
theorem cv_notN_r {p : Addr} (q : Q (.bl true) H) : CpV X .IsNot (.ref p) .non H Q := cv_notN (by rw [decide_eq_false (fun e => nomatch e)]; exact q)
theorem cv_isN_n (q : Q (.bl true) H) : CpV X .Is .non .non H Q := cv_isN (by rw [decide_eq_true rfl]; exact q)
theorem cv_notN_n (q : Q (.bl false) H) : CpV X .IsNot .non .non H Q := cv_notN (by rw [decide_eq_true rfl]; exact q)
theorem iv_list {p : Addr} {xs : List V} {v : V} (h : SqL X.K H p xs) (ha : atI xs i = some v) (q : Q v H) : IxV X (.ref p) (.int i) H Q := ⟨⟨_, ix_list, p, xs, i, v, rfl, rfl, h, ha, q⟩⟩
theorem iv_tup {p : Addr} {xs : List V} {v : V} (h : SqT X.K H p xs) (ha : atI xs i = some v) (q : Q v H) : IxV X (.ref p) (.int i) H Q := ⟨⟨_, ix_tup, p, xs, i, v, rfl, rfl, h, ha, q⟩⟩
theorem iv_str {n : Nat} (hz : z.length ≤ sizeLine) (ha : atI z.cps.toList i = some n) (q : Q (.str ⟨#[n]⟩) H) : IxV X (.str z) (.int i) H Q := ⟨⟨_, ix_str, z, i, n, rfl, rfl, hz, ha, q⟩⟩
/-! ### displays, choices -/
theorem ra_nil {Q : List V → Hp → Prop} (q : Q [] H) : RA X [] σ H Q := ra_of pa_nil q
theorem ra_cons {e : Expr} {es : List Expr} {Q : List V → Hp → Prop} (q : RE X e σ H fun x H1 => RA X es σ H1 fun xs H2 => Q (x :: xs) H2) (hs : starEach (e :: es) X.env = (false, eval e X.env) :: starEach es X.env := by with_unfolding_all rfl) : RA X (e :: es) σ H Q :=
  ra_of (pa_cons PE.self PA.self hs) q
theorem re_tup {es : List Expr} {x1} (q : RA X es σ H fun xs H1 => xs.length ≤ sizeLine ∧ ∀ p, H1 p = none → Q (.ref p) (upd H1 p (.tup xs))) : RE X (.Tuple es x1 pos) σ H Q := re_of (pe_tup PA.self) q
theorem re_lst {es : List Expr} (q : RA X es σ H fun xs H1 => xs.length ≤ sizeLine ∧ ∀ p, H1 p = none → Q (.ref p) (upd H1 p (.lst xs))) : RE X (.List es pos) σ H Q := re_of (pe_lst PA.self) q
theorem re_if {t a b : Expr} (q : RT X t σ H fun c H1 => if c = true then RE X a σ H1 Q else RE X b σ H1 Q) : RE X (.IfExp t a b pos) σ H Q := re_of (pe_ifExp PT.self PE.self PE.self) q
theorem re_and {a b : Expr} {rest : List Expr} (q : RE X a σ H fun x H1 => ∃ c, x = .bl c ∧ if c = true then RE X (.BoolOp .And (b :: rest) pos) σ H1 Q else Q (.bl false) H1) : RE X (.BoolOp .And (a :: b :: rest) pos) σ H Q := re_of (pe_and PE.self PE.self) q
theorem re_or {a b : Expr} {rest : List Expr} (q : RE X a σ H fun x H1 => ∃ c, x = .bl c ∧ if c = true then Q (.bl true) H1 else RE X (.BoolOp .Or (b :: rest) pos) σ H1 Q) : RE X (.BoolOp .Or (a :: b :: rest) pos) σ H Q := re_of (pe_or PE.self PE.self) q
theorem re_one {op : BoolOp} {a : Expr} (q : RE X a σ H Q) : RE X (.BoolOp op [a] pos) σ H Q := re_of (pe_one PE.self) q
theorem re_not {a : Expr} (q : RE X a σ H fun x H1 => ∃ c, x = .bl c ∧ Q (.bl (!c)) H1) : RE X (.UnaryOp .Not a pos) σ H Q := re_of (pe_not PE.self) q
/-! ### tests -/
theorem rt_not {a : Expr} {Q : Bool → Hp → Prop} (q : RT X a σ H fun c H1 => Q (!c) H1) : RT X (.UnaryOp .Not a pos) σ H Q := rt_of (pt_not PT.self) q
theorem rt_bool {op : BoolOp} {es : List Expr} {Q : Bool → Hp → Prop} (q : RW X (.BoolOp op es pos) σ H Q) : RT X (.BoolOp op es pos) σ H Q := rt_of (PW.pt PW.self) q
theorem rw_and {a b : Expr} {rest : List Expr} {Q : Bool → Hp → Prop} (q : RT X a σ H fun c H1 => if c = true then RW X (.BoolOp .And (b :: rest) pos) σ H1 Q else Q false H1) : RW X (.BoolOp .And (a :: b :: rest) pos) σ H Q := rw_of (pw_and PT.self PW.self) q
theorem rw_and1 {a : Expr} {Q : Bool → Hp → Prop} (q : RT X a σ H Q) : RW X (.BoolOp .And [a] pos) σ H Q := rw_of (pw_and1 PT.self) q
theorem rw_or {a b : Expr} {rest : List Expr} {Q : Bool → Hp → Prop} (q : RT X a σ H fun c H1 => if c = true then Q true H1 else RW X (.BoolOp .Or (b :: rest) pos) σ H1 Q) : RW X (.BoolOp .Or (a :: b :: rest) pos) σ H Q := rw_of (pw_or PT.self PW.self) q
theorem rw_or1 {a : Expr} {Q : Bool → Hp → Prop} (q : RT X a σ H Q) : RW X (.BoolOp .Or [a] pos) σ H Q := rw_of (pw_or1 PT.self) q
theorem rt_val {e : Expr} {Q : Bool → Hp → Prop} (q : RE X e σ H fun x H1 => ∃ c, x = .bl c ∧ Q c H1) (he : ∀ whole, isTrue e X.env whole = (do let v ← whole; standAt e.pos; holding [v] (truthy v)) := by intro _; with_unfolding_all rfl) : RT X e σ H Q := rt_of (pt_val PE.self he) q
/-! ### blocks -/
theorem rb_nil (q : D.nx σ H) : RB X [] D σ H := rb_of pss_nil q
theorem rb_cons {st : Stmt} {rest : List Stmt} (q : RS X st { D with nx := fun σ1 H1 => RB X rest D σ1 H1 } σ H) : RB X (st :: rest) D σ H := rb_of (pss_cons PS.self PSs.self) q
theorem Ctx.put (c : Ctx X N L k) {x : Str} (hx : x ∈ N) : ∃ i : Nat, X.N[i]? = some x ∧ ∀ {σ σ' : L2.St} {v : V}, Put N σ x v σ' → σ' = σ.set i (some v) := by
  obtain ⟨i, hi, e⟩ := List.mem_iff_getElem.mp hx
  have h1 : N[i]? = some x := by rw [List.getElem?_eq_getElem hi, e]
  refine ⟨i, by rw [c.n]; exact h1, fun {σ σ' v} p => ?_⟩
  obtain ⟨j, h2, h3⟩ := p.ix
  rw [h3, nodup_ix c.nd h1 h2]
theorem Ctx.nodup (c : Ctx X N L k) : X.N.Nodup := by
  rw [c.n]
  exact c.nd
theorem pe_mono {e : Expr} {Q Q' : VK} (q : RE X e σ H Q) (h : ∀ v H1, Q v H1 → Q' v H1) : RE X e σ H Q' := by
  refine ⟨⟨fun σ1 H1 Q1 => ∃ Q0, RE X e σ1 H1 Q0 ∧ ∀ v H2, Q0 v H2 → Q1 v H2, ⟨fun pins s σ1 H1 Q1 I h1 => ?_⟩, Q, q, h⟩⟩
  obtain ⟨Q0, h2, h3⟩ := h1
  exact thn (PE.self.run pins s σ1 H1 Q0 I h2) fun u s' ⟨v, H', I', r, q'⟩ => ⟨v, H', I', r, h3 v H' q'⟩
theorem rt_mono {e : Expr} {Q Q' : Bool → Hp → Prop} (q : RT X e σ H Q) (h : ∀ v H1, Q v H1 → Q' v H1) : RT X e σ H Q' := by
  refine ⟨⟨fun σ1 H1 Q1 => ∃ Q0 : Bool → Hp → Prop, RT X e σ1 H1 Q0 ∧ ∀ v H2, Q0 v H2 → Q1 v H2, ⟨fun pins s σ1 H1 Q1 I h1 => ?_⟩, Q, q, h⟩⟩
  obtain ⟨Q0, h2, h3⟩ := h1
  exact thn (PT.self.run pins s σ1 H1 Q0 I h2) fun u s' ⟨H', I', q'⟩ => ⟨H', I', h3 u H' q'⟩
theorem ra_mono {e : List Expr} {Q Q' : List V → Hp → Prop} (q : RA X e σ H Q) (h : ∀ v H1, Q v H1 → Q' v H1) : RA X e σ H Q' := by
  refine ⟨⟨fun σ1 H1 Q1 => ∃ Q0 : List V → Hp → Prop, RA X e σ1 H1 Q0 ∧ ∀ v H2, Q0 v H2 → Q1 v H2, ⟨fun pos pins s σ1 H1 Q1 I h1 => ?_⟩, Q, q, h⟩⟩
  obtain ⟨Q0, h2, h3⟩ := h1
  exact thn (PA.self.run pos pins s σ1 H1 Q0 I h2) fun u s' ⟨v, H', I', r, q'⟩ => ⟨v, H', I', r, h3 v H' q'⟩
theorem rs_set (c : Ctx X N L k) {x : Str} {e : Expr} {j : KN} {pos' : Pos} (h : (x, j) ∈ L) (m : Own j) (hx : x ∈ N) (q : RE X e σ H fun v H1 => ∃ σ', Put N σ x v σ' ∧ D.nx σ' H1) (hs : swapsWith e (some (.Name x pos')) pos.line X.env = pure false := by with_unfolding_all rfl) :
    RS X (.Assign [.Name x pos'] e pos) D σ H := by
  obtain ⟨i, h1, h2⟩ := c.put hx
  refine rs_of (ps_set (i := i) c.nodup h1 (c.loc h m) PE.self hs (c.fn h m)) (pe_mono q fun v H1 ⟨σ', p, d⟩ => ?_)
  rw [h2 p] at d
  exact d
theorem rs_expr {e : Expr} (q : RE X e σ H fun _ H1 => D.nx σ H1) (hs : swapsWith e none pos.line X.env = pure false := by with_unfolding_all rfl) : RS X (.Expr e pos) D σ H := rs_of (ps_expr PE.self hs) q
theorem rs_ret {e : Expr} (q : RE X e σ H D.rt) : RS X (.Return (some e) pos) D σ H := rs_of (ps_ret PE.self) q
theorem rs_retN (q : D.rt .non H) : RS X (.Return none pos) D σ H := rs_of ps_retN q
theorem rs_pass (q : D.nx σ H) : RS X (.Pass pos) D σ H := rs_of ps_pass q
theorem rs_break (q : D.bk σ H) : RS X (.Break pos) D σ H := rs_of ps_break q
theorem rs_continue (q : D.ct σ H) : RS X (.Continue pos) D σ H := rs_of ps_continue q
theorem rs_doc {x j} (q : D.nx σ H) : RS X (.Expr (.Constant (.str x) j p0) pos) D σ H := rs_of ps_doc q
theorem rs_if {t : Expr} {a b : List Stmt} (q : RT X t σ H fun c H1 => if c = true then RB X a D σ H1 else RB X b D σ H1) : RS X (.If t a b pos) D σ H := rs_of (ps_if PT.self PSs.self PSs.self) q
/-- o[i] = e, o a list -/
theorem rs_sub {o i e : Expr} (q : RE X e σ H fun v H1 => RE X o σ H1 fun x H2 => RE X i σ H2 fun y H3 => ∃ p xs k j, x = .ref p ∧ y = .int k ∧ H3 p = some (.lst xs) ∧ ixN xs.length k = some j ∧ D.nx σ (upd H3 p (.lst (xs.set j v))))
    (ha : ∀ v, assign (.Subscript o i p0) X.env v = (do
      let ov ← holding [v] (eval o X.env)
      let iv ← holding [v, ov] (eval i X.env)
      standAt p0
      holding [v, ov, iv] (setItem ov iv v)
      release [v, ov, iv] []) := by intro _; with_unfolding_all rfl)
    (hs : swapsWithSole [.Subscript o i p0] e pos.line X.env = pure false := by with_unfolding_all rfl) (hw : swappedStores [.Subscript o i p0] e X.env = pure none := by with_unfolding_all rfl)
    (h1 : (assignEach [.Subscript o i p0] X.env).map (·.2) = [assign (.Subscript o i p0) X.env] := by with_unfolding_all rfl) : RS X (.Assign [.Subscript o i p0] e pos) D σ H :=
  rs_of (ps_asg PE.self (pg_sub PE.self PE.self set_list ha) hs hw h1) q
/-- a, b = e1, e2 (two local names) -/
theorem rs_par (c : Ctx X N L k) {x y : Str} {a b : Expr} {px py pt : Pos} {kt k2 pt2} (hx : (x, KN.loc) ∈ L) (hy : (y, KN.loc) ∈ L) (mx : x ∈ N) (my : y ∈ N) (hxy : x ≠ y)
    (q : RA X [a, b] σ H fun vs H1 => ∃ v w σ' σ'', vs = [v, w] ∧ Put N σ x v σ' ∧ Put N σ' y w σ'' ∧ D.nx σ'' H1)
    (hw : swappedStores [.Tuple [.Name x px, .Name y py] kt pt] (.Tuple [a, b] k2 pt2) X.env = pure (some [x, y]) := by with_unfolding_all rfl)
    (hs : swapsWithSole [.Tuple [.Name x px, .Name y py] kt pt] (.Tuple [a, b] k2 pt2) pos.line X.env = pure false := by with_unfolding_all rfl) :
    RS X (.Assign [.Tuple [.Name x px, .Name y py] kt pt] (.Tuple [a, b] k2 pt2) pos) D σ H := by
  obtain ⟨i, h1, h2⟩ := c.put mx
  obtain ⟨j, h3, h4⟩ := c.put my
  have hij : i ≠ j := fun e => hxy (by rw [e, h3] at h1; exact (Option.some.inj h1).symm)
  refine rs_of (ps_par (i := i) (j := j) c.calm c.nodup h1 h3 hij (c.lcl hx) (c.lcl hy) PA.self hw hs) ?_
  refine (ra_mono q fun vs H1 ⟨v, w, σ', σ'', e, p1, p2, d⟩ => ?_)
  rw [h4 p2, h2 p1] at d
  exact ⟨v, w, e, d⟩
end
end GT
namespace GT
open PySem PySem.Spec PyProof.Rows L2
section
variable {X : Cx} {σ : L2.St} {H : Hp} {N : List Str} {L : List (Str × KN)} {k : Nat} {pos p0 p1 p2 : Pos} {Q : VK} {D : Ends}
/-! ### calls of builtins -/
structure ClV (X : Cx) (f : Value) (vs : List V) (H : Hp) (Q : VK) : Prop where
  ex : ∃ r, CallR X f r ∧ r vs H Q
theorem ClR.self {f : Value} : CallR X f (ClV X f) := fun pins s σ H xs us Q I r h => by
  obtain ⟨r', hr, q⟩ := h.ex
  exact hr pins s σ H xs us Q I r q
theorem re_callB (c : Ctx X N L k) {x : Str} {id : String} {e : Expr} {es : List Expr} (h : (x, KN.glob) ∈ L) (hm : X.mg x = none) (hv : bootBuiltins x = some (.builtin id)) (q : RA X (e :: es) σ H fun vs H1 => ClV X (.builtin id) vs H1 Q)
    (he : starEach (e :: es) X.env = (false, eval e X.env) :: starEach es X.env := by with_unfolding_all rfl) (hpl : (backTo pos (starEach es X.env)).any (·.1) = false := by with_unfolding_all rfl) : RE X (.Call (.Name x p0) (e :: es) [] pos) σ H Q :=
  re_of (pe_callB ClR.self (c.gl h) hm hv PA.self (c.d3 h) (c.d1 h) he hpl) q
theorem re_callT (c : Ctx X N L k) {x : Str} {T : String} {e : Expr} {es : List Expr} (h : (x, KN.glob) ∈ L) (hm : X.mg x = none) (hv : bootBuiltins x = some (.type T)) (q : RA X (e :: es) σ H fun vs H1 => ClV X (.type T) vs H1 Q)
    (he : starEach (e :: es) X.env = (false, eval e X.env) :: starEach es X.env := by with_unfolding_all rfl) (hpl : (backTo pos (starEach es X.env)).any (·.1) = false := by with_unfolding_all rfl) : RE X (.Call (.Name x p0) (e :: es) [] pos) σ H Q :=
  re_of (pe_callTy ClR.self (c.gl h) hm hv PA.self (c.d3 h) (c.d1 h) he hpl) q
variable {i j : Int} {z w : Str} {x y : V} {p : Addr} {xs ys : List V}
theorem lv_abs (q : Q (.int (if i < 0 then -i else i)) H) : ClV X (.builtin "abs") [.int i] H Q := ⟨⟨_, call_abs, i, rfl, q⟩⟩
theorem lv_max (hc : X.calm = true) (q : Q (.int (if j > i then j else i)) H) : ClV X (.builtin "max") [.int i, .int j] H Q := ⟨⟨_, call_max2 hc, i, j, rfl, q⟩⟩
theorem lv_min (hc : X.calm = true) (q : Q (.int (if j < i then j else i)) H) : ClV X (.builtin "min") [.int i, .int j] H Q := ⟨⟨_, call_min2 hc, i, j, rfl, q⟩⟩
theorem lv_int (q : Q (.int i) H) : ClV X (.type "int") [.int i] H Q := ⟨⟨_, call_int1, .inl ⟨i, rfl, q⟩⟩⟩
theorem lv_lenL (h : SqL X.K H p xs) (q : Q (.int xs.length) H) : ClV X (.builtin "len") [.ref p] H Q := ⟨⟨_, call_len_seq, p, xs, rfl, .inl h, q⟩⟩
theorem lv_lenT (h : SqT X.K H p xs) (q : Q (.int xs.length) H) : ClV X (.builtin "len") [.ref p] H Q := ⟨⟨_, call_len_seq, p, xs, rfl, .inr h, q⟩⟩
theorem lv_lenS (h : z.length ≤ sizeLine) (q : Q (.int z.length) H) : ClV X (.builtin "len") [.str z] H Q := ⟨⟨_, call_len_str, z, rfl, h, q⟩⟩
theorem lv_isi {t u : Value} {b : Bool} (k : ClsV y u) (ty : TyX X.K H x t) (e : PySem.W.kitOne X.K t u = some b) (q : Q (.bl b) H) : ClV X (.builtin "isinstance") [x, y] H Q := ⟨⟨_, call_isi, x, y, t, u, b, rfl, k, ty, e, q⟩⟩
theorem lv_isiT {t : Value} {us : List Value} {b : Bool} {tp : Addr} {cs : List V} (h : H tp = some (.tup cs)) (k : Paired ClsV cs us) (ty : TyX X.K H x t) (e : PySem.W.kitAny X.K t us = some b) (q : Q (.bl b) H) : ClV X (.builtin "isinstance") [x, .ref tp] H Q :=
  ⟨⟨_, call_isiT, x, tp, cs, t, us, b, rfl, h, k, ty, e, q⟩⟩
theorem lv_tupL (h : SqL X.K H p xs) (q : ∀ l, H l = none → Q (.ref l) (upd H l (.tup xs))) : ClV X (.type "tuple") [.ref p] H Q := ⟨⟨_, call_tuple_of, p, xs, rfl, .inl ⟨h, q⟩⟩⟩
theorem lv_listL (h : SqL X.K H p xs ∨ SqT X.K H p xs) (q : ∀ l, H l = none → Q (.ref l) (upd H l (.lst xs))) : ClV X (.type "list") [.ref p] H Q := ⟨⟨_, call_list_of, p, xs, rfl, h, q⟩⟩
theorem re_c_len (c : Ctx X N L k) {e : Expr} {es : List Expr} (h : (("len" : Str), KN.glob) ∈ L) (hm : X.mg "len" = none) (q : RA X (e :: es) σ H fun vs H1 => ClV X (.builtin "len") vs H1 Q)
    (he : starEach (e :: es) X.env = (false, eval e X.env) :: starEach es X.env := by with_unfolding_all rfl) (hpl : (backTo pos (starEach es X.env)).any (·.1) = false := by with_unfolding_all rfl) : RE X (.Call (.Name "len" p0) (e :: es) [] pos) σ H Q := re_callB c h hm (by decide +kernel) q he hpl
theorem re_c_abs (c : Ctx X N L k) {e : Expr} {es : List Expr} (h : (("abs" : Str), KN.glob) ∈ L) (hm : X.mg "abs" = none) (q : RA X (e :: es) σ H fun vs H1 => ClV X (.builtin "abs") vs H1 Q)
    (he : starEach (e :: es) X.env = (false, eval e X.env) :: starEach es X.env := by with_unfolding_all rfl) (hpl : (backTo pos (starEach es X.env)).any (·.1) = false := by with_unfolding_all rfl) : RE X (.Call (.Name "abs" p0) (e :: es) [] pos) σ H Q := re_callB c h hm (by decide +kernel) q he hpl
theorem re_c_min (c : Ctx X N L k) {e : Expr} {es : List Expr} (h : (("min" : Str), KN.glob) ∈ L) (hm : X.mg "min" = none) (q : RA X (e :: es) σ H fun vs H1 => ClV X (.builtin "min") vs H1 Q)
    (he : starEach (e :: es) X.env = (false, eval e X.env) :: starEach es X.env := by with_unfolding_all rfl) (hpl : (backTo pos (starEach es X.env)).any (·.1) = false := by with_unfolding_all rfl) : RE X (.Call (.Name "min" p0) (e :: es) [] pos) σ H Q := re_callB c h hm (by decide +kernel) q he hpl
theorem re_c_max (c : Ctx X N L k) {e : Expr} {es : List Expr} (h : (("max" : Str), KN.glob) ∈ L) (hm : X.mg "max" = none) (q : RA X (e :: es) σ H fun vs H1 => ClV X (.builtin "max") vs H1 Q)
    (he : starEach (e :: es) X.env = (false, eval e X.env) :: starEach es X.env := by with_unfolding_all rfl) (hpl : (backTo pos (starEach es X.env)).any (·.1) = false := by with_unfolding_all rfl) : RE X (.Call (.Name "max" p0) (e :: es) [] pos) σ H Q := re_callB c h hm (by decide +kernel) q he hpl
theorem re_c_isinstance (c : Ctx X N L k) {e : Expr} {es : List Expr} (h : (("isinstance" : Str), KN.glob) ∈ L) (hm : X.mg "isinstance" = none) (q : RA X (e :: es) σ H fun vs H1 => ClV X (.builtin "isinstance") vs H1 Q)
    (he : starEach (e :: es) X.env = (false, eval e X.env) :: starEach es X.env := by with_unfolding_all rfl) (hpl : (backTo pos (starEach es X.env)).any (·.1) = false := by with_unfolding_all rfl) : RE X (.Call (.Name "isinstance" p0) (e :: es) [] pos) σ H Q := re_callB c h hm (by decide +kernel) q he hpl
theorem re_c_sorted (c : Ctx X N L k) {e : Expr} {es : List Expr} (h : (("sorted" : Str), KN.glob) ∈ L) (hm : X.mg "sorted" = none) (q : RA X (e :: es) σ H fun vs H1 => ClV X (.builtin "sorted") vs H1 Q)
    (he : starEach (e :: es) X.env = (false, eval e X.env) :: starEach es X.env := by with_unfolding_all rfl) (hpl : (backTo pos (starEach es X.env)).any (·.1) = false := by with_unfolding_all rfl) : RE X (.Call (.Name "sorted" p0) (e :: es) [] pos) σ H Q := re_callB c h hm (by decide +kernel) q he hpl
theorem re_c_int (c : Ctx X N L k) {e : Expr} {es : List Expr} (h : (("int" : Str), KN.glob) ∈ L) (hm : X.mg "int" = none) (q : RA X (e :: es) σ H fun vs H1 => ClV X (.type "int") vs H1 Q)
    (he : starEach (e :: es) X.env = (false, eval e X.env) :: starEach es X.env := by with_unfolding_all rfl) (hpl : (backTo pos (starEach es X.env)).any (·.1) = false := by with_unfolding_all rfl) : RE X (.Call (.Name "int" p0) (e :: es) [] pos) σ H Q := re_callT c h hm (by decide +kernel) q he hpl
theorem re_c_tuple (c : Ctx X N L k) {e : Expr} {es : List Expr} (h : (("tuple" : Str), KN.glob) ∈ L) (hm : X.mg "tuple" = none) (q : RA X (e :: es) σ H fun vs H1 => ClV X (.type "tuple") vs H1 Q)
    (he : starEach (e :: es) X.env = (false, eval e X.env) :: starEach es X.env := by with_unfolding_all rfl) (hpl : (backTo pos (starEach es X.env)).any (·.1) = false := by with_unfolding_all rfl) : RE X (.Call (.Name "tuple" p0) (e :: es) [] pos) σ H Q := re_callT c h hm (by decide +kernel) q he hpl
theorem re_c_list (c : Ctx X N L k) {e : Expr} {es : List Expr} (h : (("list" : Str), KN.glob) ∈ L) (hm : X.mg "list" = none) (q : RA X (e :: es) σ H fun vs H1 => ClV X (.type "list") vs H1 Q)
    (he : starEach (e :: es) X.env = (false, eval e X.env) :: starEach es X.env := by with_unfolding_all rfl) (hpl : (backTo pos (starEach es X.env)).any (·.1) = false := by with_unfolding_all rfl) : RE X (.Call (.Name "list" p0) (e :: es) [] pos) σ H Q := re_callT c h hm (by decide +kernel) q he hpl
theorem re_c_str (c : Ctx X N L k) {e : Expr} {es : List Expr} (h : (("str" : Str), KN.glob) ∈ L) (hm : X.mg "str" = none) (q : RA X (e :: es) σ H fun vs H1 => ClV X (.type "str") vs H1 Q)
    (he : starEach (e :: es) X.env = (false, eval e X.env) :: starEach es X.env := by with_unfolding_all rfl) (hpl : (backTo pos (starEach es X.env)).any (·.1) = false := by with_unfolding_all rfl) : RE X (.Call (.Name "str" p0) (e :: es) [] pos) σ H Q := re_callT c h hm (by decide +kernel) q he hpl
theorem re_ty_int (c : Ctx X N L k) (h : (("int" : Str), KN.glob) ∈ L) (hm : X.mg "int" = none) (q : Q (.ty "int") H) : RE X (.Name "int" pos) σ H Q := re_bltn (v := .ty "int") (u := .type "int") c h hm (by decide +kernel) rfl q
theorem re_ty_bool (c : Ctx X N L k) (h : (("bool" : Str), KN.glob) ∈ L) (hm : X.mg "bool" = none) (q : Q (.ty "bool") H) : RE X (.Name "bool" pos) σ H Q := re_bltn (v := .ty "bool") (u := .type "bool") c h hm (by decide +kernel) rfl q
theorem re_ty_str (c : Ctx X N L k) (h : (("str" : Str), KN.glob) ∈ L) (hm : X.mg "str" = none) (q : Q (.ty "str") H) : RE X (.Name "str" pos) σ H Q := re_bltn (v := .ty "str") (u := .type "str") c h hm (by decide +kernel) rfl q
theorem re_ty_tuple (c : Ctx X N L k) (h : (("tuple" : Str), KN.glob) ∈ L) (hm : X.mg "tuple" = none) (q : Q (.ty "tuple") H) : RE X (.Name "tuple" pos) σ H Q := re_bltn (v := .ty "tuple") (u := .type "tuple") c h hm (by decide +kernel) rfl q
theorem re_ty_list (c : Ctx X N L k) (h : (("list" : Str), KN.glob) ∈ L) (hm : X.mg "list" = none) (q : Q (.ty "list") H) : RE X (.Name "list" pos) σ H Q := re_bltn (v := .ty "list") (u := .type "list") c h hm (by decide +kernel) rfl q
theorem re_ty_ValueError (c : Ctx X N L k) (h : (("ValueError" : Str), KN.glob) ∈ L) (hm : X.mg "ValueError" = none) (q : Q (.ty "ValueError") H) : RE X (.Name "ValueError" pos) σ H Q := re_bltn (v := .ty "ValueError") (u := .type "ValueError") c h hm (by decide +kernel) rfl q
/-! ### slices -/
theorem SlR.self : SlR X (SlV X) := by
  intro pins s σ H x v vl vu lo hi sl Q I rx hs h1 h2 h
  obtain ⟨r, hr, q⟩ := h.ex
  exact hr pins s σ H x v vl vu lo hi sl Q I rx hs h1 h2 q
theorem PO.self {e : Option Expr} : PO X e (RO X e) := ⟨fun pins s σ H Q I h => by obtain ⟨t, ht, q⟩ := h.ex; exact ht.run pins s σ H Q I q⟩
theorem ro_none {Q : Option Int → Hp → Prop} (q : Q none H) : RO X none σ H Q := ⟨⟨_, po_none, q⟩⟩
theorem ro_some {e : Expr} {Q : Option Int → Hp → Prop} (q : RE X e σ H fun x H1 => ∃ i, x = .int i ∧ Q (some i) H1) : RO X (some e) σ H Q := ⟨⟨_, po_some PE.self, q⟩⟩
theorem re_slice {e : Expr} {lo hi : Option Expr} (q : RE X e σ H fun x H1 => RO X lo σ H1 fun a H2 => RO X hi σ H2 fun b H3 => SlV X x a b H3 Q) : RE X (.Subscript e (.Slice lo hi none p2) pos) σ H Q := re_of (pe_slice SlR.self PE.self PO.self PO.self) q
theorem sv_str {a b : Option Int} (h : z.length ≤ sizeLine) (q : Q (.str (cutS z a b)) H) : SlV X (.str z) a b H Q := ⟨⟨_, sl_str, z, rfl, h, q⟩⟩
theorem sv_list {a b : Option Int} (h : SqL X.K H p xs) (q : ∀ l, H l = none → Q (.ref l) (upd H l (.lst (cutV xs a b)))) : SlV X (.ref p) a b H Q := ⟨⟨_, sl_list, p, xs, rfl, h, q⟩⟩
/-! ### lists -/
theorem ov_cat {b : Addr} (h1 : H p = some (.lst xs)) (h2 : H b = some (.lst ys)) (hl : xs.length + ys.length ≤ sizeLine) (q : ∀ l, H l = none → Q (.ref l) (upd H l (.lst (xs ++ ys)))) : OpV X .Add (.ref p) (.ref b) H Q := ⟨⟨_, op_cat, p, b, xs, ys, rfl, rfl, h1, h2, hl, q⟩⟩
theorem ov_rep {n : Int} (h1 : H p = some (.lst xs)) (h2 : -(2 ^ 63) ≤ n) (h3 : n < 2 ^ 63) (hl : xs.length * n.toNat ≤ sizeLine) (q : ∀ l, H l = none → Q (.ref l) (upd H l (.lst (List.replicate n.toNat xs).flatten))) : OpV X .Mult (.ref p) (.int n) H Q :=
  ⟨⟨_, op_rep, p, n, xs, rfl, rfl, h1, h2, h3, hl, q⟩⟩
theorem ov_catT {b : Addr} (h1 : SqT X.K H p xs) (h2 : SqT X.K H b ys) (hl : xs.length + ys.length ≤ sizeLine) (qa : xs = [] → Q (.ref b) H) (qb : xs ≠ [] → ys = [] → Q (.ref p) H) (q : xs ≠ [] → ys ≠ [] → ∀ l, H l = none → Q (.ref l) (upd H l (.tup (xs ++ ys)))) :
    OpV X .Add (.ref p) (.ref b) H Q := ⟨⟨_, op_catA, p, b, xs, ys, rfl, rfl, h1, h2, hl, qa, qb, q⟩⟩
/-- xs.append(e) -/
theorem re_append {o e : Expr} {apos : Pos} (q : RE X o σ H fun x H1 => ∃ l xs, x = .ref l ∧ H1 l = some (.lst xs) ∧ RE X e σ H1 fun y H2 => ∃ xs', H2 l = some (.lst xs') ∧ xs'.length < sizeLine ∧ Q .non (upd H2 l (.lst (xs' ++ [y]))))
    (hbase : attributeBase o "append" X.env (eval o X.env) = eval o X.env := by with_unfolding_all rfl)
    (hfew : ((backTo pos (starEach [e] X.env)).all (fun x => !x.1) && (backToKw pos (keywordEach [] X.env)).all (fun x => x.1.isSome) && decide (([e] : List Expr).length + ([] : List Keyword).length + (if ([] : List Keyword).isEmpty then 0 else 1) < 30)) = true := by with_unfolding_all rfl)
    (hline : (apos.endLine == pos.line) = true := by with_unfolding_all rfl) (hs : starEach [e] X.env = (false, eval e X.env) :: starEach [] X.env := by with_unfolding_all rfl) (hplain : (backTo pos (starEach [] X.env)).any (·.1) = false := by with_unfolding_all rfl) :
    RE X (.Call (.Attribute o "append" apos) [e] [] pos) σ H Q := by
  refine re_of (pe_bm PySem.F.plainAttrs_list PySem.F.slot_list_append PySem.F.type_list_append mt_append PE.self PA.self hbase hfew hline hs hplain) ?_
  refine pe_mono q fun x H1 ⟨l, xs, e1, h1, q1⟩ => ?_
  subst e1
  refine ⟨.inl ⟨rfl, _, SqL.of h1⟩, ra_cons (pe_mono q1 fun y H2 ⟨xs', h2, h3, q2⟩ => ra_nil ⟨l, xs', y, rfl, rfl, h2, h3, q2⟩) hs⟩
/-- ''.join(e) -/
theorem re_join {o e : Expr} {apos : Pos} (q : RE X o σ H fun x H1 => ∃ a, x = .str a ∧ RE X e σ H1 fun y H2 => ∃ p, ∃ ys : List Str, y = .ref p ∧ (SqL X.K H2 p (ys.map V.str) ∨ SqT X.K H2 p (ys.map V.str)) ∧ (ys.map (·.length)).sum + ys.length * a.length ≤ 16777216 ∧ Q (.str (Txt.join a ys)) H2)
    (hs : starEach [e] X.env = [(false, eval e X.env)] := by with_unfolding_all rfl) (hbase : attributeBase o "join" X.env (eval o X.env) = eval o X.env := by with_unfolding_all rfl) (hline : (apos.endLine == pos.line) = true := by with_unfolding_all rfl) :
    RE X (.Call (.Attribute o "join" apos) [e] [] pos) σ H Q := by
  refine re_of (pe_join PE.self PE.self hs hbase hline) ?_
  refine pe_mono q fun x H1 ⟨a, e1, q1⟩ => ⟨⟨a, e1⟩, pe_mono q1 fun y H2 ⟨p, ys, e2, h2, h3, q2⟩ => ?_⟩
  exact ⟨a, p, ys, e1, by rw [e2], h2, h3, q2⟩
/-! ### calls of the program's own defs -/
/-- a def that stands in the module: its promise, at most so many calls deep -/
structure DefP (P : Program) (wd : World) (K : PySem.W.Frag) (mg : Str → Option Value) (base : Heap) (CXs : CXT) (x : Str) (ps : List Str) (k : Nat) (sp : Sp) : Prop where
  ex : ∃ f fd, FnOk P wd K mg base CXs k f fd ps sp ∧ mg x = some (.ref f) ∧ PySem.W.keepIn K (.ref f) = true ∧ Binds K fd ps []
theorem re_call (c : Ctx X N L k) {x : Str} {ps : List Str} {n : Nat} {sp : Sp} {e : Expr} {es : List Expr} (F : DefP X.prog X.w X.K X.mg X.base CX0 x ps n sp) (hn : n ≤ k) (h : (x, KN.glob) ∈ L) (q : RA X (e :: es) σ H fun vs H1 => sp vs H1 Q E0)
    (he : starEach (e :: es) X.env = (false, eval e X.env) :: starEach es X.env := by with_unfolding_all rfl) (hpl : (backTo pos (starEach es X.env)).any (·.1) = false := by with_unfolding_all rfl) : RE X (.Call (.Name x p0) (e :: es) [] pos) σ H Q := by
  obtain ⟨f, fd, F1, m, kp, b⟩ := F.ex
  refine re_of (pe_call F1 (c.room.mono hn) (c.gl h) m kp b .nil pass0 PA.self (c.d1 h) he hpl) ?_
  exact ra_mono q fun vs H1 d => by rw [List.append_nil]; exact d
/-! ### for -/
theorem Ctx.pg (c : Ctx X N L k) {x : Str} {j : KN} (h : (x, j) ∈ L) (m : Own j) (hx : x ∈ N) : ∃ i : Nat, PG X (.Name x p0) (gName i) ∧ ∀ {σ σ' : L2.St} {v : V}, Put N σ x v σ' → σ' = σ.set i (some v) := by
  obtain ⟨i, h1, h2⟩ := c.put hx
  exact ⟨i, pg_name c.nodup h1 (c.loc h m) (c.fn h m), h2⟩
/-- what a loop over xs asks: the invariant Pv by the turn -/
def Turns (X : Cx) (N : List Str) (x : Str) (body : List Stmt) (D : Ends) (stand : Hp → Prop) (n : Nat) (it : Nat → V → Prop) (σ : L2.St) (H : Hp) : Prop :=
  ∃ Pv : Nat → L2.St → Hp → Prop, Pv 0 σ H ∧ (∀ i σ H, i ≤ n → Pv i σ H → stand H) ∧
    (∀ i y σ H, i < n → it i y → Pv i σ H → ∃ σ', Put N σ x y σ' ∧ RB X body { D with nx := Pv (i + 1), ct := Pv (i + 1), bk := D.nx } σ' H) ∧ (∀ σ H, Pv n σ H → D.nx σ H)
theorem rs_for_list (c : Ctx X N L k) {x : Str} {l : Expr} {body : List Stmt} {j : KN} (h : (x, j) ∈ L) (m : Own j) (hx : x ∈ N)
    (q : RE X l σ H fun v H1 => ∃ a xs, v = .ref a ∧ SqL X.K H1 a xs ∧ Turns X N x body D (fun H => SqL X.K H a xs) xs.length (fun i y => xs[i]? = some y) σ H1)
    (hs : ∀ x, foldedSetIterable l X.env x = pure x := by intro _; with_unfolding_all rfl) : RS X (.For (.Name x p0) l body [] pos) D σ H := by
  obtain ⟨i, g, h2⟩ := c.pg (p0 := p0) h m hx
  refine rs_of (ps_for c.po c.calm (pi_list PE.self) g PSs.self hs) (pe_mono q fun v H1 ⟨a, xs, e, hq, Pv, p1, p2, p3, p4⟩ => ⟨a, e, ⟨xs, hq⟩, ?_⟩)
  refine for_list (K := X.K) (a := a) (xs := xs) Pv p1 p2 (fun i y σ H e p => ?_) p4
  obtain ⟨σ', hp, r⟩ := p3 i y σ H (by rcases Nat.lt_or_ge i xs.length with z | z; exact z; rw [List.getElem?_eq_none z] at e; cases e) e p
  rw [h2 hp] at r
  exact r
theorem rs_for_tup (c : Ctx X N L k) {x : Str} {l : Expr} {body : List Stmt} {j : KN} (h : (x, j) ∈ L) (m : Own j) (hx : x ∈ N)
    (q : RE X l σ H fun v H1 => ∃ a xs, v = .ref a ∧ SqT X.K H1 a xs ∧ Turns X N x body D (fun H => SqT X.K H a xs) xs.length (fun i y => xs[i]? = some y) σ H1)
    (hs : ∀ x, foldedSetIterable l X.env x = pure x := by intro _; with_unfolding_all rfl) : RS X (.For (.Name x p0) l body [] pos) D σ H := by
  obtain ⟨i, g, h2⟩ := c.pg (p0 := p0) h m hx
  refine rs_of (ps_for c.po c.calm (pi_tup PE.self) g PSs.self hs) (pe_mono q fun v H1 ⟨a, xs, e, hq, Pv, p1, p2, p3, p4⟩ => ⟨a, e, ⟨xs, hq⟩, ?_⟩)
  refine for_tup (K := X.K) (a := a) (xs := xs) Pv p1 p2 (fun i y σ H e p => ?_) p4
  obtain ⟨σ', hp, r⟩ := p3 i y σ H (by rcases Nat.lt_or_ge i xs.length with z | z; exact z; rw [List.getElem?_eq_none z] at e; cases e) e p
  rw [h2 hp] at r
  exact r
theorem rs_for_range (c : Ctx X N L k) {x : Str} {e : Expr} {body : List Stmt} {j : KN} (h : (x, j) ∈ L) (m : Own j) (hx : x ∈ N) (hg : (("range" : Str), KN.glob) ∈ L) (hm : X.mg "range" = none)
    (q : RE X e σ H fun v H1 => ∃ n : Int, v = .int n ∧ -(2 ^ 62) ≤ n ∧ n < 2 ^ 62 ∧ Turns X N x body D (fun _ => True) n.toNat (fun i y => y = .int i) σ H1)
    (hs : ∀ x, foldedSetIterable (.Call (.Name "range" p1) [e] [] p2) X.env x = pure x := by intro _; with_unfolding_all rfl) (hsE : starEach [e] X.env = [(false, eval e X.env)] := by with_unfolding_all rfl) : RS X (.For (.Name x p0) (.Call (.Name "range" p1) [e] [] p2) body [] pos) D σ H := by
  obtain ⟨i, g, h2⟩ := c.pg (p0 := p0) h m hx
  refine rs_of (ps_for c.po c.calm (pi_range1 (c.gl hg) hm PA.self hsE) g PSs.self hs) ?_
  refine ra_cons (pe_mono q fun v H1 ⟨n, e, n1, n2, Pv, p1, _, p3, p4⟩ => ra_nil ⟨n, by rw [e], n1, n2, ?_⟩) hsE
  refine for_range (lo := 0) (n := n.toNat) Pv p1 (fun i σ H e p => ?_) p4
  obtain ⟨σ', hp, r⟩ := p3 i (.int (0 + i)) σ H e (by simp) p
  rw [h2 hp] at r
  exact r
/-- for x, y in zip(a, b), both lists or both tuples, of one length -/
theorem rs_for_zip (c : Ctx X N L k) {x y : Str} {e1 e2 : Expr} {body : List Stmt} {j j' : KN} {kt : Nat} {q0 q1 q2 : Pos} (h : (x, j) ∈ L) (m : Own j) (hx : x ∈ N) (h' : (y, j') ∈ L) (m' : Own j') (hy : y ∈ N) (hg : (("zip" : Str), KN.glob) ∈ L) (hm : X.mg "zip" = none)
    (q : RA X [e1, e2] σ H fun vs H1 => ∃ a b xs ys, vs = [.ref a, .ref b] ∧ xs.length = ys.length ∧ ∃ Sq : Hp → Addr → List V → Prop, (Sq = (fun H => SqL X.K H) ∨ Sq = fun H => SqT X.K H) ∧ Sq H1 a xs ∧ Sq H1 b ys ∧ ∃ Pv : Nat → L2.St → Hp → Prop, Pv 0 σ H1 ∧ (∀ i σ H, Pv i σ H → Sq H a xs ∧ Sq H b ys) ∧
      (∀ i u v σ H T, xs[i]? = some u → ys[i]? = some v → Pv i σ H → H T = none → ∃ σ' σ'', Put N σ x u σ' ∧ Put N σ' y v σ'' ∧ RB X body { D with nx := Pv (i + 1), ct := Pv (i + 1), bk := D.nx } σ'' (upd H T (.tup [u, v]))) ∧ (∀ σ H, Pv xs.length σ H → D.nx σ H))
    (hs : ∀ x, foldedSetIterable (.Call (.Name "zip" p1) [e1, e2] [] p2) X.env x = pure x := by intro _; with_unfolding_all rfl) (he : starEach [e1, e2] X.env = (false, eval e1 X.env) :: starEach [e2] X.env := by with_unfolding_all rfl) (hpl : (backTo p2 (starEach [e2] X.env)).any (·.1) = false := by with_unfolding_all rfl)
    (hn : (assignEach [.Name x q0, .Name y q1] X.env).length = 2 := by with_unfolding_all rfl) (hst : (assignEach [.Name x q0, .Name y q1] X.env).findIdx? (·.1) = none := by with_unfolding_all rfl)
    (ha : (assignEach [.Name x q0, .Name y q1] X.env).map (·.2) = assign (.Name x q0) X.env :: (assignEach [.Name y q1] X.env).map (·.2) := by with_unfolding_all rfl) (hb : (assignEach [.Name y q1] X.env).map (·.2) = assign (.Name y q1) X.env :: (assignEach [] X.env).map (·.2) := by with_unfolding_all rfl) :
    RS X (.For (.Tuple [.Name x q0, .Name y q1] kt q2) (.Call (.Name "zip" p1) [e1, e2] [] p2) body [] pos) D σ H := by
  obtain ⟨i, g, h2⟩ := c.pg (p0 := q0) h m hx
  obtain ⟨i', g', h2'⟩ := c.pg (p0 := q1) h' m' hy
  refine rs_of (ps_for c.po c.calm (RZ.pi_zipA (c.gl hg) hm PA.self he hpl) (pg_tup (n := 2) c.calm (pgs_cons g (pgs_cons g' pgs_nil hb) ha) hn hst) PSs.self hs) ?_
  refine ra_mono q fun vs H1 ⟨a, b, xs, ys, e, hl, Sq, hS, s1, s2, Pv, p1, p2, p3, p4⟩ => ⟨a, b, xs, ys, e, ?_⟩
  have step : ∀ (i : Nat) (u v : V) (T : Addr) (σ : L2.St) (H : Hp), xs[i]? = some u → ys[i]? = some v → Pv i σ H → H T = none → gTup X.K 2 (gCons (gName _) (gCons (gName _) gNil)) (.ref T) σ (upd H T (.tup [u, v])) fun σ2 H2 => RB X body { D with nx := Pv (i + 1), ct := Pv (i + 1), bk := D.nx } σ2 H2 := fun i u v T σ H e1 e2 p hT => by
    obtain ⟨σ', σ'', a1, a2, r⟩ := p3 i u v σ H T e1 e2 p hT
    rw [h2' a2, h2 a1] at r
    exact ⟨T, _, rfl, SqT.of upd_same, rfl, _, _, rfl, _, _, rfl, rfl, r⟩
  rcases hS with rfl | rfl
  · exact .inl ⟨s1, s2, RZ.for_zipL hl Pv p1 p2 step p4⟩
  · exact .inr ⟨s1, s2, RZ.for_zipT hl Pv p1 p2 step p4⟩
end
end GT
namespace GT
open PySem PySem.Spec PyProof.Rows L2
section
variable {X : Cx} {σ : L2.St} {H : Hp} {N : List Str} {L Lc : List (Str × KN)} {k : Nat} {pos p0 p1 p2 : Pos} {Q : VK} {D : Ends} {scope : Scope}
/-! ### comprehensions -/
structure RTs (X : Cx) (ifs : List Expr) (σ : L2.St) (H : Hp) (Q : Bool → Hp → Prop) : Prop where
  ex : ∃ t, PTs X ifs t ∧ t σ H Q
theorem PTs.self {ifs : List Expr} : PTs X ifs (RTs X ifs) := ⟨fun pins s σ H Q I h => by obtain ⟨t, ht, q⟩ := h.ex; exact ht.run pins s σ H Q I q⟩
theorem rts_nil {Q : Bool → Hp → Prop} (q : Q true H) : RTs X [] σ H Q := ⟨⟨_, pts_nil, q⟩⟩
theorem rts_one {t : Expr} {Q : Bool → Hp → Prop} (q : RT X t σ H Q) : RTs X [t] σ H Q := ⟨⟨_, pts_one PT.self, q⟩⟩
/-- what is known of a comprehension's own scope -/
structure Scp (scope : Scope) (Lc : List (Str × KN)) : Prop where
  names : ∀ p ∈ Lc, p ∈ knAll scope.names
  lnd : (scope.names.map (·.1)).Nodup
  dbg : ∀ p ∈ Lc, okName p.1 = true
  kind : scope.kind = .function
/-- a comprehension over x, within names N whose kinds are told by L; Lc tells its own -/
def lcOk (N : List Str) (L : List (Str × KN)) (scope : Scope) (Lc : List (Str × KN)) (x : Str) : Bool :=
  decide (scope.kind = .function) && (Lc.all fun p => decide (p ∈ knAll scope.names)) && decide (scope.names.map (·.1)).Nodup && (Lc.all fun p => okName p.1) &&
    (scope.names.all fun y => !decide (y.2 = .free) || (decide ((y.1, KN.cell) ∈ L) || decide ((y.1, KN.cap) ∈ L))) &&
    (scope.names.all fun y => !(decide (y.2 = .local) || decide (y.2 = .cell)) || (decide (y.1 = x) || !decide (y.1 ∈ N))) && decide (x ∈ N) && decide ((x, KN.loc) ∈ Lc)
theorem lcOk_of {x : Str} (c : Ctx X N L k) (h : lcOk N L scope Lc x = true) : Scp scope Lc ∧ x ∈ N ∧ (x, KN.loc) ∈ Lc ∧ ∀ i : Nat, N[i]? = some x → BlkOk N X.env.scope scope [(x, i)] := by
  unfold lcOk at h
  simp only [Bool.and_eq_true, Bool.or_eq_true, Bool.not_eq_true', decide_eq_true_eq, decide_eq_false_iff_not, List.all_eq_true] at h
  obtain ⟨⟨⟨⟨⟨⟨⟨h1, h2⟩, h3⟩, h4⟩, h5⟩, h6⟩, h7⟩, h8⟩ := h
  refine ⟨⟨h2, h3, h4, h1⟩, h7, h8, fun i hi => ⟨h1, fun y hy => lookup_mem h3 hy, fun p hp => ?_, fun y hy e => ?_, fun y hy e => ?_⟩⟩
  · obtain rfl : p = (x, i) := by simpa using hp
    exact hi
  · rcases h5 y hy with z | z | z
    · exact absurd e z
    · exact .inl (c.look _ z).1
    · exact c.look _ z
  · rcases h6 y hy with z | z | z
    · rcases e with e | e <;> simp [e] at z
    · exact .inl (by simp [z])
    · exact .inr z
theorem relabel_lookup {names : List (Str × NameKind)} {f : NameKind → Bool} {x : Str} {j : NameKind} (g : Str → Bool) (h : names.lookup x = some j) :
    (names.map fun p => if (f p.2 && g p.1) = true then (p.1, NameKind.cell) else p).lookup x = some (if (f j && g x) = true then NameKind.cell else j) := by
  induction names with
  | nil => cases h
  | cons p r ih =>
    obtain ⟨y, i⟩ := p
    rw [List.map_cons]
    by_cases e : x = y
    · subst e
      have e1 : i = j := by simpa [List.lookup] using h
      subst e1
      split <;> simp [List.lookup, *]
    · have hb : (x == y) = false := beq_eq_false_iff_ne.mpr e
      have h' : r.lookup x = some j := by simpa [List.lookup, hb] using h
      have ih' := ih h'
      split
      · simpa [List.lookup, hb] using ih'
      · simpa [List.lookup, hb] using ih'
theorem Ctx.blk (c : Ctx X N L k) (S : Scp scope Lc) (s : Shared) (Hb : Hp) (C : Addr) (cl : List (Str × Addr)) (fp : List Addr) : Ctx (X.blk s Hb scope (compEnvC scope cl C X.env) fp) N Lc k where
  n := c.n
  nd := c.nd
  look := fun p hp => by
    obtain ⟨x, m⟩ := p
    obtain ⟨j, h1, h2⟩ := knAll_mem (S.names _ hp)
    have e := lookup_mem S.lnd h1
    have e2 := relabel_lookup (f := fun k => k == NameKind.free && X.env.scope.kind == .function) (fun n => X.env.kindOf n == some .cell) e
    have e3 : (X.blk s Hb scope (compEnvC scope cl C X.env) fp).env.scope.names.lookup x = some (if ((j == NameKind.free && X.env.scope.kind == .function) && X.env.kindOf x == some .cell) = true then NameKind.cell else j) := e2
    cases j <;> simp only [knOf] at h2 <;> cases h2
    · exact e3
    · refine ⟨e3, ?_⟩
      show (scope.names.lookup x == some .cell) = true
      rw [e]
      rfl
    · show _ ∨ _
      rw [e3]
      split
      · exact .inl rfl
      · exact .inr rfl
    · exact e3
  dbg := S.dbg
  calm := c.calm
  room := c.room
  po := PassesOwn.never
  kind := by
    have e : (compEnvC scope cl C X.env).scope.kind = scope.kind := rfl
    exact e.trans S.kind
def REA (X : Cx) (N : List Str) (Lc : List (Str × KN)) (k : Nat) (scope : Scope) (e : Expr) : TE := fun σ H Q =>
  ∀ (s : Shared) (Hb : Hp) (C : Addr) (cl : List (Str × Addr)) (fp : List Addr), Ctx (X.blk s Hb scope (compEnvC scope cl C X.env) fp) N Lc k → RE (X.blk s Hb scope (compEnvC scope cl C X.env) fp) e σ H Q
def RTA (X : Cx) (N : List Str) (Lc : List (Str × KN)) (k : Nat) (scope : Scope) (ifs : List Expr) : TT := fun σ H Q =>
  ∀ (s : Shared) (Hb : Hp) (C : Addr) (cl : List (Str × Addr)) (fp : List Addr), Ctx (X.blk s Hb scope (compEnvC scope cl C X.env) fp) N Lc k → RTs (X.blk s Hb scope (compEnvC scope cl C X.env) fp) ifs σ H Q
theorem PE.rea (c : Ctx X N L k) (S : Scp scope Lc) {e : Expr} (s : Shared) (Hb : Hp) (C : Addr) (cl : List (Str × Addr)) (fp : List Addr) : PE (X.blk s Hb scope (compEnvC scope cl C X.env) fp) e (REA X N Lc k scope e) :=
  ⟨fun pins s1 σ H Q I h => PE.self.run pins s1 σ H Q I (h s Hb C cl fp (c.blk S s Hb C cl fp))⟩
theorem PTs.rta (c : Ctx X N L k) (S : Scp scope Lc) {ifs : List Expr} (s : Shared) (Hb : Hp) (C : Addr) (cl : List (Str × Addr)) (fp : List Addr) : PTs (X.blk s Hb scope (compEnvC scope cl C X.env) fp) ifs (RTA X N Lc k scope ifs) :=
  ⟨fun pins s1 σ H Q I h => PTs.self.run pins s1 σ H Q I (h s Hb C cl fp (c.blk S s Hb C cl fp))⟩
/-- what a comprehension asks of its turns: y the item, Dn the new list -/
def CTurns (X : Cx) (N : List Str) (Lc : List (Str × KN)) (k : Nat) (scope : Scope) (x : Str) (elt : Expr) (ifs : List Expr) (stand : Hp → Prop) (n : Nat) (it : Nat → V → Prop) (σ : L2.St) (H1 : Hp) (Q : VK) : Prop :=
  ∀ Dn, H1 Dn = none → ∃ Pv : Nat → Hp → Prop, Pv 0 (upd H1 Dn (.lst [])) ∧ (∀ i H, i ≤ n → Pv i H → stand H) ∧
    (∀ i y H2, i < n → it i y → Pv i H2 → ∃ σ', Put N σ x y σ' ∧ RTA X N Lc k scope ifs σ' H2 fun b H3 =>
      if b = true then REA X N Lc k scope elt σ' H3 fun z H4 => ∃ acc, H4 Dn = some (.lst acc) ∧ acc.length < sizeLine ∧ Pv (i + 1) (upd H4 Dn (.lst (acc ++ [z]))) else Pv (i + 1) H3) ∧ ∀ H2, Pv n H2 → Q (.ref Dn) H2
theorem set_back {σ : L2.St} {i : Nat} {v : V} : wipe ((wipe σ [i]).set i (some v)) [i] = wipe σ [i] := by
  show (((σ.set i none).set i (some v)).set i none) = σ.set i none
  rw [List.set_set, List.set_set]
theorem set_on {σ : L2.St} {i : Nat} {v : V} : (wipe σ [i]).set i (some v) = σ.set i (some v) := by
  show ((σ.set i none).set i (some v)) = σ.set i (some v)
  rw [List.set_set]
section
variable {x : Str} {elt : Expr} {ifs : List Expr}
theorem blk_at (c : Ctx X N L k) (S : Scp scope Lc) (hx : x ∈ N) (hl : (x, KN.loc) ∈ Lc) (ok : ∀ i : Nat, N[i]? = some x → BlkOk N X.env.scope scope [(x, i)]) :
    ∃ i : Nat, (∀ {σ σ' : L2.St} {v : V}, Put N σ x v σ' → σ' = σ.set i (some v)) ∧ BlkOk X.N X.env.scope scope [(x, i)] ∧
      ∀ (s : Shared) (Hb : Hp) (C : Addr) (cl : List (Str × Addr)) (fp : List Addr), PG (X.blk s Hb scope (compEnvC scope cl C X.env) fp) (.Name x p0) (gName i) := by
  obtain ⟨i, h1, h2⟩ := c.put hx
  refine ⟨i, h2, ?_, fun s Hb C cl fp => ?_⟩
  · rw [c.n]
    rw [c.n] at h1
    exact ok i h1
  · have cb := c.blk S s Hb C cl fp
    exact pg_name c.nodup h1 (cb.loc hl .loc) (cb.fn hl .loc)
theorem lc_go {Itx : It} {n : Nat} {stand : Hp → Prop} {it : Nat → V → Prop} {H1 : Hp} {i : Nat} (hput : ∀ {σ σ' : L2.St} {v : V}, Put N σ x v σ' → σ' = σ.set i (some v))
    (W : Walk Itx n stand fun j H y H' => H' = H ∧ it j y) (q : CTurns X N Lc k scope x elt ifs stand n it σ H1 Q) :
    ∀ Dn, H1 Dn = none → ∃ W : Nat → Nat → Hp → Prop, (∃ m, W 0 m (upd H1 Dn (.lst []))) ∧ ∀ j m H, W j m H →
      (Itx.stop j H ∧ Q (.ref Dn) H) ∨ (Itx.go j H ∧ ∃ Nx : Hp → Prop, (∀ H', Nx H' → ∃ m', m' < m ∧ W (j + 1) m' H') ∧ ∀ y H', Itx.yld j H y H' → gName i y (wipe σ [i]) H' fun σ2 H2 => wipe σ2 [i] = wipe σ [i] ∧ RTA X N Lc k scope ifs σ2 H2 fun b H3 =>
        if b = true then REA X N Lc k scope elt σ2 H3 fun z H4 => ∃ acc, H4 Dn = some (.lst acc) ∧ acc.length < sizeLine ∧ Nx (upd H4 Dn (.lst (acc ++ [z]))) else Nx H3) := by
  intro Dn hD
  obtain ⟨Pv, p1, p2, p3, p4⟩ := q Dn hD
  refine lc_it W (g := gName i) (tt := RTA X N Lc k scope ifs) (te := REA X N Lc k scope elt) (vs := [i]) (σ := σ) Pv p1 p2 (fun j y H H' hj p hy => ?_) p4
  obtain ⟨rfl, hy⟩ := hy
  obtain ⟨σ', hp, r⟩ := p3 j y H' hj hy p
  refine ⟨set_back, ?_⟩
  rw [set_on, ← hput hp]
  exact r
theorem re_lc_list (c : Ctx X N L k) (Lc : List (Str × KN)) (hok : lcOk N L scope Lc x = true) {l : Expr}
    (q : RE X l σ H fun v H1 => ∃ a xs, v = .ref a ∧ SqL X.K H1 a xs ∧ CTurns X N Lc k scope x elt ifs (fun H => SqL X.K H a xs) xs.length (fun i y => xs[i]? = some y) σ H1 Q)
    (hs : ∀ x, foldedSetIterable l X.env x = pure x := by intro _; with_unfolding_all rfl) : RE X (.ListComp elt [⟨.Name x p0, l, ifs, 0⟩] scope pos) σ H Q := by
  obtain ⟨S, hx, hl, ok⟩ := lcOk_of c hok
  obtain ⟨i, hput, bk, g⟩ := blk_at (p0 := p0) c S hx hl ok
  refine re_of (pe_lc c.calm c.nodup (pi_list PE.self) bk g (fun s H C cl fp => PTs.rta c S s H C cl fp) (fun s H C cl fp => PE.rea c S s H C cl fp) hs) ?_
  refine pe_mono q fun v H1 ⟨a, xs, e, h1, q1⟩ => ⟨a, e, ⟨xs, h1⟩, lc_go hput walk_list q1⟩
theorem re_lc_range (c : Ctx X N L k) (Lc : List (Str × KN)) (hok : lcOk N L scope Lc x = true) {e : Expr} (hg : (("range" : Str), KN.glob) ∈ L) (hm : X.mg "range" = none)
    (q : RE X e σ H fun v H1 => ∃ n : Int, v = .int n ∧ -(2 ^ 62) ≤ n ∧ n < 2 ^ 62 ∧ CTurns X N Lc k scope x elt ifs (fun _ => True) n.toNat (fun i y => y = .int i) σ H1 Q)
    (hs : ∀ x, foldedSetIterable (.Call (.Name "range" p1) [e] [] p2) X.env x = pure x := by intro _; with_unfolding_all rfl) (hsE : starEach [e] X.env = [(false, eval e X.env)] := by with_unfolding_all rfl) : RE X (.ListComp elt [⟨.Name x p0, .Call (.Name "range" p1) [e] [] p2, ifs, 0⟩] scope pos) σ H Q := by
  obtain ⟨S, hx, hl, ok⟩ := lcOk_of c hok
  obtain ⟨i, hput, bk, g⟩ := blk_at (p0 := p0) c S hx hl ok
  refine re_of (pe_lc c.calm c.nodup (pi_range1 (c.gl hg) hm PA.self hsE) bk g (fun s H C cl fp => PTs.rta c S s H C cl fp) (fun s H C cl fp => PE.rea c S s H C cl fp) hs) ?_
  refine ra_cons (pe_mono q fun v H1 ⟨n, e, n1, n2, q1⟩ => ra_nil ⟨n, by rw [e], n1, n2, ?_⟩) hsE
  refine lc_go hput (walk_range.mono (fun _ h => h) fun j H y H' hj _ hy => ?_) q1
  obtain ⟨h1, h2⟩ := hy
  exact ⟨h1, by rw [h2]; simp⟩
/-- y = [..] on one line -/
theorem rs_lc_list (c : Ctx X N L k) (Lc : List (Str × KN)) (hok : lcOk N L scope Lc x = true) {l : Expr} {y : Str} {py cp : Pos} (hy : (y, KN.loc) ∈ L) (my : y ∈ N)
    (q : RE X l σ H fun v H1 => ∃ a xs, v = .ref a ∧ SqL X.K H1 a xs ∧ CTurns X N Lc k scope x elt ifs (fun H => SqL X.K H a xs) xs.length (fun i y => xs[i]? = some y) σ H1 fun v H2 => ∃ σ', Put N σ y v σ' ∧ D.nx σ' H2)
    (hln : (py.line == cp.line) = true := by with_unfolding_all rfl) (ha : (scope.names.any fun (n, k) => n == y && (k == .local || k == .cell)) = false := by decide +kernel)
    (hs : ∀ x, foldedSetIterable l X.env x = pure x := by intro _; with_unfolding_all rfl) : RS X (.Assign [.Name y py] (.ListComp elt [⟨.Name x p0, l, ifs, 0⟩] scope cp) pos) D σ H := by
  obtain ⟨S, hx, hl, ok⟩ := lcOk_of c hok
  obtain ⟨i, hput, bk, g⟩ := blk_at (p0 := p0) c S hx hl ok
  obtain ⟨i2, h1, h2⟩ := c.put my
  refine rs_of (ps_setLc (i := i2) c.calm c.nodup h1 (c.lcl hy) (sw_true c.kind (c.lcl hy) hln ha) (pi_list PE.self) bk g (fun s H C cl fp => PTs.rta c S s H C cl fp) (fun s H C cl fp => PE.rea c S s H C cl fp) hs) ?_
  refine pe_mono q fun v H1 ⟨a, xs, e, h1, q1⟩ => ⟨a, e, ⟨xs, h1⟩, lc_go hput (walk_list (xs := xs)) (Q := fun v H1 => D.nx (σ.set i2 (some v)) H1) (fun Dn hD => ?_ : CTurns X N Lc k scope x elt ifs (fun H => SqL X.K H a xs) xs.length (fun i y => xs[i]? = some y) σ H1 fun v H1 => D.nx (σ.set i2 (some v)) H1)⟩
  obtain ⟨Pv, a1, a2, a3, a4⟩ := q1 Dn hD
  refine ⟨Pv, a1, a2, a3, fun H2 hp => ?_⟩
  obtain ⟨σ', p, d⟩ := a4 H2 hp
  rw [h2 p] at d
  exact d
end
end
end GT
namespace GT
open PySem PySem.Spec PyProof.Rows L2
/-- the def that st says, as it stands behind the top -/
abbrev FnP (K : PySem.W.Frag) (x : Str) (st : Stmt) (f : Addr) (fd : FuncData) : Prop := FunD K x x (defArgs st) (defBody st) (defScope st) [] [] f fd
/-- a context of this program and heap -/
structure At5 (X : Cx) (P : Program) (w : World) (K : PySem.W.Frag) (mg : Str → Option Value) (base : Heap) : Prop where
  p : X.prog = P
  w : X.w = w
  k : X.K = K
  m : X.mg = mg
  b : X.base = base
/-- what is known of a def's names (each line by decide +kernel) -/
structure Nms (st : Stmt) (N ps : List Str) (L : List (Str × KN)) : Prop where
  S : FnScope N ps (defScope st)
  kl : ∀ p ∈ L, p ∈ knAll (defScope st).names
  nd : ((defScope st).names.map (·.1)).Nodup
  db : ∀ p ∈ L, okName p.1 = true
section
variable {P : Program} {w : World} {K : PySem.W.Frag} {mg : Str → Option Value} {base : Heap} {CXs : CXT} {x : Str} {st : Stmt} {N ps : List Str} {L : List (Str × KN)} {k : Nat} {sp : Sp} {f : Addr} {fd : FuncData}
theorem knIs_of {X : Cx} {st : Stmt} (M : Nms st N ps L) (e : X.env.scope = defScope st) (hf : ∀ x, X.fn x = true) : ∀ p ∈ L, KnIs X p.1 p.2 := fun p hp => by
  obtain ⟨x, m⟩ := p
  obtain ⟨j, h1, h2⟩ := knAll_mem (M.kl _ hp)
  have e1 : X.env.scope.names.lookup x = some j := by
    rw [e]
    exact lookup_mem M.nd h1
  cases j <;> simp only [knOf] at h2 <;> cases h2
  · exact e1
  · exact ⟨e1, hf x⟩
  · exact .inr e1
  · exact e1
/-- a def that raises nothing keeps its promise -/
theorem defP_of (F : FnP K x st f fd) (gx : mg x = some (.ref f)) (M : Nms st N ps L) (hb : Binds K fd ps []) (len : ∀ vs H Q E, sp vs H Q E → vs.length = ps.length)
    (body : ∀ (X : Cx), Ctx X N L k → At5 X P w K mg base → ∀ (vs : List V) (H : Hp) (Q : VK) (E : XK), sp vs H Q E → RB X (defBody st) { nx := fun _ H' => Q .non H', rt := Q } (start N vs) H) : DefP P w K mg base CX0 x ps (k + 1) sp := by
  refine ⟨f, fd, F.ok M.S len (fun cdv A outer s H vs Q E hr h => ?_), gx, F.kp, hb⟩
  have c : Ctx (cxOf CX0 P w K mg base N x (defScope st) f cdv A outer s H E).nox N L k := ⟨rfl, M.S.nd, knIs_of M rfl (fun _ => rfl), M.db, rfl, hr, PassesOwn.never, M.S.kind⟩
  obtain ⟨t, ht, q⟩ := (body _ c ⟨rfl, rfl, rfl, rfl, rfl⟩ vs H Q E h).ex
  exact ⟨t, ht.nox, q⟩
theorem DefP.at5 {X : Cx} {n : Nat} (d : DefP P w K mg base CXs x ps n sp) (a : At5 X P w K mg base) : DefP X.prog X.w X.K X.mg X.base CXs x ps n sp := by
  obtain ⟨p1, p2, p3, p4, p5⟩ := a
  rw [p1, p2, p3, p4, p5]
  exact d
end
/-! ### frames -/
/-- what stands outside of the addresses of B is as it was -/
def Fr (B : Addr → Prop) (H H' : Hp) : Prop := ∀ a o, ¬ B a → H a = some o → H' a = some o
abbrev NoB : Addr → Prop := fun _ => False
section
variable {B : Addr → Prop} {K : PySem.W.Frag} {H H1 H2 : Hp} {a p : Addr} {o : HO} {xs : List V}
theorem Fr.refl : Fr B H H := fun _ _ _ h => h
theorem Fr.trans (h : Fr B H H1) (g : Fr B H1 H2) : Fr B H H2 := fun a o n e => g a o n (h a o n e)
theorem Fr.any (h : Fr NoB H H1) : Fr B H H1 := fun a o _ e => h a o (fun z => z) e
theorem Fr.new (h : H p = none) : Fr B H (upd H p o) := fun a u _ e => by
  rw [upd_ne (ne_of_none e h)]
  exact e
theorem Fr.seqL (f : Fr B H H1) (n : ¬ B a) (h : SqL K H a xs) : SqL K H1 a xs := by
  rcases h with (h | ⟨o, h⟩) | h
  · exact .inl (.inl (f _ _ n h))
  · exact .inl (.inr ⟨o, f _ _ n h⟩)
  · exact .inr h
theorem Fr.seqT (f : Fr B H H1) (n : ¬ B a) (h : SqT K H a xs) : SqT K H1 a xs := by
  rcases h with (h | ⟨o, h⟩) | h
  · exact .inl (.inl (f _ _ n h))
  · exact .inl (.inr ⟨o, f _ _ n h⟩)
  · exact .inr h
theorem Fr.free (f : Fr NoB H H1) (h : H1 a = .none) : H a = .none := by
  cases e : H a with
  | none => rfl
  | some o =>
    rw [f a o (fun z => z) e] at h
    cases h
theorem Fr.gone (f : Fr B H H1) (n : ¬ B p) (h : H1 p = .none) : H p = .none := by
  cases e : H p with
  | none => rfl
  | some o =>
    rw [f p o n e] at h
    cases h
/-- an object that was not there at first is written -/
theorem Fr.put (f : Fr B H H1) (h : H p = .none) : Fr B H (upd H1 p o) := fun a u n e => by
  rw [upd_ne (ne_of_none e h)]
  exact f a u n e
end
/-! ### data -/
inductive D where
  | non | bl (b : Bool) | int (i : Int) | str (s : Str) | lst (l : List D) | tup (l : List D)
/-- v bears the data d: what it reaches stands outside of B -/
inductive Dt (K : PySem.W.Frag) (B : Addr → Prop) (H : Hp) : V → D → Prop
  | non : Dt K B H .non .non
  | bl {b : Bool} : Dt K B H (.bl b) (.bl b)
  | int {i : Int} : Dt K B H (.int i) (.int i)
  | str {s : Str} : Dt K B H (.str s) (.str s)
  | lst {a : Addr} {vs : List V} {ds : List D} (n : ¬ B a) (t : H a = some (.lst vs)) (l : vs.length = ds.length) (h : ∀ (i : Nat) v d, vs[i]? = some v → ds[i]? = some d → Dt K B H v d) : Dt K B H (.ref a) (.lst ds)
  | tup {a : Addr} {vs : List V} {ds : List D} (n : ¬ B a) (t : H a = some (.tup vs)) (l : vs.length = ds.length) (h : ∀ (i : Nat) v d, vs[i]? = some v → ds[i]? = some d → Dt K B H v d) : Dt K B H (.ref a) (.tup ds)
theorem Dt.fr {K : PySem.W.Frag} {B : Addr → Prop} {H H' : Hp} {v : V} {d : D} (h : Dt K B H v d) (f : Fr B H H') : Dt K B H' v d := by
  induction h with
  | non => exact .non
  | bl => exact .bl
  | int => exact .int
  | str => exact .str
  | lst n t l _ ih => exact .lst n (f _ _ n t) l ih
  | tup n t l _ ih => exact .tup n (f _ _ n t) l ih
theorem Dt.mono {K : PySem.W.Frag} {B B' : Addr → Prop} {H : Hp} {v : V} {d : D} (h : Dt K B H v d) (s : ∀ a, B' a → B a) : Dt K B' H v d := by
  induction h with
  | non => exact .non
  | bl => exact .bl
  | int => exact .int
  | str => exact .str
  | lst n t l _ ih => exact .lst (fun z => n (s _ z)) t l ih
  | tup n t l _ ih => exact .tup (fun z => n (s _ z)) t l ih
/-- row by row -/
def Dts (K : PySem.W.Frag) (B : Addr → Prop) (H : Hp) (vs : List V) (ds : List D) : Prop := vs.length = ds.length ∧ ∀ (i : Nat) v d, vs[i]? = some v → ds[i]? = some d → Dt K B H v d
theorem Dts.nil {K : PySem.W.Frag} {B : Addr → Prop} {H : Hp} : Dts K B H [] [] := ⟨rfl, fun i v d h => by simp at h⟩
theorem Dts.cons {K : PySem.W.Frag} {B : Addr → Prop} {H : Hp} {v : V} {d : D} {vs : List V} {ds : List D} (h : Dt K B H v d) (t : Dts K B H vs ds) : Dts K B H (v :: vs) (d :: ds) := by
  refine ⟨by rw [List.length_cons, List.length_cons, t.1], fun i u e h1 h2 => ?_⟩
  cases i with
  | zero =>
    simp at h1 h2
    subst h1 h2
    exact h
  | succ i => exact t.2 i u e (by simpa using h1) (by simpa using h2)
theorem Dts.fr {K : PySem.W.Frag} {B : Addr → Prop} {H H' : Hp} {vs : List V} {ds : List D} (h : Dts K B H vs ds) (f : Fr B H H') : Dts K B H' vs ds := ⟨h.1, fun i v d a b => (h.2 i v d a b).fr f⟩
theorem Dt.ofT {K : PySem.W.Frag} {B : Addr → Prop} {H : Hp} {a : Addr} {vs : List V} {ds : List D} (n : ¬ B a) (t : H a = some (.tup vs)) (h : Dts K B H vs ds) : Dt K B H (.ref a) (.tup ds) := .tup n t h.1 h.2
theorem Dt.ofL {K : PySem.W.Frag} {B : Addr → Prop} {H : Hp} {a : Addr} {vs : List V} {ds : List D} (n : ¬ B a) (t : H a = some (.lst vs)) (h : Dts K B H vs ds) : Dt K B H (.ref a) (.lst ds) := .lst n t h.1 h.2
/-- a new tuple, a new list, of data -/
theorem Dt.newT {K : PySem.W.Frag} {B : Addr → Prop} {H : Hp} {p : Addr} {vs : List V} {ds : List D} (hp : H p = none) (n : ¬ B p) (h : Dts K B H vs ds) : Dt K B (upd H p (.tup vs)) (.ref p) (.tup ds) := .ofT n upd_same (h.fr (Fr.new hp))
theorem Dt.newL {K : PySem.W.Frag} {B : Addr → Prop} {H : Hp} {p : Addr} {vs : List V} {ds : List D} (hp : H p = none) (n : ¬ B p) (h : Dts K B H vs ds) : Dt K B (upd H p (.lst vs)) (.ref p) (.lst ds) := .ofL n upd_same (h.fr (Fr.new hp))
/-! ### the box of a law's draws -/
/-- the two numbers: what is left of a great one, and the state of the draws -/
def BoxAt (H : Hp) (b : Addr) : Prop := ∃ g r : Int, H b = some (.lst [.int g, .int r]) ∧ 0 ≤ g ∧ 0 ≤ r ∧ r < 2 ^ 32
theorem BoxAt.fr {H H' : Hp} {b : Addr} (h : BoxAt H b) (f : Fr NoB H H') : BoxAt H' b := by
  obtain ⟨g, r, h1, h2⟩ := h
  exact ⟨g, r, f _ _ (fun z => z) h1, h2⟩
theorem BoxAt.ne {H : Hp} {b p : Addr} (h : BoxAt H b) (hp : H p = none) : ¬ p = b := by
  obtain ⟨g, r, h1, _⟩ := h
  exact fun e => by rw [e, h1] at hp; cases hp
theorem BoxAt.put {H : Hp} {b p : Addr} {o : HO} (h : BoxAt H b) (n : ¬ p = b) : BoxAt (upd H p o) b := by
  obtain ⟨g, r, h1, h2⟩ := h
  exact ⟨g, r, by rw [upd_ne (fun e => n e.symm)]; exact h1, h2⟩
end GT
namespace GT
open PySem PySem.Spec PyProof.Rows L2
section
variable {X : Cx} {σ : L2.St} {H : Hp} {N : List Str} {L Lc : List (Str × KN)} {k : Nat} {pos p0 p1 p2 : Pos} {Q : VK}
/-- s.index(sign), the sign there -/
theorem re_sindex {o e : Expr} {apos : Pos} (hc : X.calm = true) (q : RE X o σ H fun x H1 => ∃ a, x = .str a ∧ RE X e σ H1 fun y H2 => ∃ b k, y = .str b ∧ Txt.index0 a b = some k ∧ Q (.int (k : Nat)) H2)
    (hbase : attributeBase o "index" X.env (eval o X.env) = eval o X.env := by with_unfolding_all rfl)
    (hfew : ((backTo pos (starEach [e] X.env)).all (fun x => !x.1) && (backToKw pos (keywordEach [] X.env)).all (fun x => x.1.isSome) && decide (([e] : List Expr).length + ([] : List Keyword).length + (if ([] : List Keyword).isEmpty then 0 else 1) < 30)) = true := by with_unfolding_all rfl)
    (hline : (apos.endLine == pos.line) = true := by with_unfolding_all rfl) (hs : starEach [e] X.env = (false, eval e X.env) :: starEach [] X.env := by with_unfolding_all rfl) (hplain : (backTo pos (starEach [] X.env)).any (·.1) = false := by with_unfolding_all rfl) :
    RE X (.Call (.Attribute o "index" apos) [e] [] pos) σ H Q := by
  refine re_of (pe_bmS PySem.F.plainAttrs_str PySem.F.slot_str_index PySem.F.type_str_index (mt_indexX hc (W := fun _ _ _ _ => False) L2.takes0) PE.self PA.self hbase hfew hline hs hplain) ?_
  refine pe_mono q fun x H1 ⟨a, e1, q1⟩ => ?_
  subst e1
  refine ⟨rfl, ra_cons (pe_mono q1 fun y H2 ⟨b, k, e2, h2, q2⟩ => ra_nil ⟨a, b, rfl, by rw [e2], fun k' hk => ?_, fun hn => ?_⟩) hs⟩
  · rw [h2] at hk
    cases hk
    exact q2
  · rw [h2] at hn
    cases hn
end
/-! ### texts of small letters -/
def Low (z : Str) : Prop := ∀ c ∈ z.cps.toList, 97 ≤ c ∧ c ≤ 122
/-- a label -/
def Lab (z : Str) : Prop := 1 ≤ z.length ∧ z.length ≤ 8 ∧ Low z
def slt (a b : Str) : Bool := decide (a.cps.toList < b.cps.toList)
theorem lt_at {a b : List Nat} : ∀ {i x y : Nat}, (∀ j, j < i → a[j]? = b[j]?) → a[i]? = some x → b[i]? = some y → x ≠ y → (a < b ↔ x < y) := by
  induction a generalizing b with
  | nil => intro i x y _ h; simp at h
  | cons u a ih =>
    intro i x y h1 h2 h3 h4
    cases b with
    | nil => simp at h3
    | cons v b =>
      cases i with
      | zero =>
        simp at h2 h3
        subst h2 h3
        rw [List.cons_lt_cons_iff]
        constructor
        · rintro (h | ⟨h, _⟩)
          · exact h
          · exact absurd h h4
        · exact Or.inl
      | succ i =>
        have e : u = v := by simpa using h1 0 (by omega)
        subst e
        rw [List.cons_lt_cons_iff]
        have := ih (b := b) (i := i) (x := x) (y := y) (fun j hj => by simpa using h1 (j + 1) (by omega)) (by simpa using h2) (by simpa using h3) h4
        rw [this]
        constructor
        · rintro (h | ⟨_, h⟩)
          · omega
          · exact h
        · exact fun h => Or.inr ⟨rfl, h⟩
theorem lt_len {a b : List Nat} : (∀ j, j < min a.length b.length → a[j]? = b[j]?) → (a < b ↔ a.length < b.length) := by
  induction a generalizing b with
  | nil =>
    intro _
    cases b with
    | nil => simp
    | cons v b => simp
  | cons u a ih =>
    intro h
    cases b with
    | nil => simp
    | cons v b =>
      have e : u = v := by simpa using h 0 (by simp)
      subst e
      rw [List.cons_lt_cons_iff, ih (b := b) (fun j hj => by simpa using h (j + 1) (by simp; omega))]
      simp
theorem abc_at : ∀ c : Nat, 97 ≤ c → c ≤ 122 → Txt.index0 "abcdefghijklmnopqrstuvwxyz" ⟨#[c]⟩ = some (c - 97) := by
  have h : ∀ i : Fin 26, Txt.index0 "abcdefghijklmnopqrstuvwxyz" ⟨#[97 + i.val]⟩ = some i.val := by decide +kernel
  intro c h1 h2
  have := h ⟨c - 97, by omega⟩
  have e : 97 + (c - 97) = c := by omega
  simpa [e] using this
end GT
namespace GT
open PySem PySem.Spec PyProof.Rows L2
theorem Put.slot {N : List Str} {σ σ' : L2.St} {x : Str} {v : V} (h : Put N σ x v σ') : Slot N σ' x v := by
  induction h with
  | here => exact .here
  | there _ ih => exact .there ih
section
variable {X : Cx} {σ : L2.St} {H1 : Hp} {N : List Str} {L Lc : List (Str × KN)} {k : Nat} {pe : Pos} {Q : VK} {scope : Scope} {x : Str} {t : Expr} {a : Addr} {xs : List V}
theorem filter_succ {α : Type} {f : α → Bool} {l : List α} {i : Nat} {y : α} (h : l[i]? = some y) : (l.take (i + 1)).filter f = (l.take i).filter f ++ (if f y = true then [y] else []) := by
  rw [List.take_succ, h, List.filter_append]
  simp [List.filter]
  split <;> simp_all
/-- [x for x in xs if t]: t tells f of the item and changes nothing -/
theorem cturns_filter {f : V → Bool} (hl : xs.length < sizeLine) (hq : SqL X.K H1 a xs) (hx : (x, KN.loc) ∈ Lc) {σf : V → L2.St} (hp : ∀ y, Put N σ x y (σf y))
    (ht : ∀ (y : V) (H' : Hp), y ∈ xs → Fr NoB H1 H' → ∀ (s : Shared) (Hb : Hp) (C : Addr) (cl : List (Str × Addr)) (fp : List Addr), Ctx (X.blk s Hb scope (compEnvC scope cl C X.env) fp) N Lc k →
      RT (X.blk s Hb scope (compEnvC scope cl C X.env) fp) t (σf y) H' fun b H'' => b = f y ∧ Fr NoB H' H'')
    (q : ∀ (Dn : Addr) (H' : Hp), H1 Dn = none → Fr NoB H1 H' → H' Dn = some (.lst (xs.filter f)) → Q (.ref Dn) H') :
    CTurns X N Lc k scope x (.Name x pe) [t] (fun H => SqL X.K H a xs) xs.length (fun i y => xs[i]? = some y) σ H1 Q := by
  intro Dn hD
  refine ⟨fun i H' => H' Dn = some (.lst ((xs.take i).filter f)) ∧ Fr NoB H1 H', ⟨upd_same, Fr.new hD⟩, fun i H _ h => h.2.seqL (fun z => z) hq, ?_, ?_⟩
  · rintro i y H' hi hy ⟨h1, h2⟩
    refine ⟨σf y, hp y, fun s Hb C cl fp cb => rts_one (rt_mono (ht y H' (List.mem_of_getElem? hy) h2 s Hb C cl fp cb) ?_)⟩
    rintro b H'' ⟨e, f2⟩
    have e2 := f2 Dn _ (fun z => z) h1
    cases hb : f y with
    | false =>
      rw [e, hb]
      refine iteF ⟨?_, h2.trans f2⟩
      rw [filter_succ hy, hb, e2]
      simp
    | true =>
      rw [e, hb]
      refine iteT fun s Hb C cl fp cb => re_name cb (hp y).slot hx .loc ?_
      have hlen : ((xs.take i).filter f).length < sizeLine := Nat.lt_of_le_of_lt (Nat.le_trans (List.length_filter_le _ _) (by rw [List.length_take]; omega)) hl
      refine ⟨_, e2, hlen, ?_, (h2.trans f2).put hD⟩
      rw [upd_same, filter_succ hy, hb]
      rfl
  · rintro H' ⟨h1, h2⟩
    rw [List.take_length] at h1
    exact q Dn H' hD h2 h1
end
end GT
namespace GT
open PySem PySem.Spec PyProof.Rows L2
section
variable {X : Cx} {σ : L2.St} {H : Hp} {N : List Str} {L Lc : List (Str × KN)} {k : Nat} {pos p0 p1 p2 p3 : Pos} {Q : VK} {D : Ends}
/-! ### an own exception class with one field that its __init__ lays -/
theorem rs_ost {o e : Expr} {f : Str} {p' : Pos} (q : RE X e σ H fun y H1 => RE X o σ H1 fun x H2 => ∃ a C : Addr, x = .ref a ∧ OexC X.K C ∧ PySem.W.findIn X.K (.ref C) f = some none ∧ H2 a = some (exo a C none) ∧ ∀ dx, H2 dx = none → dx ≠ a → D.nx σ (upd (upd H2 dx (exd dx [(f, y)])) a (exo a C (some dx))))
    (hs : swapsWith e (some (.Attribute o f p')) pos.line X.env = pure false := by with_unfolding_all rfl) : RS X (.Assign [.Attribute o f p'] e pos) D σ H :=
  rs_of (ps_ost PE.self PE.self hs) (pe_mono q fun y H1 q1 => pe_mono q1 fun x H2 ⟨a, C, e1, T, n, h, q2⟩ => ⟨a, C, e1, T, n, .inl ⟨h, q2⟩⟩)
/-- the promise of such an __init__ -/
def spIni (K : PySem.W.Frag) (fl : Str) : Sp := fun vs H Q _ => ∃ (a C : Addr) (v : V), vs = [.ref a, v] ∧ OexC K C ∧ PySem.W.findIn K (.ref C) fl = some none ∧ H a = some (exo a C none) ∧
  ∀ dx, H dx = none → dx ≠ a → Q .non (upd (upd H dx (exd dx [(fl, v)])) a (exo a C (some dx)))
structure ErrC (P : Program) (w : World) (K : PySem.W.Frag) (mg : Str → Option Value) (base : Heap) (nm fl : Str) (C : Addr) : Prop where
  oex : OexC K C
  gC : mg nm = some (.ref C)
  no : PySem.W.findIn K (.ref C) fl = some none
  xf : XfC K C
  ini : ∃ (fI : Addr) (fd : FuncData) (ps : List Str), PySem.W.findIn K (.ref C) "__init__" = some (some (.ref fI)) ∧ PySem.W.typeIn K (.ref fI) = some (.type "function") ∧ FnOk P w K mg base CX0 1 fI fd ps (spIni K fl) ∧ Binds K fd ps []
/-- raise C(e) -/
theorem rs_raise (c : Ctx X N L k) {nm fl : Str} {C : Addr} (EC : ErrC X.prog X.w X.K X.mg X.base nm fl C) (hk : 2 ≤ k) (hg : (nm, KN.glob) ∈ L) {W : WX} (tk : Takes X W) {e : Expr}
    (q : RE X e σ H fun v H1 => ∀ d, H1 d = none → W (.ref C) (some d) σ (upd H1 d (.xd [(fl, v)])))
    (he : starEach (e :: []) X.env = (false, eval e X.env) :: starEach [] X.env := by with_unfolding_all rfl) (hpl : (backTo p1 (starEach [] X.env)).any (·.1) = false := by with_unfolding_all rfl) :
    RS X (.Raise (some (.Call (.Name nm p0) [e] [] p1)) none pos) D σ H := by
  obtain ⟨fI, fd, ps, iC, tI, F1, hb⟩ := EC.ini
  refine rs_of (ps_raise c.calm tk (pmk_oex EC.oex iC tI F1 (c.room.mono hk) hb .nil pass0 (c.gl hg) EC.gC PA.self (c.d1 hg) he hpl)) ?_
  refine ra_cons (pe_mono q fun v H1 q1 => ra_nil ⟨by show 1 ≤ 1000; decide, fun a ha => ⟨a, C, v, rfl, EC.oex, EC.no, upd_same, fun d hd hda => ?_⟩⟩) he
  have hd1 : H1 d = none := by rwa [upd_ne hda] at hd
  refine ⟨rfl, d, [(fl, v)], upd_same, ?_, hd1, ?_⟩
  · rw [upd_ne hda, upd_same]
  · have e1 : upd (del (upd (upd (upd H1 a (exo a C none)) d (exd d [(fl, v)])) a (exo a C (some d))) a) d (.xd [(fl, v)]) = upd H1 d (.xd [(fl, v)]) := by
      funext b
      by_cases hb1 : b = d
      · subst hb1
        rw [upd_same, upd_same]
      · rw [upd_ne hb1, upd_ne hb1]
        by_cases hb2 : b = a
        · subst hb2
          rw [del_same, ha]
        · rw [del_ne hb2, upd_ne hb2, upd_ne hb1, upd_ne hb2]
    rw [e1]
    exact q1 d hd1
/-! ### within an except suite -/
structure CtxS (X : Cx) (N : List Str) (L : List (Str × KN)) : Prop where
  n : X.N = N
  nd : N.Nodup
  look : ∀ p ∈ L, KnIs X p.1 p.2
  dbg : ∀ p ∈ L, okName p.1 = true
theorem CtxS.gl (c : CtxS X N L) {x : Str} (h : (x, KN.glob) ∈ L) : Gl X x := c.look _ h
theorem re_nameS (c : CtxS X N L) {x : Str} {v : V} {j : KN} (s : Slot N σ x v) (h : (x, j) ∈ L) (m : Mine j) (q : Q v H) : RE X (.Name x pos) σ H Q := by
  obtain ⟨i, h1, h2⟩ := s.ix
  rw [← c.n] at h1
  obtain ⟨d1, d2, _⟩ := okName_of (c.dbg _ h)
  refine re_of (pe_var h1 ?_ d1 d2) ⟨_, h2, q⟩
  have e := c.look _ h
  cases m with
  | loc => exact Or.inl e
  | cell => exact Or.inr (Or.inl e.1)
  | cap => exact Or.inr e
theorem re_globS (c : CtxS X N L) {x : Str} {v : V} {u : Value} (h : (x, KN.glob) ∈ L) (hm : X.mg x = some u) (r : RelV v u) (q : Q v H) : RE X (.Name x pos) σ H Q := re_of (pe_glob (c.gl h) hm r (okName_of (c.dbg _ h)).1) q
theorem re_bltnS (c : CtxS X N L) {x : Str} {v : V} {u : Value} (h : (x, KN.glob) ∈ L) (hm : X.mg x = none) (hv : bootBuiltins x = some u) (r : RelV v u) (q : Q v H) : RE X (.Name x pos) σ H Q :=
  re_of (pe_bltn (c.gl h) hm hv r (okName_of (c.dbg _ h)).2.2 (okName_of (c.dbg _ h)).1) q
theorem rs_setS (c : CtxS X N L) {x : Str} {e : Expr} {pos' : Pos} (h : (x, KN.loc) ∈ L) (hx : x ∈ N) (q : RE X e σ H fun v H1 => ∃ σ', Put N σ x v σ' ∧ D.nx σ' H1) (hs : swapsWith e (some (.Name x pos')) pos.line X.env = pure false := by with_unfolding_all rfl) : RS X (.Assign [.Name x pos'] e pos) D σ H := by
  obtain ⟨i, h1⟩ := List.mem_iff_getElem?.mp hx
  have e1 := c.look _ h
  refine rs_of (ps_set (i := i) (by rw [c.n]; exact c.nd) (by rw [c.n]; exact h1) (Or.inl e1) PE.self hs (Or.inr e1)) (pe_mono q fun v H1 ⟨σ', hp, q1⟩ => ?_)
  obtain ⟨i', h2, h3⟩ := hp.ix
  have : i' = i := (List.getElem?_inj (by rcases Nat.lt_or_ge i' N.length with z | z; exact z; rw [List.getElem?_eq_none z] at h2; cases h2) c.nd).mp (h2.trans h1.symm)
  subst this
  subst h3
  exact q1
/-- what the class D says, so that isinstance asks its instances rightly -/
structure KitC (K : PySem.W.Frag) (D : Addr) : Prop where
  cl : (PySem.W.clsIn K D).isSome = true
  ga : PySem.W.findIn K (.ref D) "__getattribute__" = some (some (.builtin "BaseException.__getattribute__"))
  gg : PySem.W.findIn K (.ref D) "__getattr__" = some none
  sb : PySem.W.subIn K (.ref D) (.type "BaseException") = some true
  ca : PySem.W.findIn K (.ref D) "__class__" = some (some (.builtin "object.__class__"))
  gt : PySem.W.specialIn K (.builtin "object.__class__") "__get__" = some (some (.builtin "getset_descriptor.__get__"))
  tk : PySem.W.takesIn K (.builtin "object.__class__") = some true
  mo : PySem.W.mroIn K D (.type "object") = some true
/-- isinstance(e, c) and isinstance(e, (c, ..)), e the exception that the suite holds, with a dict -/
def rIsX (K : PySem.W.Frag) (D a dd : Addr) : List V → Hp → VK → Prop := fun xs H Q => ∃ (c : V) (b : Bool), xs = [.ref a, c] ∧ (∃ fs, H dd = some (.xd fs)) ∧ Q (.bl b) H ∧
  ((∃ u, ClsV c u ∧ PySem.W.kitOne K (.ref D) u = some b) ∨ ∃ (tp : Addr) (cs : List V) (us : List Value), c = .ref tp ∧ H tp = some (.tup cs) ∧ Paired ClsV cs us ∧ PySem.W.kitAny K (.ref D) us = some b)
theorem call_isX {a D dd : Addr} {oe : Obj} {pn : List (Addr × Obj)} (C : KitC X.K D) (hz : Zc (.ref D) (some dd) oe) (hf : ∃ vs, oe.data = .fields vs) : CallR (X.suite a ((a, oe) :: pn)) (.builtin "isinstance") (rIsX X.K D a dd) := by
  intro pins s σ H xs us Q I r h
  obtain ⟨c, b, rfl, ⟨fs, hd⟩, q, h⟩ := h
  cases r with
  | cons rx rr =>
    cases rr with
    | cons rt rr =>
      cases rr
      cases rx
      obtain ⟨hget, _⟩ := I.pin (a, oe) (List.mem_append.mpr (.inl List.mem_cons_self))
      obtain ⟨vs, hv⟩ := hf
      obtain ⟨mA, hns, hr⟩ := (show ObjOk X.prog X.w H s.heap dd (.xd fs) from I.hok dd _ hd)
      obtain ⟨od, ho, hl⟩ := lookIn_ns hns
      have J : PySem.W.InstAt s.heap a oe D (some od) := ⟨hget, hz.1, by unfold PySem.W.notCls; rw [hv] <;> rfl, by rw [hz.2]; exact ho⟩
      have Z := PySem.W.kitx_exc (x := a) (ox := oe) (od := some od) C.cl C.ga C.gg C.sb C.ca C.gt C.tk C.mo
      rcases h with ⟨u, k, e⟩ | ⟨tp, cs, ws, rfl, hT, k, e⟩
      · have e2 := k.eq rt
        subst e2
        exact PySem.W.kia_one Z I.kIn J e (fun z => nomatch z) fun tk => ⟨.bl b, H, I.kept (t' := tk) fun _ _ z => z, rfl, q⟩
      · cases rt
        obtain ⟨_, its, rv, o, h1, h2, n, h3⟩ := (show ObjOk X.prog X.w H s.heap tp (.tup cs) from I.hok tp _ hT)
        have e3 := ClsV.all k rv
        subst e3
        obtain ⟨oc, od', dt, sl⟩ := o
        simp only at h2 h3
        subst h2 h3
        exact PySem.W.kia_tup Z I.kIn J h1 e (fun z => nomatch z) fun tk => ⟨.bl b, H, I.kept (t' := tk) fun _ _ z => z, rfl, q⟩
theorem re_isX (c : CtxS X N L) {e : Expr} {es : List Expr} (h : (("isinstance" : Str), KN.glob) ∈ L) (hm : X.mg "isinstance" = none) (q : RA X (e :: es) σ H fun vs H1 => ClV X (.builtin "isinstance") vs H1 Q)
    (he : starEach (e :: es) X.env = (false, eval e X.env) :: starEach es X.env := by with_unfolding_all rfl) (hpl : (backTo pos (starEach es X.env)).any (·.1) = false := by with_unfolding_all rfl) : RE X (.Call (.Name "isinstance" p0) (e :: es) [] pos) σ H Q :=
  re_of (pe_callB ClR.self (c.gl h) hm (by decide +kernel) PA.self (okName_of (c.dbg _ h)).2.2 (okName_of (c.dbg _ h)).1 he hpl) q
theorem lv_isX {a D dd : Addr} {oe : Obj} {pn : List (Addr × Obj)} {fs : List (Str × V)} {y : V} {u : Value} {b : Bool} (C : KitC X.K D) (hz : Zc (.ref D) (some dd) oe) (hf : ∃ vs, oe.data = .fields vs) (hd : H dd = some (.xd fs)) (k : ClsV y u) (e : PySem.W.kitOne X.K (.ref D) u = some b) (q : Q (.bl b) H) :
    ClV (X.suite a ((a, oe) :: pn)) (.builtin "isinstance") [.ref a, y] H Q := ⟨⟨_, call_isX C hz hf, y, b, rfl, ⟨_, hd⟩, q, .inl ⟨u, k, e⟩⟩⟩
theorem lv_isXT {a D dd tp : Addr} {oe : Obj} {pn : List (Addr × Obj)} {fs : List (Str × V)} {cs : List V} {us : List Value} {b : Bool} (C : KitC X.K D) (hz : Zc (.ref D) (some dd) oe) (hf : ∃ vs, oe.data = .fields vs) (hd : H dd = some (.xd fs)) (hT : H tp = some (.tup cs)) (k : Paired ClsV cs us)
    (e : PySem.W.kitAny X.K (.ref D) us = some b) (q : Q (.bl b) H) : ClV (X.suite a ((a, oe) :: pn)) (.builtin "isinstance") [.ref a, .ref tp] H Q := ⟨⟨_, call_isX C hz hf, .ref tp, b, rfl, ⟨_, hd⟩, q, .inr ⟨tp, cs, us, rfl, hT, k, e⟩⟩⟩
/-- fault.f -/
theorem re_field {a C dd : Addr} {oe : Obj} {pn : List (Addr × Obj)} {e : Expr} {f : Str} {fs : List (Str × V)} {v : V} (T : XfC X.K C) (hno : PySem.W.findIn X.K (.ref C) f = some none) (hz : Zc (.ref C) (some dd) oe) (hf : ∃ vs, oe.data = .fields vs)
    (q : RE (X.suite a ((a, oe) :: pn)) e σ H fun x H1 => x = .ref a ∧ H1 dd = some (.xd fs) ∧ fs.lookup f = some v ∧ Q v H1) (hb : attributeBase e f X.env (eval e X.env) = eval e X.env := by with_unfolding_all rfl) :
    RE (X.suite a ((a, oe) :: pn)) (.Attribute e f pos) σ H Q := re_of (pe_xf T hno hz hf PE.self hb) (pe_mono q fun x H1 ⟨e1, h, l, q1⟩ => ⟨e1, rfl, dd, fs, v, rfl, h, l, q1⟩)
theorem Ctx.tr (c : Ctx X N L k) (pn : List (Addr × Obj)) (xe : Value → Shared → Prop) (po : PassesOwn (model X.prog X.w) X.A X.env xe) : Ctx (X.tr pn xe) N L k := ⟨c.n, c.nd, c.look, c.dbg, c.calm, c.room, po, c.kind⟩
theorem Ctx.suite (c : Ctx X N L k) (a : Addr) (pn : List (Addr × Obj)) : CtxS (X.suite a pn) N L := ⟨c.n, c.nd, c.look, c.dbg⟩
/-- try: body, except x as n: suite (that ends by return) -/
theorem rs_try_as (c : CtxS X N L) (hs : X.stack = X.env :: X.outer) (hf : X.env.frame = some X.env.locals) {x n : Str} {c0 : Value} {b₀ : Stmt} {body suite : List Stmt} {np pos' : Pos} (hn : (n, KN.loc) ∈ L) (mn : n ∈ N) (hc : Names X x c0)
    (q : ∀ (pn : List (Addr × Obj)) (xe : Value → Shared → Prop) (W : WX), Takes (X.tr pn xe) W → PassesOwn (model X.prog X.w) X.A X.env xe →
      (∀ (cls : Value) (d : Option Addr) (σ' : L2.St) (H' : Hp), PySem.W.exmOne X.K cls c0 = some true →
        (∀ (a : Addr) (oe : Obj) (pn2 : List (Addr × Obj)) (nx bk ct : L2.St → Hp → Prop) (σa : L2.St), H' a = none → (∀ i : Nat, N[i]? = some n → σa = σ'.set i (some (.ref a))) → σ'.length = N.length → Zc cls d oe → (∃ vs, oe.data = .fields vs) → CtxS (X.suite a ((a, oe) :: pn2)) N L →
          RB (X.suite a ((a, oe) :: pn2)) (b₀ :: suite) { nx := nx, rt := D.rt, bk := bk, ct := ct } σa H') → W cls d σ' H') →
      RB (X.tr pn xe) body D σ H) :
    RS X (.Try body [.ExceptHandler (some (.Name x np)) (some n) (b₀ :: suite) pos'] [] [] pos) D σ H := by
  obtain ⟨i, h1⟩ := List.mem_iff_getElem?.mp mn
  refine rs_of (ps_try_as (i := i) (c := c0) (Wout := fun _ _ _ _ => False) (tb := fun W D σ H => ∀ (pn : List (Addr × Obj)) (xe : Value → Shared → Prop), Takes (X.tr pn xe) W → PassesOwn (model X.prog X.w) X.A X.env xe → RB (X.tr pn xe) body D σ H)
    (ts := fun a cls d D σ H => ∀ (oe : Obj) (pn2 : List (Addr × Obj)), σ.length = N.length → Zc cls d oe → (∃ vs, oe.data = .fields vs) → RB (X.suite a ((a, oe) :: pn2)) (b₀ :: suite) D σ H)
    hs hf (by rw [c.n]; exact c.nd) (by rw [c.n]; exact h1) (c.look _ hn) hc takes0 (fun W pn xe tk po => ?_) (fun a oe cls d pn hz hd => ?_)) ?_
  · exact ⟨fun pins s σ H D I h => PSs.self.run pins s σ H D I (h pn xe tk po)⟩
  · exact ⟨fun pins s σ H D I h => PSs.self.run pins s σ H D I (h oe pn (by rw [I.len, ← c.n]) hz hd)⟩
  · intro pn xe tk po
    refine q pn xe _ tk po fun cls d σ' H' e r => ⟨true, e, fun _ a ha => ?_, fun z => nomatch z⟩
    exact fun oe pn2 hl hz hd => r a oe pn2 _ _ _ _ ha (fun j hj => by rw [nodup_ix c.nd hj h1]) (by simpa using hl) hz hd ⟨c.n, c.nd, c.look, c.dbg⟩
/-- x = y = e -/
theorem rs_set2 (c : Ctx X N L k) {x y : Str} {e : Expr} {j j' : KN} (h : (x, j) ∈ L) (m : Own j) (hx : x ∈ N) (h' : (y, j') ∈ L) (m' : Own j') (hy : y ∈ N) (q : RE X e σ H fun v H1 => ∃ σ' σ'', Put N σ x v σ' ∧ Put N σ' y v σ'' ∧ D.nx σ'' H1)
    (hs : swapsWithSole [.Name x p0, .Name y p1] e pos.line X.env = pure false := by with_unfolding_all rfl) (hw : swappedStores [.Name x p0, .Name y p1] e X.env = pure none := by with_unfolding_all rfl)
    (h1 : (assignEach [.Name x p0, .Name y p1] X.env).map (·.2) = [assign (.Name x p0) X.env, assign (.Name y p1) X.env] := by with_unfolding_all rfl) : RS X (.Assign [.Name x p0, .Name y p1] e pos) D σ H := by
  obtain ⟨i, g, h2⟩ := c.pg (p0 := p0) h m hx
  obtain ⟨i', g', h2'⟩ := c.pg (p0 := p1) h' m' hy
  refine rs_of (t := fun D σ H => RE X e σ H fun v H1 => ∃ σ' σ'', Put N σ x v σ' ∧ Put N σ' y v σ'' ∧ D.nx σ'' H1) ⟨fun pins s σ H D I h => ?_⟩ q
  refine wpAny_Assign_two (thn (PE.self.run pins s σ H _ I h) fun v s1 ⟨z, H1, I1, r1, σ', σ'', a1, a2, q1⟩ => ?_)
  rw [h2 a1] at a2
  rw [h2' a2] at q1
  exact thn (g.run pins s1 σ H1 z v (fun σ2 H2 => σ2 = σ.set i (some z) ∧ H2 = H1) I1 r1 ⟨rfl, rfl⟩) fun _ s2 ⟨σ2, H2, I2, e1, e2⟩ => by
    subst e1 e2
    exact thn (g'.run pins s2 _ _ z v (fun σ2 H2 => D.nx σ2 H2) I2 r1 q1) fun _ s3 q => q
end
end GT
namespace GT
open PySem PySem.Spec PyProof.Rows L2
section
variable {X : Cx} {σ : L2.St} {H : Hp} {N : List Str} {L Lc : List (Str × KN)} {k : Nat} {pos p0 p1 p2 p3 : Pos} {Q : VK} {D : Ends} {x y : V} {p : Addr} {xs : List V} {b : Bool}
/-- for x, y in l, l a list of pairs -/
theorem rs_for_list2 (c : Ctx X N L k) {x y : Str} {l : Expr} {body : List Stmt} {j j' : KN} {kt : Nat} {q0 q1 q2 : Pos} (h : (x, j) ∈ L) (m : Own j) (hx : x ∈ N) (h' : (y, j') ∈ L) (m' : Own j') (hy : y ∈ N)
    (q : RE X l σ H fun v H1 => ∃ a xs, v = .ref a ∧ SqL X.K H1 a xs ∧ ∃ Pv : Nat → L2.St → Hp → Prop, Pv 0 σ H1 ∧ (∀ i σ H, Pv i σ H → SqL X.K H a xs) ∧
      (∀ i w σ H, xs[i]? = some w → Pv i σ H → ∃ t u v, w = .ref t ∧ SqT X.K H t [u, v] ∧ ∃ σ' σ'', Put N σ x u σ' ∧ Put N σ' y v σ'' ∧ RB X body { D with nx := Pv (i + 1), ct := Pv (i + 1), bk := D.nx } σ'' H) ∧ (∀ σ H, Pv xs.length σ H → D.nx σ H))
    (hs : ∀ x, foldedSetIterable l X.env x = pure x := by intro _; with_unfolding_all rfl)
    (hn : (assignEach [.Name x q0, .Name y q1] X.env).length = 2 := by with_unfolding_all rfl) (hst : (assignEach [.Name x q0, .Name y q1] X.env).findIdx? (·.1) = none := by with_unfolding_all rfl)
    (ha : (assignEach [.Name x q0, .Name y q1] X.env).map (·.2) = assign (.Name x q0) X.env :: (assignEach [.Name y q1] X.env).map (·.2) := by with_unfolding_all rfl) (hb : (assignEach [.Name y q1] X.env).map (·.2) = assign (.Name y q1) X.env :: (assignEach [] X.env).map (·.2) := by with_unfolding_all rfl) :
    RS X (.For (.Tuple [.Name x q0, .Name y q1] kt q2) l body [] pos) D σ H := by
  obtain ⟨i, g, h2⟩ := c.pg (p0 := q0) h m hx
  obtain ⟨i', g', h2'⟩ := c.pg (p0 := q1) h' m' hy
  refine rs_of (ps_for c.po c.calm (pi_list PE.self) (pg_tup (n := 2) c.calm (pgs_cons g (pgs_cons g' pgs_nil hb) ha) hn hst) PSs.self hs) (pe_mono q fun v H1 ⟨a, xs, e, hq, Pv, p1, p2, p3, p4⟩ => ⟨a, e, ⟨xs, hq⟩, ?_⟩)
  refine for_list (K := X.K) (a := a) (xs := xs) Pv p1 (fun i σ H _ p => p2 i σ H p) (fun i w σ H e p => ?_) p4
  obtain ⟨t, u, v, rfl, hT, σ', σ'', a1, a2, r⟩ := p3 i w σ H e p
  rw [h2' a2, h2 a1] at r
  exact ⟨t, _, rfl, hT, rfl, _, _, rfl, _, _, rfl, rfl, r⟩
/-- x is True, x is False; x no reference -/
theorem op_isB : OpR X (compareOp .Is) (fun x y H Q => ∃ b, y = .bl b ∧ (x = .non ∨ (∃ c, x = .bl c) ∨ (∃ i, x = .int i) ∨ (∃ z, x = .str z)) ∧ Q (.bl (decide (x = .bl b))) H) := by
  intro pins s σ H x y v u Q I rx ry h
  obtain ⟨b, rfl, hx, q⟩ := h
  cases ry
  have g : ∀ r, r = decide (x = .bl b) → (L2.EP X pins σ Q (.bool r) s) := fun r e => fin_bl I q e.symm
  rcases hx with rfl | ⟨c, rfl⟩ | ⟨i, rfl⟩ | ⟨z, rfl⟩
  · cases rx
    exact wpAny_pure (g _ rfl)
  · cases rx
    refine wpAny_pure (g _ ?_)
    cases b <;> cases c <;> rfl
  · obtain ⟨t, rfl⟩ := rx
    exact wpAny_pure (g _ rfl)
  · obtain ⟨t, rfl⟩ := rx
    exact wpAny_pure (g _ rfl)
theorem cv_isB_b {c : Bool} (q : Q (.bl (decide (c = b))) H) : CpV X .Is (.bl c) (.bl b) H Q := ⟨⟨_, op_isB, b, rfl, .inr (.inl ⟨c, rfl⟩), by
  have e : decide (V.bl c = V.bl b) = decide (c = b) := by simp
  rw [e]
  exact q⟩⟩
theorem cv_isB_i {i : Int} (q : Q (.bl false) H) : CpV X .Is (.int i) (.bl b) H Q := ⟨⟨_, op_isB, b, rfl, .inr (.inr (.inl ⟨i, rfl⟩)), by rw [decide_eq_false (fun e => nomatch e)]; exact q⟩⟩
theorem cv_isB_s {z : Str} (q : Q (.bl false) H) : CpV X .Is (.str z) (.bl b) H Q := ⟨⟨_, op_isB, b, rfl, .inr (.inr (.inr ⟨z, rfl⟩)), by rw [decide_eq_false (fun e => nomatch e)]; exact q⟩⟩
theorem cv_isB_n (q : Q (.bl false) H) : CpV X .Is .non (.bl b) H Q := ⟨⟨_, op_isB, b, rfl, .inl rfl, by rw [decide_eq_false (fun e => nomatch e)]; exact q⟩⟩
/-- isinstance(x, T), T a built-in type -/
theorem lv_isT {t T : String} (ty : TyX X.K H x (.type t)) (e : kitB t T = some b) (q : Q (.bl b) H) : ClV X (.builtin "isinstance") [x, .ty T] H Q := lv_isi (.ty T) ty (kit_ty e) q
theorem lv_isT_n {T : String} (e : kitB "NoneType" T = some b) (q : Q (.bl b) H) : ClV X (.builtin "isinstance") [.non, .ty T] H Q := lv_isT (.base .non) e q
theorem lv_isT_b {T : String} {c : Bool} (e : kitB "bool" T = some b) (q : Q (.bl b) H) : ClV X (.builtin "isinstance") [.bl c, .ty T] H Q := lv_isT (.base (.bl c)) e q
theorem lv_isT_i {T : String} {i : Int} (e : kitB "int" T = some b) (q : Q (.bl b) H) : ClV X (.builtin "isinstance") [.int i, .ty T] H Q := lv_isT (.base (.int i)) e q
theorem lv_isT_s {T : String} {z : Str} (e : kitB "str" T = some b) (q : Q (.bl b) H) : ClV X (.builtin "isinstance") [.str z, .ty T] H Q := lv_isT (.base (.str z)) e q
theorem lv_isT_l {T : String} (h : H p = some (.lst xs)) (e : kitB "list" T = some b) (q : Q (.bl b) H) : ClV X (.builtin "isinstance") [.ref p, .ty T] H Q := lv_isT (.base (.lst h)) e q
theorem lv_isT_t {T : String} (h : H p = some (.tup xs)) (e : kitB "tuple" T = some b) (q : Q (.bl b) H) : ClV X (.builtin "isinstance") [.ref p, .ty T] H Q := lv_isT (.base (.tup h)) e q
theorem iteNT {A B : Prop} (h : B) : if (!true) = true then A else B := h
theorem iteNF {A B : Prop} (h : A) : if (!false) = true then A else B := h
theorem iteD {p : Prop} [Decidable p] {A B : Prop} (hp : p) (h : A) : if decide p = true then A else B := by
  rw [decide_eq_true hp]
  exact h
theorem iteDN {p : Prop} [Decidable p] {A B : Prop} (hp : ¬ p) (h : B) : if decide p = true then A else B := by
  rw [decide_eq_false hp]
  exact h
/-! ### a def that may raise, called where it doesn't -/
theorem re_callX (c : Ctx X N L k) {x : Str} {ps : List Str} {n : Nat} {sp : Sp} {e : Expr} {es : List Expr} (F : DefP X.prog X.w X.K X.mg X.base (L2.CX X.prog X.w) x ps n sp) (hn : n ≤ k) (h : (x, KN.glob) ∈ L) {E : XK} (hx : Passes (L2.CX X.prog X.w) X E) (q : RA X (e :: es) σ H fun vs H1 => sp vs H1 Q E)
    (he : starEach (e :: es) X.env = (false, eval e X.env) :: starEach es X.env := by with_unfolding_all rfl) (hpl : (backTo pos (starEach es X.env)).any (·.1) = false := by with_unfolding_all rfl) : RE X (.Call (.Name x p0) (e :: es) [] pos) σ H Q := by
  obtain ⟨f, fd, F1, m, kp, b⟩ := F.ex
  refine re_of (pe_call F1 (c.room.mono hn) (c.gl h) m kp b .nil hx PA.self (c.d1 h) he hpl) ?_
  exact ra_mono q fun vs H1 d => by rw [List.append_nil]; exact d
end
section
variable {P : Program} {w : World} {K : PySem.W.Frag} {mg : Str → Option Value} {base : Heap} {x : Str} {st : Stmt} {N ps : List Str} {L : List (Str × KN)} {k : Nat} {sp : Sp} {f : Addr} {fd : FuncData}
/-- a def that may raise keeps its promise -/
theorem defPX_of (F : FnP K x st f fd) (gx : mg x = some (.ref f)) (M : Nms st N ps L) (hb : Binds K fd ps []) (len : ∀ vs H Q E, sp vs H Q E → vs.length = ps.length)
    (body : ∀ (X : Cx), Ctx X N L k → At5 X P w K mg base → ∀ (vs : List V) (H : Hp) (Q : VK) (E : XK), Takes X (fun cls d _ H' => E cls d H') → sp vs H Q E → RB X (defBody st) { nx := fun _ H' => Q .non H', rt := Q } (start N vs) H) : DefP P w K mg base (L2.CX P w) x ps (k + 1) sp := by
  refine ⟨f, fd, F.ok M.S len (fun cdv A outer s H vs Q E hr h => ?_), gx, F.kp, hb⟩
  have c : Ctx (cxOf (L2.CX P w) P w K mg base N x (defScope st) f cdv A outer s H E) N L k := ⟨rfl, M.S.nd, knIs_of M rfl (fun _ => rfl), M.db, rfl, hr, passes_of rfl, M.S.kind⟩
  exact (body _ c ⟨rfl, rfl, rfl, rfl, rfl⟩ vs H Q E (takes_of rfl rfl rfl rfl) h).ex
end
/-- the depth of data -/
inductive Dep : Nat → D → Prop
  | non {n : Nat} : Dep n .non
  | bl {n : Nat} {b : Bool} : Dep n (.bl b)
  | int {n : Nat} {i : Int} : Dep n (.int i)
  | str {n : Nat} {z : Str} : Dep n (.str z)
  | lst {n : Nat} {l : List D} (h : ∀ d ∈ l, Dep n d) : Dep (n + 1) (.lst l)
  | tup {n : Nat} {l : List D} (h : ∀ d ∈ l, Dep n d) : Dep (n + 1) (.tup l)
end GT
namespace GT
open PySem PySem.Spec PyProof.Rows L2
/-! ### frames that let the code tables grow -/
def Fx (B : Addr → Prop) (H H' : Hp) : Prop := ∀ a o, ¬ B a → (∀ ps, o ≠ .tbl ps) → H a = some o → H' a = some o
section
variable {B : Addr → Prop} {K : PySem.W.Frag} {H H1 H2 : Hp} {a p : Addr} {o : HO} {xs : List V}
theorem Fr.fx (f : Fr B H H1) : Fx B H H1 := fun a o n _ e => f a o n e
theorem Fx.ext (f : LamX.ExtN H H1) : Fx NoB H H1 := fun a o _ n e => f a o e n
theorem Fx.refl : Fx B H H := fun _ _ _ _ h => h
theorem Fx.trans (h : Fx B H H1) (g : Fx B H1 H2) : Fx B H H2 := fun a o n t e => g a o n t (h a o n t e)
theorem Fx.any (h : Fx NoB H H1) : Fx B H H1 := fun a o _ t e => h a o (fun z => z) t e
theorem Fx.lst (f : Fx B H H1) (n : ¬ B a) (h : H a = some (.lst xs)) : H1 a = some (.lst xs) := f _ _ n (fun _ z => by cases z) h
theorem Fx.tup (f : Fx B H H1) (n : ¬ B a) (h : H a = some (.tup xs)) : H1 a = some (.tup xs) := f _ _ n (fun _ z => by cases z) h
theorem Fx.xd {fs : List (Str × V)} (f : Fx B H H1) (n : ¬ B a) (h : H a = some (.xd fs)) : H1 a = some (.xd fs) := f _ _ n (fun _ z => by cases z) h
theorem Fx.seqL (f : Fx B H H1) (n : ¬ B a) (h : SqL K H a xs) : SqL K H1 a xs := by
  rcases h with (h | ⟨o, h⟩) | h
  · exact .inl (.inl (f _ _ n (fun _ z => by cases z) h))
  · exact .inl (.inr ⟨o, f _ _ n (fun _ z => by cases z) h⟩)
  · exact .inr h
theorem Fx.dt {v : V} {d : D} (f : Fx B H H1) (h : Dt K B H v d) : Dt K B H1 v d := by
  induction h with
  | non => exact .non
  | bl => exact .bl
  | int => exact .int
  | str => exact .str
  | lst n t l _ ih => exact .lst n (f.lst n t) l ih
  | tup n t l _ ih => exact .tup n (f.tup n t) l ih
theorem Fx.dts {vs : List V} {ds : List D} (f : Fx B H H1) (h : Dts K B H vs ds) : Dts K B H1 vs ds := ⟨h.1, fun i v d a b => f.dt (h.2 i v d a b)⟩
theorem Fx.box {b : Addr} (f : Fx NoB H H1) (h : BoxAt H b) : BoxAt H1 b := by
  obtain ⟨g, r, h1, h2⟩ := h
  exact ⟨g, r, f.lst (fun z => z) h1, h2⟩
theorem Fx.put (f : Fx B H H1) (h : H p = none) : Fx B H (upd H1 p o) := fun a u n t e => by
  rw [upd_ne (ne_of_none e h)]
  exact f a u n t e
theorem tabs_fr {T : List (Addr × Str)} (t : LamX.Tabs T H) (f : Fr NoB H H1) : LamX.Tabs T H1 := t.ext fun b o e => f b o (fun z => z) e
end
/-! ### a def of whose code one knows where it stands -/
structure FnC (K : PySem.W.Frag) (x : Str) (st : Stmt) (f cc : Addr) (fd : FuncData) : Prop where
  ex : ∃ (oc : Value) (od : Option Addr) (dV kV doc pm : Value) (an : Option Addr) (ct : Value) (osl : Array (Option Value)),
    fd = PySem.W.fnOf x x (defArgs st) (defBody st) (defScope st) dV kV doc pm an (.ref cc) ct ∧ K.lookup f = some ⟨oc, od, .func fd, osl⟩ ∧ PySem.W.codeIn K (.ref cc) x = true
  kp : PySem.W.keepIn K (.ref f) = true
section
variable {P : Program} {w : World} {K : PySem.W.Frag} {mg : Str → Option Value} {base : Heap} {x : Str} {st : Stmt} {N ps : List Str} {L : List (Str × KN)} {k : Nat} {sp : Sp} {f cc : Addr} {fd : FuncData}
theorem defPC_of (F : FnC K x st f cc fd) (gx : mg x = some (.ref f)) (M : Nms st N ps L) (hb : Binds K fd ps []) (len : ∀ vs H Q E, sp vs H Q E → vs.length = ps.length)
    (body : ∀ (X : Cx), Ctx X N L k → At5 X P w K mg base → X.env.code = .ref cc → X.env.qual = x ++ ".<locals>." → ∀ (vs : List V) (H : Hp) (Q : VK) (E : XK), sp vs H Q E → RB X (defBody st) { nx := fun _ H' => Q .non H', rt := Q } (start N vs) H) : DefP P w K mg base CX0 x ps (k + 1) sp := by
  obtain ⟨oc, od, dV, kV, doc, pm, an, ct, osl, rfl, lk, hcd⟩ := F.ex
  refine ⟨f, _, fn_of lk hcd M.S len (fun A outer s H vs Q E hr h => ?_), gx, F.kp, hb⟩
  have c : Ctx (cxOf CX0 P w K mg base N x (defScope st) f (.ref cc) A outer s H E).nox N L k := ⟨rfl, M.S.nd, knIs_of M rfl (fun _ => rfl), M.db, rfl, hr, PassesOwn.never, M.S.kind⟩
  obtain ⟨t, ht, q⟩ := (body _ c ⟨rfl, rfl, rfl, rfl, rfl⟩ rfl rfl vs H Q E h).ex
  exact ⟨t, ht.nox, q⟩
end
/-! ### a lambda handed to a def -/
/-- the lambda's own scope within a def of the names L; Ll its names -/
def lamOk (L : List (Str × KN)) (scope : Scope) (Ll : List (Str × KN)) : Bool :=
  decide (scope.kind = .function) && !scope.isCoroutine && !scope.isGenerator && (scope.names.all fun y => !decide (y.2 = .local) && !decide (y.2 = .cell) && (!decide (y.2 = .free) || (decide ((y.1, KN.cell) ∈ L) || decide ((y.1, KN.cap) ∈ L)))) &&
    (Ll.all fun p => decide (p ∈ knAll scope.names)) && decide (scope.names.map (·.1)).Nodup && (Ll.all fun p => okName p.1) && (Ll.all fun p => decide (p.2 = .cap) || decide (p.2 = .glob))
section
variable {X : Cx} {σ : L2.St} {H : Hp} {N : List Str} {L Ll : List (Str × KN)} {k : Nat} {pos p0 p1 : Pos} {Q : VK} {scope : Scope}
def LamR (X : Cx) (scope : Scope) (body : Expr) (kl : Nat) (σ : L2.St) : XK → Hp → VK → Prop := fun E H Q => ∀ (A : Around) (outer : List Env) (s : Shared) (H0 : Hp) (f c' : Addr), Room kl (A.deeper (LamX.lamEnv X scope s.heap.objs.size f c')) → RE (LamX.lamCx X A outer s H0 E scope f c') body σ H Q
theorem lamOk_of (c : Ctx X N L k) (h : lamOk L scope Ll = true) : LamX.LamS X.env.scope scope ∧ (∀ p ∈ Ll, p ∈ knAll scope.names) ∧ (scope.names.map (·.1)).Nodup ∧ (∀ p ∈ Ll, okName p.1 = true) ∧ ∀ p ∈ Ll, p.2 = .cap ∨ p.2 = .glob := by
  unfold lamOk at h
  simp only [Bool.and_eq_true, Bool.or_eq_true, Bool.not_eq_true', decide_eq_true_eq, decide_eq_false_iff_not, List.all_eq_true] at h
  obtain ⟨⟨⟨⟨⟨⟨⟨h1, h2⟩, h3⟩, h4⟩, h5⟩, h6⟩, h7⟩, h8⟩ := h
  refine ⟨⟨h1, h2, h3, fun y hy => ⟨(h4 y hy).1.1, (h4 y hy).1.2⟩, fun y hy e => ?_⟩, h5, h6, h7, h8⟩
  rcases (h4 y hy).2 with z | z | z
  · exact absurd e z
  · exact .inl (c.look _ z).1
  · exact c.look _ z
theorem LamR.intro (c : Ctx X N L k) (h : lamOk L scope Ll = true) {body : Expr} {kl : Nat} {E : XK} (q : ∀ Xl : Cx, Ctx Xl N Ll kl → At5 Xl X.prog X.w X.K X.mg X.base → Takes Xl (fun cls d _ H' => E cls d H') → RE Xl body σ H Q) : LamR X scope body kl σ E H Q := by
  obtain ⟨S, h5, h6, h7, h8⟩ := lamOk_of c h
  intro A outer s H0 f c' hr
  refine q _ ⟨c.n, c.nd, fun p hp => ?_, h7, rfl, hr, passes_of rfl, S.kind⟩ ⟨rfl, rfl, rfl, rfl, rfl⟩ (takes_of rfl rfl rfl rfl)
  obtain ⟨y, m⟩ := p
  obtain ⟨j, h1, h2⟩ := knAll_mem (h5 _ hp)
  have e1 : (LamX.lamCx X A outer s H0 E scope f c').env.scope.names.lookup y = some j := lookup_mem h6 h1
  cases j <;> simp only [knOf] at h2 <;> cases h2
  · exact absurd rfl (S.own _ h1).1
  · exact absurd rfl (S.own _ h1).2
  · exact .inr e1
  · exact e1
theorem re_lamcall (c : Ctx X N L k) {T : List (Addr × Str)} {TT : (XK → Hp → VK → Prop) → Hp → VK → Prop} {x a : Str} {sth : Stmt} {g cc P : Addr} {fdh : FuncData} {Ng : List Str} {params : Arguments} {body : Expr} {kl : Nat} (Ll : List (Str × KN)) (hok : lamOk L scope Ll = true)
    (FH : FnP X.K x sth g fdh) (gx : X.mg x = some (.ref g)) (bH : Binds X.K fdh [a] []) (Sg : FnScope Ng [a] (defScope sth)) (hNg : Ng[0]? = some a) (hva : Vis (defScope sth) a) (ha : okName a = true) (hG : ∀ cdg, LamX.GivesTo X Ng x (defScope sth) g cdg (defBody sth) a (X.env.qual ++ "<lambda>") TT)
    (TB : LamX.TabB X.base X.mg cc P) (hcode : X.env.code = .ref cc) (hmT : (P, X.env.qual ++ "<lambda>") ∈ T) (hu : ∀ p ∈ T, p.1 = P → p.2 = X.env.qual ++ "<lambda>") (hk : kl + 2 ≤ k) (hgl : (x, KN.glob) ∈ L)
    (q : LamX.Tabs T H ∧ ∀ H1, LamX.ExtN H H1 → LamX.Tabs T H1 → TT (LamR X scope body kl σ) H1 Q)
    (hdef : defaultsOf params X.env = ([], []) := by with_unfolding_all rfl) (hbind : ∀ (q : Str) (cl : List (Str × Addr)) (pm cv ctv : Value), bindArgs (PySem.W.kla_fn "<lambda>" q params body scope cl pm cv ctv) ⟨[], []⟩ = pure [] := by intros; with_unfolding_all rfl) :
    RE X (.Call (.Name x p0) [.Lambda params body scope p1] [] pos) σ H Q := by
  obtain ⟨oc, od, dV, kV, doc, pm, an, cdv, ct, osl, rfl, lk, hcd, _, _⟩ := FH.ex
  obtain ⟨d1, d2, d3⟩ := okName_of ha
  refine re_of (LamX.pe_lamcall (t := fun E σ H Q => LamR X scope body kl σ E H Q) (c.gl hgl) gx FH.kp lk hcd bH Sg hNg hva (hG cdv) TB hcode hmT hu (c.room.mono hk) (lamOk_of c hok).1 hdef hbind (fun A outer s H E f c' hr => ?_) (c.d1 hgl) d1 d2) q
  exact ⟨fun pins s' σ H' Q' I h => PE.self.run pins s' σ H' Q' I (h A outer s H f c' hr)⟩
/-- a pair of constants is stored as one folded tuple -/
theorem swapped_folded {x y : Expr} {a b : Expr} {kt k2 : Nat} {q1 q2 : Pos} {env : Env} (h : [a, b].all (foldedForSure 8) = true) : swappedStores [.Tuple [x, y] kt q1] (.Tuple [a, b] k2 q2) env = pure none := by
  unfold swappedStores
  dsimp only
  rw [h]
  repeat' first
    | rfl
    | (rename_i hh _; exact absurd rfl hh)
    | split
/-- x, y = e, e a pair -/
theorem rs_tup2 (c : Ctx X N L k) {x y : Str} {e : Expr} {j j' : KN} {kt : Nat} {q0 q1 q2 : Pos} (h : (x, j) ∈ L) (m : Own j) (hx : x ∈ N) (h' : (y, j') ∈ L) (m' : Own j') (hy : y ∈ N) {D : Ends}
    (q : RE X e σ H fun w H1 => ∃ t u v, w = .ref t ∧ SqT X.K H1 t [u, v] ∧ ∃ σ' σ'', Put N σ x u σ' ∧ Put N σ' y v σ'' ∧ D.nx σ'' H1)
    (hw : swappedStores [.Tuple [.Name x q0, .Name y q1] kt q2] e X.env = pure none) (hs : swapsWithSole [.Tuple [.Name x q0, .Name y q1] kt q2] e pos.line X.env = pure false := by with_unfolding_all rfl)
    (h1 : (assignEach [.Tuple [.Name x q0, .Name y q1] kt q2] X.env).map (·.2) = [assign (.Tuple [.Name x q0, .Name y q1] kt q2) X.env] := by with_unfolding_all rfl)
    (hn : (assignEach [.Name x q0, .Name y q1] X.env).length = 2 := by with_unfolding_all rfl) (hst : (assignEach [.Name x q0, .Name y q1] X.env).findIdx? (·.1) = none := by with_unfolding_all rfl)
    (ha : (assignEach [.Name x q0, .Name y q1] X.env).map (·.2) = assign (.Name x q0) X.env :: (assignEach [.Name y q1] X.env).map (·.2) := by with_unfolding_all rfl) (hb : (assignEach [.Name y q1] X.env).map (·.2) = assign (.Name y q1) X.env :: (assignEach [] X.env).map (·.2) := by with_unfolding_all rfl) :
    RS X (.Assign [.Tuple [.Name x q0, .Name y q1] kt q2] e pos) D σ H := by
  obtain ⟨i, g, h2⟩ := c.pg (p0 := q0) h m hx
  obtain ⟨i', g', h2'⟩ := c.pg (p0 := q1) h' m' hy
  refine rs_of (ps_asg PE.self (pg_tup (n := 2) c.calm (pgs_cons g (pgs_cons g' pgs_nil hb) ha) hn hst) hs hw h1) (pe_mono q fun w H1 ⟨t, u, v, e1, hT, σ', σ'', a1, a2, r⟩ => ?_)
  subst e1
  rw [h2' a2, h2 a1] at r
  exact ⟨t, _, rfl, hT, rfl, _, _, rfl, _, _, rfl, rfl, r⟩
/-- x, y = a, b: not all of it constants -/
theorem swapped_two {x y : Str} {a b : Expr} {px py q1 q2 : Pos} {kt k2 : Nat} {env : Env} (hb : env.blockKind = .function) (hx : env.kindOf x = some .local) (hy : env.kindOf y = some .local) (hl : (px.line == py.line) = true) (hd : ([x, y] : List Str).eraseDups = [x, y])
    (ha : ∀ v p, a ≠ .Starred v p) (hb2 : ∀ v p, b ≠ .Starred v p) (h1 : [a, b].all (foldedForSure 8) = false) (h2 : [a, b].all (constantsAlone 8) = false) :
    swappedStores [.Tuple [.Name x px, .Name y py] kt q1] (.Tuple [a, b] k2 q2) env = pure (some [x, y]) := by
  have hl' : px.line = py.line := by simpa using hl
  unfold swappedStores
  dsimp only
  rw [h1, h2]
  simp only [Bool.false_eq_true, if_false]
  rw [if_neg (by simp [hb])]
  have hstar : ∀ (f : Expr → Bool), (∀ e, (∀ v p, e ≠ .Starred v p) → f e = false) → [a, b].any f = false := fun f hf => by
    simp [hf a ha, hf b hb2]
  rw [hstar _ (fun e he => by
    split
    · exact absurd rfl (he _ _)
    · rfl)]
  simp [hx, hy, hl', hd, Expr.pos]
theorem Ctx.bk (c : Ctx X N L k) : X.env.blockKind = .function := by
  unfold Env.blockKind
  rw [c.kind]
  rfl
theorem rs_par2 (c : Ctx X N L k) {x y : Str} {a b : Expr} {px py pt : Pos} {kt k2 : Nat} {pt2 : Pos} {D : Ends} (hx : (x, KN.loc) ∈ L) (hy : (y, KN.loc) ∈ L) (mx : x ∈ N) (my : y ∈ N) (hxy : x ≠ y)
    (q : RA X [a, b] σ H fun vs H1 => ∃ v w σ' σ'', vs = [v, w] ∧ Put N σ x v σ' ∧ Put N σ' y w σ'' ∧ D.nx σ'' H1)
    (hl : (px.line == py.line) = true := by decide +kernel) (hd : ([x, y] : List Str).eraseDups = [x, y] := by decide +kernel) (ha : ∀ v p, a ≠ .Starred v p := by intros; nofun) (hb2 : ∀ v p, b ≠ .Starred v p := by intros; nofun)
    (h1 : [a, b].all (foldedForSure 8) = false := by decide +kernel) (h2 : [a, b].all (constantsAlone 8) = false := by decide +kernel)
    (hs : swapsWithSole [.Tuple [.Name x px, .Name y py] kt pt] (.Tuple [a, b] k2 pt2) pos.line X.env = pure false := by with_unfolding_all rfl) :
    RS X (.Assign [.Tuple [.Name x px, .Name y py] kt pt] (.Tuple [a, b] k2 pt2) pos) D σ H :=
  rs_par c hx hy mx my hxy q (swapped_two c.bk (c.lcl hx) (c.lcl hy) hl hd ha hb2 h1 h2) hs
end
end GT
namespace GT
open PySem PySem.Spec PyProof.Rows L2
/-! ### Bools of the head that tell an own exception class -/
def oexB (K : PySem.W.Frag) (C : Addr) : Bool := match K.lookup C with
  | some ⟨.type "type", _, .cls cd, sl⟩ => (match cd.mro, sl.toList with
    | .ref C' :: bm, [_, _, _, _, some (.builtin n), _] => C' == C && n == "ValueError.__new__" && !cd.hasDel && cd.hasDict && PySem.HandSPX.refsVE bm
    | _, _ => false)
  | _ => false
theorem oexB_ok {K : PySem.W.Frag} {C : Addr} (q : oexB K C = true) : ∃ nm q N bs bm sn sub ab col dd k0 k1 k2 k3 k5, K.lookup C = some (excClassObj nm q C N bs bm true sn sub ab col dd k0 k1 k2 k3 k5 "ValueError.__new__") ∧ PySem.HandSPX.refsVE bm = true := by
  unfold oexB at q
  split at q
  · rename_i dd cd sl ho
    split at q
    · rename_i C' bm k0 k1 k2 k3 n k5 hm hs
      simp only [Bool.and_eq_true, beq_iff_eq, Bool.not_eq_true'] at q
      obtain ⟨⟨⟨⟨rfl, rfl⟩, hdel⟩, hdict⟩, ht⟩ := q
      obtain ⟨nm, bs, mro, ns, qn, hd, sn, sub, ab, col, del⟩ := cd
      dsimp only at hm hdel hdict
      subst hm hdel hdict
      have hsl : sl = #[k0, k1, k2, k3, some (.builtin "ValueError.__new__"), k5] := by
        obtain ⟨l⟩ := sl
        simp only at hs
        rw [hs]
      subst hsl
      exact ⟨nm, qn, ns, bs, bm, sn, sub, ab, col, dd, k0, k1, k2, k3, k5, ho, ht⟩
    · cases q
  · cases q
def kitCB (K : PySem.W.Frag) (D : Addr) : Bool := (PySem.W.clsIn K D).isSome && (He.eqO (PySem.W.findIn K (.ref D) "__getattribute__") (some (some (.builtin "BaseException.__getattribute__"))) && (He.eqO (PySem.W.findIn K (.ref D) "__getattr__") (some none) && (decide (PySem.W.subIn K (.ref D) (.type "BaseException") = some true) &&
  (He.eqO (PySem.W.findIn K (.ref D) "__class__") (some (some (.builtin "object.__class__"))) && (He.eqO (PySem.W.specialIn K (.builtin "object.__class__") "__get__") (some (some (.builtin "getset_descriptor.__get__"))) && (decide (PySem.W.takesIn K (.builtin "object.__class__") = some true) && decide (PySem.W.mroIn K D (.type "object") = some true)))))))
theorem kitCB_ok {K : PySem.W.Frag} {D : Addr} (h : kitCB K D = true) : KitC K D := by
  obtain ⟨h1, h⟩ := He.ba h
  obtain ⟨h2, h⟩ := He.ba h
  obtain ⟨h3, h⟩ := He.ba h
  obtain ⟨h4, h⟩ := He.ba h
  obtain ⟨h5, h⟩ := He.ba h
  obtain ⟨h6, h⟩ := He.ba h
  obtain ⟨h7, h8⟩ := He.ba h
  exact ⟨h1, He.eqO_ok h2, He.eqO_ok h3, of_decide_eq_true h4, He.eqO_ok h5, He.eqO_ok h6, of_decide_eq_true h7, of_decide_eq_true h8⟩
/-- the class nm, its field fl -/
def errB (K : PySem.W.Frag) (nm fl : Str) : Bool := oexB K (He.ga K nm) && (He.eqO (PySem.W.findIn K (.ref (He.ga K nm)) "__setattr__") (some (some (.builtin "object.__setattr__"))) && (decide (PySem.W.subIn K (.ref (He.ga K nm)) (.type "BaseException") = some true) && (decide (PySem.W.typeIn K (.ref (He.ga K nm)) = some (.type "type")) &&
  (PySem.W.keepIn K (.ref (He.ga K nm)) && (He.eqO (PySem.W.findIn K (.ref (He.ga K nm)) "__init__") (some (some (.ref (He.ma K (He.ga K nm) "__init__")))) && (decide (PySem.W.typeIn K (.ref (He.ma K (He.ga K nm) "__init__")) = some (.type "function")) && (He.eqO (PySem.W.findIn K (.ref (He.ga K nm)) fl) (some none) && xfB K (He.ga K nm))))))))
structure ErrK (K : PySem.W.Frag) (C fI : Addr) (fl : Str) : Prop where
  oex : OexC K C
  iC : PySem.W.findIn K (.ref C) "__init__" = some (some (.ref fI))
  tI : PySem.W.typeIn K (.ref fI) = some (.type "function")
  no : PySem.W.findIn K (.ref C) fl = some none
  xf : XfC K C
theorem errB_ok {K : PySem.W.Frag} {nm fl : Str} (h : errB K nm fl = true) : ErrK K (He.ga K nm) (He.ma K (He.ga K nm) "__init__") fl := by
  obtain ⟨h1, h⟩ := He.ba h
  obtain ⟨h2, h⟩ := He.ba h
  obtain ⟨h3, h⟩ := He.ba h
  obtain ⟨h4, h⟩ := He.ba h
  obtain ⟨h5, h⟩ := He.ba h
  obtain ⟨h6, h⟩ := He.ba h
  obtain ⟨h7, h⟩ := He.ba h
  obtain ⟨h8, h9⟩ := He.ba h
  exact ⟨⟨oexB_ok h1, He.eqO_ok h2, of_decide_eq_true h3, of_decide_eq_true h4, h5⟩, He.eqO_ok h6, of_decide_eq_true h7, He.eqO_ok h8, xfB_ok h9⟩
/-- the i-th statement of a class -/
def inCls (st : Stmt) (i : Nat) : Stmt := match st with
  | .ClassDef _ _ _ b _ _ _ _ _ _ _ => b.getD i (.Pass ⟨0, 0, 0, 0⟩)
  | _ => .Pass ⟨0, 0, 0, 0⟩
end GT
namespace GT
open PySem PySem.Spec PyProof.Rows L2
section
variable {X : Cx} {σ : L2.St} {H : Hp} {N : List Str} {L Lc : List (Str × KN)} {k : Nat} {pos p0 p1 p2 : Pos} {Q : VK} {D : Ends} {scope : Scope} {x : Str} {elt : Expr} {ifs : List Expr}
/-- [.. for x in z], z a text -/
theorem re_lc_str (c : Ctx X N L k) (Lc : List (Str × KN)) (hok : lcOk N L scope Lc x = true) {l : Expr}
    (q : RE X l σ H fun v H1 => ∃ z, v = .str z ∧ CTurns X N Lc k scope x elt ifs (fun _ => True) z.cps.size (fun i y => ∃ c, z.cps[i]? = some c ∧ y = .str ⟨#[c]⟩) σ H1 Q)
    (hs : ∀ x, foldedSetIterable l X.env x = pure x := by intro _; with_unfolding_all rfl) : RE X (.ListComp elt [⟨.Name x p0, l, ifs, 0⟩] scope pos) σ H Q := by
  obtain ⟨S, hx, hl, ok⟩ := lcOk_of c hok
  obtain ⟨i, hput, bk, g⟩ := blk_at (p0 := p0) c S hx hl ok
  refine re_of (pe_lc c.calm c.nodup (pi_str PE.self) bk g (fun s H C cl fp => PTs.rta c S s H C cl fp) (fun s H C cl fp => PE.rea c S s H C cl fp) hs) ?_
  exact pe_mono q fun v H1 ⟨z, e, q1⟩ => ⟨z, e, lc_go hput walk_str q1⟩
/-- xs.extend(e), e a list -/
theorem re_extend {o e : Expr} {apos : Pos} (q : RE X o σ H fun x H1 => ∃ l xs, x = .ref l ∧ H1 l = some (.lst xs) ∧ RE X e σ H1 fun y H2 => ∃ b xs' zs, y = .ref b ∧ H2 l = some (.lst xs') ∧ H2 b = some (.lst zs) ∧ xs'.length + zs.length ≤ sizeLine ∧ Q .non (upd H2 l (.lst (xs' ++ zs))))
    (hbase : attributeBase o "extend" X.env (eval o X.env) = eval o X.env := by with_unfolding_all rfl)
    (hfew : ((backTo pos (starEach [e] X.env)).all (fun x => !x.1) && (backToKw pos (keywordEach [] X.env)).all (fun x => x.1.isSome) && decide (([e] : List Expr).length + ([] : List Keyword).length + (if ([] : List Keyword).isEmpty then 0 else 1) < 30)) = true := by with_unfolding_all rfl)
    (hline : (apos.endLine == pos.line) = true := by with_unfolding_all rfl) (hs : starEach [e] X.env = (false, eval e X.env) :: starEach [] X.env := by with_unfolding_all rfl) (hplain : (backTo pos (starEach [] X.env)).any (·.1) = false := by with_unfolding_all rfl) :
    RE X (.Call (.Attribute o "extend" apos) [e] [] pos) σ H Q := by
  refine re_of (pe_bm PySem.F.plainAttrs_list PySem.F.slot_list_extend PySem.F.type_list_extend mt_extend PE.self PA.self hbase hfew hline hs hplain) ?_
  refine pe_mono q fun x H1 ⟨l, xs, e1, h1, q1⟩ => ?_
  subst e1
  refine ⟨.inl ⟨rfl, _, SqL.of h1⟩, ra_cons (pe_mono q1 fun y H2 ⟨b, xs', zs, e2, h2, h3, h4, q2⟩ => ra_nil ⟨l, b, xs', zs, rfl, by rw [e2], h2, h3, h4, q2⟩) hs⟩
/-! ### keywords alone -/
structure RK (X : Cx) (kws : List Keyword) (σ : L2.St) (H : Hp) (Q : List V → Hp → Prop) : Prop where
  ex : ∃ t, PK X kws t ∧ t σ H Q
theorem PK.self {kws : List Keyword} : PK X kws (RK X kws) := ⟨fun pos pins s σ H Q I h => by obtain ⟨t, ht, q⟩ := h.ex; exact ht.run pos pins s σ H Q I q⟩
theorem rk_nil {Q : List V → Hp → Prop} (q : Q [] H) : RK X [] σ H Q := ⟨⟨_, pk_nil, q⟩⟩
theorem rk_cons {nm : Option Str} {e : Expr} {kpos : Pos} {kws : List Keyword} {Q : List V → Hp → Prop} (q : RE X e σ H fun x H1 => RK X kws σ H1 fun xs H2 => Q (x :: xs) H2) : RK X (⟨nm, e, kpos⟩ :: kws) σ H Q := ⟨⟨_, pk_cons PE.self PK.self, q⟩⟩
/-- f(k = e, ..) -/
theorem re_callKO (c : Ctx X N L k) {CXs : CXT} {x : Str} {n : Nat} {f : Addr} {fd : FuncData} {ps ks : List Str} {sp : Sp} {g : List Value → List Value → List Value} {gV : List V → List V → List V} {kws : List Keyword} (F : FnOk X.prog X.w X.K X.mg X.base CXs n f fd ps sp) (hn : n ≤ k) (h : (x, KN.glob) ∈ L)
    (hm : X.mg x = some (.ref f)) (hk : PySem.W.keepIn X.K (.ref f) = true) (hb : KBinds X.K fd ps ks g gV) {E : XK} (hx : Passes CXs X E) (q : RK X kws σ H fun zs H1 => sp (gV [] zs) H1 Q E)
    (hall : (backToKw pos (keywordEach kws X.env)).all (·.1.isSome) = true := by with_unfolding_all rfl) (hks : (backToKw pos (keywordEach kws X.env)).filterMap (·.1) = ks := by with_unfolding_all rfl)
    (hpl : ((backTo pos (starEach [] X.env)).any (·.1) || (backToKw pos (keywordEach kws X.env)).any (·.1.isNone)) = false := by with_unfolding_all rfl) : RE X (.Call (.Name x p0) [] kws pos) σ H Q := by
  refine re_of (t := fun σ H Q => RK X kws σ H fun zs H1 => sp (gV [] zs) H1 Q E) ⟨fun pins s σ H Q I h' => ?_⟩ q
  refine wpAny_Call_Name_kw (ld_glob I (c.gl h) hm ?_ (c.d1 h))
  refine PySem.W.callWith_KW0 (h₀ := X.base) I.ok.mod.kin hk hall ?_ hpl
  refine thn (PK.self.run pos pins s σ H _ I h') fun ws s2 ⟨zs, H2, I2, rz, q2⟩ => ⟨I2.kIn, ?_⟩
  rw [hks]
  exact run_fnk (us := []) (vs := []) F (c.room.mono hn) hb hx I2 .nil rz q2
end
end GT
namespace GT
open PySem PySem.Spec PyProof.Rows L2
/-! ### enumerate of a text -/
def IteS (x : Str) : It := ⟨fun i _ => i < x.cps.size, fun i H v H' => ∃ T c, v = .ref T ∧ H T = none ∧ H' = upd H T (.tup [.int (i : Nat), .str ⟨#[c]⟩]) ∧ x.cps[i]? = some c, fun i _ => i = x.cps.size⟩
theorem turn_enumS {P : Program} {w : World} {K : PySem.W.Frag} {elts : List Expr} {kk : Nat} {tpos : Pos} (e it : Addr) (x : Str) (t : Tok) (ty : String) (hty : ty = "str_ascii_iterator" ∨ ty = "str_iterator") :
    Turn P w K (.Tuple elts kk tpos) (IteS x) [e, it] e (fun i h => (∃ old, IsEnum h e it ((i : Nat) : Int) old) ∧ h.IsStrIter it ty x t i ∧ e ≠ it) where
  mem := by simp
  obj := fun i h st b hb => by
    obtain ⟨⟨old, he⟩, ⟨o, ho, hc, hd⟩, _⟩ := st
    have e' : b = e ∨ b = it := by simpa using hb
    rcases e' with z | z
    · rw [z]; exact ⟨_, he, fun v q => nomatch q⟩
    · rw [z]; exact ⟨o, ho, fun v q => by rw [hd] at q; cases q⟩
  keep := fun i h h' st k => let ⟨⟨old, he⟩, hi, hne⟩ := st; ⟨⟨old, k e (by simp) _ he⟩, (by obtain ⟨o, ho, hc, hd⟩ := hi; exact ⟨o, k it (by simp) _ ho, hc, hd⟩), hne⟩
  item := by
    intro X hP hw hK hc i pins s σ H E I hf st hg
    subst hP hw hK
    obtain ⟨⟨old, he⟩, hit, hne⟩ := st
    have hel : e < s.heap.objs.size := Heap.lt_size he
    have hil : it < s.heap.objs.size := by obtain ⟨_, q, _⟩ := hit; exact Heap.lt_size q
    have hh : X.A.in1.handled = none := I.ok.hd hc
    have D : Draws X.prog X.w X.A.in1 it [it] x.cps.size (fun i v => ∃ c u, x.cps[i]? = some c ∧ v = .str ⟨#[c]⟩ u) (fun i h => h.IsStrIter it ty x t i) := by
      rcases hty with e | e
      · rw [e]; exact Draws.strAscii hh it x t
      · rw [e]; exact Draws.strWide hh it x t
    refine wpAny_pyNext_enum_itemD D he hit hg hne (by simpa using hne) fun v h' tk hv ho hit' hT hsz hk => ?_
    obtain ⟨c, u, hcx, rfl⟩ := hv
    refine ⟨_, rfl, wpAny_letOwnedTupleGo_enum (s := { s with heap := h', toks := tk + 1 }) ho fun h'' he' sb => ?_⟩
    have hT2 : h''.get? s.heap.objs.size = some { cls := .type "tuple", data := .seq #[.int i tk, .str ⟨#[c]⟩ u] } := (sb.2 _ (Nat.ne_of_gt hel)).trans hT
    have new : ObjOk X.prog X.w (upd H s.heap.objs.size (.tup [.int (i : Nat), .str ⟨#[c]⟩])) h'' s.heap.objs.size (.tup [.int (i : Nat), .str ⟨#[c]⟩]) :=
      ⟨by show 2 ≤ sizeLine; decide, [.int i tk, .str ⟨#[c]⟩ u], .cons ⟨_, rfl⟩ (.cons ⟨_, rfl⟩ .nil), ⟨_, hT2, rfl, _, rfl⟩⟩
    have I1 : Inv X pins σ (upd H s.heap.objs.size (.tup [.int (i : Nat), .str ⟨#[c]⟩])) { s with heap := h'', toks := tk + 1 } :=
      I.turnedNew (ch := [e, it]) (fun b ob hb q => (sb.2 b (fun z => hb (by simp [z]))).trans (hk b ob (fun z => hb (by simp [z])) (fun z => hb (by simp [z])) q)) hf (Nat.le_refl _) new
    refine ⟨.ref s.heap.objs.size, _, I1, rfl, ⟨_, c, rfl, I.hok.fresh (Nat.le_refl _), rfl, hcx⟩, ⟨⟨.str ⟨#[c]⟩ u, ?_⟩, ?_, hne⟩, fun b hb => ?_⟩
    · have e1 : ((i + 1 : Nat) : Int) = (i : Int) + 1 := by omega
      rw [e1]; exact he'
    · obtain ⟨o, ho2, hc2, hd2⟩ := hit'
      exact ⟨o, (sb.2 it (Ne.symm hne)).trans ho2, hc2, hd2⟩
    · have hb' : b < s.heap.objs.size := by
        have e' : b = e ∨ b = it := by simpa using hb
        rcases e' with z | z
        · rw [z]; exact hel
        · rw [z]; exact hil
      rw [upd_ne (Nat.ne_of_lt hb')]
      exact (hf b hb).1
  done := by
    intro X hP hw hK hc i pins s σ H E I hf st hg
    subst hP hw hK
    obtain ⟨⟨old, he⟩, hit, hne⟩ := st
    obtain ⟨f0, f1, f2, f3, f4, f5⟩ := hf it (by simp)
    have hh : X.A.in1.handled = none := I.ok.hd hc
    have D : Draws X.prog X.w X.A.in1 it [it] x.cps.size (fun i v => ∃ c u, x.cps[i]? = some c ∧ v = .str ⟨#[c]⟩ u) (fun i h => h.IsStrIter it ty x t i) := by
      rcases hty with e | e
      · rw [e]; exact Draws.strAscii hh it x t
      · rw [e]; exact Draws.strWide hh it x t
    have e1 : i = x.cps.size := hg
    rw [e1] at hit
    exact wpAny_pyNext_enum_endD D he hit fun h' eb => ⟨rfl, I.turned (t' := s.toks) (fun b o hb q => eb b o hb q) f0 f1 f3 f4 f5⟩
  self := fun A i s Q E st h => let ⟨⟨_, he⟩, _⟩ := st; wpAny_pyIter_enum he h
theorem iterTy (x : Str) : strIterType x = "str_ascii_iterator" ∨ strIterType x = "str_iterator" := by
  unfold strIterType
  split
  · exact .inl rfl
  · exact .inr rfl
def iEnumS (ta : TA) : TI := fun σ H R => ta σ H fun vs H1 => ∃ x, vs = [.str x] ∧ R (IteS x) H1
theorem pi_enumS {X : Cx} {e : Expr} {ta : TA} {p pos tpos : Pos} {elts : List Expr} {kk : Nat} (hg : Gl X "enumerate") (hm : X.mg "enumerate" = none) (ha : PA X [e] ta) (hs : starEach [e] X.env = [(false, eval e X.env)] := by rfl) :
    PI X (.Tuple elts kk tpos) (.Call (.Name "enumerate" p) [e] [] pos) (iEnumS ta) := by
  refine ⟨fun pins s σ H R I h => ?_⟩
  refine Call_ (ld_blt I hg hm boot_enumerate (PyProof.Rows.callWith_type1 (thn (ha.run pos pins s σ H _ I h) fun us s1 ⟨vs, H1, I1, r1, q1⟩ => ?_) hs rfl))
  obtain ⟨x, ex, q⟩ := q1
  subst ex
  cases r1 with
  | cons r rr =>
    cases rr
    obtain ⟨t, rfl⟩ := r
    refine call_enumerate_str fun h' he hit hsz hk => wpAny_pyIter_enum he ?_
    have I2 : Inv X pins σ H1 { s1 with heap := h' } := I1.kept (t' := s1.toks) hk
    refine ⟨s1.heap.objs.size + 1, [s1.heap.objs.size + 1, s1.heap.objs.size], _, _, H1, rfl, I2, turn_enumS (s1.heap.objs.size + 1) s1.heap.objs.size x t _ (iterTy x), ⟨⟨.none, he⟩, hit, Nat.succ_ne_self _⟩, fun b hb => ?_, q⟩
    have e' : b = s1.heap.objs.size + 1 ∨ b = s1.heap.objs.size := by simpa using hb
    have hle : s1.heap.objs.size ≤ b := by
      rcases e' with z | z
      · rw [z]; exact Nat.le_add_right _ _
      · rw [z]; exact Nat.le_refl _
    exact I1.fpOk hle (I1.hok.fresh hle)
end GT
namespace GT
open PySem
open Sem (wp)
/-! ### enumerate(v), v told by how its iterator begins -/
theorem meets_enum1 {v : Value} {o : Obj} {G : Heap → Prop} (B : Begins v o G) :
    Meets (Builtin.«enumerate.__new__» ⟨[.type "enumerate", v], []⟩) (fun _ R s => G s.heap ∧
      R (.ok (.ret (.ref (s.heap.push o).objs.size))) { s with heap := (s.heap.push o).push { cls := .type "enumerate", data := .fields #[.none, .bool false, .ref s.heap.objs.size, rawInt 0, .none, .none] } }) :=
  .of_wp fun prog w A R s h => by
    obtain ⟨hp, g, d, tk, os⟩ := s
    obtain ⟨h1, h⟩ := h
    have hsub := sub_enumerate
    have q1 : ∀ {A' : Around} {E : Value → Shared → Prop} {Q : Value → Shared → Prop}, Q (.ref hp.objs.size) ⟨hp.push o, g, d, tk, os⟩ → wpAny (model prog w) A' (pyIter v) Q E ⟨hp, g, d, tk, os⟩ :=
      fun q => B.iter prog w _ _ ⟨hp, g, d, tk, os⟩ _ h1 q
    wp_walk using q1
    refine wpAny_stack_any fun st => wpAny_pure ?_
    split
    · rename_i c _ _ _ _ _
      cases (c == Value.type "enumerate") <;> (wp_walk using q1; exact ⟨_, rfl, h⟩)
    · wp_walk using q1
      exact ⟨_, rfl, h⟩
theorem call_enum1 {prog : Program} {w : World} {A : Around} {E : Value → Shared → Prop} {s : Shared} {v : Value} {o : Obj} {G : Heap → Prop} {Q : Value → Shared → Prop} (B : Begins v o G) (h1 : G s.heap)
    (h : ∀ h', IsEnum h' (s.heap.objs.size + 1) s.heap.objs.size 0 .none → h'.get? s.heap.objs.size = some o → (∀ b o, s.heap.get? b = some o → h'.get? b = some o) → Q (.ref (s.heap.objs.size + 1)) { s with heap := h' }) :
    wpAny (model prog w) A (call (.type "enumerate") [v]) Q E s := by
  refine callType_new F.called_enumerate (by decide) (F.typeCall_enumerate_1 _) (F.newCall_enumerate_1 _) (fun obj => F.args_object_init_2 obj _) F.entry_enumerate_new (meets_enum1 B) ⟨h1, ?_⟩
  have hz : (s.heap.push o).objs.size = s.heap.objs.size + 1 := Heap.size_push ..
  show _ ∧ _
  rw [hz]
  have he : IsEnum ((s.heap.push o).push { cls := .type "enumerate", data := .fields #[.none, .bool false, .ref s.heap.objs.size, rawInt 0, .none, .none] }) (s.heap.objs.size + 1) s.heap.objs.size 0 .none := by
    have e := Heap.get?_push_size (s.heap.push o) (o := { cls := .type "enumerate", data := .fields #[.none, .bool false, .ref s.heap.objs.size, rawInt 0, .none, .none] }) rfl
    rw [hz] at e
    exact e
  exact ⟨⟨_, he, rfl⟩, h _ he (Heap.get?_push_of_some _ (Heap.get?_push_size _ B.free)) fun b o x => Heap.get?_push_of_some _ (Heap.get?_push_of_some _ x)⟩
theorem nextEnd_tuple {prog : Program} {w : World} {A : Around} {E : Value → Shared → Prop} {s : Shared} {e it l : Addr} {i : Nat} {n : Int} {items : Array Value} {old : Value} {Q : Option Value → Shared → Prop} (hh : A.in1.handled = none)
    (he : IsEnum s.heap e it n old) (hit : s.heap.IsTupleIter it l i) (hl : s.heap.IsTuple l items) (hx : items[i]? = none)
    (hQ : ∀ h', Heap.ExtBut it s.heap h' → Q none { s with heap := h' }) : wpAny (model prog w) A (pyNext (.ref e)) Q E s := by
  have hT : s.TypeIs (.ref e) "enumerate" := ⟨_, he, rfl⟩
  unfold pyNext
  refine wpAny_bind (wpAny_attempt (wpAny_callSpecial?_slot (name := Str.ofString "__next__") hT F.slot_enumerate_next (wpAny_call_entry F.slot_enumerate_next hT F.entry_enumerate_next ?_ (F.args_enumerate_next_1 _))))
  show wpAny _ _ (field (.ref e) 2 >>= _) _ _ _
  refine wpAny_bind (wpAny_field he rfl (x := .ref it) rfl (wpAny_bind (wpAny_nextOf_tuple_end hh hit hl hx fun h' x he' hx' => ?_)))
  obtain ⟨o, ho, hc⟩ := hx'
  exact wpAny_bind (wpAny_isInstance (T := "StopIteration") (b := true) ⟨o, ho, hc⟩ isSubtype_stop (wpAny_pure (hQ _ he')))
end GT
namespace GT
open PySem PySem.Spec PyProof.Rows L2
/-! ### enumerate of a tuple -/
def IteT (K : PySem.W.Frag) (a : Addr) : It :=
  ⟨fun i H => ∃ (xs : List V) (x : V), SqT K H a xs ∧ xs[i]? = some x, fun i H v H' => ∃ T x, v = .ref T ∧ H T = none ∧ H' = upd H T (.tup [.int (i : Nat), x]) ∧ ∀ xs, SqT K H a xs → xs[i]? = some x, fun i H => ∃ xs : List V, SqT K H a xs ∧ xs.length ≤ i⟩
theorem turn_enumT {P : Program} {w : World} {K : PySem.W.Frag} {elts : List Expr} {kk : Nat} {tpos : Pos} (a e it : Addr) :
    Turn P w K (.Tuple elts kk tpos) (IteT K a) [e, it] e (fun i h => (∃ old, IsEnum h e it ((i : Nat) : Int) old) ∧ h.IsTupleIter it a i ∧ e ≠ it) where
  mem := by simp
  obj := fun i h st b hb => by
    obtain ⟨⟨old, he⟩, ⟨o, ho, hc, hd⟩, _⟩ := st
    have e' : b = e ∨ b = it := by simpa using hb
    rcases e' with z | z <;> subst z
    · exact ⟨_, he, fun v q => nomatch q⟩
    · exact ⟨o, ho, fun v q => by rw [hd] at q; cases q⟩
  keep := fun i h h' st k => by
    obtain ⟨⟨old, he⟩, hi, hne⟩ := st
    exact ⟨⟨old, k e (by simp) _ he⟩, hi.at fun o q => k it (by simp) o q, hne⟩
  item := by
    intro X hP hw hK hc i pins s σ H E I hf st hg
    subst hP hw hK
    obtain ⟨⟨old, he⟩, hit, hne⟩ := st
    obtain ⟨xs, x, hq, hx⟩ := hg
    obtain ⟨its, rv, p, hz⟩ := I.tuple hq
    have p : s.heap.IsTuple a its.toArray := p
    obtain ⟨oa, hoa, hca, _⟩ := id p
    obtain ⟨oi, hoi, hci, _⟩ := id hit
    have n1 : a ≠ it := fun q => by
      rw [q, hoi] at hoa
      cases hoa
      rw [hci] at hca
      exact absurd hca (by decide)
    have n2 : e ≠ a := fun q => by
      rw [← q, he] at hoa
      cases hoa
      exact absurd (show Value.type "enumerate" = Value.type "tuple" from hca) (by decide)
    have hel : e < s.heap.objs.size := Heap.lt_size he
    have hil : it < s.heap.objs.size := Heap.lt_size hoi
    have hh : X.A.in1.handled = none := I.ok.hd hc
    have D := Draws.tuple (prog := X.prog) (w := X.w) (A := X.A.in1) hh it a n1 its.toArray
    have hlt : i < its.toArray.size := by
      obtain ⟨u, hu, _⟩ := rv.get hx
      rcases Nat.lt_or_ge i its.length with z | z
      · simpa using z
      · rw [List.getElem?_eq_none z] at hu; cases hu
    refine wpAny_pyNext_enum_itemD D he ⟨hit, p⟩ hlt hne (by simp [hne, n2]) fun v h' tk hv ho hit' hT hsz hk => ?_
    obtain ⟨u, hu, ru⟩ := rv.get hx
    have ev : v = u := by
      have h2 : its.toArray[i]? = some u := by simpa using hu
      exact Option.some.inj ((show its.toArray[i]? = some v from hv).symm.trans h2)
    subst ev
    refine ⟨_, rfl, wpAny_letOwnedTupleGo_enum (s := { s with heap := h', toks := tk + 1 }) ho fun h'' he' sb => ?_⟩
    have hT2 : h''.get? s.heap.objs.size = some { cls := .type "tuple", data := .seq #[.int i tk, v] } := (sb.2 _ (Nat.ne_of_gt hel)).trans hT
    have new : ObjOk X.prog X.w (upd H s.heap.objs.size (.tup [.int (i : Nat), x])) h'' s.heap.objs.size (.tup [.int (i : Nat), x]) :=
      ⟨by show 2 ≤ sizeLine; decide, [.int i tk, v], .cons ⟨_, rfl⟩ (.cons ru .nil), ⟨_, hT2, rfl, _, rfl⟩⟩
    have I1 : Inv X pins σ (upd H s.heap.objs.size (.tup [.int (i : Nat), x])) { s with heap := h'', toks := tk + 1 } :=
      I.turnedNew (ch := [e, it]) (fun b ob hb q => (sb.2 b (fun z => hb (by simp [z]))).trans (hk b ob (fun z => hb (by simp [z])) (fun z => hb (by simp [z])) q)) hf (Nat.le_refl _) new
    refine ⟨.ref s.heap.objs.size, _, I1, rfl, ⟨_, x, rfl, I.hok.fresh (Nat.le_refl _), rfl, fun ys hy => by rw [I.tuple_inj hy hq]; exact hx⟩, ⟨⟨v, ?_⟩, hit'.1.at fun o q => (sb.2 it (Ne.symm hne)).trans q, hne⟩, fun b hb => ?_⟩
    · have e1 : ((i + 1 : Nat) : Int) = (i : Int) + 1 := by omega
      rw [e1]; exact he'
    · have hb' : b < s.heap.objs.size := by
        have e' : b = e ∨ b = it := by simpa using hb
        rcases e' with z | z <;> subst z <;> assumption
      rw [upd_ne (Nat.ne_of_lt hb')]
      exact (hf b hb).1
  done := by
    intro X hP hw hK hc i pins s σ H E I hf st hg
    subst hP hw hK
    obtain ⟨⟨old, he⟩, hit, hne⟩ := st
    obtain ⟨xs, hq, hx⟩ := hg
    obtain ⟨its, rv, p, hz⟩ := I.tuple hq
    have p : s.heap.IsTuple a its.toArray := p
    obtain ⟨oa, hoa, hca, _⟩ := id p
    obtain ⟨oi, hoi, hci, hdi⟩ := id hit
    have n1 : a ≠ it := fun q => by
      rw [q, hoi] at hoa
      cases hoa
      rw [hci] at hca
      exact absurd hca (by decide)
    obtain ⟨f0, f1, f2, f3, f4, f5⟩ := hf it (by simp)
    have hl := rv.length
    have hh : X.A.in1.handled = none := I.ok.hd hc
    refine nextEnd_tuple hh he hit p (by simp; omega) fun h' eb => ?_
    exact ⟨rfl, I.turned (t' := s.toks) (fun b o hb q => eb b o hb q) f0 f1 f3 f4 f5⟩
  self := fun A i s Q E st h => by
    obtain ⟨⟨_, he⟩, _⟩ := st
    exact wpAny_pyIter_enum he h
def iEnumT (K : PySem.W.Frag) (ta : TA) : TI := fun σ H R => ta σ H fun vs H1 => ∃ a xs, vs = [.ref a] ∧ SqT K H1 a xs ∧ R (IteT K a) H1
theorem pi_enumT {X : Cx} {e : Expr} {ta : TA} {p pos tpos : Pos} {elts : List Expr} {kk : Nat} (hg : Gl X "enumerate") (hm : X.mg "enumerate" = none) (ha : PA X [e] ta) (hs : starEach [e] X.env = [(false, eval e X.env)] := by rfl) :
    PI X (.Tuple elts kk tpos) (.Call (.Name "enumerate" p) [e] [] pos) (iEnumT X.K ta) := by
  refine ⟨fun pins s σ H R I h => ?_⟩
  refine Call_ (ld_blt I hg hm boot_enumerate (PyProof.Rows.callWith_type1 (thn (ha.run pos pins s σ H _ I h) fun us s1 ⟨vs, H1, I1, r1, q1⟩ => ?_) hs rfl))
  obtain ⟨a, xs, ex, hq, q⟩ := q1
  subst ex
  cases r1 with
  | cons r rr =>
    cases rr
    cases r
    obtain ⟨its, rv, p', hz⟩ := I1.tuple hq
    refine call_enum1 (begins_tuple a its.toArray) (show s1.heap.IsTuple a its.toArray from p') fun h' he hit hk => wpAny_pyIter_enum he ?_
    have I2 : Inv X pins σ H1 { s1 with heap := h' } := I1.kept (t' := s1.toks) hk
    refine ⟨s1.heap.objs.size + 1, [s1.heap.objs.size + 1, s1.heap.objs.size], _, _, H1, rfl, I2, turn_enumT a (s1.heap.objs.size + 1) s1.heap.objs.size, ⟨⟨.none, he⟩, ⟨_, hit, rfl, rfl⟩, Nat.succ_ne_self _⟩, fun b hb => ?_, q⟩
    have e' : b = s1.heap.objs.size + 1 ∨ b = s1.heap.objs.size := by simpa using hb
    have hle : s1.heap.objs.size ≤ b := by rcases e' with z | z <;> subst z <;> simp
    exact I1.fpOk hle (I1.hok.fresh hle)
/-! ### walks over them -/
theorem walk_enumS {z : Str} : Walk (IteS z) z.cps.size (fun _ => True) (YPair (fun i => some (.int (i : Nat))) (fun i => z.cps[i]?.map fun c => .str ⟨#[c]⟩)) := by
  refine ⟨fun _ _ hi _ => hi, fun _ _ => rfl, fun i H v H' _ _ y => ?_⟩
  obtain ⟨T, c, h1, h2, h3, h4⟩ := y
  exact ⟨T, .int (i : Nat), .str ⟨#[c]⟩, h1, h2, h3, rfl, by show Option.map _ _ = _; rw [h4]; rfl⟩
theorem walk_enumT {K : PySem.W.Frag} {a : Addr} {xs : List V} : Walk (IteT K a) xs.length (fun H => SqT K H a xs) (YPair (fun i => some (.int (i : Nat))) (fun i => xs[i]?)) := by
  refine ⟨fun i _ hi q => ⟨xs, xs[i], q, by simp [hi]⟩, fun _ q => ⟨xs, q, Nat.le_refl _⟩, fun i H v H' _ q y => ?_⟩
  obtain ⟨T, x, h1, h2, h3, h4⟩ := y
  exact ⟨T, .int (i : Nat), x, h1, h2, h3, rfl, h4 xs q⟩
section
variable {X : Cx} {σ : L2.St} {H : Hp} {N : List Str} {L Lc : List (Str × KN)} {k : Nat} {pos p0 p1 p2 p3 : Pos} {Q : VK} {D : Ends}
/-- what a loop over pairs asks: u i, v i the pair's parts, T its own new tuple -/
def PTurns (X : Cx) (N : List Str) (x y : Str) (body : List Stmt) (D : Ends) (stand : Hp → Prop) (n : Nat) (u v : Nat → Option V) (σ : L2.St) (H : Hp) : Prop :=
  ∃ Pv : Nat → L2.St → Hp → Prop, Pv 0 σ H ∧ (∀ i σ H, i ≤ n → Pv i σ H → stand H) ∧
    (∀ i a b σ H T, i < n → u i = some a → v i = some b → Pv i σ H → H T = none → ∃ σ' σ'', Put N σ x a σ' ∧ Put N σ' y b σ'' ∧ RB X body { D with nx := Pv (i + 1), ct := Pv (i + 1), bk := D.nx } σ'' (upd H T (.tup [a, b]))) ∧ (∀ σ H, Pv n σ H → D.nx σ H)
theorem pturns_go {J : It} {x y : Str} {body : List Stmt} {stand : Hp → Prop} {n : Nat} {u v : Nat → Option V} {i i' : Nat} (W : Walk J n stand (YPair u v)) (h2 : ∀ {σ σ' : L2.St} {v : V}, Put N σ x v σ' → σ' = σ.set i (some v)) (h2' : ∀ {σ σ' : L2.St} {v : V}, Put N σ y v σ' → σ' = σ.set i' (some v))
    (q : PTurns X N x y body D stand n u v σ H) :
    ∃ W : Nat → Nat → L2.St → Hp → Prop, (∃ m, W 0 m σ H) ∧ ∀ j m σ H, W j m σ H → (J.stop j H ∧ D.nx σ H) ∨ (J.go j H ∧ ∃ Nx : L2.St → Hp → Prop, (∀ σ' H', Nx σ' H' → ∃ m', m' < m ∧ W (j + 1) m' σ' H') ∧ ∀ w H', J.yld j H w H' →
      gTup X.K 2 (gCons (gName i) (gCons (gName i') gNil)) w σ H' fun σ2 H2 => RB X body { D with nx := Nx, ct := Nx, bk := D.nx } σ2 H2) := by
  obtain ⟨Pv, a1, a2, a3, a4⟩ := q
  refine for_it W (tb := fun D σ H => RB X body D σ H) (g := gTup X.K 2 (gCons (gName i) (gCons (gName i') gNil))) Pv a1 a2 (fun j w σ H H' hj p yy => ?_) a4
  obtain ⟨T, a, b, rfl, hT, rfl, e1, e2⟩ := yy
  obtain ⟨σ', σ'', b1, b2, r⟩ := a3 j a b σ H T hj e1 e2 p hT
  rw [h2' b2, h2 b1] at r
  exact ⟨T, _, rfl, SqT.of upd_same, rfl, _, _, rfl, _, _, rfl, rfl, r⟩
section
variable {x y : Str} {e : Expr} {body : List Stmt} {j j' : KN} {kt : Nat} {q0 q1 q2 : Pos}
theorem rs_for_enumS (c : Ctx X N L k) (h : (x, j) ∈ L) (m : Own j) (hx : x ∈ N) (h' : (y, j') ∈ L) (m' : Own j') (hy : y ∈ N) (hg : (("enumerate" : Str), KN.glob) ∈ L) (hm : X.mg "enumerate" = none)
    (q : RE X e σ H fun v H1 => ∃ z, v = .str z ∧ PTurns X N x y body D (fun _ => True) z.cps.size (fun i => some (.int (i : Nat))) (fun i => z.cps[i]?.map fun c => .str ⟨#[c]⟩) σ H1)
    (hs : ∀ x, foldedSetIterable (.Call (.Name "enumerate" p1) [e] [] p2) X.env x = pure x := by intro _; with_unfolding_all rfl) (hsE : starEach [e] X.env = [(false, eval e X.env)] := by with_unfolding_all rfl)
    (hn : (assignEach [.Name x q0, .Name y q1] X.env).length = 2 := by with_unfolding_all rfl) (hst : (assignEach [.Name x q0, .Name y q1] X.env).findIdx? (·.1) = none := by with_unfolding_all rfl)
    (ha : (assignEach [.Name x q0, .Name y q1] X.env).map (·.2) = assign (.Name x q0) X.env :: (assignEach [.Name y q1] X.env).map (·.2) := by with_unfolding_all rfl) (hb : (assignEach [.Name y q1] X.env).map (·.2) = assign (.Name y q1) X.env :: (assignEach [] X.env).map (·.2) := by with_unfolding_all rfl) :
    RS X (.For (.Tuple [.Name x q0, .Name y q1] kt q2) (.Call (.Name "enumerate" p1) [e] [] p2) body [] pos) D σ H := by
  obtain ⟨i, g, h2⟩ := c.pg (p0 := q0) h m hx
  obtain ⟨i', g', h2'⟩ := c.pg (p0 := q1) h' m' hy
  refine rs_of (ps_for c.po c.calm (pi_enumS (c.gl hg) hm PA.self hsE) (pg_tup (n := 2) c.calm (pgs_cons g (pgs_cons g' pgs_nil hb) ha) hn hst) PSs.self hs) ?_
  exact ra_cons (pe_mono q fun v H1 ⟨z, e1, t⟩ => ra_nil ⟨z, by rw [e1], pturns_go walk_enumS h2 h2' t⟩) hsE
theorem rs_for_enumT (c : Ctx X N L k) (h : (x, j) ∈ L) (m : Own j) (hx : x ∈ N) (h' : (y, j') ∈ L) (m' : Own j') (hy : y ∈ N) (hg : (("enumerate" : Str), KN.glob) ∈ L) (hm : X.mg "enumerate" = none)
    (q : RE X e σ H fun v H1 => ∃ a xs, v = .ref a ∧ SqT X.K H1 a xs ∧ PTurns X N x y body D (fun H => SqT X.K H a xs) xs.length (fun i => some (.int (i : Nat))) (fun i => xs[i]?) σ H1)
    (hs : ∀ x, foldedSetIterable (.Call (.Name "enumerate" p1) [e] [] p2) X.env x = pure x := by intro _; with_unfolding_all rfl) (hsE : starEach [e] X.env = [(false, eval e X.env)] := by with_unfolding_all rfl)
    (hn : (assignEach [.Name x q0, .Name y q1] X.env).length = 2 := by with_unfolding_all rfl) (hst : (assignEach [.Name x q0, .Name y q1] X.env).findIdx? (·.1) = none := by with_unfolding_all rfl)
    (ha : (assignEach [.Name x q0, .Name y q1] X.env).map (·.2) = assign (.Name x q0) X.env :: (assignEach [.Name y q1] X.env).map (·.2) := by with_unfolding_all rfl) (hb : (assignEach [.Name y q1] X.env).map (·.2) = assign (.Name y q1) X.env :: (assignEach [] X.env).map (·.2) := by with_unfolding_all rfl) :
    RS X (.For (.Tuple [.Name x q0, .Name y q1] kt q2) (.Call (.Name "enumerate" p1) [e] [] p2) body [] pos) D σ H := by
  obtain ⟨i, g, h2⟩ := c.pg (p0 := q0) h m hx
  obtain ⟨i', g', h2'⟩ := c.pg (p0 := q1) h' m' hy
  refine rs_of (ps_for c.po c.calm (pi_enumT (c.gl hg) hm PA.self hsE) (pg_tup (n := 2) c.calm (pgs_cons g (pgs_cons g' pgs_nil hb) ha) hn hst) PSs.self hs) ?_
  exact ra_cons (pe_mono q fun v H1 ⟨a, xs, e1, hq, t⟩ => ra_nil ⟨a, xs, by rw [e1], hq, pturns_go walk_enumT h2 h2' t⟩) hsE
theorem rs_for_enumL (c : Ctx X N L k) (h : (x, j) ∈ L) (m : Own j) (hx : x ∈ N) (h' : (y, j') ∈ L) (m' : Own j') (hy : y ∈ N) (hg : (("enumerate" : Str), KN.glob) ∈ L) (hm : X.mg "enumerate" = none)
    (q : RE X e σ H fun v H1 => ∃ a xs, v = .ref a ∧ SqL X.K H1 a xs ∧ PTurns X N x y body D (fun H => SqL X.K H a xs) xs.length (fun i => some (.int (i : Nat))) (fun i => xs[i]?) σ H1)
    (hs : ∀ x, foldedSetIterable (.Call (.Name "enumerate" p1) [e] [] p2) X.env x = pure x := by intro _; with_unfolding_all rfl) (hsE : starEach [e] X.env = [(false, eval e X.env)] := by with_unfolding_all rfl)
    (hn : (assignEach [.Name x q0, .Name y q1] X.env).length = 2 := by with_unfolding_all rfl) (hst : (assignEach [.Name x q0, .Name y q1] X.env).findIdx? (·.1) = none := by with_unfolding_all rfl)
    (ha : (assignEach [.Name x q0, .Name y q1] X.env).map (·.2) = assign (.Name x q0) X.env :: (assignEach [.Name y q1] X.env).map (·.2) := by with_unfolding_all rfl) (hb : (assignEach [.Name y q1] X.env).map (·.2) = assign (.Name y q1) X.env :: (assignEach [] X.env).map (·.2) := by with_unfolding_all rfl) :
    RS X (.For (.Tuple [.Name x q0, .Name y q1] kt q2) (.Call (.Name "enumerate" p1) [e] [] p2) body [] pos) D σ H := by
  obtain ⟨i, g, h2⟩ := c.pg (p0 := q0) h m hx
  obtain ⟨i', g', h2'⟩ := c.pg (p0 := q1) h' m' hy
  refine rs_of (ps_for c.po c.calm (pi_enum (c.gl hg) hm PA.self hsE) (pg_tup (n := 2) c.calm (pgs_cons g (pgs_cons g' pgs_nil hb) ha) hn hst) PSs.self hs) ?_
  exact ra_cons (pe_mono q fun v H1 ⟨a, xs, e1, hq, t⟩ => ra_nil ⟨a, xs, by rw [e1], hq, pturns_go walk_enum h2 h2' t⟩) hsE
end
/-! ### texts -/
theorem cv_notInC {ch : Nat} {z : Str} (q : Q (.bl (!decide (ch ∈ z.cps.toList))) H) : CpV X .NotIn (.str ⟨#[ch]⟩) (.str z) H Q := ⟨⟨_, op_notIn_sign, ch, z, rfl, rfl, q⟩⟩
theorem cv_inC {ch : Nat} {z : Str} (q : Q (.bl (decide (ch ∈ z.cps.toList))) H) : CpV X .In (.str ⟨#[ch]⟩) (.str z) H Q := ⟨⟨_, op_in_sign, ch, z, rfl, rfl, q⟩⟩
theorem op_mulS : OpR X (binaryOp .Mult) (fun x y H Q => ∃ z n, x = .str z ∧ y = .int n ∧ MulOk z n ∧ Q (.str (Txt.mul z n)) H) := by
  intro pins s σ H x y v u Q I rx ry h
  obtain ⟨z, n, rfl, rfl, hok, q⟩ := h
  obtain ⟨t, rfl⟩ := rx
  obtain ⟨t', rfl⟩ := ry
  exact PySem.SB.mul hok fun t2 k => ⟨.str _, H, I.tok k, ⟨t2, rfl⟩, q⟩
theorem len_rep (a : Array Nat) : ∀ (n : Nat) (b : Array Nat), ((List.replicate n a).foldl (· ++ ·) b).size = b.size + n * a.size
  | 0, b => by simp
  | n + 1, b => by
    rw [List.replicate_succ, List.foldl_cons, len_rep a n (b ++ a), Array.size_append, Nat.succ_mul]
    omega
theorem len_mulS (z : Str) (n : Int) : (Txt.mul z n).length ≤ z.length * n.toNat := by
  unfold Txt.mul
  split
  · show 0 ≤ _
    exact Nat.zero_le _
  · rename_i h
    split
    · rename_i h2
      rcases (by simpa using h2 : n = 1 ∨ z.length = 0) with e | e
      · subst e
        simp
      · rw [e]
        exact Nat.zero_le _
    · show Array.size _ ≤ _
      rw [len_rep]
      show 0 + n.toNat * z.cps.size ≤ z.cps.size * n.toNat
      rw [Nat.mul_comm]
      omega
theorem mulOk_of {z : Str} {n : Int} (h1 : z.length ≤ 1000) (h2 : -1000 ≤ n) (h3 : n ≤ 1000) : MulOk z n := by
  refine ⟨?_, fun hn _ => ?_, fun hn _ => ?_⟩
  · rw [Bool.or_eq_false_iff]
    exact ⟨decide_eq_false (by omega), decide_eq_false (by omega)⟩
  · have h4 : (9223372036854775 : Int) ≤ (2 ^ 63 - 1) / n := by
      rw [Int.le_ediv_iff_mul_le (by omega)]
      omega
    omega
  · refine PyProof.Rows.short24 (Nat.le_trans (Nat.mul_le_mul h1 (show n.toNat ≤ 1000 by omega)) (by decide))
theorem ov_mulS {z : Str} {n : Int} (h1 : z.length ≤ 1000) (h2 : -1000 ≤ n) (h3 : n ≤ 1000) (q : ∀ w : Str, w.length ≤ z.length * n.toNat → Q (.str w) H) : OpV X .Mult (.str z) (.int n) H Q := ⟨⟨_, op_mulS, z, n, rfl, rfl, mulOk_of h1 h2 h3, q _ (len_mulS z n)⟩⟩
theorem re_upper {o : Expr} {apos : Pos} (q : RE X o σ H fun x H1 => ∃ a, x = .str a ∧ a.length ≤ 1000 ∧ ∀ w : Str, w.length ≤ 3 * a.length → Q (.str w) H1)
    (hbase : attributeBase o "upper" X.env (eval o X.env) = eval o X.env := by with_unfolding_all rfl) (hline : (apos.endLine == pos.line) = true := by with_unfolding_all rfl) : RE X (.Call (.Attribute o "upper" apos) [] [] pos) σ H Q :=
  re_of (pe_upper PE.self hbase hline) (pe_mono q fun x H1 ⟨a, e, h, q⟩ => ⟨⟨a, e⟩, a, e, rfl, by omega, q _ (PyProof.Rows.len_upper a)⟩)
/-! ### a number that stands in the module -/
theorem re_gint (c : Ctx X N L k) {x : Str} {i : Int} (h : (x, KN.glob) ∈ L) (hm : ∃ t, X.mg x = some (.int i t)) (q : Q (.int i) H) : RE X (.Name x pos) σ H Q := by
  obtain ⟨t, e⟩ := hm
  exact re_glob (v := .int i) c h e ⟨t, rfl⟩ q
end
/-! ### the first place at fault -/
def ff {α : Type} (p : Nat → α → Bool) : Nat → List α → Option Nat
  | _, [] => none
  | i, x :: r => if p i x = true then some i else ff p (i + 1) r
theorem ff_at {α : Type} {p : Nat → α → Bool} {l : List α} {i : Nat} {x : α} (h : l[i]? = some x) : ff p i (l.drop i) = if p i x = true then some i else ff p (i + 1) (l.drop (i + 1)) := by
  have hi : i < l.length := by
    rcases Nat.lt_or_ge i l.length with z | z
    · exact z
    · rw [List.getElem?_eq_none z] at h; cases h
  rw [List.drop_eq_getElem_cons hi]
  rw [List.getElem?_eq_getElem hi] at h
  rw [Option.some.inj h]
  rfl
theorem ff_end {α : Type} {p : Nat → α → Bool} {l : List α} : ff p l.length (l.drop l.length) = none := by
  rw [List.drop_length]
  rfl
def oI : Option Int → V
  | none => .non
  | some i => .int i
def oN (o : Option Nat) : Option Int := o.map fun n => (n : Int)
end GT
namespace GT
open PySem PySem.Spec PyProof.Rows L2
/-! ### several except clauses, each with the same name -/
abbrev Suite := Addr → Value → Option Addr → TS
/-- the ends of a suite whose name in slot i is gone behind it -/
def Ends.wiped (D : Ends) (i : Nat) : Ends := { nx := fun σ' H' => D.nx (σ'.set i none) H', rt := D.rt, bk := fun σ' H' => D.bk (σ'.set i none) H', ct := fun σ' H' => D.ct (σ'.set i none) H' }
def wManyAs (K : PySem.W.Frag) (i : Nat) (Wout : WX) (D : Ends) : List (Value × Suite) → WX
  | [] => Wout
  | (c, ts) :: r => fun cls d σ H => ∃ b, PySem.W.exmOne K cls c = some b ∧ (b = true → ∀ a, H a = none → ts a cls d (Ends.wiped D i) (σ.set i (some (.ref a))) H) ∧ (b = false → wManyAs K i Wout D r cls d σ H)
inductive HdsAs (X : Cx) (n : Str) : List ExceptHandler → List (Value × Suite) → Prop
  | nil : HdsAs X n [] []
  | cons {x : Str} {c : Value} {ts : Suite} {b₀ : Stmt} {suite : List Stmt} {np pos' : Pos} {hds : List ExceptHandler} {l : List (Value × Suite)} (hc : Names X x c)
      (hsu : ∀ (a : Addr) (oe : Obj) (cls : Value) (d : Option Addr) (pn : List (Addr × Obj)), Zc cls d oe → (∃ vs, oe.data = .fields vs) → PSs (X.suite a ((a, oe) :: pn)) (b₀ :: suite) (ts a cls d)) (r : HdsAs X n hds l) :
      HdsAs X n (.ExceptHandler (some (.Name x np)) (some n) (b₀ :: suite) pos' :: hds) ((c, ts) :: l)
section
variable {X : Cx} {n : Str} {i : Nat} {body : List Stmt} {h₀ : ExceptHandler} {hds : List ExceptHandler} {l : List (Value × Suite)} {pos : Pos} {tb : WX → TS} {Wout : WX}
theorem ps_try_manyAs (hs : X.stack = X.env :: X.outer) (hf : X.env.frame = some X.env.locals) (hN : X.N.Nodup) (hi : X.N[i]? = some n) (hln : X.env.kindOf n = some .local) (tk : Takes X Wout)
    (hb : ∀ (W : WX) (pn : List (Addr × Obj)) (xe : Value → Shared → Prop), Takes (X.tr pn xe) W → PassesOwn (model X.prog X.w) X.A X.env xe → PSs (X.tr pn xe) body (tb W)) (hh : HdsAs X n (h₀ :: hds) l) :
    PS X (.Try body (h₀ :: hds) [] [] pos) (fun D σ H => tb (wManyAs X.K i Wout D l) D σ H) := by
  refine ⟨fun pins s σ H D I h => ?_⟩
  have ok := I.ok
  have hfr : X.A.frames = some (X.env :: X.outer) := by rw [ok.frames, hs]
  have hloc : Loc X.env.scope n := .inl hln
  refine wpAny_Try_except ?_
  refine wpAny_mono ((hb (wManyAs X.K i Wout D l) (X.pn ++ pins) (fun e s₁ => wpAny (model X.prog X.w) X.A (noteFrame e X.env) (fun _ s₂ => wpAny (model X.prog X.w) X.A (setFlight e none) (fun _ s₃ =>
    wpAny (model X.prog X.w) X.A (handleBy e X.env (h₀ :: hds)) (SP X pins D) X.xe s₃) X.xe s₂) X.xe s₁) (fun u s' xx => ?_) PassesOwn.looking).run [] s σ H D (I.toTry _) h) (fun f s1 hsp => ?_) (fun e s1 he => he)
  · obtain ⟨a, B, sI, pins', σ', H', cls, d, rfl, J', nb, up, sky, na, os, ag, w⟩ := xx
    have J : Inv X pins σ' H' sI := J'.ofTry ok
    have sky' : Sky B (X.env :: X.outer) a (Zc cls d) X.env.locals s'.heap := by rw [← hs]; exact sky
    show wpAny (model X.prog X.w) X.A (noteFrame (.ref a) X.env) _ _ _
    refine Sky.land Zc.steady hfr hf sky' fun h3 fl3 up3 => ?_
    have J3 : Inv X pins σ' H' { s' with heap := h3 } := J.landed nb fl3.1 (up.trans up3) os ag
    obtain ⟨oe3, vs3, he3, hz3, hd3⟩ := fl3.there
    have nfr : a ∉ frs (X.env :: X.outer) := fun hm => by
      obtain ⟨_, o', e', hnf⟩ := fl3.2.2.1.mem hm
      rw [he3] at e'
      cases e'
      exact hnf _ hd3
    have nL : a ≠ X.env.locals := fun z => nfr (List.mem_filterMap.mpr ⟨X.env, List.mem_cons_self, by rw [hf, z]⟩)
    have nF : a ∉ X.fs := fun hm => by
      obtain ⟨e, he, q⟩ := List.mem_filterMap.mp hm
      exact nfr (List.mem_filterMap.mpr ⟨e, List.mem_cons_of_mem _ he, q⟩)
    have S3 := J3.suite he3 hd3 na nL nF
    have go : ∀ {hds' : List ExceptHandler} {l' : List (Value × Suite)}, HdsAs X n hds' l' → wManyAs X.K i Wout D l' cls d σ' H' → wpAny (model X.prog X.w) X.A (handleBy (.ref a) X.env hds') (SP X pins D) X.xe { s' with heap := h3 } := by
      intro hds' l' hk
      induction hk with
      | nil =>
        intro w
        refine wpAny_handleBy_nil ?_
        obtain ⟨k1, k2, k3, oe, vs, T, oT, ts', he, hz, hd, h1, hr⟩ := id fl3
        unfold PySem.passOn
        refine wpAny_bind (wpAny_field he hd h1 ?_)
        rw [if_neg (show ¬ ((Value.ref T == Value.none) = true) from by simp)]
        have fin : wpAny (model X.prog X.w) X.A (setFlight (.ref a) X.env.frame) (fun _ s4 => wpAny (model X.prog X.w) X.A (throw (.ref a) : Sem Flow) (SP X pins D) X.xe s4) X.xe { s' with heap := h3 } := by
          rw [hf]
          refine HandSPX.setFlight_upZ fl3 fun h4 hh4 up4 => wpAny_throw (tk _ _ ?_)
          exact ⟨a, B, sI, pins, σ', H', cls, d, rfl, J, nb, (up.trans up3).trans up4, .inr (.inr (by rw [hs]; exact hh4)), na, os, ag, w⟩
        first
          | exact wpAny_bind (wpAny_pure (wpAny_bind fin))
          | exact wpAny_bind fin
      | @cons x c ts b₀ suite np pos' hds2 l2 hc hsu r ih =>
        intro w
        obtain ⟨b, hb1, hyes, hno⟩ := w
        refine wpAny_handleBy_cons (codeAny_handlers_test ?_) (by intro q; cases q)
        have LT : PySem.W.Looks (model X.prog X.w) h3 (typeOf (.ref a)) cls := fun A Q E s k q => wpAny_typeOf_ref (k _ _ he3) (by rw [hz3.1]; exact q)
        have LM := PySem.W.exm_one (M := model X.prog X.w) (J3.kIn) LT hb1
        have test : ∀ {Q : Value → Shared → Prop} {E : Value → Shared → Prop}, Q c { s' with heap := h3 } → wpAny (model X.prog X.w) (X.A.mark (some (.ref a))) (eval (.Name x np) X.env) Q E { s' with heap := h3 } := fun {Q E} q => by
          obtain ⟨hg, hdbg, hm | ⟨hm, hv, hnn⟩⟩ := hc
          · exact ld_glob (X := X.suite a ((a, oe3) :: (X.pn ++ pins))) S3 hg hm q hdbg
          · exact ld_blt (X := X.suite a ((a, oe3) :: (X.pn ++ pins))) S3 hg hm hv q hnn hdbg
        refine test (LM.here ?_)
        cases b with
        | true =>
          refine codeAny_handlers_suite_as ?_
          refine HandSPX.lands_againZ fl3 fun h4 fl4 up4 => ?_
          have J4 : Inv X pins σ' H' { s' with heap := h4 } := J.landed nb fl4.1 ((up.trans up3).trans up4) os ag
          obtain ⟨oe4, vs4, he4, hz4, hd4⟩ := fl4.there
          have S4 := J4.suite he4 hd4 na nL nF
          refine store_ok (X := X.suite a ((a, oe4) :: (X.pn ++ pins))) (v := .ref a) S4 hN hi hloc rfl (fun s5 S5 => ?_) (.inr hln)
          refine wpAny_mono ((hsu a oe4 cls d (X.pn ++ pins) hz4 ⟨_, hd4⟩).run [] s5 _ H' _ S5 (hyes rfl a na)) (fun f s6 hsp => ?_) (fun _ _ z => False.elim z)
          have fin : ∀ {σ6 : L2.St} {H6 : Hp} {Q : Shared → Prop}, Inv (X.suite a ((a, oe4) :: (X.pn ++ pins))) [] σ6 H6 s6 → (∀ s7, Inv X pins (σ6.set i none) H6 s7 → Q s7) →
              wpAny (model X.prog X.w) X.A (do bindName X.env n .none; unbindBehindTheSuite X.env n pos') (fun _ s7 => Q s7) X.xe s6 := fun {σ6 H6 Q} S6 hq => gone_ok (S6.unsuite ok) hN hi hln hq
          cases f with
          | ret u =>
            obtain ⟨v6, σ6, H6, S6, r6, q6⟩ := hsp
            exact fin S6 fun s7 J7 => ⟨_, _, _, J7, r6, q6⟩
          | _ =>
            obtain ⟨σ6, H6, S6, q6⟩ := hsp
            exact fin S6 fun s7 J7 => ⟨_, _, J7, q6⟩
        | false =>
          show wpAny _ X.A (handleBy (.ref a) X.env hds2) _ _ _
          exact ih (hno rfl)
    exact go hh w
  · cases f with
    | next =>
      obtain ⟨σ', H', J', q⟩ := hsp
      exact wpAny_execs_nil ⟨σ', H', J'.ofTry ok, q⟩
    | ret u =>
      obtain ⟨v, σ', H', J', r, q⟩ := hsp
      exact ⟨v, σ', H', J'.ofTry ok, r, q⟩
    | _ =>
      obtain ⟨σ', H', J', q⟩ := hsp
      exact ⟨σ', H', J'.ofTry ok, q⟩
end
section
variable {X : Cx} {σ : L2.St} {H : Hp} {N : List Str} {L Lc : List (Str × KN)} {k : Nat} {pos p0 p1 p2 p3 : Pos} {Q : VK} {D : Ends}
/-- try: body, except x as n: suite, except x' as n: suite' (both end by return); q1, q2 tell what is asked where the one or the other catches -/
theorem rs_try_as2 (c : CtxS X N L) (hs : X.stack = X.env :: X.outer) (hf : X.env.frame = some X.env.locals) {x x' n : Str} {c0 c1 : Value} {b₀ b₁ : Stmt} {body suite suite' : List Stmt} {np np' pos' pos'' : Pos} (hn : (n, KN.loc) ∈ L) (mn : n ∈ N) (hc : Names X x c0) (hc' : Names X x' c1)
    (q : ∀ (pn : List (Addr × Obj)) (xe : Value → Shared → Prop) (W : WX), Takes (X.tr pn xe) W → PassesOwn (model X.prog X.w) X.A X.env xe →
      (∀ (cls : Value) (d : Option Addr) (σ' : L2.St) (H' : Hp) (st : List Stmt), ((PySem.W.exmOne X.K cls c0 = some true ∧ st = b₀ :: suite) ∨ (PySem.W.exmOne X.K cls c0 = some false ∧ PySem.W.exmOne X.K cls c1 = some true ∧ st = b₁ :: suite')) →
        (∀ (a : Addr) (oe : Obj) (pn2 : List (Addr × Obj)) (nx bk ct : L2.St → Hp → Prop) (σa : L2.St), H' a = none → (∀ i : Nat, N[i]? = some n → σa = σ'.set i (some (.ref a))) → σ'.length = N.length → Zc cls d oe → (∃ vs, oe.data = .fields vs) → CtxS (X.suite a ((a, oe) :: pn2)) N L →
          RB (X.suite a ((a, oe) :: pn2)) st { nx := nx, rt := D.rt, bk := bk, ct := ct } σa H') → W cls d σ' H') →
      RB (X.tr pn xe) body D σ H) :
    RS X (.Try body [.ExceptHandler (some (.Name x np)) (some n) (b₀ :: suite) pos', .ExceptHandler (some (.Name x' np')) (some n) (b₁ :: suite') pos''] [] [] pos) D σ H := by
  obtain ⟨i, h1⟩ := List.mem_iff_getElem?.mp mn
  have su : ∀ (bb : Stmt) (ss : List Stmt) (a : Addr) (oe : Obj) (cls : Value) (d : Option Addr) (pn : List (Addr × Obj)), Zc cls d oe → (∃ vs, oe.data = .fields vs) →
      PSs (X.suite a ((a, oe) :: pn)) (bb :: ss) (fun D σ H => ∀ (oe : Obj) (pn2 : List (Addr × Obj)), σ.length = N.length → Zc cls d oe → (∃ vs, oe.data = .fields vs) → RB (X.suite a ((a, oe) :: pn2)) (bb :: ss) D σ H) := fun bb ss a oe cls d pn hz hd =>
    ⟨fun pins s σ H D I h => PSs.self.run pins s σ H D I (h oe pn (by rw [I.len, ← c.n]) hz hd)⟩
  refine rs_of (ps_try_manyAs (i := i) (n := n) (Wout := fun _ _ _ _ => False) (tb := fun W D σ H => ∀ (pn : List (Addr × Obj)) (xe : Value → Shared → Prop), Takes (X.tr pn xe) W → PassesOwn (model X.prog X.w) X.A X.env xe → RB (X.tr pn xe) body D σ H)
    (l := [(c0, fun a cls d D σ H => ∀ (oe : Obj) (pn2 : List (Addr × Obj)), σ.length = N.length → Zc cls d oe → (∃ vs, oe.data = .fields vs) → RB (X.suite a ((a, oe) :: pn2)) (b₀ :: suite) D σ H), (c1, fun a cls d D σ H => ∀ (oe : Obj) (pn2 : List (Addr × Obj)), σ.length = N.length → Zc cls d oe → (∃ vs, oe.data = .fields vs) → RB (X.suite a ((a, oe) :: pn2)) (b₁ :: suite') D σ H)])
    hs hf (by rw [c.n]; exact c.nd) (by rw [c.n]; exact h1) (c.look _ hn) takes0 (fun W pn xe tk po => ?_) (.cons hc (su b₀ suite) (.cons hc' (su b₁ suite') .nil))) ?_
  · exact ⟨fun pins s σ H D I h => PSs.self.run pins s σ H D I (h pn xe tk po)⟩
  · intro pn xe tk po
    refine q pn xe _ tk po fun cls d σ' H' st hst r => ?_
    rcases hst with ⟨e, rfl⟩ | ⟨e, e2, rfl⟩
    · refine ⟨true, e, fun _ a ha oe pn2 hl hz hd => ?_, fun z => nomatch z⟩
      exact r a oe pn2 _ _ _ _ ha (fun j hj => by rw [nodup_ix c.nd hj h1]) (by simpa using hl) hz hd ⟨c.n, c.nd, c.look, c.dbg⟩
    · refine ⟨false, e, (fun z => nomatch z), fun _ => ⟨true, e2, fun _ a ha oe pn2 hl hz hd => ?_, fun z => nomatch z⟩⟩
      exact r a oe pn2 _ _ _ _ ha (fun j hj => by rw [nodup_ix c.nd hj h1]) (by simpa using hl) hz hd ⟨c.n, c.nd, c.look, c.dbg⟩
/-- math.gcd by its name -/
theorem re_gcd (c : Ctx X N L k) {x : Str} {e : Expr} {es : List Expr} (h : (x, KN.glob) ∈ L) (hm : X.mg x = some (.builtin "math.gcd")) (q : RA X (e :: es) σ H fun vs H1 => ∃ a b : Int, vs = [.int a, .int b] ∧ Q (.int ((Nat.gcd a.natAbs b.natAbs : Nat) : Int)) H1)
    (he : starEach (e :: es) X.env = (false, eval e X.env) :: starEach es X.env := by with_unfolding_all rfl) (hpl : (backTo pos (starEach es X.env)).any (·.1) = false := by with_unfolding_all rfl) : RE X (.Call (.Name x p0) (e :: es) [] pos) σ H Q :=
  re_of (pe_callBfun cr_gcd (c.gl h) hm PA.self (c.d1 h) he hpl) q
/-- f() -/
theorem re_call0 (c : Ctx X N L k) {x : Str} {n : Nat} {sp : Sp} (F : DefP X.prog X.w X.K X.mg X.base CX0 x [] n sp) (hn : n ≤ k) (h : (x, KN.glob) ∈ L) (q : sp [] H Q E0) : RE X (.Call (.Name x p0) [] [] pos) σ H Q := by
  obtain ⟨f, fd, F1, m, kp, b⟩ := F.ex
  exact re_of (pe_call0 F1 (c.room.mono hn) (c.gl h) m kp b .nil pass0 (c.d1 h)) q
end
end GT
namespace GT
open PySem PySem.Spec PyProof.Rows L2
/-- what holds something -/
def Old (H : Hp) : Addr → Prop := fun a => H a ≠ none
theorem Fr.sub {B B' : Addr → Prop} {H H' : Hp} (f : Fr B H H') (s : ∀ a, B a → B' a) : Fr B' H H' := fun a o n e => f a o (fun z => n (s a z)) e
theorem Fr.old {H H' : Hp} (f : Fr NoB H H') {a : Addr} (h : Old H a) : Old H' a := fun e => h (f.free e)
theorem old_box {H : Hp} {b : Addr} (h : BoxAt H b) : Old H b := by
  obtain ⟨g, r, h1, _⟩ := h
  intro e
  rw [h1] at e
  cases e
theorem old_at {H : Hp} {b : Addr} {o : HO} (h : H b = some o) : Old H b := fun e => by rw [h] at e; cases e
theorem Dts.mono {K : PySem.W.Frag} {B B' : Addr → Prop} {H : Hp} {vs : List V} {ds : List D} (h : Dts K B H vs ds) (s : ∀ a, B' a → B a) : Dts K B' H vs ds := ⟨h.1, fun i v d a b => (h.2 i v d a b).mono s⟩
theorem dep_up {n : Nat} {d : D} (h : Dep n d) : ∀ m, n ≤ m → Dep m d := by
  induction h with
  | non => exact fun _ _ => .non
  | bl => exact fun _ _ => .bl
  | int => exact fun _ _ => .int
  | str => exact fun _ _ => .str
  | lst _ ih =>
    intro m hm
    obtain ⟨k, rfl⟩ : ∃ k, m = k + 1 := ⟨m - 1, by omega⟩
    exact .lst fun d hd => ih d hd k (by omega)
  | tup _ ih =>
    intro m hm
    obtain ⟨k, rfl⟩ : ∃ k, m = k + 1 := ⟨m - 1, by omega⟩
    exact .tup fun d hd => ih d hd k (by omega)
theorem dts_set {K : PySem.W.Frag} {B : Addr → Prop} {H : Hp} {vs : List V} {ds : List D} {v : V} {d : D} {j : Nat} (h : Dts K B H vs ds) (hv : Dt K B H v d) : Dts K B H (vs.set j v) (ds.set j d) := by
  refine ⟨by rw [List.length_set, List.length_set, h.1], fun i u e h1 h2 => ?_⟩
  rw [List.getElem?_set] at h1 h2
  by_cases z : j = i
  · subst z
    rw [if_pos rfl] at h1 h2
    split at h1
    · split at h2
      · cases h1
        cases h2
        exact hv
      · cases h2
    · cases h1
  · rw [if_neg z] at h1 h2
    exact h.2 i u e h1 h2
theorem dts_app {K : PySem.W.Frag} {B : Addr → Prop} {H : Hp} {vs ws : List V} {ds es : List D} (h : Dts K B H vs ds) (g : Dts K B H ws es) : Dts K B H (vs ++ ws) (ds ++ es) := by
  refine ⟨by rw [List.length_append, List.length_append, h.1, g.1], fun i u e h1 h2 => ?_⟩
  rcases Nat.lt_or_ge i vs.length with z | z
  · rw [List.getElem?_append_left z] at h1
    rw [List.getElem?_append_left (by rw [← h.1]; exact z)] at h2
    exact h.2 i u e h1 h2
  · rw [List.getElem?_append_right z] at h1
    rw [List.getElem?_append_right (by rw [← h.1]; exact z), ← h.1] at h2
    exact g.2 _ u e h1 h2
theorem dts_strs {K : PySem.W.Frag} {B : Addr → Prop} {H : Hp} : ∀ ls : List Str, Dts K B H (ls.map V.str) (ls.map D.str)
  | [] => .nil
  | _ :: r => .cons .str (dts_strs r)
theorem dep_strs {n : Nat} {ls : List Str} : ∀ d ∈ ls.map D.str, Dep n d := fun d hd => by
  obtain ⟨s, _, rfl⟩ := List.mem_map.mp hd
  exact .str
/-! ### displays of constants -/
inductive DE : Expr → D → Prop
  | non {j : Nat} {p : Pos} : DE (.Constant .none j p) .non
  | bl {b : Bool} {j : Nat} {p : Pos} : DE (.Constant (.bool b) j p) (.bl b)
  | int {i : Int} {j : Nat} {p : Pos} : DE (.Constant (.int i) j p) (.int i)
  | str {s : Str} {j : Nat} {p : Pos} : DE (.Constant (.str s) j p) (.str s)
  | neg {i : Int} {j : Nat} {p p' : Pos} : DE (.UnaryOp .USub (.Constant (.int i) j p) p') (.int (-i))
  | sub {a b : Expr} {i j : Int} {p : Pos} (h1 : DE a (.int i)) (h2 : DE b (.int j)) : DE (.BinOp a .Sub b p) (.int (i - j))
  | add {a b : Expr} {i j : Int} {p : Pos} (h1 : DE a (.int i)) (h2 : DE b (.int j)) : DE (.BinOp a .Add b p) (.int (i + j))
  | mul {a : Expr} {i j : Int} {n : Nat} {p p' : Pos} (h1 : DE a (.int i)) (h2 : -(2 ^ 64) < j ∧ j < 2 ^ 64) : DE (.BinOp a .Mult (.Constant (.int j) n p') p) (.int (i * j))
  | pow {a b : Expr} {i j : Int} {p : Pos} (h1 : DE a (.int i)) (h2 : DE b (.int j)) (hc : CPow i j) : DE (.BinOp a .Pow b p) (.int (i ^ j.toNat))
  | tup {es : List Expr} {ds : List D} {k : Nat} {p : Pos} (hl : es.length = ds.length) (h1 : ds.length ≤ 1000) (h : ∀ (i : Nat) e d, es[i]? = some e → ds[i]? = some d → DE e d) : DE (.Tuple es k p) (.tup ds)
  | lst {es : List Expr} {ds : List D} {p : Pos} (hl : es.length = ds.length) (h1 : ds.length ≤ 1000) (h : ∀ (i : Nat) e d, es[i]? = some e → ds[i]? = some d → DE e d) : DE (.List es p) (.lst ds)
inductive DEs : List Expr → List D → Prop
  | nil : DEs [] []
  | cons {e : Expr} {d : D} {es : List Expr} {ds : List D} (h : DE e d) (t : DEs es ds) : DEs (e :: es) (d :: ds)
theorem DEs.len {es : List Expr} {ds : List D} (h : DEs es ds) : es.length = ds.length := by
  induction h with
  | nil => rfl
  | cons _ _ ih => rw [List.length_cons, List.length_cons, ih]
theorem DEs.at_ {es : List Expr} {ds : List D} (h : DEs es ds) : ∀ (i : Nat) e d, es[i]? = some e → ds[i]? = some d → DE e d := by
  induction h with
  | nil => intro i e d h; simp at h
  | cons h0 _ ih =>
    intro i e d h1 h2
    cases i with
    | zero =>
      cases h1
      cases h2
      exact h0
    | succ i => exact ih i e d (by simpa using h1) (by simpa using h2)
theorem DE.tupS {es : List Expr} {ds : List D} {k : Nat} {p : Pos} (h : DEs es ds) (h1 : ds.length ≤ 1000) : DE (.Tuple es k p) (.tup ds) := .tup h.len h1 h.at_
theorem DE.lstS {es : List Expr} {ds : List D} {p : Pos} (h : DEs es ds) (h1 : ds.length ≤ 1000) : DE (.List es p) (.lst ds) := .lst h.len h1 h.at_
theorem DE.star {e : Expr} {d : D} (h : DE e d) (es : List Expr) (env : Env) : starEach (e :: es) env = (false, eval e env) :: starEach es env := by
  cases h <;> rfl
section
variable {X : Cx}
theorem ra_de {es : List Expr} {ds : List D} (hl : es.length = ds.length) (ih : ∀ (i : Nat) e d, es[i]? = some e → ds[i]? = some d → DE e d ∧ ∀ (σ : L2.St) (H : Hp) (Q : VK), (∀ v H', Fr NoB H H' → Dt X.K (Old H) H' v d → Q v H') → RE X e σ H Q) :
    ∀ (σ : L2.St) (H : Hp) (Q : List V → Hp → Prop), (∀ vs H', Fr NoB H H' → Dts X.K (Old H) H' vs ds → Q vs H') → RA X es σ H Q := by
  induction es generalizing ds with
  | nil =>
    intro σ H Q q
    cases ds with
    | nil => exact ra_nil (q [] H Fr.refl .nil)
    | cons d r => cases hl
  | cons e es ihl =>
    intro σ H Q q
    cases ds with
    | nil => cases hl
    | cons d r =>
      obtain ⟨h0, r0⟩ := ih 0 e d rfl rfl
      refine ra_cons (r0 σ H _ fun v H1 f1 d1 => ?_) (h0.star _ _)
      refine ihl (ds := r) (by simpa using hl) (fun i e' d' a b => ih (i + 1) e' d' (by simpa using a) (by simpa using b)) σ H1 _ fun vs H2 f2 d2 => ?_
      exact q _ H2 (f1.trans f2) (.cons (d1.fr f2.any) (d2.mono fun a h => f1.old h))
theorem re_de {e : Expr} {d : D} (h : DE e d) : ∀ (σ : L2.St) (H : Hp) (Q : VK), (∀ v H', Fr NoB H H' → Dt X.K (Old H) H' v d → Q v H') → RE X e σ H Q := by
  induction h with
  | non => exact fun σ H Q q => re_non (q _ H Fr.refl .non)
  | bl => exact fun σ H Q q => re_bl (q _ H Fr.refl .bl)
  | int => exact fun σ H Q q => re_int (q _ H Fr.refl .int)
  | str => exact fun σ H Q q => re_str (q _ H Fr.refl .str)
  | neg => exact fun σ H Q q => re_neg (re_int ⟨_, rfl, q _ H Fr.refl .int⟩)
  | sub _ _ i1 i2 =>
    intro σ H Q q
    refine re_bin (i1 σ H _ fun v H1 f1 d1 => i2 σ H1 _ fun w H2 f2 d2 => ?_)
    cases d1
    cases d2
    exact ov_sub (q _ H2 (f1.trans f2) .int)
  | add _ _ i1 i2 =>
    intro σ H Q q
    refine re_bin (i1 σ H _ fun v H1 f1 d1 => i2 σ H1 _ fun w H2 f2 d2 => ?_)
    cases d1
    cases d2
    exact ov_add (q _ H2 (f1.trans f2) .int)
  | mul _ h2 i1 =>
    intro σ H Q q
    refine re_bin (i1 σ H _ fun v H1 f1 d1 => re_int ?_)
    cases d1
    exact ov_mulR h2 (q _ H1 f1 .int)
  | pow _ _ hc i1 i2 =>
    intro σ H Q q
    refine re_bin (i1 σ H _ fun v H1 f1 d1 => i2 σ H1 _ fun w H2 f2 d2 => ?_)
    cases d1
    cases d2
    exact ov_pow hc (q _ H2 (f1.trans f2) .int)
  | @tup es ds k p hl h1 h ih =>
    intro σ H Q q
    refine re_tup (ra_de hl (fun i e d a b => ⟨h i e d a b, ih i e d a b⟩) σ H _ fun vs H1 f1 d1 => ⟨by rw [d1.1]; exact Nat.le_trans h1 (by decide), fun a ha => ?_⟩)
    exact q _ _ (f1.trans (Fr.new ha)) (Dt.newT ha (fun z => f1.old z ha) d1)
  | @lst es ds p hl h1 h ih =>
    intro σ H Q q
    refine re_lst (ra_de hl (fun i e d a b => ⟨h i e d a b, ih i e d a b⟩) σ H _ fun vs H1 f1 d1 => ⟨by rw [d1.1]; exact Nat.le_trans h1 (by decide), fun a ha => ?_⟩)
    exact q _ _ (f1.trans (Fr.new ha)) (Dt.newL ha (fun z => f1.old z ha) d1)
/-- a list of constants -/
theorem re_dataL {es : List Expr} {ds : List D} {p : Pos} (h : DEs es ds) (h1 : ds.length ≤ 1000) {σ : L2.St} {H : Hp} {Q : VK} (q : ∀ a vs H', H a = none → Fr NoB H H' → H' a = some (.lst vs) → Dts X.K (Old H) H' vs ds → Q (.ref a) H') : RE X (.List es p) σ H Q := by
  refine re_lst (ra_de h.len (fun i e d a b => ⟨h.at_ i e d a b, re_de (h.at_ i e d a b)⟩) σ H _ fun vs H1 f1 d1 => ⟨by rw [d1.1]; exact Nat.le_trans h1 (by decide), fun a ha => ?_⟩)
  exact q a vs _ (f1.free ha) (f1.trans (Fr.new ha)) upd_same (d1.fr (Fr.new ha))
end
/-! ### // by any number but nought -/
section
variable {X : Cx} {H : Hp} {Q : VK}
theorem op_fdivX : OpR X (binaryOp .FloorDiv) (rI (fun _ j => j ≠ 0 ∧ j.natAbs.log2 < 9000) fun i j => .int (i.fdiv j)) := opI fun _ _ _ _ _ _ _ hc q => floordiv_int hc.1 q (.inl (PyProof.noPylong_of_log2 hc.2))
theorem ov_fdivX {i j : Int} {b : Nat} (h : j ≠ 0) (hb : j.natAbs < 2 ^ b) (h0 : 0 < b) (h9 : b ≤ 9000) (q : Q (.int (i.fdiv j)) H) : OpV X .FloorDiv (.int i) (.int j) H Q :=
  ⟨⟨_, op_fdivX, i, j, rfl, rfl, ⟨h, Nat.lt_of_lt_of_le (PySem.Flt.log2_lt_of h0 hb) h9⟩, q⟩⟩
end
end GT
namespace GT
open PySem PySem.Spec PyProof.Rows L2
section
variable {X : Cx} {σ : L2.St} {H H1 : Hp} {N : List Str} {L Lc : List (Str × KN)} {k : Nat} {pos p0 p1 p2 p3 pe : Pos} {Q : VK} {D : Ends} {scope : Scope} {x : Str} {elt t : Expr} {ifs : List Expr} {a p : Addr} {xs : List V}
/-- e[::-1], e a list -/
theorem re_revL {e : Expr} {k : Nat} (q : RE X e σ H fun x H1 => ∃ a xs, x = .ref a ∧ SqL X.K H1 a xs ∧ ∀ p, H1 p = none → Q (.ref p) (upd H1 p (.lst xs.reverse))) :
    RE X (.Subscript e (.Slice none none (some (.UnaryOp .USub (.Constant (.int 1) k p1) p2)) p3) pos) σ H Q := re_of (pe_revL PE.self) q
/-- t[lo:] of a tuple -/
theorem sv_tupD (h : SqT X.K H p xs) {lo : Nat} (h2 : lo ≤ xs.length) (q1 : lo = 0 → Q (.ref p) H) (q : lo ≠ 0 → ∀ l, H l = none → Q (.ref l) (upd H l (.tup (xs.drop lo)))) : SlV X (.ref p) (some (lo : Int)) none H Q := by
  refine ⟨⟨_, sl_tupA, p, xs, rfl, h, fun z => ?_, fun z l hl => ?_⟩⟩
  · have := z.1
    rw [HT.sIx_nat] at this
    exact q1 (by omega)
  · have z2 : lo ≠ 0 := fun e => z ⟨by rw [HT.sIx_nat, e]; simp, HT.sIx_none _ _⟩
    have e : cutV xs (some (lo : Int)) none = xs.drop lo := by
      show (xs.drop (HT.sIx xs.length 0 (some (lo : Int)))).take (HT.sIx xs.length xs.length none - HT.sIx xs.length 0 (some (lo : Int))) = _
      rw [HT.sIx_nat, HT.sIx_none, Nat.min_eq_left h2]
      exact List.take_of_length_le (by rw [List.length_drop]; exact Nat.le_refl _)
    rw [e]
    exact q z2 l hl
/-- [.. for x in z], z a tuple -/
theorem re_lc_tup (c : Ctx X N L k) (Lc : List (Str × KN)) (hok : lcOk N L scope Lc x = true) {l : Expr}
    (q : RE X l σ H fun v H1 => ∃ a xs, v = .ref a ∧ SqT X.K H1 a xs ∧ CTurns X N Lc k scope x elt ifs (fun H => SqT X.K H a xs) xs.length (fun i y => xs[i]? = some y) σ H1 Q)
    (hs : ∀ x, foldedSetIterable l X.env x = pure x := by intro _; with_unfolding_all rfl) : RE X (.ListComp elt [⟨.Name x p0, l, ifs, 0⟩] scope pos) σ H Q := by
  obtain ⟨S, hx, hl, ok⟩ := lcOk_of c hok
  obtain ⟨i, hput, bk, g⟩ := blk_at (p0 := p0) c S hx hl ok
  refine re_of (pe_lc c.calm c.nodup (pi_tup PE.self) bk g (fun s H C cl fp => PTs.rta c S s H C cl fp) (fun s H C cl fp => PE.rea c S s H C cl fp) hs) ?_
  refine pe_mono q fun v H1 ⟨a, xs, e, h1, q1⟩ => ⟨a, e, ⟨xs, h1⟩, lc_go hput walk_tup q1⟩
/-- y = [.. for x in z] on one line, z a tuple -/
theorem rs_lc_tup (c : Ctx X N L k) (Lc : List (Str × KN)) (hok : lcOk N L scope Lc x = true) {l : Expr} {y : Str} {py cp : Pos} (hy : (y, KN.loc) ∈ L) (my : y ∈ N)
    (q : RE X l σ H fun v H1 => ∃ a xs, v = .ref a ∧ SqT X.K H1 a xs ∧ CTurns X N Lc k scope x elt ifs (fun H => SqT X.K H a xs) xs.length (fun i y => xs[i]? = some y) σ H1 fun v H2 => ∃ σ', Put N σ y v σ' ∧ D.nx σ' H2)
    (hln : (py.line == cp.line) = true := by with_unfolding_all rfl) (ha : (scope.names.any fun (n, k) => n == y && (k == .local || k == .cell)) = false := by decide +kernel)
    (hs : ∀ x, foldedSetIterable l X.env x = pure x := by intro _; with_unfolding_all rfl) : RS X (.Assign [.Name y py] (.ListComp elt [⟨.Name x p0, l, ifs, 0⟩] scope cp) pos) D σ H := by
  obtain ⟨S, hx, hl, ok⟩ := lcOk_of c hok
  obtain ⟨i, hput, bk, g⟩ := blk_at (p0 := p0) c S hx hl ok
  obtain ⟨i2, h1, h2⟩ := c.put my
  refine rs_of (ps_setLc (i := i2) c.calm c.nodup h1 (c.lcl hy) (sw_true c.kind (c.lcl hy) hln ha) (pi_tup PE.self) bk g (fun s H C cl fp => PTs.rta c S s H C cl fp) (fun s H C cl fp => PE.rea c S s H C cl fp) hs) ?_
  refine pe_mono q fun v H1 ⟨a, xs, e, h1, q1⟩ => ⟨a, e, ⟨xs, h1⟩, lc_go hput (walk_tup (xs := xs)) (Q := fun v H1 => D.nx (σ.set i2 (some v)) H1) (fun Dn hD => ?_ : CTurns X N Lc k scope x elt ifs (fun H => SqT X.K H a xs) xs.length (fun i y => xs[i]? = some y) σ H1 fun v H1 => D.nx (σ.set i2 (some v)) H1)⟩
  obtain ⟨Pv, a1, a2, a3, a4⟩ := q1 Dn hD
  refine ⟨Pv, a1, a2, a3, fun H2 hp => ?_⟩
  obtain ⟨σ', p, d⟩ := a4 H2 hp
  rw [h2 p] at d
  exact d
/-- [x for x in xs if t], told by how the walked thing stands -/
theorem cturns_filterS {stand : Hp → Prop} {f : V → Bool} (hl : xs.length < sizeLine) (hs : ∀ H', Fr NoB H1 H' → stand H') (hx : (x, KN.loc) ∈ Lc) {σf : V → L2.St} (hp : ∀ y, Put N σ x y (σf y))
    (ht : ∀ (y : V) (H' : Hp), y ∈ xs → Fr NoB H1 H' → ∀ (s : Shared) (Hb : Hp) (C : Addr) (cl : List (Str × Addr)) (fp : List Addr), Ctx (X.blk s Hb scope (compEnvC scope cl C X.env) fp) N Lc k →
      RT (X.blk s Hb scope (compEnvC scope cl C X.env) fp) t (σf y) H' fun b H'' => b = f y ∧ Fr NoB H' H'')
    (q : ∀ (Dn : Addr) (H' : Hp), H1 Dn = none → Fr NoB H1 H' → H' Dn = some (.lst (xs.filter f)) → Q (.ref Dn) H') :
    CTurns X N Lc k scope x (.Name x pe) [t] stand xs.length (fun i y => xs[i]? = some y) σ H1 Q := by
  intro Dn hD
  refine ⟨fun i H' => H' Dn = some (.lst ((xs.take i).filter f)) ∧ Fr NoB H1 H', ⟨upd_same, Fr.new hD⟩, fun i H _ h => hs H h.2, ?_, ?_⟩
  · rintro i y H' hi hy ⟨h1, h2⟩
    refine ⟨σf y, hp y, fun s Hb C cl fp cb => rts_one (rt_mono (ht y H' (List.mem_of_getElem? hy) h2 s Hb C cl fp cb) ?_)⟩
    rintro b H'' ⟨e, f2⟩
    have e2 := f2 Dn _ (fun z => z) h1
    cases hb : f y with
    | false =>
      rw [e, hb]
      refine iteF ⟨?_, h2.trans f2⟩
      rw [filter_succ hy, hb, e2]
      simp
    | true =>
      rw [e, hb]
      refine iteT fun s Hb C cl fp cb => re_name cb (hp y).slot hx .loc ?_
      have hlen : ((xs.take i).filter f).length < sizeLine := Nat.lt_of_le_of_lt (Nat.le_trans (List.length_filter_le _ _) (by rw [List.length_take]; omega)) hl
      refine ⟨_, e2, hlen, ?_, (h2.trans f2).put hD⟩
      rw [upd_same, filter_succ hy, hb]
      rfl
  · rintro H' ⟨h1, h2⟩
    rw [List.take_length] at h1
    exact q Dn H' hD h2 h1
/-- [c for x in xs], c a constant that changes nothing -/
theorem cturns_const {stand : Hp → Prop} {n : Nat} {it : Nat → V → Prop} {w : V} (hl : n < sizeLine) (hs : ∀ H', Fr NoB H1 H' → stand H') {σf : V → L2.St} (hp : ∀ y, Put N σ x y (σf y))
    (he : ∀ (Y : Cx) (σ : L2.St) (H : Hp) (Q : VK), Q w H → RE Y elt σ H Q) (q : ∀ (Dn : Addr) (H' : Hp), H1 Dn = none → Fr NoB H1 H' → H' Dn = some (.lst (List.replicate n w)) → Q (.ref Dn) H') :
    CTurns X N Lc k scope x elt [] stand n it σ H1 Q := by
  intro Dn hD
  refine ⟨fun i H' => H' Dn = some (.lst (List.replicate i w)) ∧ Fr NoB H1 H', ⟨upd_same, Fr.new hD⟩, fun i H _ h => hs H h.2, ?_, fun H' h => q Dn H' hD h.2 h.1⟩
  rintro i y H' hi hy ⟨h1, h2⟩
  refine ⟨σf y, hp y, fun s Hb C cl fp cb => rts_nil (iteT fun s Hb C cl fp cb => he _ _ _ _ ?_)⟩
  refine ⟨_, h1, by rw [List.length_replicate]; omega, ?_, h2.put hD⟩
  rw [upd_same, List.replicate_succ']
theorem swapped_folded3 {x y z : Expr} {a b d : Expr} {kt k2 : Nat} {q1 q2 : Pos} {env : Env} (h : [a, b, d].all (foldedForSure 8) = true) : swappedStores [.Tuple [x, y, z] kt q1] (.Tuple [a, b, d] k2 q2) env = pure none := by
  unfold swappedStores
  dsimp only
  rw [h]
  repeat' first
    | rfl
    | (rename_i hh _; exact absurd rfl hh)
    | split
/-- x, y, z = e, e of three -/
theorem rs_tup3 (c : Ctx X N L k) {x y z : Str} {e : Expr} {j j' j2 : KN} {kt : Nat} {q0 q1 q2 q3 : Pos} (h : (x, j) ∈ L) (m : Own j) (hx : x ∈ N) (h' : (y, j') ∈ L) (m' : Own j') (hy : y ∈ N) (h2 : (z, j2) ∈ L) (m2 : Own j2) (hz : z ∈ N) {D : Ends}
    (q : RE X e σ H fun w H1 => ∃ t u v r, w = .ref t ∧ SqT X.K H1 t [u, v, r] ∧ ∃ σ' σ'' σ3, Put N σ x u σ' ∧ Put N σ' y v σ'' ∧ Put N σ'' z r σ3 ∧ D.nx σ3 H1)
    (hw : swappedStores [.Tuple [.Name x q0, .Name y q1, .Name z q2] kt q3] e X.env = pure none) (hs : swapsWithSole [.Tuple [.Name x q0, .Name y q1, .Name z q2] kt q3] e pos.line X.env = pure false := by with_unfolding_all rfl)
    (h1 : (assignEach [.Tuple [.Name x q0, .Name y q1, .Name z q2] kt q3] X.env).map (·.2) = [assign (.Tuple [.Name x q0, .Name y q1, .Name z q2] kt q3) X.env] := by with_unfolding_all rfl)
    (hn : (assignEach [.Name x q0, .Name y q1, .Name z q2] X.env).length = 3 := by with_unfolding_all rfl) (hst : (assignEach [.Name x q0, .Name y q1, .Name z q2] X.env).findIdx? (·.1) = none := by with_unfolding_all rfl)
    (ha : (assignEach [.Name x q0, .Name y q1, .Name z q2] X.env).map (·.2) = assign (.Name x q0) X.env :: (assignEach [.Name y q1, .Name z q2] X.env).map (·.2) := by with_unfolding_all rfl) (hb : (assignEach [.Name y q1, .Name z q2] X.env).map (·.2) = assign (.Name y q1) X.env :: (assignEach [.Name z q2] X.env).map (·.2) := by with_unfolding_all rfl)
    (hd : (assignEach [.Name z q2] X.env).map (·.2) = assign (.Name z q2) X.env :: (assignEach [] X.env).map (·.2) := by with_unfolding_all rfl) :
    RS X (.Assign [.Tuple [.Name x q0, .Name y q1, .Name z q2] kt q3] e pos) D σ H := by
  obtain ⟨i, g, e2⟩ := c.pg (p0 := q0) h m hx
  obtain ⟨i', g', e2'⟩ := c.pg (p0 := q1) h' m' hy
  obtain ⟨i2, g2, e3⟩ := c.pg (p0 := q2) h2 m2 hz
  refine rs_of (ps_asg PE.self (pg_tup (n := 3) c.calm (pgs_cons g (pgs_cons g' (pgs_cons g2 pgs_nil hd) hb) ha) hn hst) hs hw h1) (pe_mono q fun w H1 ⟨t, u, v, r, e1, hT, σ', σ'', σ3, a1, a2, a3, rr⟩ => ?_)
  subst e1
  rw [e3 a3, e2' a2, e2 a1] at rr
  exact ⟨t, _, rfl, hT, rfl, _, _, rfl, _, _, rfl, _, _, rfl, rfl, rr⟩
end
end GT
namespace GT
open PySem PySem.Spec PyProof.Rows L2
section
variable {X : Cx} {σ : L2.St} {H : Hp} {N : List Str} {L : List (Str × KN)} {k : Nat} {pos p0 p1 p2 p3 : Pos} {Q : VK} {D : Ends} {p : Addr} {z : Str} {v x : V} {xs : List V}
/-- d[k], d a dict of the module -/
theorem iv_kd (h : KDct X.K X.w p z v) (q : Q v H) : IxV X (.ref p) (.str z) H Q := ⟨⟨_, ix_kdict, p, z, v, rfl, rfl, h, q⟩⟩
/-- x in l of flat items -/
theorem cv_inV (h : SqL X.K H p xs ∨ SqT X.K H p xs) (f : flatV x = true) (fs : xs.all flatV = true) (q : Q (.bl (inV x xs)) H) : CpV X .In x (.ref p) H Q := ⟨⟨_, op_in_seq, p, xs, rfl, h, f, fs, q⟩⟩
theorem lv_intS {n : Int} (h : PySem.intText? z = some n) (hl : z.length ≤ 640) (q : Q (.int n) H) : ClV X (.type "int") [.str z] H Q := ⟨⟨_, call_int_str, z, n, rfl, h, hl, q⟩⟩
theorem lv_strI {i : Int} (h : i.natAbs.log2 < 1920) (q : Q (.str (toString i)) H) : ClV X (.type "str") [.int i] H Q := ⟨⟨_, call_str_int, i, rfl, h, q⟩⟩
/-- a.find(b) -/
theorem re_find {o e : Expr} {apos : Pos} (q : RE X o σ H fun x H1 => ∃ a, x = .str a ∧ RE X e σ H1 fun y H2 => ∃ b, y = .str b ∧ Q (.int (Txt.find a b)) H2)
    (hs : starEach [e] X.env = [(false, eval e X.env)] := by with_unfolding_all rfl) (hbase : attributeBase o "find" X.env (eval o X.env) = eval o X.env := by with_unfolding_all rfl) (hline : (apos.endLine == pos.line) = true := by with_unfolding_all rfl) :
    RE X (.Call (.Attribute o "find" apos) [e] [] pos) σ H Q :=
  re_of (pe_m1 PySem.F.slot_str_find PySem.F.type_str_find mt_find PE.self PE.self hs hbase hline) (pe_mono q fun x H1 ⟨a, e1, q1⟩ => ⟨⟨a, e1⟩, pe_mono q1 fun y H2 ⟨b, e2, q2⟩ => ⟨a, b, e1, by rw [e2], q2⟩⟩)
/-- for x in z, z a text -/
theorem rs_for_str (c : Ctx X N L k) {x : Str} {l : Expr} {body : List Stmt} {j : KN} (h : (x, j) ∈ L) (m : Own j) (hx : x ∈ N)
    (q : RE X l σ H fun v H1 => ∃ z, v = .str z ∧ Turns X N x body D (fun _ => True) z.cps.size (fun i y => ∃ c, z.cps[i]? = some c ∧ y = .str ⟨#[c]⟩) σ H1)
    (hs : ∀ x, foldedSetIterable l X.env x = pure x := by intro _; with_unfolding_all rfl) : RS X (.For (.Name x p0) l body [] pos) D σ H := by
  obtain ⟨i, g, h2⟩ := c.pg (p0 := p0) h m hx
  refine rs_of (ps_for c.po c.calm (pi_str PE.self) g PSs.self hs) (pe_mono q fun v H1 ⟨z, e, Pv, p1, p2, p3, p4⟩ => ⟨z, e, ?_⟩)
  refine for_it walk_str (tb := fun D σ H => RB X body D σ H) (g := gName i) Pv p1 p2 (fun j y σ H H' hj p yy => ?_) p4
  obtain ⟨rfl, yy⟩ := yy
  obtain ⟨σ', hp, r⟩ := p3 j y σ H' hj yy p
  rw [h2 hp] at r
  exact r
/-- for x, y in t, t a tuple of pairs -/
theorem rs_for_tup2 (c : Ctx X N L k) {x y : Str} {l : Expr} {body : List Stmt} {j j' : KN} {kt : Nat} {q0 q1 q2 : Pos} (h : (x, j) ∈ L) (m : Own j) (hx : x ∈ N) (h' : (y, j') ∈ L) (m' : Own j') (hy : y ∈ N)
    (q : RE X l σ H fun v H1 => ∃ a xs, v = .ref a ∧ SqT X.K H1 a xs ∧ ∃ Pv : Nat → L2.St → Hp → Prop, Pv 0 σ H1 ∧ (∀ i σ H, Pv i σ H → SqT X.K H a xs) ∧
      (∀ i w σ H, xs[i]? = some w → Pv i σ H → ∃ t u v, w = .ref t ∧ SqT X.K H t [u, v] ∧ ∃ σ' σ'', Put N σ x u σ' ∧ Put N σ' y v σ'' ∧ RB X body { D with nx := Pv (i + 1), ct := Pv (i + 1), bk := D.nx } σ'' H) ∧ (∀ σ H, Pv xs.length σ H → D.nx σ H))
    (hs : ∀ x, foldedSetIterable l X.env x = pure x := by intro _; with_unfolding_all rfl)
    (hn : (assignEach [.Name x q0, .Name y q1] X.env).length = 2 := by with_unfolding_all rfl) (hst : (assignEach [.Name x q0, .Name y q1] X.env).findIdx? (·.1) = none := by with_unfolding_all rfl)
    (ha : (assignEach [.Name x q0, .Name y q1] X.env).map (·.2) = assign (.Name x q0) X.env :: (assignEach [.Name y q1] X.env).map (·.2) := by with_unfolding_all rfl) (hb : (assignEach [.Name y q1] X.env).map (·.2) = assign (.Name y q1) X.env :: (assignEach [] X.env).map (·.2) := by with_unfolding_all rfl) :
    RS X (.For (.Tuple [.Name x q0, .Name y q1] kt q2) l body [] pos) D σ H := by
  obtain ⟨i, g, h2⟩ := c.pg (p0 := q0) h m hx
  obtain ⟨i', g', h2'⟩ := c.pg (p0 := q1) h' m' hy
  refine rs_of (ps_for c.po c.calm (pi_tup PE.self) (pg_tup (n := 2) c.calm (pgs_cons g (pgs_cons g' pgs_nil hb) ha) hn hst) PSs.self hs) (pe_mono q fun v H1 ⟨a, xs, e, hq, Pv, p1, p2, p3, p4⟩ => ⟨a, e, ⟨xs, hq⟩, ?_⟩)
  refine for_tup (K := X.K) (a := a) (xs := xs) Pv p1 (fun i σ H _ p => p2 i σ H p) (fun i w σ H e p => ?_) p4
  obtain ⟨t, u, v, rfl, hT, σ', σ'', a1, a2, r⟩ := p3 i w σ H e p
  rw [h2' a2, h2 a1] at r
  exact ⟨t, _, rfl, hT, rfl, _, _, rfl, _, _, rfl, rfl, r⟩
/-- f'{a}..{b}', a and b whole numbers -/
theorem re_fstr3 {e1 e2 : Expr} {j : Nat} (hz : z.length ≤ 1000) (q : RE X e1 σ H fun x H1 => ∃ i : Int, x = .int i ∧ i.natAbs.log2 < 1920 ∧ ((toString i : Str)).length ≤ 1000 ∧ RE X e2 σ H1 fun y H2 => ∃ k : Int, y = .int k ∧ k.natAbs.log2 < 1920 ∧ ((toString k : Str)).length ≤ 1000 ∧
      Q (.str ((Str.empty ++ (toString i : Str)) ++ z ++ (toString k : Str))) H2) :
    RE X (.JoinedStr [.FormattedValue e1 (-1) none p1, .Constant (.str z) j p2, .FormattedValue e2 (-1) none p3] pos) σ H Q := by
  have len : ∀ a b : Str, (a ++ b).length = a.length + b.length := fun a b => by
    show (a ++ b).cps.size = a.cps.size + b.cps.size
    have := congrArg List.length (TL.tl_append a b)
    simpa [TL.tl] using this
  have big : ∀ n : Nat, n ≤ 100000 → n ≤ sizeLine := fun n h => Nat.le_trans h (by decide)
  have e0 : Str.empty.length = 0 := rfl
  refine re_of (pe_joined (.cons (pe_fmt PE.self) (.cons pe_str (.cons (pe_fmt PE.self) .nil)))) ?_
  refine pe_mono q fun x H1 ⟨i, e1, hi, li, q1⟩ => .inr ⟨i, e1, hi, ?_⟩
  refine ⟨_, rfl, big _ (by rw [len, e0]; omega), ?_⟩
  refine ⟨z, rfl, big _ (by rw [len, len, e0]; omega), ?_⟩
  refine pe_mono q1 fun y H2 ⟨k, e2, hk, lk, q2⟩ => .inr ⟨k, e2, hk, ?_⟩
  exact ⟨_, rfl, big _ (by rw [len, len, len, e0]; omega), q2⟩
end
end GT
namespace GT
open PySem PySem.Spec PyProof.Rows L2
/-! ### tuples and tables of the top, told by Bools -/
def tupAB (K : PySem.W.Frag) (a : Addr) (vs : List V) : Bool := match K.lookup a with
  | none => false
  | some o => match o.cls, o.data with
    | .type c, .seq its _ => (c == "tuple" && Nat.ble its.size sizeLine) && He.relAll vs its.toList
    | _, _ => false
theorem tupAB_ok {K : PySem.W.Frag} {a : Addr} {vs : List V} (h : tupAB K a vs = true) (H : Hp) : SqT K H a vs := by
  unfold tupAB at h
  split at h
  · cases h
  · rename_i o ho
    split at h
    · rename_i c its n hc hd
      simp only [Bool.and_eq_true, beq_iff_eq] at h
      obtain ⟨⟨h1, h2⟩, h3⟩ := h
      exact .inr ⟨o, its, n, ho, by rw [hc, h1], hd, Nat.le_of_ble_eq_true h2, He.relAll_ok h3⟩
    · cases h
/-- the addresses that a tuple of the top holds -/
def itsOf (K : PySem.W.Frag) (a : Addr) : List Addr := match K.lookup a with
  | none => []
  | some o => match o.data with
    | .seq its _ => its.toList.filterMap fun v => match v with
      | .ref p => some p
      | _ => none
    | _ => []
/-- what a table holds at a key, where it is an object -/
def atK (K : PySem.W.Frag) (d : Addr) (x : Str) : Addr := match PySem.W.nsIn K d x with
  | some (some (.ref p)) => p
  | _ => 0
theorem kdct_of {K : PySem.W.Frag} {w : World} {d : Addr} {x : Str} {es : Array DictEntry} {n : Nat} (D : KDict K w d es n) (h : He.eqO (PySem.W.nsIn K d x) (some (some (.ref (atK K d x)))) = true) : KDct K w d x (.ref (atK K d x)) :=
  ⟨es, n, _, D.at_, D.lit, He.eqO_ok h, rfl⟩
end GT
namespace GT
open PySem PySem.Spec PyProof.Rows L2
section
variable {X : Cx} {σ : L2.St} {H : Hp} {N : List Str} {L : List (Str × KN)} {k : Nat} {pos p0 p1 p2 p3 : Pos} {Q : VK} {D : Ends} {p : Addr} {z : Str} {v x : V} {xs : List V}
/-- the tuple of the top at a -/
def tupDB (K : PySem.W.Frag) (a : Addr) : Bool := match K.lookup a with
  | none => false
  | some o => match o.cls, o.dict with
    | .type c, none => c == "tuple"
    | _, _ => false
theorem tupDB_ok {K : PySem.W.Frag} {a : Addr} (h : tupDB K a = true) : ∃ ob : Obj, K.lookup a = some ob ∧ ob.cls = .type "tuple" ∧ ob.dict = none := by
  unfold tupDB at h
  split at h
  · cases h
  · rename_i o ho
    split at h
    · rename_i c hc hd
      rw [beq_iff_eq] at h
      exact ⟨o, ho, by rw [hc, h], hd⟩
    · cases h
/-- while c: body, by a word and a measure -/
theorem rs_while (c : Ctx X N L k) {e : Expr} {body : List Stmt} (Pv : L2.St → Hp → Prop) (μ : L2.St → Hp → Nat) (h0 : Pv σ H)
    (hs : ∀ σ H, Pv σ H → RT X e σ H fun b H1 => if b = true then RB X body { D with nx := fun σ' H' => Pv σ' H' ∧ μ σ' H' < μ σ H, ct := fun σ' H' => Pv σ' H' ∧ μ σ' H' < μ σ H, bk := D.nx } σ H1 else D.nx σ H1) :
    RS X (.While e body [] pos) D σ H :=
  rs_of (ps_while c.po PT.self PSs.self) (while_by Pv μ h0 hs fun σ H Q Q' m q => rt_mono q m)
/-- x.append(e), x a name -/
theorem rs_app (c : Ctx X N L k) {x : Str} {j : KN} {l : Addr} {e : Expr} {apos : Pos} (h : (x, j) ∈ L) (m : Mine j) (s : Slot N σ x (.ref l)) (h0 : H l = some (.lst xs)) (q : RE X e σ H fun y H2 => ∃ xs', H2 l = some (.lst xs') ∧ xs'.length < sizeLine ∧ D.nx σ (upd H2 l (.lst (xs' ++ [y]))))
    (hbase : attributeBase (.Name x p0) "append" X.env (eval (.Name x p0) X.env) = eval (.Name x p0) X.env := by with_unfolding_all rfl)
    (hfew : ((backTo p1 (starEach [e] X.env)).all (fun x => !x.1) && (backToKw p1 (keywordEach [] X.env)).all (fun x => x.1.isSome) && decide (([e] : List Expr).length + ([] : List Keyword).length + (if ([] : List Keyword).isEmpty then 0 else 1) < 30)) = true := by with_unfolding_all rfl)
    (hline : (apos.endLine == p1.line) = true := by with_unfolding_all rfl) (hs : starEach [e] X.env = (false, eval e X.env) :: starEach [] X.env := by with_unfolding_all rfl) (hplain : (backTo p1 (starEach [] X.env)).any (·.1) = false := by with_unfolding_all rfl)
    (hsw : swapsWith (.Call (.Attribute (.Name x p0) "append" apos) [e] [] p1) none pos.line X.env = pure false := by with_unfolding_all rfl) :
    RS X (.Expr (.Call (.Attribute (.Name x p0) "append" apos) [e] [] p1) pos) D σ H :=
  rs_expr (re_append (re_name c s h m ⟨l, xs, rfl, h0, q⟩) hbase hfew hline hs hplain) hsw
theorem lv_ord {z : Str} (h : z.length = 1) (q : Q (.int (z.cps.getD 0 0 : Nat)) H) : ClV X (.builtin "ord") [.str z] H Q := ⟨⟨_, call_ord, z, rfl, h, q⟩⟩
/-- t.index(e), t a tuple of texts -/
theorem re_tindex {o e : Expr} {apos : Pos} (q : RE X o σ H fun x H1 => ∃ (l : Addr) (ys : List Str), x = .ref l ∧ (∃ ob : Obj, X.K.lookup l = some ob ∧ ob.cls = .type "tuple" ∧ ob.dict = none) ∧ RE X e σ H1 fun y H2 => ∃ (z : Str) (j : Nat), y = .str z ∧ SqT X.K H2 l (ys.map V.str) ∧ ys[j]? = some z ∧ (∀ m, m < j → ys[m]? ≠ some z) ∧ Q (.int (j : Nat)) H2)
    (hbase : attributeBase o "index" X.env (eval o X.env) = eval o X.env := by with_unfolding_all rfl)
    (hfew : ((backTo pos (starEach [e] X.env)).all (fun x => !x.1) && (backToKw pos (keywordEach [] X.env)).all (fun x => x.1.isSome) && decide (([e] : List Expr).length + ([] : List Keyword).length + (if ([] : List Keyword).isEmpty then 0 else 1) < 30)) = true := by with_unfolding_all rfl)
    (hline : (apos.endLine == pos.line) = true := by with_unfolding_all rfl) (hs : starEach [e] X.env = (false, eval e X.env) :: starEach [] X.env := by with_unfolding_all rfl) (hplain : (backTo pos (starEach [] X.env)).any (·.1) = false := by with_unfolding_all rfl) :
    RE X (.Call (.Attribute o "index" apos) [e] [] pos) σ H Q := by
  refine re_of (pe_bm PySem.F.plainAttrs_tuple PySem.F.slot_tuple_index PySem.F.type_tuple_index mt_tup_index PE.self PA.self hbase hfew hline hs hplain) ?_
  refine pe_mono q fun x H1 ⟨l, ys, e1, h1, q1⟩ => ?_
  subst e1
  obtain ⟨ob, k1, k2, k3⟩ := h1
  refine ⟨?_, ra_cons (pe_mono q1 fun y H2 ⟨z, j, e2, h2, h3, h4, q2⟩ => ra_nil ⟨l, ys, z, j, rfl, by rw [e2], h2, h3, h4, q2⟩) hs⟩
  exact .inr (.inl ⟨rfl, ob, k1, k2, k3⟩)
/-- l.index(e), l a list of texts -/
theorem re_lindex {o e : Expr} {apos : Pos} (q : RE X o σ H fun x H1 => ∃ (l : Addr) (ys : List Str), x = .ref l ∧ SqL X.K H1 l (ys.map V.str) ∧ RE X e σ H1 fun y H2 => ∃ (z : Str) (j : Nat), y = .str z ∧ SqL X.K H2 l (ys.map V.str) ∧ ys[j]? = some z ∧ (∀ m, m < j → ys[m]? ≠ some z) ∧ Q (.int (j : Nat)) H2)
    (hbase : attributeBase o "index" X.env (eval o X.env) = eval o X.env := by with_unfolding_all rfl)
    (hfew : ((backTo pos (starEach [e] X.env)).all (fun x => !x.1) && (backToKw pos (keywordEach [] X.env)).all (fun x => x.1.isSome) && decide (([e] : List Expr).length + ([] : List Keyword).length + (if ([] : List Keyword).isEmpty then 0 else 1) < 30)) = true := by with_unfolding_all rfl)
    (hline : (apos.endLine == pos.line) = true := by with_unfolding_all rfl) (hs : starEach [e] X.env = (false, eval e X.env) :: starEach [] X.env := by with_unfolding_all rfl) (hplain : (backTo pos (starEach [] X.env)).any (·.1) = false := by with_unfolding_all rfl) :
    RE X (.Call (.Attribute o "index" apos) [e] [] pos) σ H Q := by
  refine re_of (pe_bm PySem.F.plainAttrs_list PySem.F.slot_list_index PySem.F.type_list_index mt_index PE.self PA.self hbase hfew hline hs hplain) ?_
  refine pe_mono q fun x H1 ⟨l, ys, e1, h1, q1⟩ => ?_
  subst e1
  have flat : (ys.map V.str).all flatV = true := by
    rw [List.all_map]
    exact List.all_eq_true.mpr fun _ _ => rfl
  have eqS : ∀ a b : Str, eqV (.str a) (.str b) = (a == b) := fun _ _ => rfl
  refine ⟨.inl ⟨rfl, _, h1⟩, ra_cons (pe_mono q1 fun y H2 ⟨z, j, e2, h2, h3, h4, q2⟩ => ra_nil ⟨l, ys.map V.str, .str z, j, .str z, rfl, by rw [e2], h2, rfl, flat, by rw [List.getElem?_map, h3]; rfl, by rw [eqS]; exact beq_self_eq_true z, fun m z' hm hz' => ?_, q2⟩) hs⟩
  rw [List.getElem?_map] at hz'
  obtain ⟨w, hw, rfl⟩ := Option.map_eq_some_iff.mp hz'
  rw [eqS, beq_eq_false_iff_ne]
  exact fun e => h4 m hm (by rw [hw, e])
/-- sorted(l), l a list of texts -/
theorem lv_sortedS {ys : List Str} (h : SqL X.K H p (ys.map V.str)) (hl : ys.length < 64) (q : ∀ (zs : List Str) (l : Addr), zs.Perm ys → H l = none → Q (.ref l) (upd H l (.lst (zs.map V.str)))) : ClV X (.builtin "sorted") [.ref p] H Q :=
  ⟨⟨_, cr_sortedS, p, ys, rfl, h, hl, fun zs l hp _ hn => q zs l hp hn⟩⟩
/-- f(..), f a local name that holds a def -/
theorem re_callL (c : Ctx X N L k) {x : Str} {j : KN} {f : Addr} {fd : FuncData} {ps : List Str} {sp : Sp} {n : Nat} {e : Expr} {es : List Expr} (F : FnOk X.prog X.w X.K X.mg X.base CX0 n f fd ps sp) (hn : n ≤ k) (kp : PySem.W.keepIn X.K (.ref f) = true) (b : Binds X.K fd ps []) (h : (x, j) ∈ L) (m : Mine j) (s : Slot N σ x (.ref f))
    (q : RA X (e :: es) σ H fun vs H1 => sp vs H1 Q E0)
    (he : starEach (e :: es) X.env = (false, eval e X.env) :: starEach es X.env := by with_unfolding_all rfl) (hpl : (backTo pos (starEach es X.env)).any (·.1) = false := by with_unfolding_all rfl) : RE X (.Call (.Name x p0) (e :: es) [] pos) σ H Q := by
  obtain ⟨i, h1, h2⟩ := s.ix
  rw [← c.n] at h1
  refine re_of (pe_callL F (c.room.mono hn) h1 (c.vis h m) kp b .nil pass0 PA.self (c.d1 h) (c.d2 h) he hpl) ⟨h2, ?_⟩
  exact ra_mono q fun vs H1 d => by rw [List.append_nil]; exact d
end
end GT
namespace GT
open PySem PySem.Spec PyProof.Rows L2
/-! ### zip of a list and a tuple -/
def IteM (K : PySem.W.Frag) (a b : Addr) : It where
  go := fun i H => ∃ xs ys : List V, (SqL K H a xs ∧ SqT K H b ys) ∧ (∃ x, xs[i]? = some x) ∧ ∃ y, ys[i]? = some y
  yld := fun i H v H' => ∃ T x y, v = .ref T ∧ H T = none ∧ H' = upd H T (.tup [x, y]) ∧ ∀ xs ys, SqL K H a xs → SqT K H b ys → xs[i]? = some x ∧ ys[i]? = some y
  stop := fun i H => ∃ xs ys : List V, (SqL K H a xs ∧ SqT K H b ys) ∧ xs.length = i ∧ ys.length = i
theorem turn_zipM {P : Program} {w : World} {K : PySem.W.Frag} {elts : List Expr} {kk : Nat} {tpos : Pos} {a b z TI TO i1 i2 : Addr} (S : ZipSep2 z TI TO i1 i2 [i1, a] [i2, b]) (na : a ≠ i1) (nb : b ≠ i2) :
    Turn P w K (.Tuple elts kk tpos) (IteM K a b) [z, TI, TO, i1, i2] z (fun i h => IsZip h z TI TO .none ∧ IsTupOf2 h TI (.ref i1) (.ref i2) ∧ (∃ x y, IsTupOf2 h TO x y) ∧ h.IsListIter i1 a i ∧ h.IsTupleIter i2 b i) where
  mem := List.mem_cons_self
  obj := by
    intro i h ⟨hz, ht, ⟨x, y, ho⟩, ⟨o1, g1, _, d1⟩, ⟨o2, g2, _, d2⟩⟩ c hc
    simp only [List.mem_cons, List.not_mem_nil, or_false] at hc
    rcases hc with rfl | rfl | rfl | rfl | rfl
    · exact ⟨_, hz, fun v q => nomatch q⟩
    · exact ⟨_, ht, fun v q => nomatch q⟩
    · exact ⟨_, ho, fun v q => nomatch q⟩
    · exact ⟨o1, g1, fun v q => by rw [d1] at q; cases q⟩
    · exact ⟨o2, g2, fun v q => by rw [d2] at q; cases q⟩
  keep := by
    intro i h h' ⟨hz, ht, ⟨x, y, ho⟩, g1, g2⟩ k
    exact ⟨k z (by simp) _ hz, k TI (by simp) _ ht, ⟨x, y, k TO (by simp) _ ho⟩, g1.at fun o q => k i1 (by simp) o q, g2.at fun o q => k i2 (by simp) o q⟩
  item := by
    intro X hP hw hK hc i pins s σ H E I hf st hg
    subst hP hw hK
    obtain ⟨hz, ht, ⟨x0, y0, ho⟩, g1, g2⟩ := st
    obtain ⟨xs, ys, ⟨qx, qy⟩, ⟨x, hx⟩, ⟨y, hy⟩⟩ := hg
    obtain ⟨its, rv, p, _⟩ := I.list qx
    obtain ⟨jts, rw2, r, _⟩ := I.tuple qy
    obtain ⟨u, hu, ru⟩ := rv.get hx
    obtain ⟨v, hv, rv2⟩ := rw2.get hy
    have hh : X.A.in1.handled = none := I.ok.hd hc
    have hzl : z < s.heap.objs.size := Heap.lt_size hz
    have htl : TI < s.heap.objs.size := Heap.lt_size ht
    have hol : TO < s.heap.objs.size := Heap.lt_size ho
    have l1 : i1 < s.heap.objs.size := by obtain ⟨_, e, _⟩ := g1; exact Heap.lt_size e
    have l2 : i2 < s.heap.objs.size := by obtain ⟨_, e, _⟩ := g2; exact Heap.lt_size e
    have lt1 : i < its.toArray.size := by
      rcases Nat.lt_or_ge i its.length with q | q
      · simpa using q
      · rw [List.getElem?_eq_none q] at hu; cases hu
    have lt2 : i < jts.toArray.size := by
      rcases Nat.lt_or_ge i jts.length with q | q
      · simpa using q
      · rw [List.getElem?_eq_none q] at hv; cases hv
    refine wpAny_pyNext_zipD2_item S (Draws.list (prog := X.prog) (w := X.w) (A := X.A.in1) hh i1 a na its.toArray) (Draws.tuple (prog := X.prog) (w := X.w) (A := X.A.in1) hh i2 b nb jts.toArray) hz ht ho ⟨g1, p.isList⟩ ⟨g2, r⟩ lt1 lt2 fun v1 v2 h' tk e1 e2 z' o' k1 k2 hT hsz hk => ?_
    have ev1 : v1 = u := Option.some.inj ((show its.toArray[i]? = some v1 from e1).symm.trans (by simpa using hu))
    have ev2 : v2 = v := Option.some.inj ((show jts.toArray[i]? = some v2 from e2).symm.trans (by simpa using hv))
    subst ev1 ev2
    refine ⟨_, rfl, wpAny_letOwnedTupleGo_zip (s := { s with heap := h', toks := tk }) z' fun h'' z'' sb => ?_⟩
    have hT2 := (sb.2 _ (Nat.ne_of_gt hzl)).trans hT
    have new : ObjOk X.prog X.w (upd H s.heap.objs.size (.tup [x, y])) h'' s.heap.objs.size (.tup [x, y]) := ⟨by show 2 ≤ sizeLine; decide, [v1, v2], .cons ru (.cons rv2 .nil), ⟨_, hT2, rfl, _, rfl⟩⟩
    have I1 : Inv X pins σ (upd H s.heap.objs.size (.tup [x, y])) { s with heap := h'', toks := tk } :=
      I.turnedNew (ch := [z, TI, TO, i1, i2]) (fun c o hb q => (sb.2 c fun e => hb (by simp [e])).trans (hk c o (fun e => hb (by simp [e])) (fun e => hb (by simp [e])) (fun e => hb (by simp [e])) (fun e => hb (by simp [e])) q)) hf (Nat.le_refl _) new
    refine ⟨.ref s.heap.objs.size, _, I1, rfl, ⟨_, x, y, rfl, I.hok.fresh (Nat.le_refl _), rfl, fun xs' ys' a1 a2 => ⟨by rw [I.list_inj a1 qx]; exact hx, by rw [I.tuple_inj a2 qy]; exact hy⟩⟩, ⟨z'', ?_, ⟨v1, v2, (sb.2 _ S.TOz).trans o'⟩, k1.1.at fun o q => (sb.2 _ S.zi1.symm).trans q, k2.1.at fun o q => (sb.2 _ S.zi2.symm).trans q⟩, fun c hcm => ?_⟩
    · exact (sb.2 _ S.TIz).trans (hk _ _ S.TIz S.TITO S.TIi1 S.TIi2 ht)
    · have hlt : c < s.heap.objs.size := by
        simp only [List.mem_cons, List.not_mem_nil, or_false] at hcm
        rcases hcm with rfl | rfl | rfl | rfl | rfl <;> assumption
      rw [upd_ne (Nat.ne_of_lt hlt)]
      exact (hf c hcm).1
  done := by
    intro X hP hw hK hc i pins s σ H E I hf st hg
    subst hP hw hK
    obtain ⟨hz, ht, ⟨x0, y0, ho⟩, g1, g2⟩ := st
    obtain ⟨xs, ys, ⟨qx, qy⟩, e1, e2⟩ := hg
    obtain ⟨its, rv, p, _⟩ := I.list qx
    obtain ⟨jts, rw2, r, _⟩ := I.tuple qy
    have hh : X.A.in1.handled = none := I.ok.hd hc
    have n1 : i = its.toArray.size := by have := rv.length; simp; omega
    have n2 : i = jts.toArray.size := by have := rw2.length; simp; omega
    exact wpAny_pyNext_zipD2_end S (Draws.list (prog := X.prog) (w := X.w) (A := X.A.in1) hh i1 a na its.toArray) (Draws.tuple (prog := X.prog) (w := X.w) (A := X.A.in1) hh i2 b nb jts.toArray) hz ht ho ⟨g1, p.isList⟩ ⟨g2, r⟩ (Nat.le_of_eq n1) (Nat.le_of_eq n2) (.inl n1) fun h' tk hk =>
      ⟨rfl, I.turnedL (t' := tk) (ch := [z, TI, TO, i1, i2]) (fun c o hb q => hk c o (fun e => hb (by simp [e])) (fun e => hb (by simp [e])) (fun e => hb (by simp [e])) (fun e => hb (by simp [e])) q) hf⟩
  self := fun A i s Q E st h => wpAny_pyIter_zip st.1 h
def iZipM (K : PySem.W.Frag) (ta : TA) : TI := fun σ H R => ta σ H fun vs H1 => ∃ a b xs ys, vs = [.ref a, .ref b] ∧ (SqL K H1 a xs ∧ SqT K H1 b ys) ∧ R (IteM K a b) H1
theorem pi_zipM {X : Cx} {e e2 : Expr} {ta : TA} {p pos tpos : Pos} {elts : List Expr} {kk : Nat} (hg : Gl X "zip") (hm : X.mg "zip" = none) (ha : PA X [e, e2] ta)
    (he : starEach [e, e2] X.env = (false, eval e X.env) :: starEach [e2] X.env) (hb : (backTo pos (starEach [e2] X.env)).any (·.1) = false) : PI X (.Tuple elts kk tpos) (.Call (.Name "zip" p) [e, e2] [] pos) (iZipM X.K ta) := by
  refine ⟨fun pins s σ H R I h => Call_ (ld_blt I hg hm PyProof.Rows.boot_zip (PyProof.Rows.callWith_type1 (thn (ha.run pos pins s σ H _ I h) fun us s1 ⟨vs, H1, I1, r1, a, b, xs, ys, ex, ⟨qx, qy⟩, q⟩ => ?_) he hb))⟩
  subst ex
  cases r1 with
  | cons r rr =>
    cases rr with
    | cons r' rr =>
      cases rr
      cases r
      cases r'
      obtain ⟨its, rv, p1, _⟩ := I1.list qx
      obtain ⟨jts, rw2, p2, _⟩ := I1.tuple qy
      have la : a < s1.heap.objs.size := p1.lt
      have lb : b < s1.heap.objs.size := p2.lt
      refine zip_begins2 (begins_list a its.toArray) (begins_tuple b jts.toArray) p1.isList p2 fun h' hz ht ho o1 o2 hsz hk => wpAny_pyIter_zip hz ?_
      have I2 : Inv X pins σ H1 { s1 with heap := h' } := I1.kept (t' := s1.toks) hk
      have sep := zip_sep2 (N := s1.heap.objs.size) (fp1 := [a]) (fp2 := [b]) (fun c hc => by rw [List.mem_singleton.mp hc]; exact la) (fun c hc => by rw [List.mem_singleton.mp hc]; exact lb)
      refine ⟨s1.heap.objs.size + 4, [s1.heap.objs.size + 4, s1.heap.objs.size + 2, s1.heap.objs.size + 3, s1.heap.objs.size, s1.heap.objs.size + 1], _, _, H1, rfl, I2, turn_zipM sep (Nat.ne_of_lt la) (Nat.ne_of_lt (Nat.lt_succ_of_lt lb)), ⟨hz, ht, ⟨_, _, ho⟩, ⟨_, o1, rfl, rfl⟩, ⟨_, o2, rfl, rfl⟩⟩, fun c hcm => ?_, q⟩
      have hle : s1.heap.objs.size ≤ c := by
        simp only [List.mem_cons, List.not_mem_nil, or_false] at hcm
        rcases hcm with rfl | rfl | rfl | rfl | rfl
        · exact Nat.le_add_right _ _
        · exact Nat.le_add_right _ _
        · exact Nat.le_add_right _ _
        · exact Nat.le_refl _
        · exact Nat.le_add_right _ _
      exact I1.fpOk hle (I1.hok.fresh hle)
theorem walk_zipM {K : PySem.W.Frag} {a b : Addr} {xs ys : List V} (hl : xs.length = ys.length) : Walk (IteM K a b) xs.length (fun H => SqL K H a xs ∧ SqT K H b ys) (YPair (fun i => xs[i]?) (fun i => ys[i]?)) := by
  refine ⟨fun i _ hi q => ⟨xs, ys, q, ⟨xs[i], by simp [hi]⟩, ⟨ys[i]'(by omega), List.getElem?_eq_getElem (by omega)⟩⟩, fun _ q => ⟨xs, ys, q, rfl, hl.symm⟩, fun i H v H' _ q y => ?_⟩
  obtain ⟨T, x, z, h1, h2, h3, h4⟩ := y
  exact ⟨T, x, z, h1, h2, h3, (h4 xs ys q.1 q.2).1, (h4 xs ys q.1 q.2).2⟩
section
variable {X : Cx} {σ : L2.St} {H : Hp} {N : List Str} {L Lc : List (Str × KN)} {k : Nat} {pos p0 p1 p2 p3 : Pos} {Q : VK} {D : Ends} {scope : Scope} {x y : Str} {e elt e1 e2 : Expr} {ifs : List Expr} {body : List Stmt} {j j' : KN} {kt : Nat} {q0 q1 q2 : Pos}
/-- for x, y in zip(a, b): a list, b tuple, of one length -/
theorem rs_for_zipM (c : Ctx X N L k) (h : (x, j) ∈ L) (m : Own j) (hx : x ∈ N) (h' : (y, j') ∈ L) (m' : Own j') (hy : y ∈ N) (hg : (("zip" : Str), KN.glob) ∈ L) (hm : X.mg "zip" = none)
    (q : RA X [e1, e2] σ H fun vs H1 => ∃ a b xs ys, vs = [.ref a, .ref b] ∧ xs.length = ys.length ∧ SqL X.K H1 a xs ∧ SqT X.K H1 b ys ∧ PTurns X N x y body D (fun H => SqL X.K H a xs ∧ SqT X.K H b ys) xs.length (fun i => xs[i]?) (fun i => ys[i]?) σ H1)
    (hs : ∀ x, foldedSetIterable (.Call (.Name "zip" p1) [e1, e2] [] p2) X.env x = pure x := by intro _; with_unfolding_all rfl) (he : starEach [e1, e2] X.env = (false, eval e1 X.env) :: starEach [e2] X.env := by with_unfolding_all rfl) (hpl : (backTo p2 (starEach [e2] X.env)).any (·.1) = false := by with_unfolding_all rfl)
    (hn : (assignEach [.Name x q0, .Name y q1] X.env).length = 2 := by with_unfolding_all rfl) (hst : (assignEach [.Name x q0, .Name y q1] X.env).findIdx? (·.1) = none := by with_unfolding_all rfl)
    (ha : (assignEach [.Name x q0, .Name y q1] X.env).map (·.2) = assign (.Name x q0) X.env :: (assignEach [.Name y q1] X.env).map (·.2) := by with_unfolding_all rfl) (hb : (assignEach [.Name y q1] X.env).map (·.2) = assign (.Name y q1) X.env :: (assignEach [] X.env).map (·.2) := by with_unfolding_all rfl) :
    RS X (.For (.Tuple [.Name x q0, .Name y q1] kt q2) (.Call (.Name "zip" p1) [e1, e2] [] p2) body [] pos) D σ H := by
  obtain ⟨i, g, h2⟩ := c.pg (p0 := q0) h m hx
  obtain ⟨i', g', h2'⟩ := c.pg (p0 := q1) h' m' hy
  refine rs_of (ps_for c.po c.calm (pi_zipM (c.gl hg) hm PA.self he hpl) (pg_tup (n := 2) c.calm (pgs_cons g (pgs_cons g' pgs_nil hb) ha) hn hst) PSs.self hs) ?_
  exact ra_mono q fun vs H1 ⟨a, b, xs, ys, e, hl, s1, s2, t⟩ => ⟨a, b, xs, ys, e, ⟨s1, s2⟩, pturns_go (walk_zipM hl) h2 h2' t⟩
/-- y = [.. for x in range(e)] on one line -/
theorem rs_lc_range (c : Ctx X N L k) (Lc : List (Str × KN)) (hok : lcOk N L scope Lc x = true) {py cp : Pos} (hg : (("range" : Str), KN.glob) ∈ L) (hm : X.mg "range" = none) (hy : (y, KN.loc) ∈ L) (my : y ∈ N)
    (q : RE X e σ H fun v H1 => ∃ n : Int, v = .int n ∧ -(2 ^ 62) ≤ n ∧ n < 2 ^ 62 ∧ CTurns X N Lc k scope x elt ifs (fun _ => True) n.toNat (fun i y => y = .int i) σ H1 fun v H2 => ∃ σ', Put N σ y v σ' ∧ D.nx σ' H2)
    (hln : (py.line == cp.line) = true := by with_unfolding_all rfl) (ha : (scope.names.any fun (n, k) => n == y && (k == .local || k == .cell)) = false := by decide +kernel)
    (hs : ∀ x, foldedSetIterable (.Call (.Name "range" p1) [e] [] p2) X.env x = pure x := by intro _; with_unfolding_all rfl) (hsE : starEach [e] X.env = [(false, eval e X.env)] := by with_unfolding_all rfl) :
    RS X (.Assign [.Name y py] (.ListComp elt [⟨.Name x p0, .Call (.Name "range" p1) [e] [] p2, ifs, 0⟩] scope cp) pos) D σ H := by
  obtain ⟨S, hx, hl, ok⟩ := lcOk_of c hok
  obtain ⟨i, hput, bk, g⟩ := blk_at (p0 := p0) c S hx hl ok
  obtain ⟨i2, h1, h2⟩ := c.put my
  refine rs_of (ps_setLc (i := i2) c.calm c.nodup h1 (c.lcl hy) (sw_true c.kind (c.lcl hy) hln ha) (pi_range1 (c.gl hg) hm PA.self hsE) bk g (fun s H C cl fp => PTs.rta c S s H C cl fp) (fun s H C cl fp => PE.rea c S s H C cl fp) hs) ?_
  refine ra_cons (pe_mono q fun v H1 ⟨n, e, n1, n2, q1⟩ => ra_nil ⟨n, by rw [e], n1, n2, ?_⟩) hsE
  refine lc_go (it := fun (i : Nat) y => y = V.int (i : Int)) hput (walk_range.mono (fun _ h => h) fun j H y H' hj _ hy => ?_) (Q := fun v H1 => D.nx (σ.set i2 (some v)) H1) (fun Dn hD => ?_)
  · obtain ⟨h1, h2⟩ := hy
    exact ⟨h1, by rw [h2]; simp⟩
  · obtain ⟨Pv, a1, a2, a3, a4⟩ := q1 Dn hD
    refine ⟨Pv, a1, a2, a3, fun H2 hp => ?_⟩
    obtain ⟨σ', p, d⟩ := a4 H2 hp
    rw [h2 p] at d
    exact d
end
end GT
namespace GT
open PySem PySem.Spec PyProof.Rows L2
/-! ### data as the library reads it -/
mutual
def py : D → PyData
  | .non => .none
  | .bl b => .bool b
  | .int i => .int i
  | .str s => .str s
  | .lst l => .list (pys l)
  | .tup l => .tuple (pys l)
def pys : List D → List PyData
  | [] => []
  | d :: r => py d :: pys r
end
/-- data of so many levels, texts short, numbers not too long -/
inductive Gd : Nat → D → Prop
  | non {n : Nat} : Gd n .non
  | bl {n : Nat} {b : Bool} : Gd n (.bl b)
  | int {n : Nat} {i : Int} (h : i.natAbs ≤ 10 ^ 40) : Gd n (.int i)
  | str {n : Nat} {z : Str} (h : z.length ≤ 200) (ok : PyData.strOk z = true) : Gd n (.str z)
  | lst {n : Nat} {l : List D} (hl : l.length ≤ 200) (h : ∀ d ∈ l, Gd n d) : Gd (n + 1) (.lst l)
  | tup {n : Nat} {l : List D} (hl : l.length ≤ 200) (h : ∀ d ∈ l, Gd n d) : Gd (n + 1) (.tup l)
theorem gd_up {n : Nat} {d : D} (h : Gd n d) : ∀ m, n ≤ m → Gd m d := by
  induction h with
  | non => exact fun _ _ => .non
  | bl => exact fun _ _ => .bl
  | int h => exact fun _ _ => .int h
  | str h ok => exact fun _ _ => .str h ok
  | lst hl _ ih =>
    intro m hm
    obtain ⟨k, rfl⟩ : ∃ k, m = k + 1 := ⟨m - 1, by omega⟩
    exact .lst hl fun d hd => ih d hd k (by omega)
  | tup hl _ ih =>
    intro m hm
    obtain ⟨k, rfl⟩ : ∃ k, m = k + 1 := ⟨m - 1, by omega⟩
    exact .tup hl fun d hd => ih d hd k (by omega)
theorem gd_dep {n : Nat} {d : D} (h : Gd n d) : Dep n d := by
  induction h with
  | non => exact .non
  | bl => exact .bl
  | int h => exact .int
  | str h ok => exact .str
  | lst hl _ ih => exact .lst ih
  | tup hl _ ih => exact .tup ih
theorem pys_ok {n : Nat} : ∀ l : List D, (∀ d ∈ l, PyData.canLay0 (py d) = true ∧ PyData.depth (py d) ≤ n) → PyData.canLayAll0 (pys l) = true ∧ PyData.depthAll (pys l) ≤ n
  | [], _ => ⟨rfl, Nat.zero_le _⟩
  | d :: r, h => by
    obtain ⟨a, b⟩ := h d List.mem_cons_self
    obtain ⟨c, e⟩ := pys_ok r fun x hx => h x (List.mem_cons_of_mem _ hx)
    refine ⟨?_, ?_⟩
    · show (PyData.canLay0 (py d) && PyData.canLayAll0 (pys r)) = true
      rw [a, c]
      rfl
    · show max (PyData.depth (py d)) (PyData.depthAll (pys r)) ≤ n
      omega
theorem gd_lay {n : Nat} {d : D} (h : Gd n d) : PyData.canLay0 (py d) = true ∧ PyData.depth (py d) ≤ n := by
  induction h with
  | non => exact ⟨rfl, Nat.zero_le _⟩
  | bl => exact ⟨rfl, Nat.zero_le _⟩
  | int h => exact ⟨rfl, Nat.zero_le _⟩
  | str h ok => exact ⟨ok, Nat.zero_le _⟩
  | @lst n l hl _ ih =>
    obtain ⟨a, b⟩ := pys_ok l ih
    exact ⟨a, Nat.succ_le_succ b⟩
  | @tup n l hl _ ih =>
    obtain ⟨a, b⟩ := pys_ok l ih
    exact ⟨a, Nat.succ_le_succ b⟩
theorem gd_shaped {n : Nat} {d : D} (h : Gd n d) (hn : n ≤ 64) : SeqAt.shaped (py d) = true := by
  obtain ⟨a, b⟩ := gd_lay h
  show (PyData.canLay0 (py d) && decide (PyData.depth (py d) ≤ 64)) = true
  rw [a, decide_eq_true (by omega)]
  rfl
theorem dpAll_of {K : PySem.W.Frag} {H : Hp} : ∀ (vs : List V) (ds : List D), vs.length = ds.length → (∀ (i : Nat) v d, vs[i]? = some v → ds[i]? = some d → Dp K H v (py d)) → DpAll K H vs (pys ds)
  | [], [], _, _ => .nil
  | v :: vs, d :: ds, hl, h => .cons (h 0 v d rfl rfl) (dpAll_of vs ds (by simpa using hl) fun i u e a b => h (i + 1) u e (by simpa using a) (by simpa using b))
  | [], _ :: _, hl, _ => by simp at hl
  | _ :: _, [], hl, _ => by simp at hl
theorem dp_of {K : PySem.W.Frag} {B : Addr → Prop} {H : Hp} {v : V} {d : D} (h : Dt K B H v d) : Dp K H v (py d) := by
  induction h with
  | non => exact .non
  | bl => exact .bl _
  | int => exact .int _
  | str => exact .str _
  | lst n t l _ ih => exact .lst (SqL.of t) (dpAll_of _ _ l ih)
  | tup n t l _ ih => exact .tup (SqT.of t) (dpAll_of _ _ l ih)
/-! ### == and in, of data -/
def isS (z : Str) : D → Bool
  | .str w => decide (w = z)
  | _ => false
def isE : D → Bool
  | .tup [] => true
  | _ => false
def isO (z : Str) : D → Bool
  | .tup [x] => isS z x
  | _ => false
theorem beq_dec {a b : Str} : (a == b) = decide (a = b) := by
  by_cases h : a = b
  · subst h
    simp
  · rw [decide_eq_false h]
    exact beq_eq_false_iff_ne.mpr h
theorem eqv_str {d : D} {z : Str} : PyData.eqv (py d) (.str z) = isS z d := by
  cases d with
  | str w => exact beq_dec
  | _ => rfl
theorem eqv_strL {d : D} {z : Str} : PyData.eqv (.str z) (py d) = isS z d := by
  cases d with
  | str w =>
    show (z == w) = decide (w = z)
    rw [beq_dec]
    exact decide_eq_decide.mpr ⟨Eq.symm, Eq.symm⟩
  | _ => rfl
theorem eqv_emp {d : D} : PyData.eqv (py d) (.tuple []) = isE d := by
  cases d with
  | tup l => cases l <;> rfl
  | _ => rfl
theorem eqv_one {d : D} {z : Str} : PyData.eqv (.tuple [.str z]) (py d) = isO z d := by
  cases d with
  | tup l =>
    cases l with
    | nil => rfl
    | cons x r =>
      cases r with
      | nil =>
        show (PyData.eqv (.str z) (py x) && true) = isS z x
        rw [eqv_strL, Bool.and_true]
      | cons y r =>
        show (PyData.eqv (.str z) (py x) && false) = false
        exact Bool.and_false _
  | _ => rfl
section
variable {X : Cx} {σ : L2.St} {H : Hp} {N : List Str} {L Lc : List (Str × KN)} {k n m : Nat} {pos p0 p1 p2 p3 : Pos} {Q : VK} {D : Ends} {B B' : Addr → Prop} {v w : V} {d e : GT.D} {p : Addr} {xs : List V} {z : Str}
theorem cv_eqD (c : Ctx X N L k) (h1 : Dt X.K B H v d) (h2 : Dt X.K B' H w e) (g1 : Gd n d) (g2 : Gd m e) (hn : n ≤ 64) (hm : m ≤ 64) (q : Q (.bl (PyData.eqv (py d) (py e))) H) : CpV X .Eq v w H Q :=
  ⟨⟨_, op_eqD c.room.units, _, _, dp_of h1, dp_of h2, gd_shaped g1 hn, gd_shaped g2 hm, q⟩⟩
theorem cv_neD (c : Ctx X N L k) (h1 : Dt X.K B H v d) (h2 : Dt X.K B' H w e) (g1 : Gd n d) (g2 : Gd m e) (hn : n ≤ 64) (hm : m ≤ 64) (q : Q (.bl (!PyData.eqv (py d) (py e))) H) : CpV X .NotEq v w H Q :=
  ⟨⟨_, op_neD c.room.units, _, _, dp_of h1, dp_of h2, gd_shaped g1 hn, gd_shaped g2 hm, q⟩⟩
theorem strOk_dec (h : PyData.strOk z = true) (hl : z.length ≤ 200) : Gd 0 (.str z) := .str hl h
/-- x == 'z' -/
theorem cv_eqDS (c : Ctx X N L k) (h1 : Dt X.K B H v d) (g1 : Gd n d) (hn : n ≤ 64) (hz : PyData.strOk z = true) (q : Q (.bl (isS z d)) H) : CpV X .Eq v (.str z) H Q :=
  ⟨⟨_, op_eqD c.room.units, _, .str z, dp_of h1, .str z, gd_shaped g1 hn, by show (PyData.strOk z && decide (0 ≤ 64)) = true; rw [hz]; rfl, by rw [eqv_str]; exact q⟩⟩
theorem cv_neDS (c : Ctx X N L k) (h1 : Dt X.K B H v d) (g1 : Gd n d) (hn : n ≤ 64) (hz : PyData.strOk z = true) (q : Q (.bl (!isS z d)) H) : CpV X .NotEq v (.str z) H Q :=
  ⟨⟨_, op_neD c.room.units, _, .str z, dp_of h1, .str z, gd_shaped g1 hn, by show (PyData.strOk z && decide (0 ≤ 64)) = true; rw [hz]; rfl, by rw [eqv_str]; exact q⟩⟩
/-- x == () -/
theorem cv_eqDE (c : Ctx X N L k) (h1 : Dt X.K B H v d) (g1 : Gd n d) (hn : n ≤ 64) (hp : SqT X.K H p []) (q : Q (.bl (isE d)) H) : CpV X .Eq v (.ref p) H Q :=
  ⟨⟨_, op_eqD c.room.units, _, .tuple [], dp_of h1, .tup hp .nil, gd_shaped g1 hn, rfl, by rw [eqv_emp]; exact q⟩⟩
/-- x in t, x not in t: t a tuple of data -/
theorem op_inT (hu : X.A.units + 65 < cLine) : OpR X (compareOp .In) (fun x y H Q => ∃ d ds, Dp X.K H x d ∧ Dp X.K H y (.tuple ds) ∧ SeqAt.shaped d = true ∧ SeqAt.shaped (.tuple ds) = true ∧ Q (.bl (ds.any fun z => PyData.eqv z d)) H) := by
  intro pins s σ H x y v u Q I rx ry h
  obtain ⟨d, ds, hd, he, sd, se, q⟩ := h
  obtain ⟨as, r1⟩ := Dp.reads I d x v hd rx
  obtain ⟨bs, r2⟩ := Dp.reads I (.tuple ds) y u he ry
  exact SeqAt.in_tuple_reads r2 r1 (SeqAt.canLay_of_shaped se) (SeqAt.canLay_of_shaped sd) (room_in_shaped sd hu) ⟨.bl _, H, I, rfl, q⟩
theorem op_ninT (hu : X.A.units + 65 < cLine) : OpR X (compareOp .NotIn) (fun x y H Q => ∃ d ds, Dp X.K H x d ∧ Dp X.K H y (.tuple ds) ∧ SeqAt.shaped d = true ∧ SeqAt.shaped (.tuple ds) = true ∧ Q (.bl (!ds.any fun z => PyData.eqv z d)) H) := by
  intro pins s σ H x y v u Q I rx ry h
  obtain ⟨d, ds, hd, he, sd, se, q⟩ := h
  obtain ⟨as, r1⟩ := Dp.reads I d x v hd rx
  obtain ⟨bs, r2⟩ := Dp.reads I (.tuple ds) y u he ry
  exact SeqAt.notIn_tuple_reads r2 r1 (SeqAt.canLay_of_shaped se) (SeqAt.canLay_of_shaped sd) (room_in_shaped sd hu) ⟨.bl _, H, I, rfl, q⟩
theorem units65 (c : Ctx X N L k) : X.A.units + 65 < cLine := by
  have := c.room.un
  omega
theorem strs_dp {K : PySem.W.Frag} {H : Hp} : ∀ ks : List Str, DpAll K H (ks.map V.str) (ks.map PyData.str)
  | [] => .nil
  | k :: r => .cons (.str k) (strs_dp r)
theorem strs_lay {ks : List Str} (h : ks.all PyData.strOk = true) : SeqAt.shaped (.tuple (ks.map PyData.str)) = true := by
  have g : ∀ ks : List Str, ks.all PyData.strOk = true → PyData.canLayAll0 (ks.map PyData.str) = true ∧ PyData.depthAll (ks.map PyData.str) = 0 := by
    intro ks
    induction ks with
    | nil => exact fun _ => ⟨rfl, rfl⟩
    | cons k r ih =>
      intro h
      rw [List.all_cons, Bool.and_eq_true] at h
      obtain ⟨a, b⟩ := ih h.2
      refine ⟨?_, ?_⟩
      · show (PyData.strOk k && PyData.canLayAll0 (r.map PyData.str)) = true
        rw [h.1, a]
        rfl
      · show max 0 (PyData.depthAll (r.map PyData.str)) = 0
        rw [b]
        rfl
  obtain ⟨a, b⟩ := g ks h
  show (PyData.canLayAll0 (ks.map PyData.str) && decide (PyData.depthAll (ks.map PyData.str) + 1 ≤ 64)) = true
  rw [a, b]
  rfl
/-- x in a tuple of texts, x any data -/
theorem cv_ninTS (c : Ctx X N L k) {ks : List Str} (h1 : Dt X.K B H v d) (g1 : Gd n d) (hn : n ≤ 64) (hp : SqT X.K H p (ks.map V.str)) (hk : ks.all PyData.strOk = true) (q : Q (.bl (!ks.any fun z => isS z d)) H) : CpV X .NotIn v (.ref p) H Q := by
  refine ⟨⟨_, op_ninT (units65 c), _, ks.map PyData.str, dp_of h1, .tup hp (strs_dp ks), gd_shaped g1 hn, strs_lay hk, ?_⟩⟩
  rw [List.any_map]
  have e : ((fun z => PyData.eqv z (py d)) ∘ PyData.str) = fun z => isS z d := funext fun z => eqv_strL
  rw [e]
  exact q
/-- x in a tuple of tuples of one text -/
theorem cv_inT1 (c : Ctx X N L k) {ks : List Str} {ps : List Addr} (h1 : Dt X.K B H v d) (g1 : Gd n d) (hn : n ≤ 64) (hp : SqT X.K H p (ps.map V.ref)) (hl : ps.length = ks.length) (hi : ∀ (i : Nat) a z, ps[i]? = some a → ks[i]? = some z → SqT X.K H a [.str z]) (hk : ks.all PyData.strOk = true) (q : Q (.bl (ks.any fun z => isO z d)) H) :
    CpV X .In v (.ref p) H Q := by
  have g : ∀ (ps : List Addr) (ks : List Str), ps.length = ks.length → (∀ (i : Nat) a z, ps[i]? = some a → ks[i]? = some z → SqT X.K H a [.str z]) → ks.all PyData.strOk = true →
      DpAll X.K H (ps.map V.ref) (ks.map fun z => .tuple [.str z]) ∧ PyData.canLayAll0 (ks.map fun z => PyData.tuple [.str z]) = true ∧ PyData.depthAll (ks.map fun z => PyData.tuple [.str z]) ≤ 1 := by
    intro ps
    induction ps with
    | nil =>
      intro ks hl _ _
      cases ks with
      | nil => exact ⟨.nil, rfl, Nat.zero_le _⟩
      | cons _ _ => cases hl
    | cons a r ih =>
      intro ks hl hi hk
      cases ks with
      | nil => cases hl
      | cons z ks =>
        rw [List.all_cons, Bool.and_eq_true] at hk
        obtain ⟨x1, x2, x3⟩ := ih ks (by simpa using hl) (fun i a z h1 h2 => hi (i + 1) a z (by simpa using h1) (by simpa using h2)) hk.2
        refine ⟨.cons (.tup (hi 0 a z rfl rfl) (.cons (.str z) .nil)) x1, ?_, ?_⟩
        · show ((PyData.strOk z && true) && PyData.canLayAll0 (ks.map fun z => PyData.tuple [.str z])) = true
          rw [hk.1, x2]
          rfl
        · show max (max 0 0 + 1) (PyData.depthAll (ks.map fun z => PyData.tuple [.str z])) ≤ 1
          omega
  obtain ⟨x1, x2, x3⟩ := g ps ks hl hi hk
  refine ⟨⟨_, op_inT (units65 c), _, ks.map fun z => .tuple [.str z], dp_of h1, .tup hp x1, gd_shaped g1 hn, ?_, ?_⟩⟩
  · show (PyData.canLayAll0 (ks.map fun z => PyData.tuple [.str z]) && decide (PyData.depthAll (ks.map fun z => PyData.tuple [.str z]) + 1 ≤ 64)) = true
    rw [x2, decide_eq_true (by omega)]
    rfl
  · rw [List.any_map]
    have e : ((fun z => PyData.eqv z (py d)) ∘ fun z => PyData.tuple [.str z]) = fun z => isO z d := funext fun z => eqv_one
    rw [e]
    exact q
/-! ### isinstance of data -/
def tyN : GT.D → Nat
  | .non => 0
  | .bl _ => 1
  | .int _ => 2
  | .str _ => 3
  | .lst _ => 4
  | .tup _ => 5
theorem cl_isT (h : Dt X.K B H v d) (q : Q (.bl (tyN d == 5)) H) : ClV X (.builtin "isinstance") [v, .ty "tuple"] H Q := by
  cases h with
  | non => exact lv_isT_n (b := false) (by decide +kernel) q
  | bl => exact lv_isT_b (b := false) (by decide +kernel) q
  | int => exact lv_isT_i (b := false) (by decide +kernel) q
  | str => exact lv_isT_s (b := false) (by decide +kernel) q
  | lst n t l h => exact lv_isT_l (b := false) t (by decide +kernel) q
  | tup n t l h => exact lv_isT_t (b := true) t (by decide +kernel) q
theorem cl_isS (h : Dt X.K B H v d) (q : Q (.bl (tyN d == 3)) H) : ClV X (.builtin "isinstance") [v, .ty "str"] H Q := by
  cases h with
  | non => exact lv_isT_n (b := false) (by decide +kernel) q
  | bl => exact lv_isT_b (b := false) (by decide +kernel) q
  | int => exact lv_isT_i (b := false) (by decide +kernel) q
  | str => exact lv_isT_s (b := true) (by decide +kernel) q
  | lst n t l h => exact lv_isT_l (b := false) t (by decide +kernel) q
  | tup n t l h => exact lv_isT_t (b := false) t (by decide +kernel) q
theorem cl_isI (h : Dt X.K B H v d) (q : Q (.bl (tyN d == 2 || tyN d == 1)) H) : ClV X (.builtin "isinstance") [v, .ty "int"] H Q := by
  cases h with
  | non => exact lv_isT_n (b := false) (by decide +kernel) q
  | bl => exact lv_isT_b (b := true) (by decide +kernel) q
  | int => exact lv_isT_i (b := true) (by decide +kernel) q
  | str => exact lv_isT_s (b := false) (by decide +kernel) q
  | lst n t l h => exact lv_isT_l (b := false) t (by decide +kernel) q
  | tup n t l h => exact lv_isT_t (b := false) t (by decide +kernel) q
theorem cl_isB (h : Dt X.K B H v d) (q : Q (.bl (tyN d == 1)) H) : ClV X (.builtin "isinstance") [v, .ty "bool"] H Q := by
  cases h with
  | non => exact lv_isT_n (b := false) (by decide +kernel) q
  | bl => exact lv_isT_b (b := true) (by decide +kernel) q
  | int => exact lv_isT_i (b := false) (by decide +kernel) q
  | str => exact lv_isT_s (b := false) (by decide +kernel) q
  | lst n t l h => exact lv_isT_l (b := false) t (by decide +kernel) q
  | tup n t l h => exact lv_isT_t (b := false) t (by decide +kernel) q
theorem cv_isND (h : Dt X.K B H v d) (q : Q (.bl (tyN d == 0)) H) : CpV X .Is v .non H Q := by
  cases h with
  | non => exact cv_isN_n q
  | bl => exact cv_isN_b q
  | int => exact cv_isN_i q
  | str => exact cv_isN_s q
  | lst n t l h => exact cv_isN_r q
  | tup n t l h => exact cv_isN_r q
theorem tup_at (h : Dt X.K B H v d) (e : (tyN d == 5) = true) : ∃ a vs ds, v = .ref a ∧ d = .tup ds ∧ ¬ B a ∧ H a = some (.tup vs) ∧ Dts X.K B H vs ds := by
  cases h with
  | tup n t l h => exact ⟨_, _, _, rfl, rfl, n, t, l, h⟩
  | _ => cases e
theorem str_at (h : Dt X.K B H v d) (e : (tyN d == 3) = true) : ∃ z, v = .str z ∧ d = .str z := by
  cases h with
  | str => exact ⟨_, rfl, rfl⟩
  | _ => cases e
end
end GT
namespace GT
open PySem PySem.Spec PyProof.Rows L2
/-! ### comprehensions over zip -/
def lcOk2 (N : List Str) (L : List (Str × KN)) (scope : Scope) (Lc : List (Str × KN)) (x y : Str) : Bool :=
  decide (scope.kind = .function) && ((Lc.all fun p => decide (p ∈ knAll scope.names)) && (decide (scope.names.map (·.1)).Nodup && ((Lc.all fun p => okName p.1) &&
    ((scope.names.all fun z => !decide (z.2 = .free) || (decide ((z.1, KN.cell) ∈ L) || decide ((z.1, KN.cap) ∈ L))) &&
    ((scope.names.all fun z => !(decide (z.2 = .local) || decide (z.2 = .cell)) || ((decide (z.1 = x) || decide (z.1 = y)) || !decide (z.1 ∈ N))) && (decide (x ∈ N) && (decide (y ∈ N) && (decide ((x, KN.loc) ∈ Lc) && (decide ((y, KN.loc) ∈ Lc) && !decide (x = y))))))))))
section
variable {X : Cx} {σ : L2.St} {H : Hp} {N : List Str} {L Lc : List (Str × KN)} {k : Nat} {pos p0 p1 p2 p3 q0 q1 q2 : Pos} {Q : VK} {D : Ends} {scope : Scope} {x y : Str} {elt e1 e2 : Expr} {ifs : List Expr} {kt : Nat} {xs ys : List V} {p a b : Addr}
theorem lcOk2_of (c : Ctx X N L k) (h : lcOk2 N L scope Lc x y = true) : Scp scope Lc ∧ x ∈ N ∧ y ∈ N ∧ (x, KN.loc) ∈ Lc ∧ (y, KN.loc) ∈ Lc ∧ x ≠ y ∧ ∀ i j : Nat, N[i]? = some x → N[j]? = some y → BlkOk N X.env.scope scope [(x, i), (y, j)] := by
  unfold lcOk2 at h
  simp only [Bool.and_eq_true, Bool.or_eq_true, Bool.not_eq_true', decide_eq_true_eq, decide_eq_false_iff_not, List.all_eq_true] at h
  obtain ⟨h1, h2, h3, h4, h5, h6, h7, h8, h9, h10, h11⟩ := h
  refine ⟨⟨h2, h3, h4, h1⟩, h7, h8, h9, h10, h11, fun i j hi hj => ⟨h1, fun z hz => lookup_mem h3 hz, fun p hp => ?_, fun z hz e => ?_, fun z hz e => ?_⟩⟩
  · rcases List.mem_cons.mp hp with rfl | hp
    · exact hi
    · obtain rfl : p = (y, j) := by simpa using hp
      exact hj
  · rcases h5 z hz with w | w | w
    · exact absurd e w
    · exact .inl (c.look _ w).1
    · exact c.look _ w
  · rcases h6 z hz with w | w | w
    · rcases e with e | e <;> simp [e] at w
    · rcases w with w | w <;> exact .inl (by simp [w])
    · exact .inr w
/-- what such a comprehension asks of its turns -/
def CTurns2 (X : Cx) (N : List Str) (Lc : List (Str × KN)) (k : Nat) (scope : Scope) (x y : Str) (elt : Expr) (ifs : List Expr) (stand : Hp → Prop) (n : Nat) (xs ys : Nat → Option V) (σ : L2.St) (H1 : Hp) (Q : VK) : Prop :=
  ∀ Dn, H1 Dn = none → ∃ Pv : Nat → Hp → Prop, Pv 0 (upd H1 Dn (.lst [])) ∧ (∀ i H, i ≤ n → Pv i H → stand H) ∧
    (∀ i u v H2 T, i < n → xs i = some u → ys i = some v → Pv i H2 → H2 T = none → ∃ σ' σ'', Put N σ x u σ' ∧ Put N σ' y v σ'' ∧ RTA X N Lc k scope ifs σ'' (upd H2 T (.tup [u, v])) fun b H3 =>
      if b = true then REA X N Lc k scope elt σ'' H3 fun z H4 => ∃ acc, H4 Dn = some (.lst acc) ∧ acc.length < sizeLine ∧ Pv (i + 1) (upd H4 Dn (.lst (acc ++ [z]))) else Pv (i + 1) H3) ∧ ∀ H2, Pv n H2 → Q (.ref Dn) H2
theorem lc_go2 {Itx : It} {n : Nat} {stand : Hp → Prop} {fx fy : Nat → Option V} {H1 : Hp} {i j : Nat} (hij : i ≠ j) (hput : ∀ {σ σ' : L2.St} {v : V}, Put N σ x v σ' → σ' = σ.set i (some v)) (hput2 : ∀ {σ σ' : L2.St} {v : V}, Put N σ y v σ' → σ' = σ.set j (some v))
    (W : Walk Itx n stand (YPair fx fy)) (q : CTurns2 X N Lc k scope x y elt ifs stand n fx fy σ H1 Q) :
    ∀ Dn, H1 Dn = none → ∃ W : Nat → Nat → Hp → Prop, (∃ m, W 0 m (upd H1 Dn (.lst []))) ∧ ∀ t m H, W t m H →
      (Itx.stop t H ∧ Q (.ref Dn) H) ∨ (Itx.go t H ∧ ∃ Nx : Hp → Prop, (∀ H', Nx H' → ∃ m', m' < m ∧ W (t + 1) m' H') ∧ ∀ z H', Itx.yld t H z H' → gTup X.K 2 (gCons (gName i) (gCons (gName j) gNil)) z (wipe σ [i, j]) H' fun σ2 H2 => wipe σ2 [i, j] = wipe σ [i, j] ∧ RTA X N Lc k scope ifs σ2 H2 fun b H3 =>
        if b = true then REA X N Lc k scope elt σ2 H3 fun z H4 => ∃ acc, H4 Dn = some (.lst acc) ∧ acc.length < sizeLine ∧ Nx (upd H4 Dn (.lst (acc ++ [z]))) else Nx H3) := by
  intro Dn hD
  obtain ⟨Pv, p1, p2, p3, p4⟩ := q Dn hD
  refine lc_it W (g := gTup X.K 2 (gCons (gName i) (gCons (gName j) gNil))) (tt := RTA X N Lc k scope ifs) (te := REA X N Lc k scope elt) (vs := [i, j]) (σ := σ) Pv p1 p2 (fun t z H H' ht p hz => ?_) p4
  obtain ⟨T, u, v, rfl, hT, rfl, hu, hv⟩ := hz
  obtain ⟨σ', σ'', a1, a2, r⟩ := p3 t u v H T ht hu hv p hT
  rw [hput2 a2, hput a1] at r
  have e : (((σ.set j none).set i none).set i (some u)).set j (some v) = (σ.set i (some u)).set j (some v) := by
    rw [List.set_set, List.set_comm _ _ hij.symm, List.set_set]
  refine ⟨T, _, rfl, SqT.of upd_same, rfl, _, _, rfl, _, _, rfl, rfl, ?_, ?_⟩
  · show ((((((σ.set j none).set i none).set i (some u)).set j (some v)).set j none).set i none) = (σ.set j none).set i none
    rw [e, List.set_set, List.set_comm _ _ hij, List.set_set]
  · have e' : ((wipe σ [i, j]).set i (some u)).set j (some v) = (σ.set i (some u)).set j (some v) := e
    rw [e']
    exact r
theorem blk_at2 (c : Ctx X N L k) (S : Scp scope Lc) (hx : x ∈ N) (hy : y ∈ N) (hl : (x, KN.loc) ∈ Lc) (hm : (y, KN.loc) ∈ Lc) (hxy : x ≠ y) (ok : ∀ i j : Nat, N[i]? = some x → N[j]? = some y → BlkOk N X.env.scope scope [(x, i), (y, j)]) :
    ∃ i j : Nat, i ≠ j ∧ (∀ {σ σ' : L2.St} {v : V}, Put N σ x v σ' → σ' = σ.set i (some v)) ∧ (∀ {σ σ' : L2.St} {v : V}, Put N σ y v σ' → σ' = σ.set j (some v)) ∧ BlkOk X.N X.env.scope scope [(x, i), (y, j)] ∧
      ∀ (s : Shared) (Hb : Hp) (C : Addr) (cl : List (Str × Addr)) (fp : List Addr), PG (X.blk s Hb scope (compEnvC scope cl C X.env) fp) (.Tuple [.Name x q0, .Name y q1] kt q2) (gTup X.K 2 (gCons (gName i) (gCons (gName j) gNil))) := by
  obtain ⟨i, h1, h2⟩ := c.put hx
  obtain ⟨j, h3, h4⟩ := c.put hy
  refine ⟨i, j, fun e => hxy (by rw [e, h3] at h1; exact (Option.some.inj h1).symm), h2, h4, ?_, fun s Hb C cl fp => ?_⟩
  · rw [c.n]
    rw [c.n] at h1 h3
    exact ok i j h1 h3
  · have cb := c.blk S s Hb C cl fp
    exact pg_tup (X := X.blk s Hb scope (compEnvC scope cl C X.env) fp) (n := 2) c.calm (pgs_cons (pg_name c.nodup h1 (cb.loc hl .loc) (cb.fn hl .loc)) (pgs_cons (pg_name c.nodup h3 (cb.loc hm .loc) (cb.fn hm .loc)) pgs_nil (by with_unfolding_all rfl)) (by with_unfolding_all rfl)) (by with_unfolding_all rfl) (by with_unfolding_all rfl)
theorem walk_zipT {K : PySem.W.Frag} (hl : xs.length = ys.length) : Walk (RZ.ItzT K a b) xs.length (fun H => SqT K H a xs ∧ SqT K H b ys) (YPair (fun i => xs[i]?) (fun i => ys[i]?)) := by
  refine ⟨fun i _ hi q => ⟨xs, ys, xs[i], ys[i]'(by omega), q.1, q.2, List.getElem?_eq_getElem hi, List.getElem?_eq_getElem (by omega)⟩, fun _ q => ⟨xs, ys, q.1, q.2, .inl (Nat.le_refl _)⟩, fun i H v H' _ q y => ?_⟩
  obtain ⟨T, x, z, h1, h2, h3, h4, h5⟩ := y
  exact ⟨T, x, z, h1, h2, h3, h4 xs q.1, h5 ys q.2⟩
/-- [.. for x, y in zip(a, b)], tuples of one length -/
theorem re_lc_zipT (c : Ctx X N L k) (Lc : List (Str × KN)) (hok : lcOk2 N L scope Lc x y = true) (hg : (("zip" : Str), KN.glob) ∈ L) (hm : X.mg "zip" = none)
    (q : RA X [e1, e2] σ H fun vs H1 => ∃ a b xs ys, vs = [.ref a, .ref b] ∧ xs.length = ys.length ∧ SqT X.K H1 a xs ∧ SqT X.K H1 b ys ∧ CTurns2 X N Lc k scope x y elt ifs (fun H => SqT X.K H a xs ∧ SqT X.K H b ys) xs.length (fun i => xs[i]?) (fun i => ys[i]?) σ H1 Q)
    (hs : ∀ x, foldedSetIterable (.Call (.Name "zip" p1) [e1, e2] [] p2) X.env x = pure x := by intro _; with_unfolding_all rfl) (he : starEach [e1, e2] X.env = (false, eval e1 X.env) :: starEach [e2] X.env := by with_unfolding_all rfl) (hpl : (backTo p2 (starEach [e2] X.env)).any (·.1) = false := by with_unfolding_all rfl) :
    RE X (.ListComp elt [⟨.Tuple [.Name x q0, .Name y q1] kt q2, .Call (.Name "zip" p1) [e1, e2] [] p2, ifs, 0⟩] scope pos) σ H Q := by
  obtain ⟨S, hx, hy, hl, hm2, hxy, ok⟩ := lcOk2_of c hok
  obtain ⟨i, j, hij, hp1, hp2, bk, g⟩ := blk_at2 (q0 := q0) (q1 := q1) (q2 := q2) (kt := kt) c S hx hy hl hm2 hxy ok
  refine re_of (pe_lc c.calm c.nodup (RZ.pi_zipA (c.gl hg) hm PA.self he hpl) bk g (fun s H C cl fp => PTs.rta c S s H C cl fp) (fun s H C cl fp => PE.rea c S s H C cl fp) hs) ?_
  exact ra_mono q fun vs H1 ⟨a, b, xs, ys, e, hl, s1, s2, t⟩ => ⟨a, b, xs, ys, e, .inr ⟨s1, s2, lc_go2 hij hp1 hp2 (walk_zipT hl) t⟩⟩
/-- a list and a tuple of one length -/
theorem re_lc_zipM (c : Ctx X N L k) (Lc : List (Str × KN)) (hok : lcOk2 N L scope Lc x y = true) (hg : (("zip" : Str), KN.glob) ∈ L) (hm : X.mg "zip" = none)
    (q : RA X [e1, e2] σ H fun vs H1 => ∃ a b xs ys, vs = [.ref a, .ref b] ∧ xs.length = ys.length ∧ SqL X.K H1 a xs ∧ SqT X.K H1 b ys ∧ CTurns2 X N Lc k scope x y elt ifs (fun H => SqL X.K H a xs ∧ SqT X.K H b ys) xs.length (fun i => xs[i]?) (fun i => ys[i]?) σ H1 Q)
    (hs : ∀ x, foldedSetIterable (.Call (.Name "zip" p1) [e1, e2] [] p2) X.env x = pure x := by intro _; with_unfolding_all rfl) (he : starEach [e1, e2] X.env = (false, eval e1 X.env) :: starEach [e2] X.env := by with_unfolding_all rfl) (hpl : (backTo p2 (starEach [e2] X.env)).any (·.1) = false := by with_unfolding_all rfl) :
    RE X (.ListComp elt [⟨.Tuple [.Name x q0, .Name y q1] kt q2, .Call (.Name "zip" p1) [e1, e2] [] p2, ifs, 0⟩] scope pos) σ H Q := by
  obtain ⟨S, hx, hy, hl, hm2, hxy, ok⟩ := lcOk2_of c hok
  obtain ⟨i, j, hij, hp1, hp2, bk, g⟩ := blk_at2 (q0 := q0) (q1 := q1) (q2 := q2) (kt := kt) c S hx hy hl hm2 hxy ok
  refine re_of (pe_lc c.calm c.nodup (pi_zipM (c.gl hg) hm PA.self he hpl) bk g (fun s H C cl fp => PTs.rta c S s H C cl fp) (fun s H C cl fp => PE.rea c S s H C cl fp) hs) ?_
  exact ra_mono q fun vs H1 ⟨a, b, xs, ys, e, hl, s1, s2, t⟩ => ⟨a, b, xs, ys, e, ⟨s1, s2⟩, lc_go2 hij hp1 hp2 (walk_zipM hl) t⟩
/-! ### slices of tuples, texts by order, signs in texts, all of bools -/
theorem sv_tupG {lo hi : Option Int} (h : SqT X.K H p xs) (q1 : HT.sIx xs.length 0 lo = 0 ∧ HT.sIx xs.length xs.length hi = xs.length → Q (.ref p) H) (q : ¬ (HT.sIx xs.length 0 lo = 0 ∧ HT.sIx xs.length xs.length hi = xs.length) → ∀ l, H l = none → Q (.ref l) (upd H l (.tup (cutV xs lo hi)))) : SlV X (.ref p) lo hi H Q :=
  ⟨⟨_, sl_tupA, p, xs, rfl, h, q1, q⟩⟩
def cutD (ds : List GT.D) (lo hi : Option Int) : List GT.D := (ds.drop (HT.sIx ds.length 0 lo)).take (HT.sIx ds.length ds.length hi - HT.sIx ds.length 0 lo)
theorem dts_drop {K : PySem.W.Frag} {B : Addr → Prop} {vs : List V} {ds : List GT.D} (h : Dts K B H vs ds) (n : Nat) : Dts K B H (vs.drop n) (ds.drop n) :=
  ⟨by rw [List.length_drop, List.length_drop, h.1], fun i v d a b => h.2 (n + i) v d (by rw [← a, List.getElem?_drop]) (by rw [← b, List.getElem?_drop])⟩
theorem dts_take {K : PySem.W.Frag} {B : Addr → Prop} {vs : List V} {ds : List GT.D} (h : Dts K B H vs ds) (n : Nat) : Dts K B H (vs.take n) (ds.take n) := by
  refine ⟨by rw [List.length_take, List.length_take, h.1], fun i v d a b => ?_⟩
  rw [List.getElem?_take] at a b
  by_cases hi : i < n
  · rw [if_pos hi] at a b
    exact h.2 i v d a b
  · rw [if_neg hi] at a
    cases a
theorem dts_cut {K : PySem.W.Frag} {B : Addr → Prop} {vs : List V} {ds : List GT.D} (h : Dts K B H vs ds) (lo hi : Option Int) : Dts K B H (cutV vs lo hi) (cutD ds lo hi) := by
  show Dts K B H ((vs.drop (HT.sIx vs.length 0 lo)).take (HT.sIx vs.length vs.length hi - HT.sIx vs.length 0 lo)) _
  rw [h.1]
  exact dts_take (dts_drop h _) _
theorem sv_dt {B : Addr → Prop} {vs : List V} {ds : List GT.D} {lo hi : Option Int} (n : ¬ B p) (h : H p = some (.tup vs)) (hd : Dts X.K B H vs ds) (hB : ∀ a, B a → H a ≠ none)
    (q : ∀ l us H', Fr NoB H H' → ¬ B l → H' l = some (.tup us) → Dts X.K B H' us (cutD ds lo hi) → Q (.ref l) H') : SlV X (.ref p) lo hi H Q := by
  refine sv_tupG (SqT.of h) (fun z => ?_) fun _ l hl => ?_
  · have e : cutD ds lo hi = ds := by
      unfold cutD
      rw [← hd.1, z.1, z.2]
      simp [hd.1]
    refine q p vs H Fr.refl n h ?_
    rw [e]
    exact hd
  · exact q l _ _ (Fr.new hl) (fun z => hB _ z hl) upd_same ((dts_cut hd lo hi).fr (Fr.new hl))
theorem cv_leS {z w : Str} (q : Q (.bl (!decide (w.cps.toList < z.cps.toList))) H) : CpV X .LtE (.str z) (.str w) H Q := ⟨⟨_, op_le_str, z, w, rfl, rfl, q⟩⟩
theorem cv_geS {z w : Str} (q : Q (.bl (!decide (z.cps.toList < w.cps.toList))) H) : CpV X .GtE (.str z) (.str w) H Q := ⟨⟨_, op_ge_str, z, w, rfl, rfl, q⟩⟩
theorem lv_all (hc : X.calm = true) {bs : List Bool} (h : SqL X.K H p (bs.map V.bl)) (q : Q (.bl (bs.all id)) H) : ClV X (.builtin "all") [.ref p] H Q := ⟨⟨_, cr_all hc, p, bs, rfl, h, q⟩⟩
theorem re_c_all (c : Ctx X N L k) {e : Expr} {es : List Expr} (h : (("all" : Str), KN.glob) ∈ L) (hm : X.mg "all" = none) (q : RA X (e :: es) σ H fun vs H1 => ClV X (.builtin "all") vs H1 Q)
    (he : starEach (e :: es) X.env = (false, eval e X.env) :: starEach es X.env := by with_unfolding_all rfl) (hpl : (backTo pos (starEach es X.env)).any (·.1) = false := by with_unfolding_all rfl) : RE X (.Call (.Name "all" p0) (e :: es) [] pos) σ H Q := re_callB c h hm (by decide +kernel) q he hpl
/-! ### chains of two comparisons -/
theorem re_chain {a b d : Expr} {op op' : CmpOp} (q : RE X a σ H fun x H1 => RE X b σ H1 fun y H2 => CpV X op x y H2 fun z H3 => ∃ k, z = .bl k ∧ if k = true then RE X d σ H3 fun w H4 => CpV X op' y w H4 Q else Q (.bl false) H3)
    (hm : lastMarks [op, op'] [b, d] = false := by with_unfolding_all rfl) : RE X (.Compare a [op, op'] [b, d] pos) σ H Q := re_of (pe_chain CpR.self CpR.self PE.self PE.self PE.self hm) q
theorem rt_chain {a b d : Expr} {op op' : CmpOp} {Q : Bool → Hp → Prop} (q : RE X a σ H fun x H1 => RE X b σ H1 fun y H2 => CpV X op x y H2 fun z H3 => ∃ k, z = .bl k ∧ if k = true then RE X d σ H3 fun w H4 => CpV X op' y w H4 fun v H5 => ∃ k, v = .bl k ∧ Q k H5 else ∃ k, V.bl false = .bl k ∧ Q k H3)
    (hm : lastMarks [op, op'] [b, d] = false := by with_unfolding_all rfl) : RT X (.Compare a [op, op'] [b, d] pos) σ H Q := rt_of (pt_chain CpR.self CpR.self PE.self PE.self PE.self hm) q
end
end GT
namespace GT
open PySem PySem.Spec PyProof.Rows L2
theorem rts_mono {X : Cx} {σ : L2.St} {H : Hp} {ifs : List Expr} {Q Q' : Bool → Hp → Prop} (q : RTs X ifs σ H Q) (h : ∀ v H1, Q v H1 → Q' v H1) : RTs X ifs σ H Q' := by
  refine ⟨⟨fun σ1 H1 Q1 => ∃ Q0 : Bool → Hp → Prop, RTs X ifs σ1 H1 Q0 ∧ ∀ v H2, Q0 v H2 → Q1 v H2, ⟨fun pins s σ1 H1 Q1 I h1 => ?_⟩, Q, q, h⟩⟩
  obtain ⟨Q0, h2, h3⟩ := h1
  exact thn (PTs.self.run pins s σ1 H1 Q0 I h2) fun u s' ⟨H', I', q'⟩ => ⟨H', I', h3 u H' q'⟩
section
variable {X : Cx} {σ : L2.St} {H1 : Hp} {N : List Str} {L Lc : List (Str × KN)} {k n : Nat} {Q : VK} {scope : Scope} {x y : Str} {elt t : Expr} {stand : Hp → Prop} {it : Nat → V → Prop} {fx fy : Nat → Option V}
/-- [e for x in xs]: e tells g of the i-th item; new objects are laid -/
theorem cturns_gen {g : Nat → V} (hl : n < sizeLine) (hs : ∀ H', Fr NoB H1 H' → stand H') {σf : V → L2.St} (hp : ∀ y, Put N σ x y (σf y))
    (he : ∀ i y H', i < n → it i y → Fr NoB H1 H' → REA X N Lc k scope elt (σf y) H' fun z H'' => z = g i ∧ Fr NoB H' H'')
    (q : ∀ (Dn : Addr) (H' : Hp), H1 Dn = none → Fr NoB H1 H' → H' Dn = some (.lst ((List.range n).map g)) → Q (.ref Dn) H') : CTurns X N Lc k scope x elt [] stand n it σ H1 Q := by
  intro Dn hD
  refine ⟨fun i H' => H' Dn = some (.lst ((List.range i).map g)) ∧ Fr NoB H1 H', ⟨upd_same, Fr.new hD⟩, fun i H _ h => hs H h.2, ?_, fun H' h => q Dn H' hD h.2 h.1⟩
  rintro i y H' hi hy ⟨h1, h2⟩
  refine ⟨σf y, hp y, fun s Hb C cl fp cb => rts_nil (iteT fun s Hb C cl fp cb => pe_mono (he i y H' hi hy h2 s Hb C cl fp cb) ?_)⟩
  rintro z H'' ⟨rfl, f2⟩
  refine ⟨_, f2 _ _ (fun z => z) h1, by rw [List.length_map, List.length_range]; omega, ?_, (h2.trans f2).put hD⟩
  rw [upd_same, List.range_succ, List.map_append]
  rfl
/-- [c for x in xs if t]: how many -/
theorem cturns_ones {f : Nat → Bool} {w : V} (hl : n < sizeLine) (hs : ∀ H', Fr NoB H1 H' → stand H') {σf : V → L2.St} (hp : ∀ y, Put N σ x y (σf y))
    (he : ∀ (Y : Cx) (σ : L2.St) (H : Hp) (Q : VK), Q w H → RE Y elt σ H Q)
    (ht : ∀ i y H', i < n → it i y → Fr NoB H1 H' → RTA X N Lc k scope [t] (σf y) H' fun b H'' => b = f i ∧ Fr NoB H' H'')
    (q : ∀ (Dn : Addr) (H' : Hp), H1 Dn = none → Fr NoB H1 H' → H' Dn = some (.lst (List.replicate ((List.range n).filter f).length w)) → Q (.ref Dn) H') : CTurns X N Lc k scope x elt [t] stand n it σ H1 Q := by
  intro Dn hD
  refine ⟨fun i H' => H' Dn = some (.lst (List.replicate ((List.range i).filter f).length w)) ∧ Fr NoB H1 H', ⟨upd_same, Fr.new hD⟩, fun i H _ h => hs H h.2, ?_, fun H' h => q Dn H' hD h.2 h.1⟩
  rintro i y H' hi hy ⟨h1, h2⟩
  refine ⟨σf y, hp y, fun s Hb C cl fp cb => ?_⟩
  refine rts_mono (ht i y H' hi hy h2 s Hb C cl fp cb) ?_
  rintro b H'' ⟨e, f2⟩
  have e2 := f2 Dn _ (fun z => z) h1
  cases hb : f i with
  | false =>
    rw [e, hb]
    refine iteF ⟨?_, h2.trans f2⟩
    rw [e2, List.range_succ, List.filter_append]
    simp [hb]
  | true =>
    rw [e, hb]
    refine iteT fun s Hb C cl fp cb => he _ _ _ _ ⟨_, e2, ?_, ?_, (h2.trans f2).put hD⟩
    · have : ((List.range i).filter f).length ≤ i := Nat.le_trans (List.length_filter_le _ _) (by rw [List.length_range]; omega)
      rw [List.length_replicate]
      omega
    · rw [upd_same, List.range_succ, List.filter_append, List.length_append]
      have e3 : ([i].filter f).length = 1 := by simp [hb]
      rw [e3, List.replicate_succ']
/-- the same over pairs -/
theorem cturns2_gen {g : Nat → V} (hl : n < sizeLine) (hs : ∀ H', Fr NoB H1 H' → stand H') {σf : V → V → L2.St} (hp : ∀ u v, ∃ σ', Put N σ x u σ' ∧ Put N σ' y v (σf u v))
    (he : ∀ i u v H', i < n → fx i = some u → fy i = some v → Fr NoB H1 H' → REA X N Lc k scope elt (σf u v) H' fun z H'' => z = g i ∧ Fr NoB H' H'')
    (q : ∀ (Dn : Addr) (H' : Hp), H1 Dn = none → Fr NoB H1 H' → H' Dn = some (.lst ((List.range n).map g)) → Q (.ref Dn) H') : CTurns2 X N Lc k scope x y elt [] stand n fx fy σ H1 Q := by
  intro Dn hD
  refine ⟨fun i H' => H' Dn = some (.lst ((List.range i).map g)) ∧ Fr NoB H1 H', ⟨upd_same, Fr.new hD⟩, fun i H _ h => hs H h.2, ?_, fun H' h => q Dn H' hD h.2 h.1⟩
  rintro i u v H' T hi hu hv ⟨h1, h2⟩ hT
  obtain ⟨σ', a1, a2⟩ := hp u v
  have f1 := h2.trans (Fr.new (o := .tup [u, v]) hT)
  refine ⟨σ', σf u v, a1, a2, fun s Hb C cl fp cb => rts_nil (iteT fun s Hb C cl fp cb => pe_mono (he i u v _ hi hu hv f1 s Hb C cl fp cb) ?_)⟩
  rintro z H'' ⟨rfl, f2⟩
  refine ⟨_, f2 _ _ (fun z => z) (Fr.new (B := NoB) (o := .tup [u, v]) hT _ _ (fun z => z) h1), by rw [List.length_map, List.length_range]; omega, ?_, (f1.trans f2).put hD⟩
  rw [upd_same, List.range_succ, List.map_append]
  rfl
theorem cturns2_ones {f : Nat → Bool} {w : V} (hl : n < sizeLine) (hs : ∀ H', Fr NoB H1 H' → stand H') {σf : V → V → L2.St} (hp : ∀ u v, ∃ σ', Put N σ x u σ' ∧ Put N σ' y v (σf u v))
    (he : ∀ (Y : Cx) (σ : L2.St) (H : Hp) (Q : VK), Q w H → RE Y elt σ H Q)
    (ht : ∀ i u v H', i < n → fx i = some u → fy i = some v → Fr NoB H1 H' → RTA X N Lc k scope [t] (σf u v) H' fun b H'' => b = f i ∧ Fr NoB H' H'')
    (q : ∀ (Dn : Addr) (H' : Hp), H1 Dn = none → Fr NoB H1 H' → H' Dn = some (.lst (List.replicate ((List.range n).filter f).length w)) → Q (.ref Dn) H') : CTurns2 X N Lc k scope x y elt [t] stand n fx fy σ H1 Q := by
  intro Dn hD
  refine ⟨fun i H' => H' Dn = some (.lst (List.replicate ((List.range i).filter f).length w)) ∧ Fr NoB H1 H', ⟨upd_same, Fr.new hD⟩, fun i H _ h => hs H h.2, ?_, fun H' h => q Dn H' hD h.2 h.1⟩
  rintro i u v H' T hi hu hv ⟨h1, h2⟩ hT
  obtain ⟨σ', a1, a2⟩ := hp u v
  have f1 := h2.trans (Fr.new (o := .tup [u, v]) hT)
  have h3 := Fr.new (B := NoB) (o := .tup [u, v]) hT _ _ (fun z => z) h1
  refine ⟨σ', σf u v, a1, a2, fun s Hb C cl fp cb => ?_⟩
  refine rts_mono (ht i u v _ hi hu hv f1 s Hb C cl fp cb) ?_
  rintro b H'' ⟨e, f2⟩
  have e2 := f2 Dn _ (fun z => z) h3
  cases hb : f i with
  | false =>
    rw [e, hb]
    refine iteF ⟨?_, f1.trans f2⟩
    rw [e2, List.range_succ, List.filter_append]
    simp [hb]
  | true =>
    rw [e, hb]
    refine iteT fun s Hb C cl fp cb => he _ _ _ _ ⟨_, e2, ?_, ?_, (f1.trans f2).put hD⟩
    · have : ((List.range i).filter f).length ≤ i := Nat.le_trans (List.length_filter_le _ _) (by rw [List.length_range]; omega)
      rw [List.length_replicate]
      omega
    · rw [upd_same, List.range_succ, List.filter_append, List.length_append]
      have e3 : ([i].filter f).length = 1 := by simp [hb]
      rw [e3, List.replicate_succ']
theorem filt_nil {f : Nat → Bool} {n : Nat} : (((List.range n).filter f).length = 0) ↔ ∀ i, i < n → f i = false := by
  rw [List.length_eq_zero_iff, List.filter_eq_nil_iff]
  constructor
  · intro h i hi
    exact Bool.eq_false_iff.mpr (h i (List.mem_range.mpr hi))
  · intro h i hi
    rw [h i (List.mem_range.mp hi)]
    exact Bool.false_ne_true
/-- [1, 1, ..] == [] -/
theorem cv_ones {H : Hp} (c : Ctx X N L k) {p r : Addr} {m : Nat} (hm : m ≤ 200) (h : H p = some (.lst (List.replicate m (.int 1)))) (hr : H r = some (.lst [])) (q : Q (.bl (decide (m = 0))) H) : CpV X .Eq (.ref p) (.ref r) H Q := by
  have hd : Dt X.K NoB H (.ref p) (.lst (List.replicate m (.int 1))) := .lst (fun z => z) h (by simp) fun i v d a b => by
    rw [List.getElem?_replicate] at a b
    split at a
    · cases a
      rename_i hi
      rw [if_pos hi] at b
      cases b
      exact .int
    · cases a
  have hd2 : Dt X.K NoB H (.ref r) (.lst []) := .lst (fun z => z) hr rfl fun i v d a b => by simp at a
  refine cv_eqD c hd hd2 (n := 1) (m := 1) (.lst (by simpa using hm) fun d hd => by rw [List.eq_of_mem_replicate hd]; exact .int (by decide)) (.lst (by simp) fun d hd => by cases hd) (by decide) (by decide) ?_
  have e : PyData.eqv (py (.lst (List.replicate m (.int 1)))) (py (.lst [])) = decide (m = 0) := by
    cases m <;> rfl
  rw [e]
  exact q
end
end GT
namespace GT
open PySem PySem.Spec PyProof.Rows L2
section
variable {X : Cx} {σ : L2.St} {H : Hp} {pos : Pos} {Q : VK} {a b d e : Expr} {o1 o2 o3 : CmpOp}
def c3Q (X : Cx) (a b d e : Expr) (o1 o2 o3 : CmpOp) : TE := fun σ H Q => RE X a σ H fun x H1 => RE X b σ H1 fun y H2 => CpV X o1 x y H2 fun z H3 => ∃ k, z = .bl k ∧
  if k = true then RE X d σ H3 fun w H4 => CpV X o2 y w H4 fun z2 H5 => ∃ k2, z2 = .bl k2 ∧ if k2 = true then RE X e σ H5 fun u H6 => CpV X o3 w u H6 Q else Q (.bl false) H5 else Q (.bl false) H3
/-- a o1 b o2 d o3 e -/
theorem re_chain3 (q : c3Q X a b d e o1 o2 o3 σ H Q) (hm : lastMarks [o1, o2, o3] [b, d, e] = false := by with_unfolding_all rfl) : RE X (.Compare a [o1, o2, o3] [b, d, e] pos) σ H Q := by
  refine ⟨⟨c3Q X a b d e o1 o2 o3, ⟨fun pins s σ H Q I h => ?_⟩, q⟩⟩
  refine Compare_chain (thn (PE.self.run pins s σ H _ I h) ?_) hm
  rintro va sa ⟨x, H1, I1, r1, q1⟩
  refine chain_link (thn (PE.self.run pins sa σ H1 _ I1 q1) ?_)
  rintro vb sb ⟨y, H2, I2, r2, q2⟩
  refine thn (CpR.self pins sb σ H2 x y va vb _ I2 r1 r2 q2) ?_
  rintro vc sc ⟨z, H3, I3, r3, k, rfl, q3⟩
  cases r3
  refine wpAny_truthy_bool ?_
  cases k with
  | false =>
    have q3 : Q (.bl false) H3 := q3
    exact ite_ff ⟨.bl false, H3, I3, rfl, q3⟩
  | true =>
    refine ite_tt (chain_link (thn (PE.self.run pins sc σ H3 _ I3 q3) ?_))
    rintro vd sd ⟨w, H4, I4, r4, q4⟩
    refine thn (CpR.self pins sd σ H4 y w vb vd _ I4 r2 r4 q4) ?_
    rintro ve se ⟨z2, H5, I5, r5, k2, rfl, q5⟩
    cases r5
    refine wpAny_truthy_bool ?_
    cases k2 with
    | false =>
      have q5 : Q (.bl false) H5 := q5
      exact ite_ff ⟨.bl false, H5, I5, rfl, q5⟩
    | true =>
      refine ite_tt (chain_last (thn (PE.self.run pins se σ H5 _ I5 q5) ?_))
      rintro vf sf ⟨u, H6, I6, r6, q6⟩
      exact CpR.self pins sf σ H6 w u vd vf Q I6 r4 r6 q6
end
end GT
namespace GT
open PySem PySem.Spec PyProof.Rows L2
section
variable {X : Cx} {σ : L2.St} {H : Hp} {N : List Str} {L : List (Str × KN)} {k : Nat} {pos : Pos} {Q : VK} {o i : Expr} {p : Addr} {kvs : List (Key × V)} {z : Str}
/-- d[k], d a tracked dict -/
theorem re_dget (c : Ctx X N L k) (q : RE X o σ H fun x H1 => RE X i σ H1 fun y H2 => ∃ a v, x = .ref a ∧ DGet H2 a y (some v) ∧ Q v H2) (hs : NoSl i := by with_unfolding_all exact fun _ _ => rfl) : RE X (.Subscript o i pos) σ H Q :=
  re_of (pe_dget (by have := c.room.un; omega) PE.self PE.self hs) q
theorem rt_dnin (c : Ctx X N L k) {Q : Bool → Hp → Prop} (q : RE X i σ H fun y H1 => RE X o σ H1 fun x H2 => ∃ a ov, x = .ref a ∧ DGet H2 a y ov ∧ ∃ c, V.bl (!ov.isSome) = .bl c ∧ Q c H2) (hm : behindInMarks .NotIn o = false := by first | exact nobehind _ (by decide) (by decide) | with_unfolding_all rfl) : RT X (.Compare i [.NotIn] [o] pos) σ H Q :=
  rt_of (L2.pt_cmp (pc_dnotin (by have := c.room.un; omega) PE.self PE.self) hm) q
theorem dget_k {ov : Option V} (h : H p = some (.dK kvs)) (e : valV kvs (.inr z) = ov) : DGet H p (.str z) ov := by
  subst e
  exact DGet.k (k := .inr z) h
/-- sorted(d), its keys texts -/
theorem lv_sortedD (c : Ctx X N L k) {ks : List Str} (h : H p = some (.dK kvs)) (hk : kvs.map (·.1) = ks.map Sum.inr) (hl : ks.length < 64) (q : ∀ ys l, ys.Perm ks → sortedS ys = true → H l = none → Q (.ref l) (upd H l (.lst (ys.map V.str)))) : ClV X (.builtin "sorted") [.ref p] H Q :=
  ⟨⟨_, call_sortedD c.calm, p, kvs, ks, rfl, .inl h, hk, hl, q⟩⟩
structure RPs (X : Cx) (σ : L2.St) (keys : List (Option Expr)) (values : List Expr) (H : Hp) (Q : List (V × V) → Hp → Prop) : Prop where
  ex : ∃ trs, (∀ pos, PPs X pos keys values trs) ∧ tPairs trs σ H Q
theorem rps_nil {Q : List (V × V) → Hp → Prop} (q : Q [] H) : RPs X σ [] [] H Q := ⟨⟨[], fun _ => pps_nil, q⟩⟩
def txsK (ks : List (Option Expr)) (vs : List Expr) (X : Cx) : List (TE × TE) := (ks.zip vs).map fun p => ((match p.1 with | some e => RE X e | none => fun _ _ _ => False), RE X p.2)
theorem pps_self : ∀ (ks : List (Option Expr)) (vs : List Expr), ks.all (·.isSome) = true → ks.length = vs.length → ∀ pos, PPs X pos ks vs (txsK ks vs X)
  | [], [], _, _, _ => pps_nil
  | [], _ :: _, _, h, _ => by cases h
  | _ :: _, [], _, h, _ => by cases h
  | none :: _, _ :: _, h, _, _ => by simp at h
  | some e :: ks, v :: vs, h, hl, pos => pps_cons PE.self PE.self (pps_self ks vs (by simpa using h) (by simpa using hl) pos)
/-- {k: v, ..} -/
theorem re_disp {keys : List (Option Expr)} {values : List Expr} (hall : keys.all (·.isSome) = true) (hl : keys.length = values.length) (h0 : keys ≠ []) (h15 : keys.length ≤ 15)
    (q : ∀ p, H p = none → tPairs (txsK keys values X) σ (upd H p (.dK [])) fun ps H2 => H2 p = some (.dK []) ∧ ∃ kvs : List (Key × V), ps = kvs.map (fun kv => (kV kv.1, kv.2)) ∧ kvs.length ≤ 15 ∧ Q (.ref p) (upd H2 p (.dK (mergeK [] kvs)))) : RE X (.Dict keys values pos) σ H Q :=
  re_of (pe_disp (pps_self keys values hall hl pos) hall hl h0 h15) q
end
end GT
namespace GT
open PySem PySem.Spec PyProof.Rows L2
/-! ### the hook that reads given addresses alone -/
def obsL (as : List Addr) (fa : List He.Fa) (fn : List He.DefD) (ts : List He.Tab) (tf : List He.Defn) (ex : PySem.W.Frag → Bool) (g : Addr → Option Obj) : He.AlX := (He.obsT fa fn ts (He.frT g as), ex (He.frT g as) && He.tabsB g tf (He.frT g as))
theorem saysL_of {as : List Addr} {fa : List He.Fa} {fn : List He.DefD} {ts : List He.Tab} {tf : List He.Defn} {ex : PySem.W.Frag → Bool} {w : World} {h : Heap} (e : obsL as fa fn ts tf ex h.get? = He.valX fn ts w) : He.SaysX fa fn ts tf ex w h (He.frT h.get? as) := by
  unfold obsL He.valX at e
  obtain ⟨e1, e2⟩ := Prod.mk.inj e
  obtain ⟨hm, htb⟩ := He.ba e2
  have row : ∀ p ∈ tf, PySem.W.codeHdIn (He.frT h.get? as) (He.cT (He.frT h.get? as) p).1 (He.cT (He.frT h.get? as) p).2 = true ∧ ∃ ob, h.get? (He.cT (He.frT h.get? as) p).2 = some ob ∧ He.emptyTab ob = true := by
    intro p hp
    unfold He.tabsB at htb
    obtain ⟨a1, a2⟩ := He.ba (List.all_eq_true.mp htb p hp)
    refine ⟨a1, ?_⟩
    generalize h.get? (He.cT (He.frT h.get? as) p).2 = ob at a2
    cases ob with
    | none => cases a2
    | some o => exact ⟨o, rfl, a2⟩
  refine ⟨e1, hm, fun p hp => (row p hp).1, fun p hp => ?_, fun p hp => ?_⟩
  · obtain ⟨_, o, ho, hz⟩ := row p hp
    exact He.frT_none ho hz
  · obtain ⟨_, o, ho, hz⟩ := row p hp
    rw [ho, He.emptyTab_eq hz]
def hookL (as : List Addr) (fa : List He.Fa) (fn : List He.DefD) (ts : List He.Tab) (tf : List He.Defn) (ex : PySem.W.Frag → Bool) : PySem.W.Hook where
  α := He.AlX
  obs := fun s => obsL as fa fn ts tf ex s.heap.get?
  val := fun w => He.valX fn ts w
  says := fun w h => ∃ K : PySem.W.Frag, K.In h ∧ He.SaysX fa fn ts tf ex w h K
  of := fun _ _ z => ⟨_, He.frT_in, saysL_of z⟩
  keeps := fun _ _ _ ⟨K, hK, c⟩ k => ⟨K, PySem.W.Frag.In.keeps hK k, ⟨c.t, c.more, c.hd, c.out, fun p hp => k _ _ (c.empty p hp)⟩⟩
end GT
namespace GT
open PySem PySem.Spec PyProof.Rows L2
/-! ### a def of the program that is handed the caught exception, called within the suite -/
section
variable {P : Program} {w : World} {K : PySem.W.Frag} {mg : Str → Option Value} {base : Heap} {x : Str} {st : Stmt} {N ps : List Str} {L : List (Str × KN)} {f : Addr} {fd : FuncData}
theorem run_pin (F : FnP K x st f fd) (M : Nms st N ps L) {A : Around} {outer : List Env} {s : Shared} {H : Hp} {args : Args} {us : List Value} {vs : List V} {Q : VK} {p : Addr × Obj} (hr : L2H.RoomH 1 A) (hpin : L2H.PinOk outer H s p) (e0 : Env0 P w K mg base A outer s H)
    (hb : BindsTo s fd args (ps.zip us)) (r : Vals vs us) (hl : vs.length = ps.length)
    (body : ∀ cdv : Value, RB (L2H.cxH CX0 P w K mg base N x (defScope st) f cdv A outer s H E0 p).nox (defBody st) { nx := fun _ H' => Q .non H', rt := Q } (L2.start N vs) H) : codeAny (model P w) A (.call (.ref f) args) (CR CX0 outer P w H s Q E0) s := by
  obtain ⟨oc, od, dV, kV, doc, pm, an, cdv, ct, osl, rfl, lk, hcd, _, _⟩ := F.ex
  obtain ⟨t, ht, hq⟩ := (body cdv).ex
  have KX : K.In s.heap := e0.mod.kin.keeps fun b o z => (e0.bs b o z).1
  have lim : s.heap.NoLimit := e0.mod.nolimit.keeps fun b o z => (e0.bs b o z).1
  have dd : A.depth < recursionLimit := by
    have := hr.dp
    omega
  have kd : ∀ y ∈ ps.zip us, (defScope st).names.lookup y.1 = some .local ∨ ((defScope st).names.lookup y.1 = some .cell ∧ ((cellsFrom (s.heap.objs.size + 1) (defScope st).names []).lookup y.1).isSome = true) := by
    rintro ⟨n, v⟩ hy
    rcases M.S.par n (List.of_mem_zip hy).1 with z | z
    · exact Or.inl z
    · exact Or.inr ⟨z, PySem.W.cellsFrom_some _ _ _ (Or.inl z)⟩
  refine codeAny_call_function dd (KX _ _ lk) rfl M.S.co M.S.gen rfl (PySem.W.codeRec_of KX hcd) (hb _ _ _ _ ?_)
  refine wpAny_newFunctionEnv_cells M.S.kind kd fun env he s1 xx => ?_
  subst he
  refine ⟨lim.keeps xx.toInCall.keep, codeAny_func ?_⟩
  have I0 := L2H.inv_startH (CX := CX0) (E := E0) (f := f) (cd := cdv) (qual := x) M.S hpin e0 hl r xx
  refine wpAny_mono (ht.nox.run [] s1 (L2.start N vs) H _ I0 hq) (fun fl s' hs => ?_) fun e s' z => z
  cases fl with
  | next =>
    obtain ⟨σ', H', J, q⟩ := hs
    exact ⟨.non, H', J.os, J.bare, J.base, J.hok, rfl, q⟩
  | ret u =>
    obtain ⟨v, σ', H', J, rv, q⟩ := hs
    exact ⟨v, H', J.os, J.bare, J.base, J.hok, rv, q⟩
  | brk => exact hs.elim fun _ z => z.elim fun _ z => z.2.elim
  | cont => exact hs.elim fun _ z => z.elim fun _ z => z.2.elim
end
section
variable {X : Cx} {σ : L2.St} {H : Hp} {N N' ps : List Str} {L L' : List (Str × KN)} {k : Nat} {pos p0 p1 : Pos} {Q : VK} {x n : Str} {st : Stmt} {f a : Addr} {fd : FuncData} {oe : Obj} {pn : List (Addr × Obj)}
theorem re_callS (c : CtxS (X.suite a ((a, oe) :: pn)) N L) (room : Room 1 X.A) (F : FnP X.K x st f fd) (gx : X.mg x = some (.ref f)) (M : Nms st N' [n] L') (bb : Binds X.K fd [n] []) (h : (x, KN.glob) ∈ L) {m : Str} (hm : (m, KN.loc) ∈ L) (sm : Slot N σ m (.ref a))
    (body : ∀ Y : Cx, At5 Y X.prog X.w X.K X.mg X.base → CtxS (Y.suite a [(a, oe)]) N' L' → RB (Y.suite a [(a, oe)]) (defBody st) { nx := fun _ H' => Q .non H', rt := Q } (L2.start N' [.ref a]) H)
    (he : starEach [.Name m p1] X.env = [(false, eval (.Name m p1) X.env)] := by with_unfolding_all rfl) (hpl : (backTo pos (starEach [] X.env)).any (·.1) = false := by with_unfolding_all rfl) : RE (X.suite a ((a, oe) :: pn)) (.Call (.Name x p0) [.Name m p1] [] pos) σ H Q := by
  refine ⟨⟨fun σ1 H1 Q1 => σ1 = σ ∧ H1 = H ∧ Q1 = Q, ⟨fun pins s σ1 H1 Q1 I h1 => ?_⟩, rfl, rfl, rfl⟩⟩
  obtain ⟨rfl, rfl, rfl⟩ := h1
  refine wpAny_Call_Name_kw (ld_glob I (c.gl h) gx ?_ (okName_of (c.dbg _ h)).1)
  have rn : RA (X.suite a ((a, oe) :: pn)) [.Name m p1] σ1 H1 fun vs H2 => vs = [.ref a] ∧ H2 = H1 := ra_cons (re_nameS c sm hm .loc (ra_nil ⟨rfl, rfl⟩)) he
  refine PySem.W.callWith_K (h₀ := X.base) I.ok.mod.kin F.kp (thn (PA.self.run pos pins s σ1 H1 _ I rn) fun us s2 ⟨vs, H2, I2, r2, e1, e2⟩ => ⟨I2.kIn, ?_⟩) he hpl
  subst e1 e2
  have pp := I2.pin (a, oe) (List.mem_append_left _ List.mem_cons_self)
  have hpin : L2H.PinOk (X.suite a ((a, oe) :: pn)).stack H2 s2 (a, oe) := by
    refine ⟨pp.1, pp.2.1, fun hmem => ?_, pp.2.2.2.2⟩
    rcases List.mem_cons.mp (I2.stkSub a hmem) with z | z
    · exact pp.2.2.1 z
    · exact pp.2.2.2.1 z
  have bd := bb s2 us I2.kIn (by rw [List.append_nil, ← r2.length]; rfl)
  rw [List.append_nil] at bd
  have run := run_pin (P := X.prog) (w := X.w) (mg := X.mg) (base := X.base) (Q := Q1) F M (⟨room.dp, room.un⟩ : L2H.RoomH 1 (X.suite a ((a, oe) :: pn)).A) hpin I2.env0 bd r2 rfl fun cdv => ?_
  · refine wpAny_call (codeAny_mono run fun r s' hq => ?_)
    cases r with
    | error e => exact hq.elim
    | ok fl =>
      cases fl with
      | ret u => exact I2.after hq
      | _ => exact hq.elim
  · have cc : CtxS ((cxOf CX0 X.prog X.w X.K X.mg X.base N' x (defScope st) f cdv (X.suite a ((a, oe) :: pn)).A (X.suite a ((a, oe) :: pn)).stack s2 H2 E0).suite a [(a, oe)]) N' L' := ⟨rfl, M.S.nd, knIs_of (X := (cxOf CX0 X.prog X.w X.K X.mg X.base N' x (defScope st) f cdv (X.suite a ((a, oe) :: pn)).A (X.suite a ((a, oe) :: pn)).stack s2 H2 E0).suite a [(a, oe)]) M rfl (fun _ => rfl), M.db⟩
    exact body (cxOf CX0 X.prog X.w X.K X.mg X.base N' x (defScope st) f cdv (X.suite a ((a, oe) :: pn)).A (X.suite a ((a, oe) :: pn)).stack s2 H2 E0) ⟨rfl, rfl, rfl, rfl, rfl⟩ cc
end
section
variable {P : Program} {w : World} {K : PySem.W.Frag} {mg : Str → Option Value} {base : Heap} {x : Str} {st : Stmt} {N ps : List Str} {L : List (Str × KN)} {k : Nat} {sp : Sp} {f : Addr} {fd : FuncData}
/-- a def with a try, that raises nothing -/
theorem defPT_of (F : FnP K x st f fd) (gx : mg x = some (.ref f)) (M : Nms st N ps L) (hb : Binds K fd ps []) (len : ∀ vs H Q E, sp vs H Q E → vs.length = ps.length)
    (body : ∀ (X : Cx), Ctx X N L k → At5 X P w K mg base → X.stack = X.env :: X.outer → X.env.frame = some X.env.locals → ∀ (vs : List V) (H : Hp) (Q : VK) (E : XK), sp vs H Q E → RB X (defBody st) { nx := fun _ H' => Q .non H', rt := Q } (start N vs) H) : DefP P w K mg base CX0 x ps (k + 1) sp := by
  refine ⟨f, fd, F.ok M.S len (fun cdv A outer s H vs Q E hr h => ?_), gx, F.kp, hb⟩
  have c : Ctx (cxOf CX0 P w K mg base N x (defScope st) f cdv A outer s H E).nox N L k := ⟨rfl, M.S.nd, knIs_of M rfl (fun _ => rfl), M.db, rfl, hr, PassesOwn.never, M.S.kind⟩
  obtain ⟨t, ht, q⟩ := (body _ c ⟨rfl, rfl, rfl, rfl, rfl⟩ rfl rfl vs H Q E h).ex
  exact ⟨t, ht.nox, q⟩
end
end GT
namespace GT
open PySem PySem.Spec PyProof.Rows L2
/-! ### data expressions beside a box of draws -/
/-- no list within -/
inductive NoL : D → Prop
  | non : NoL .non
  | bl {b : Bool} : NoL (.bl b)
  | int {i : Int} : NoL (.int i)
  | str {z : Str} : NoL (.str z)
  | tup {l : List D} (h : ∀ d ∈ l, NoL d) : NoL (.tup l)
structure ST (K : PySem.W.Frag) (Bx : Addr → Prop) (b : Addr) (Γ : List (V × D)) (H : Hp) : Prop where
  box : BoxAt H b
  mem : Bx b
  lst : ∀ a, Bx a → a = b ∨ ∃ xs, H a = some (.lst xs)
  dat : ∀ p ∈ Γ, Dt K Bx H p.1 p.2
section
variable {K : PySem.W.Frag} {Bx : Addr → Prop} {b : Addr} {Γ : List (V × D)} {H H' : Hp}
theorem frB (h : ST K Bx b Γ H) (f : Fr (· = b) H H') : Fr Bx H H' := f.sub fun a e => by
  subst e
  exact h.mem
theorem ST.fr (h : ST K Bx b Γ H) (f : Fr (· = b) H H') (hb : BoxAt H' b) : ST K Bx b Γ H' := by
  refine ⟨hb, h.mem, fun a ha => ?_, fun p hp => (h.dat p hp).fr (frB h f)⟩
  rcases h.lst a ha with z | ⟨xs, z⟩
  · exact .inl z
  · by_cases e : a = b
    · exact .inl e
    · exact .inr ⟨xs, f _ _ e z⟩
theorem ST.old (h : ST K Bx b Γ H) : ∀ a, Bx a → H a ≠ none := fun a ha z => by
  rcases h.lst a ha with rfl | ⟨xs, e⟩
  · exact old_box h.box z
  · rw [e] at z
    cases z
theorem ST.new (h : ST K Bx b Γ H) {p : Addr} {o : HO} (hp : H p = none) : ST K Bx b Γ (upd H p o) := h.fr (Fr.new hp) (h.box.put (h.box.ne hp))
theorem ST.add (h : ST K Bx b Γ H) {v : V} {d : D} (hd : Dt K Bx H v d) : ST K Bx b ((v, d) :: Γ) H := ⟨h.box, h.mem, h.lst, fun p hp => by
  rcases List.mem_cons.mp hp with rfl | hp
  · exact hd
  · exact h.dat p hp⟩
theorem ST.less {Γ' : List (V × D)} (h : ST K Bx b Γ H) (s : ∀ p ∈ Γ', p ∈ Γ) : ST K Bx b Γ' H := ⟨h.box, h.mem, h.lst, fun p hp => h.dat p (s p hp)⟩
/-- the box alone -/
theorem ST.one (hb : BoxAt H b) : ST K (· = b) b [] H := ⟨hb, rfl, fun a e => .inl e, fun p hp => by cases hp⟩
/-- data without lists lie beside all lists -/
theorem dt_beside {v : V} {d : D} (h : Dt K (· = b) H v d) (n : NoL d) (s : ∀ a, Bx a → a = b ∨ ∃ xs, H a = some (.lst xs)) : Dt K Bx H v d := by
  induction h with
  | non => exact .non
  | bl => exact .bl
  | int => exact .int
  | str => exact .str
  | lst => cases n
  | @tup a vs ds nb t l hh ih =>
    cases n with
    | tup nn =>
      refine .tup (fun z => ?_) t l fun i v d h1 h2 => ih i v d h1 h2 (nn d (List.mem_of_getElem? h2))
      rcases s a z with e | ⟨xs, e⟩
      · exact nb e
      · rw [t] at e
        cases e
end
/-- what an expression of data tells -/
def Ev (X : Cx) (Bx : Addr → Prop) (b : Addr) (Γ : List (V × D)) (σ : L2.St) (R : D → Prop) (e : Expr) : Prop := ∀ (H : Hp) (Q : VK), ST X.K Bx b Γ H → (∀ v d H', Fr (· = b) H H' → BoxAt H' b → R d → Dt X.K Bx H' v d → Q v H') → RE X e σ H Q
def Evs (X : Cx) (Bx : Addr → Prop) (b : Addr) (Γ : List (V × D)) (σ : L2.St) (R : D → Prop) (es : List Expr) : Prop := ∀ (H : Hp) (Q : List V → Hp → Prop), ST X.K Bx b Γ H → (∀ vs ds H', Fr (· = b) H H' → BoxAt H' b → ds.length = es.length → (∀ d ∈ ds, R d) → Dts X.K Bx H' vs ds → Q vs H') → RA X es σ H Q
/-- a tuple, a list, of so many items at most -/
def TG (n l : Nat) (d : D) : Prop := ∃ ds, d = .tup ds ∧ ds.length ≤ l ∧ ∀ e ∈ ds, Gd n e
def LG (n l : Nat) (d : D) : Prop := ∃ ds, d = .lst ds ∧ ds.length ≤ l ∧ ∀ e ∈ ds, Gd n e
theorem gd_TG {n l : Nat} {d : D} (h : TG n l d) (hl : l ≤ 200) : Gd (n + 1) d := by
  obtain ⟨ds, rfl, h1, h2⟩ := h
  exact .tup (by omega) h2
theorem gd_LG {n l : Nat} {d : D} (h : LG n l d) (hl : l ≤ 200) : Gd (n + 1) d := by
  obtain ⟨ds, rfl, h1, h2⟩ := h
  exact .lst (by omega) h2
section
variable {X : Cx} {Bx : Addr → Prop} {b : Addr} {Γ : List (V × D)} {σ : L2.St} {N : List Str} {L : List (Str × KN)} {k n m l : Nat} {R R' : D → Prop} {e e1 e2 : Expr} {es : List Expr} {pos p0 p1 p2 p3 : Pos} {x : Str} {v : V} {d : D}
theorem Ev.mono (h : Ev X Bx b Γ σ R e) (s : ∀ d, R d → R' d) : Ev X Bx b Γ σ R' e := fun H Q st q => h H Q st fun v d H' f hb r hd => q v d H' f hb (s d r) hd
theorem Ev.up (h : Ev X Bx b Γ σ (Gd n) e) (hm : n ≤ m) : Ev X Bx b Γ σ (Gd m) e := h.mono fun d g => gd_up g m hm
theorem Ev.tg (h : Ev X Bx b Γ σ (TG n l) e) (hl : l ≤ 200 := by decide) : Ev X Bx b Γ σ (Gd (n + 1)) e := h.mono fun d g => gd_TG g hl
theorem Ev.lg (h : Ev X Bx b Γ σ (LG n l) e) (hl : l ≤ 200 := by decide) : Ev X Bx b Γ σ (Gd (n + 1)) e := h.mono fun d g => gd_LG g hl
theorem ev_de (h : DE e d) (r : R d) : Ev X Bx b Γ σ R e := fun H Q st q => re_de h σ H Q fun v H' f hd => q v d H' (f.any) (st.box.fr f) r (hd.mono fun a ha => st.old a ha)
theorem ev_name (c : Ctx X N L k) {j : KN} (s : Slot N σ x v) (hm : (v, d) ∈ Γ) (h : (x, j) ∈ L) (mm : Mine j) (r : R d) : Ev X Bx b Γ σ R (.Name x pos) := fun H Q st q => re_name c s h mm (q v d H Fr.refl st.box r (st.dat _ hm))
theorem evs_nil : Evs X Bx b Γ σ R [] := fun H Q st q => ra_nil (q [] [] H Fr.refl st.box rfl (fun d h => by cases h) .nil)
theorem evs_cons (h : Ev X Bx b Γ σ R e) (t : Evs X Bx b Γ σ R es) (hs : starEach (e :: es) X.env = (false, eval e X.env) :: starEach es X.env := by with_unfolding_all rfl) : Evs X Bx b Γ σ R (e :: es) := fun H Q st q => by
  refine ra_cons (h H _ st fun v d H1 f1 b1 r1 d1 => ?_) hs
  have st1 := st.fr f1 b1
  refine t H1 _ st1 fun vs ds H2 f2 b2 hl r2 d2 => ?_
  refine q (v :: vs) (d :: ds) H2 (f1.trans f2) b2 (by rw [List.length_cons, List.length_cons, hl]) (fun e he => ?_) (.cons (d1.fr (frB st1 f2)) d2)
  rcases List.mem_cons.mp he with rfl | he
  · exact r1
  · exact r2 e he
theorem ev_tup {kk : Nat} (h : Evs X Bx b Γ σ (Gd n) es) (hl : es.length ≤ l := by decide) (l2 : l ≤ 1000 := by decide) : Ev X Bx b Γ σ (TG n l) (.Tuple es kk pos) := fun H Q st q => by
  refine re_tup (h H _ st fun vs ds H1 f1 b1 hd r1 d1 => ⟨by rw [d1.1, hd]; exact Nat.le_trans (Nat.le_trans hl l2) (by decide), fun p hp => ?_⟩)
  have st1 := st.fr f1 b1
  exact q _ (.tup ds) _ (f1.trans (Fr.new hp)) (st1.new hp).box ⟨ds, rfl, by omega, r1⟩ (Dt.newT hp (fun z => st1.old _ z hp) d1)
theorem ev_lst (h : Evs X Bx b Γ σ (Gd n) es) (hl : es.length ≤ l := by decide) (l2 : l ≤ 1000 := by decide) : Ev X Bx b Γ σ (LG n l) (.List es pos) := fun H Q st q => by
  refine re_lst (h H _ st fun vs ds H1 f1 b1 hd r1 d1 => ⟨by rw [d1.1, hd]; exact Nat.le_trans (Nat.le_trans hl l2) (by decide), fun p hp => ?_⟩)
  have st1 := st.fr f1 b1
  exact q _ (.lst ds) _ (f1.trans (Fr.new hp)) (st1.new hp).box ⟨ds, rfl, by omega, r1⟩ (Dt.newL hp (fun z => st1.old _ z hp) d1)
theorem tg_at {K : PySem.W.Frag} {H : Hp} (h : TG n l d) (hd : Dt K Bx H v d) : ∃ p vs ds, v = .ref p ∧ d = .tup ds ∧ ¬ Bx p ∧ H p = some (.tup vs) ∧ Dts K Bx H vs ds ∧ ds.length ≤ l ∧ ∀ e ∈ ds, Gd n e := by
  obtain ⟨ds, rfl, h1, h2⟩ := h
  cases hd with
  | tup nb t ll hh => exact ⟨_, _, ds, rfl, rfl, nb, t, ⟨ll, hh⟩, h1, h2⟩
theorem lg_at {K : PySem.W.Frag} {H : Hp} (h : LG n l d) (hd : Dt K Bx H v d) : ∃ p vs ds, v = .ref p ∧ d = .lst ds ∧ ¬ Bx p ∧ H p = some (.lst vs) ∧ Dts K Bx H vs ds ∧ ds.length ≤ l ∧ ∀ e ∈ ds, Gd n e := by
  obtain ⟨ds, rfl, h1, h2⟩ := h
  cases hd with
  | lst nb t ll hh => exact ⟨_, _, ds, rfl, rfl, nb, t, ⟨ll, hh⟩, h1, h2⟩
theorem mem_app {α : Type} {P : α → Prop} {a c : List α} (h1 : ∀ e ∈ a, P e) (h2 : ∀ e ∈ c, P e) : ∀ e ∈ a ++ c, P e := fun e he => by
  rcases List.mem_append.mp he with he | he
  · exact h1 e he
  · exact h2 e he
/-- tuples one behind the other -/
theorem ev_cat {l1 l2 : Nat} (h1 : Ev X Bx b Γ σ (TG n l1) e1) (h2 : Ev X Bx b Γ σ (TG n l2) e2) (hl : l1 + l2 ≤ l := by decide) (l3 : l ≤ 1000 := by decide) : Ev X Bx b Γ σ (TG n l) (.BinOp e1 .Add e2 pos) := fun H Q st q => by
  refine re_bin (h1 H _ st fun v1 d1 H1 f1 b1 r1 k1 => ?_)
  have st1 := st.fr f1 b1
  refine h2 H1 _ st1 fun v2 d2 H2 f2 b2 r2 k2 => ?_
  have st2 := st1.fr f2 b2
  obtain ⟨p, us, ds, rfl, rfl, np, tp, hp, lp, gp⟩ := tg_at r1 (k1.fr (frB st1 f2))
  obtain ⟨r, ws, es, rfl, rfl, nr, tr, hr, lr, gr⟩ := tg_at r2 k2
  have f := f1.trans f2
  refine ov_catT (SqT.of tp) (SqT.of tr) (by rw [hp.1, hr.1]; exact Nat.le_trans (show ds.length + es.length ≤ 1000 by omega) (by decide)) (fun z => ?_) (fun z1 z2 => ?_) fun z1 z2 p2 hp2 => ?_
  · exact q _ (.tup es) H2 f b2 ⟨es, rfl, by omega, gr⟩ k2
  · exact q _ (.tup ds) H2 f b2 ⟨ds, rfl, by omega, gp⟩ (.ofT np tp hp)
  · exact q _ (.tup (ds ++ es)) _ (f.trans (Fr.new hp2)) (st2.new hp2).box ⟨_, rfl, by rw [List.length_append]; omega, mem_app gp gr⟩ (Dt.newT hp2 (fun z => st2.old _ z hp2) (dts_app hp hr))
/-- lists one behind the other -/
theorem ev_catL {l1 l2 : Nat} (h1 : Ev X Bx b Γ σ (LG n l1) e1) (h2 : Ev X Bx b Γ σ (LG n l2) e2) (hl : l1 + l2 ≤ l := by decide) (l3 : l ≤ 1000 := by decide) : Ev X Bx b Γ σ (LG n l) (.BinOp e1 .Add e2 pos) := fun H Q st q => by
  refine re_bin (h1 H _ st fun v1 d1 H1 f1 b1 r1 k1 => ?_)
  have st1 := st.fr f1 b1
  refine h2 H1 _ st1 fun v2 d2 H2 f2 b2 r2 k2 => ?_
  have st2 := st1.fr f2 b2
  obtain ⟨p, us, ds, rfl, rfl, np, tp, hp, lp, gp⟩ := lg_at r1 (k1.fr (frB st1 f2))
  obtain ⟨r, ws, es, rfl, rfl, nr, tr, hr, lr, gr⟩ := lg_at r2 k2
  have f := f1.trans f2
  refine ov_cat tp tr (by rw [hp.1, hr.1]; exact Nat.le_trans (show ds.length + es.length ≤ 1000 by omega) (by decide)) fun p2 hp2 => ?_
  exact q _ (.lst (ds ++ es)) _ (f.trans (Fr.new hp2)) (st2.new hp2).box ⟨_, rfl, by rw [List.length_append]; omega, mem_app gp gr⟩ (Dt.newL hp2 (fun z => st2.old _ z hp2) (dts_app hp hr))
/-- t * k -/
theorem ev_rep {kk : Int} (h : Ev X Bx b Γ σ (fun d => ∃ x, d = .tup [x] ∧ Gd n x) e1) (h2 : DE e2 (.int kk)) (k1 : 2 ≤ kk) (k2 : kk ≤ l) (l3 : l ≤ 1000 := by decide) : Ev X Bx b Γ σ (TG n l) (.BinOp e1 .Mult e2 pos) := fun H Q st q => by
  refine re_bin (h H _ st fun v1 d1 H1 f1 b1 r1 kd => ?_)
  obtain ⟨y, rfl, gy⟩ := r1
  have st1 := st.fr f1 b1
  refine re_de h2 σ H1 _ fun w H2 f2 dw => ?_
  cases dw
  have kd := kd.fr (frB st1 f2.any)
  have st2 := st1.fr f2.any (st1.box.fr f2)
  cases kd with
  | @tup p us _ np tp ll hh =>
    obtain ⟨u, rfl⟩ : ∃ u, us = [u] := by
      match us, ll with
      | [u], _ => exact ⟨u, rfl⟩
    refine ⟨⟨_, op_repT, p, kk, [u], rfl, rfl, SqT.of tp, by simp, k1, by omega, by simp, fun p2 hp2 => ?_⟩⟩
    have e3 : (List.replicate kk.toNat [u]).flatten = List.replicate kk.toNat u := by
      generalize kk.toNat = j
      induction j with
      | zero => rfl
      | succ j ih => rw [List.replicate_succ, List.flatten_cons, ih, List.replicate_succ]; rfl
    rw [e3]
    refine q _ (.tup (List.replicate kk.toNat y)) _ ((f1.trans f2.any).trans (Fr.new hp2)) (st2.new hp2).box ⟨_, rfl, by rw [List.length_replicate]; omega, fun e he => by rw [List.eq_of_mem_replicate he]; exact gy⟩ (Dt.newT hp2 (fun z => st2.old _ z hp2) ⟨by rw [List.length_replicate, List.length_replicate], fun i v d a c => ?_⟩)
    rw [List.getElem?_replicate] at a c
    by_cases z : i < kk.toNat
    · rw [if_pos z] at a c
      cases a
      cases c
      exact hh 0 u y rfl rfl
    · rw [if_neg z] at a
      cases a
/-- t[lo:hi] -/
theorem ev_cut {lo hi : Option Expr} (h : Ev X Bx b Γ σ (TG n l) e) (hlo : ∀ (H : Hp) (Q : Option Int → Hp → Prop), (∀ a, Q a H) → RO X lo σ H Q) (hhi : ∀ (H : Hp) (Q : Option Int → Hp → Prop), (∀ a, Q a H) → RO X hi σ H Q) : Ev X Bx b Γ σ (TG n l) (.Subscript e (.Slice lo hi none p2) pos) := fun H Q st q => by
  refine re_slice (h H _ st fun v1 d1 H1 f1 b1 r1 k1 => hlo H1 _ fun a => hhi H1 _ fun c => ?_)
  have st1 := st.fr f1 b1
  obtain ⟨p, us, ds, rfl, rfl, np, tp, hp, lp, gp⟩ := tg_at r1 k1
  refine sv_dt np tp hp (fun a ha => st1.old a ha) fun r ws H2 f2 nr tr hr => ?_
  refine q _ (.tup (GT.cutD ds a c)) H2 (f1.trans f2.any) (st1.box.fr f2) ⟨_, rfl, ?_, fun e he => gp e (List.mem_of_mem_drop (List.mem_of_mem_take he))⟩ (.ofT nr tr hr)
  have := List.length_take_le (HT.sIx ds.length ds.length c - HT.sIx ds.length 0 a) (ds.drop (HT.sIx ds.length 0 a))
  have h3 : (GT.cutD ds a c).length ≤ (ds.drop (HT.sIx ds.length 0 a)).length := by
    unfold GT.cutD
    rw [List.length_take]
    exact Nat.min_le_right _ _
  rw [List.length_drop] at h3
  omega
/-- list(t) -/
theorem ev_list (c : Ctx X N L k) (hg : (("list" : Str), KN.glob) ∈ L) (hm : X.mg "list" = none) (h : Ev X Bx b Γ σ (TG n l) e) (he : starEach (e :: []) X.env = (false, eval e X.env) :: starEach [] X.env := by with_unfolding_all rfl) (hpl : (backTo pos (starEach [] X.env)).any (·.1) = false := by with_unfolding_all rfl) :
    Ev X Bx b Γ σ (LG n l) (.Call (.Name "list" p0) [e] [] pos) := fun H Q st q => by
  refine re_c_list c hg hm (ra_cons (h H _ st fun v1 d1 H1 f1 b1 r1 k1 => ra_nil ?_) he) he hpl
  have st1 := st.fr f1 b1
  obtain ⟨p, us, ds, rfl, rfl, np, tp, hp, lp, gp⟩ := tg_at r1 k1
  exact lv_listL (.inr (SqT.of tp)) fun r hr => q _ (.lst ds) _ (f1.trans (Fr.new hr)) (st1.new hr).box ⟨ds, rfl, lp, gp⟩ (Dt.newL hr (fun z => st1.old _ z hr) hp)
theorem ev_if {t : Expr} (h1 : Ev X Bx b Γ σ R e1) (h2 : Ev X Bx b Γ σ R e2) (ht : ∀ (H : Hp) (Q : Bool → Hp → Prop), ST X.K Bx b Γ H → (∀ c, Q c H) → RT X t σ H Q) : Ev X Bx b Γ σ R (.IfExp t e1 e2 pos) := fun H Q st q => by
  refine re_if (ht H _ st fun c => ?_)
  cases c with
  | true => exact iteT (h1 H Q st q)
  | false => exact iteF (h2 H Q st q)
/-- what a def draws: data without lists -/
def spDr (R : D → Prop) (K : PySem.W.Frag) : Sp := fun vs H Q _ => ∃ b : Addr, vs = [.ref b] ∧ BoxAt H b ∧ ∀ v d H', R d → NoL d → Dt K (· = b) H' v d → Fr (· = b) H H' → BoxAt H' b → Q v H'
theorem ev_dr (c : Ctx X N L k) {j j' : KN} {fn : Str} {bn : Str} {ps : List Str} {nn : Nat} (F : DefP X.prog X.w X.K X.mg X.base CX0 fn ps nn (spDr R X.K)) (hn : nn ≤ k) (hg : (fn, KN.glob) ∈ L) (s : Slot N σ bn (.ref b)) (hb : (bn, j') ∈ L) (mb : Mine j')
    (he : starEach (.Name bn p1 :: []) X.env = (false, eval (.Name bn p1) X.env) :: starEach [] X.env := by with_unfolding_all rfl) (hpl : (backTo pos (starEach [] X.env)).any (·.1) = false := by with_unfolding_all rfl) :
    Ev X Bx b Γ σ R (.Call (.Name fn p0) [.Name bn p1] [] pos) := fun H Q st q => by
  refine re_call c F hn hg (ra_cons (re_name c s hb mb (ra_nil ?_)) he) he hpl
  refine ⟨b, rfl, st.box, fun v d H' r nl hd f hb' => ?_⟩
  have st1 := st.fr f hb'
  exact q v d H' f hb' r (dt_beside hd nl st1.lst)
end
end GT
namespace GT
open PySem PySem.Spec PyProof.Rows L2
/-- whole numbers between -/
def IR (lo hi : Int) (d : D) : Prop := ∃ i, d = .int i ∧ lo ≤ i ∧ i ≤ hi
theorem gd_IR {n : Nat} {lo hi : Int} {d : D} (h : IR lo hi d) (h1 : -(10 ^ 40) ≤ lo) (h2 : hi ≤ 10 ^ 40) : Gd n d := by
  obtain ⟨i, rfl, a, c⟩ := h
  refine .int ?_
  have e : ((10 ^ 40 : Nat) : Int) = (10 : Int) ^ 40 := by decide +kernel
  have : ((i.natAbs : Nat) : Int) ≤ ((10 ^ 40 : Nat) : Int) := by rw [e]; omega
  exact Int.ofNat_le.mp this
theorem nl_IR {lo hi : Int} {d : D} (h : IR lo hi d) : NoL d := by
  obtain ⟨i, rfl, _⟩ := h
  exact .int
/-- a draw: below many -/
def spTake : Sp := fun vs H Q _ => ∃ (b : Addr) (n : Int), vs = [.ref b, .int n] ∧ BoxAt H b ∧ 0 < n ∧ n < 2 ^ 110 ∧
  ∀ (d : Int) (H' : Hp), 0 ≤ d → d < n → Fr (· = b) H H' → BoxAt H' b → Q (.int d) H'
/-- an item of a list, a sign of a text, by a draw -/
def spPick (K : PySem.W.Frag) : Sp := fun vs H Q _ => ∃ (b : Addr), BoxAt H b ∧
  ((∃ p xs, vs = [.ref b, .ref p] ∧ H p = some (.lst xs) ∧ p ≠ b ∧ 0 < xs.length ∧ xs.length < 2 ^ 31 ∧ ∀ (i : Nat) v H', xs[i]? = some v → Fr (· = b) H H' → BoxAt H' b → Q v H') ∨
    ∃ z : Str, vs = [.ref b, .str z] ∧ 0 < z.length ∧ z.length ≤ 1000 ∧ ∀ c H', c ∈ z.cps.toList → Fr (· = b) H H' → BoxAt H' b → Q (.str ⟨#[c]⟩) H')
section
variable {X : Cx} {Bx : Addr → Prop} {b : Addr} {Γ : List (V × D)} {σ : L2.St} {N : List Str} {L Lc : List (Str × KN)} {k n m l : Nat} {R R' : D → Prop} {e e1 e2 elt : Expr} {es : List Expr} {pos p0 p1 p2 p3 : Pos} {x : Str} {v : V} {d : D} {scope : Scope}
theorem ev_take (c : Ctx X N L k) {j : KN} {bn : Str} {mm : Int} (F : DefP X.prog X.w X.K X.mg X.base CX0 "_law_take" ["box", "many"] 1 spTake) (hk : 1 ≤ k) (hg : (("_law_take" : Str), KN.glob) ∈ L) (s : Slot N σ bn (.ref b)) (hb : (bn, j) ∈ L) (mb : Mine j) (h : DE e (.int mm)) (h0 : 0 < mm) (h1 : mm < 2 ^ 110)
    (he : starEach (.Name bn p1 :: [e]) X.env = (false, eval (.Name bn p1) X.env) :: starEach [e] X.env := by with_unfolding_all rfl) (hpl : (backTo pos (starEach [e] X.env)).any (·.1) = false := by with_unfolding_all rfl) :
    Ev X Bx b Γ σ (IR 0 (mm - 1)) (.Call (.Name "_law_take" p0) [.Name bn p1, e] [] pos) := fun H Q st q => by
  refine re_call c F hk hg (ra_cons (re_name c s hb mb (ra_cons (re_de h σ H _ fun w H1 f1 dw => ra_nil ?_) (h.star _ _))) he) he hpl
  cases dw
  refine ⟨b, mm, rfl, st.box.fr f1, h0, h1, fun i H2 i0 i1 f2 b2 => ?_⟩
  exact q (.int i) (.int i) H2 (f1.any.trans f2) b2 ⟨i, rfl, i0, by omega⟩ .int
theorem ev_addCI {a lo hi lo' hi' : Int} (h1 : DE e1 (.int a)) (h2 : Ev X Bx b Γ σ (IR lo hi) e2) (z1 : lo' ≤ a + lo := by decide) (z2 : a + hi ≤ hi' := by decide) : Ev X Bx b Γ σ (IR lo' hi') (.BinOp e1 .Add e2 pos) := fun H Q st q => by
  refine re_bin (re_de h1 σ H _ fun w H1 f1 dw => ?_)
  cases dw
  have st1 := st.fr f1.any (st.box.fr f1)
  refine h2 H1 _ st1 fun v d H2 f2 b2 r2 d2 => ?_
  obtain ⟨i, rfl, i0, i1⟩ := r2
  cases d2
  exact ov_add (q _ (.int (a + i)) H2 (f1.any.trans f2) b2 ⟨_, rfl, by omega, by omega⟩ .int)
theorem ev_subIC {a lo hi lo' hi' : Int} (h1 : Ev X Bx b Γ σ (IR lo hi) e1) (h2 : DE e2 (.int a)) (z1 : lo' ≤ lo - a := by decide) (z2 : hi - a ≤ hi' := by decide) : Ev X Bx b Γ σ (IR lo' hi') (.BinOp e1 .Sub e2 pos) := fun H Q st q => by
  refine re_bin (h1 H _ st fun v d H1 f1 b1 r1 d1 => ?_)
  obtain ⟨i, rfl, i0, i1⟩ := r1
  cases d1
  refine re_de h2 σ H1 _ fun w H2 f2 dw => ?_
  cases dw
  have st1 := st.fr f1 b1
  exact ov_sub (q _ (.int (i - a)) H2 (f1.trans f2.any) (b1.fr f2) ⟨_, rfl, by omega, by omega⟩ .int)
theorem ev_addIC {a lo hi lo' hi' : Int} (h1 : Ev X Bx b Γ σ (IR lo hi) e1) (h2 : DE e2 (.int a)) (z1 : lo' ≤ lo + a := by decide) (z2 : hi + a ≤ hi' := by decide) : Ev X Bx b Γ σ (IR lo' hi') (.BinOp e1 .Add e2 pos) := fun H Q st q => by
  refine re_bin (h1 H _ st fun v d H1 f1 b1 r1 d1 => ?_)
  obtain ⟨i, rfl, i0, i1⟩ := r1
  cases d1
  refine re_de h2 σ H1 _ fun w H2 f2 dw => ?_
  cases dw
  exact ov_add (q _ (.int (i + a)) H2 (f1.trans f2.any) (b1.fr f2) ⟨_, rfl, by omega, by omega⟩ .int)
/-- _law_pick(box, l) -/
theorem ev_pick (c : Ctx X N L k) {j : KN} {bn : Str} (F : DefP X.prog X.w X.K X.mg X.base CX0 "_law_pick" ["box", "some"] 2 (spPick X.K)) (hk : 2 ≤ k) (hg : (("_law_pick" : Str), KN.glob) ∈ L) (s : Slot N σ bn (.ref b)) (hb : (bn, j) ∈ L) (mb : Mine j)
    (h : Ev X Bx b Γ σ (fun d => ∃ ds, d = .lst ds ∧ 0 < ds.length ∧ ds.length ≤ 1000 ∧ ∀ e ∈ ds, R e) e) (hse : starEach [e] X.env = (false, eval e X.env) :: starEach [] X.env := by with_unfolding_all rfl)
    (he : starEach (.Name bn p1 :: [e]) X.env = (false, eval (.Name bn p1) X.env) :: starEach [e] X.env := by with_unfolding_all rfl) (hpl : (backTo pos (starEach [e] X.env)).any (·.1) = false := by with_unfolding_all rfl) :
    Ev X Bx b Γ σ R (.Call (.Name "_law_pick" p0) [.Name bn p1, e] [] pos) := fun H Q st q => by
  refine re_call c F hk hg (ra_cons (re_name c s hb mb (ra_cons (h H _ st fun w d H1 f1 b1 r1 dw => ra_nil ?_) hse)) he) he hpl
  obtain ⟨ds, rfl, l0, l1, rr⟩ := r1
  have st1 := st.fr f1 b1
  cases dw with
  | @lst p vs _ np tp ll hh =>
    refine ⟨b, b1, .inl ⟨p, vs, rfl, tp, fun z => np (by rw [z]; exact st1.mem), by omega, by omega, fun i u H2 hi f2 b2 => ?_⟩⟩
    have hl : i < ds.length := by
      rcases Nat.lt_or_ge i vs.length with z | z
      · omega
      · rw [List.getElem?_eq_none z] at hi; cases hi
    exact q u ds[i] H2 (f1.trans f2) b2 (rr _ (List.getElem_mem hl)) ((hh i u _ hi (List.getElem?_eq_getElem hl)).fr (frB st1 f2))
theorem ev_items (h : Evs X Bx b Γ σ R es) (h0 : 0 < es.length := by decide) (hl : es.length ≤ 1000 := by decide) : Ev X Bx b Γ σ (fun d => ∃ ds, d = .lst ds ∧ 0 < ds.length ∧ ds.length ≤ 1000 ∧ ∀ e ∈ ds, R e) (.List es pos) := fun H Q st q => by
  refine re_lst (h H _ st fun vs ds H1 f1 b1 hd r1 d1 => ⟨by rw [d1.1, hd]; exact Nat.le_trans hl (by decide), fun p hp => ?_⟩)
  have st1 := st.fr f1 b1
  exact q _ (.lst ds) _ (f1.trans (Fr.new hp)) (st1.new hp).box ⟨ds, rfl, by omega, by omega, r1⟩ (Dt.newL hp (fun z => st1.old _ z hp) d1)
theorem evs_two (h1 : Ev X Bx b Γ σ R e1) (h2 : Ev X Bx b Γ σ R e2) (hs1 : starEach [e1, e2] X.env = (false, eval e1 X.env) :: starEach [e2] X.env := by with_unfolding_all rfl) (hs2 : starEach [e2] X.env = (false, eval e2 X.env) :: starEach [] X.env := by with_unfolding_all rfl) : Evs X Bx b Γ σ R [e1, e2] := evs_cons h1 (evs_cons h2 evs_nil hs2) hs1
/-- [e for x in ..], e draws data without lists -/
theorem cturns_dr {stand : Hp → Prop} {it : Nat → V → Prop} {H1 : Hp} {Q : VK} (hl : n ≤ 1000) (hb : BoxAt H1 b) (hs : ∀ H', Fr (· = b) H1 H' → stand H') {σf : V → L2.St} (hp : ∀ y, Put N σ x y (σf y))
    (he : ∀ i y H', i < n → it i y → BoxAt H' b → Fr (· = b) H1 H' → REA X N Lc k scope elt (σf y) H' fun z H'' => ∃ d, (R d ∧ NoL d) ∧ Dt X.K (· = b) H'' z d ∧ Fr (· = b) H' H'' ∧ BoxAt H'' b)
    (q : ∀ Dn vs ds H', H1 Dn = none → Fr (· = b) H1 H' → BoxAt H' b → H' Dn = some (.lst vs) → Dts X.K (fun a => a = b ∨ a = Dn) H' vs ds → ds.length = n → (∀ d ∈ ds, R d ∧ NoL d) → Q (.ref Dn) H') : CTurns X N Lc k scope x elt [] stand n it σ H1 Q := by
  intro Dn hD
  have nb : ¬ Dn = b := hb.ne hD
  refine ⟨fun i H' => ∃ vs ds, H' Dn = some (.lst vs) ∧ Fr (· = b) H1 H' ∧ BoxAt H' b ∧ Dts X.K (fun a => a = b ∨ a = Dn) H' vs ds ∧ ds.length = i ∧ ∀ d ∈ ds, R d ∧ NoL d, ⟨[], [], upd_same, Fr.new hD, hb.put nb, .nil, rfl, fun d h => by cases h⟩, ?_, ?_, ?_⟩
  · rintro i H' _ ⟨vs, ds, _, f, _⟩
    exact hs H' f
  · rintro i y H' hi hy ⟨vs, ds, h1, f, bx, hd, hn, hr⟩
    refine ⟨σf y, hp y, fun s Hb C cl fp cb => rts_nil (iteT fun s Hb C cl fp cb => pe_mono (he i y H' hi hy bx f s Hb C cl fp cb) ?_)⟩
    rintro z H'' ⟨d, rd, dz, f2, b2⟩
    have h2 := f2 _ _ nb h1
    have dz2 : Dt X.K (fun a => a = b ∨ a = Dn) H'' z d := dt_beside dz rd.2 fun a ha => by
      rcases ha with e | e
      · exact .inl e
      · exact .inr ⟨vs, by rw [e]; exact h2⟩
    have hd2 : Dts X.K (fun a => a = b ∨ a = Dn) H'' vs ds := hd.fr (f2.sub fun a e => .inl e)
    have fD : ∀ o, Fr (fun a => a = b ∨ a = Dn) H'' (upd H'' Dn o) := fun o a u na ea => by
      rw [upd_ne (fun e => na (.inr e))]
      exact ea
    refine ⟨vs, h2, by rw [hd2.1, hn]; exact Nat.lt_of_lt_of_le (show i < 1001 by omega) (by decide), vs ++ [z], ds ++ [d], upd_same, ?_, b2.put nb, (dts_app hd2 (.cons dz2 .nil)).fr (fD _), by rw [List.length_append, hn]; rfl, ?_⟩
    · exact (f.trans f2).put hD
    · intro e he
      rcases List.mem_append.mp he with he | he
      · exact hr e he
      · rw [List.mem_singleton.mp he]
        exact rd
  · rintro H' ⟨vs, ds, h1, f, bx, hd, hn, hr⟩
    exact q Dn vs ds H' hD f bx h1 hd hn hr
theorem ev_use {H : Hp} {Q : VK} (st : ST X.K Bx b Γ H) (h : Ev X Bx b Γ σ R e) (q : ∀ v d H', Fr (· = b) H H' → BoxAt H' b → R d → Dt X.K Bx H' v d → Q v H') : RE X e σ H Q := h H Q st q
theorem ir_mono {lo hi lo' hi' : Int} (h1 : lo' ≤ lo) (h2 : hi ≤ hi') : ∀ d, IR lo hi d → IR lo' hi' d := fun d ⟨i, e, a, c⟩ => ⟨i, e, by omega, by omega⟩
theorem gdl_nil {n : Nat} : ∀ d ∈ ([] : List D), Gd n d := fun d h => by cases h
theorem gdl_cons {n : Nat} {x : D} {l : List D} (h : Gd n x) (t : ∀ d ∈ l, Gd n d) : ∀ d ∈ x :: l, Gd n d := fun d hd => by
  rcases List.mem_cons.mp hd with rfl | hd
  · exact h
  · exact t d hd
end
end GT
namespace GT
open PySem PySem.Spec PyProof.Rows L2
section
variable {X : Cx} {N : List Str} {L : List (Str × KN)} {k : Nat} {σ : L2.St} {b : Addr} {Bx : Addr → Prop} {Γ : List (V × D)} {R : D → Prop} {e e1 e2 : Expr} {pos p0 p1 : Pos}
theorem ev_takeX (c : Ctx X N L k) {j : KN} {bn : Str} {mm : Int} (F : DefP X.prog X.w X.K X.mg X.base CX0 "_law_take" ["box", "many"] 1 spTake) (hk : 1 ≤ k) (hg : (("_law_take" : Str), KN.glob) ∈ L) (s : Slot N σ bn (.ref b)) (hb : (bn, j) ∈ L) (mb : Mine j) (h : ∀ (H : Hp) (Q : VK), Q (.int mm) H → RE X e σ H Q) (h0 : 0 < mm) (h1 : mm < 2 ^ 110)
    (hse : starEach [e] X.env = (false, eval e X.env) :: starEach [] X.env := by with_unfolding_all rfl)
    (he : starEach (.Name bn p1 :: [e]) X.env = (false, eval (.Name bn p1) X.env) :: starEach [e] X.env := by with_unfolding_all rfl) (hpl : (backTo pos (starEach [e] X.env)).any (·.1) = false := by with_unfolding_all rfl) :
    Ev X Bx b Γ σ (IR 0 (mm - 1)) (.Call (.Name "_law_take" p0) [.Name bn p1, e] [] pos) := fun H Q st q => by
  refine re_call c F hk hg (ra_cons (re_name c s hb mb (ra_cons (h H _ (ra_nil ?_)) hse)) he) he hpl
  refine ⟨b, mm, rfl, st.box, h0, h1, fun i H2 i0 i1 f2 b2 => ?_⟩
  exact q (.int i) (.int i) H2 f2 b2 ⟨i, rfl, i0, by omega⟩ .int
/-- data without lists, of a depth -/
def GN (n : Nat) (d : D) : Prop := Gd n d ∧ NoL d
def TN (n k : Nat) (d : D) : Prop := ∃ ds, d = .tup ds ∧ ds.length = k ∧ ∀ e ∈ ds, GN n e
variable {Lc : List (Str × KN)} {n m l : Nat} {es : List Expr} {x : Str} {v : V} {d : D}
theorem gn_up {n m : Nat} {d : D} (h : GN n d) (hm : n ≤ m) : GN m d := ⟨gd_up h.1 m hm, h.2⟩
theorem gn_TN {n k : Nat} {d : D} (h : TN n k d) (hk : k ≤ 200 := by decide) : GN (n + 1) d := by
  obtain ⟨ds, rfl, h1, h2⟩ := h
  exact ⟨.tup (by omega) fun e he => (h2 e he).1, .tup fun e he => (h2 e he).2⟩
theorem Ev.gu (h : Ev X Bx b Γ σ (GN n) e) (hm : n ≤ m := by decide) : Ev X Bx b Γ σ (GN m) e := h.mono fun d g => gn_up g hm
theorem Ev.tn (h : Ev X Bx b Γ σ (TN n k) e) (hk : k ≤ 200 := by decide) : Ev X Bx b Γ σ (GN (n + 1)) e := h.mono fun d g => gn_TN g hk
theorem ev_tupN {kk : Nat} (h : Evs X Bx b Γ σ (GN n) es) (hl : es.length ≤ 200 := by decide) : Ev X Bx b Γ σ (TN n es.length) (.Tuple es kk pos) := fun H Q st q => by
  refine re_tup (h H _ st fun vs ds H1 f1 b1 hd r1 d1 => ⟨by rw [d1.1, hd]; exact Nat.le_trans hl (by decide), fun p hp => ?_⟩)
  have st1 := st.fr f1 b1
  exact q _ (.tup ds) _ (f1.trans (Fr.new hp)) (st1.new hp).box ⟨ds, rfl, hd, r1⟩ (Dt.newT hp (fun z => st1.old _ z hp) d1)
/-- a draw by an own def -/
theorem ev_drN (c : Ctx X N L k) {j' : KN} {fn : Str} {bn : Str} {ps : List Str} {nn : Nat} (F : DefP X.prog X.w X.K X.mg X.base CX0 fn ps nn (spDr R X.K)) (hn : nn ≤ k) (hg : (fn, KN.glob) ∈ L) (s : Slot N σ bn (.ref b)) (hb : (bn, j') ∈ L) (mb : Mine j') (hr : ∀ d, R d → Gd n d)
    (he : starEach (.Name bn p1 :: []) X.env = (false, eval (.Name bn p1) X.env) :: starEach [] X.env := by with_unfolding_all rfl) (hpl : (backTo pos (starEach [] X.env)).any (·.1) = false := by with_unfolding_all rfl) :
    Ev X Bx b Γ σ (fun d => R d ∧ GN n d) (.Call (.Name fn p0) [.Name bn p1] [] pos) := fun H Q st q => by
  refine re_call c F hn hg (ra_cons (re_name c s hb mb (ra_nil ?_)) he) he hpl
  refine ⟨b, rfl, st.box, fun v d H' r nl hd f hb' => ?_⟩
  have st1 := st.fr f hb'
  exact q v d H' f hb' ⟨r, hr d r, nl⟩ (dt_beside hd nl st1.lst)
theorem gn_IR {n : Nat} {lo hi : Int} (h1 : -(10 ^ 40) ≤ lo) (h2 : hi ≤ 10 ^ 40) : ∀ d, IR lo hi d → GN n d := fun d h => ⟨gd_IR h h1 h2, nl_IR h⟩
theorem nol_nil : ∀ d ∈ ([] : List D), NoL d := fun d h => by cases h
theorem nol_cons {x : D} {l : List D} (h : NoL x) (t : ∀ d ∈ l, NoL d) : ∀ d ∈ x :: l, NoL d := fun d hd => by
  rcases List.mem_cons.mp hd with rfl | hd
  · exact h
  · exact t d hd
end
end GT
namespace GT
open PySem PySem.Spec PyProof.Rows L2
/-- a list of so many at most -/
def LR (R : D → Prop) (l : Nat) (d : D) : Prop := ∃ ds, d = .lst ds ∧ ds.length ≤ l ∧ ∀ e ∈ ds, R e
section
variable {X : Cx} {N : List Str} {L : List (Str × KN)} {k l : Nat} {σ : L2.St} {b : Addr} {Bx : Addr → Prop} {Γ : List (V × D)} {R : D → Prop} {e e1 e2 : Expr} {es : List Expr} {pos p0 p1 : Pos}
theorem ev_lr (h : Evs X Bx b Γ σ R es) (hl : es.length ≤ l := by decide) (l2 : l ≤ 1000 := by decide) : Ev X Bx b Γ σ (LR R l) (.List es pos) := fun H Q st q => by
  refine re_lst (h H _ st fun vs ds H1 f1 b1 hd r1 d1 => ⟨by rw [d1.1, hd]; exact Nat.le_trans (Nat.le_trans hl l2) (by decide), fun p hp => ?_⟩)
  have st1 := st.fr f1 b1
  exact q _ (.lst ds) _ (f1.trans (Fr.new hp)) (st1.new hp).box ⟨ds, rfl, by omega, r1⟩ (Dt.newL hp (fun z => st1.old _ z hp) d1)
theorem lr_at {K : PySem.W.Frag} {H : Hp} {v : V} {d : D} (h : LR R l d) (hd : Dt K Bx H v d) : ∃ p vs ds, v = .ref p ∧ d = .lst ds ∧ ¬ Bx p ∧ H p = some (.lst vs) ∧ Dts K Bx H vs ds ∧ ds.length ≤ l ∧ ∀ e ∈ ds, R e := by
  obtain ⟨ds, rfl, h1, h2⟩ := h
  cases hd with
  | lst nb t ll hh => exact ⟨_, _, ds, rfl, rfl, nb, t, ⟨ll, hh⟩, h1, h2⟩
/-- a list and one that is not empty, for a pick -/
theorem ev_catP {l1 : Nat} (h1 : Ev X Bx b Γ σ (LR R l1) e1) (h2 : Evs X Bx b Γ σ R es) (h0 : 0 < es.length := by decide) (hl : l1 + es.length ≤ 1000 := by decide) {p1 : Pos} : Ev X Bx b Γ σ (fun d => ∃ ds, d = .lst ds ∧ 0 < ds.length ∧ ds.length ≤ 1000 ∧ ∀ e ∈ ds, R e) (.BinOp e1 .Add (.List es p1) pos) := fun H Q st q => by
  refine re_bin (h1 H _ st fun v1 d1 H1 f1 b1 r1 k1 => ?_)
  have st1 := st.fr f1 b1
  refine re_lst (h2 H1 _ st1 fun ws es' H2 f2 b2 hd r2 k2 => ⟨by rw [k2.1, hd]; exact Nat.le_trans (show es.length ≤ 1000 by omega) (by decide), fun r hr => ?_⟩)
  have st2 := st1.fr f2 b2
  obtain ⟨p, us, ds, rfl, rfl, np, tp, hp, lp, gp⟩ := lr_at r1 (k1.fr (frB st1 f2))
  have st3 := st2.new (o := .lst ws) hr
  have tp3 : upd H2 r (.lst ws) p = some (.lst us) := by
    rw [upd_ne (fun z => by rw [z, hr] at tp; cases tp)]
    exact tp
  refine ov_cat tp3 upd_same (by rw [hp.1, k2.1]; exact Nat.le_trans (show ds.length + es'.length ≤ 1000 by omega) (by decide)) fun p2 hp2 => ?_
  have f : Fr (· = b) H _ := ((f1.trans f2).trans (Fr.new (o := .lst ws) hr)).trans (Fr.new (o := .lst (us ++ ws)) hp2)
  exact q _ (.lst (ds ++ es')) _ f (st3.new hp2).box ⟨_, rfl, by rw [List.length_append]; omega, by rw [List.length_append]; omega, mem_app gp r2⟩ (Dt.newL hp2 (fun z => st3.old _ z hp2) ((dts_app hp k2).fr (Fr.new (B := Bx) (o := .lst ws) hr)))
end
end GT
namespace GT
open PySem PySem.Spec PyProof.Rows L2 PySem.Froz
/-! ### sets of texts: what they hold, and how many at most -/
def LaidD (w : World) (D : SD) : Prop := Ris D.2.2.place.toList ∧ (w.params.followText "set-order" = true ∨ D.2.2.led = true)
theorem laid_add {w : World} {D : SD} {h : Int} {v : Value} (L : LaidD w D) : LaidD w (addTx h v D) := by
  have a1 := layNew_ris D.2.2 D.1 h v L.1
  have a2 := layNew_led D.2.2 D.1 h v
  have b : ∀ t2 : SetTable, Ris t2.place.toList → t2.led = D.2.2.led → ∀ es1 wd, LaidD w (tailTx D.2.1 es1 t2 wd) := fun t2 r e es1 wd => by
    unfold tailTx
    split
    · exact ⟨relayAll_ris _ _ _, by
        rcases L.2 with z | z
        · exact .inl z
        · exact .inr ((relayAll_led _ _ _).trans (e.trans z))⟩
    · exact ⟨r, by
        rcases L.2 with z | z
        · exact .inl z
        · exact .inr (e.trans z)⟩
  unfold addTx
  refine b _ ?_ ?_ _ _
  · split
    · exact a1
    · exact a1
  · split
    · exact a2
    · exact a2
section
variable {P : Program} {w : World} {A : Around} {E : Value → Shared → Prop} {s : Shared}
theorem dup_x {a : Addr} {T : String} {D : SD} {l : List Str} {k : Str} {u : Tok} {Q : Bool → Shared → Prop} (ho : s.heap.get? a = some (sObj T D)) (F : TxOk P w D l) (hk : k ∈ l) (hb : l.length < scanBound) (h : Q false s) :
    wpAny (model P w) A (setAddHashed a (.str k u) (hashStr w k)) Q E s := by
  obtain ⟨es, ep, t⟩ := D
  have hz : es.size = l.length := F.sz
  obtain ⟨e, he, hi⟩ := (F.mem k).mp hk
  unfold setAddHashed setAddHashedIn
  refine wpAny_holding (wpAny_bind (wpAny_setState_of ho rfl F.fit ?_))
  dsimp only
  rw [byScan_of rfl (show es.size < scanBound by omega) F.el]
  simp only [↓reduceIte]
  unfold setAddByScan
  refine wpAny_bind (wpAny_bind (wpAny_rule (wpAny_bind (wpAny_setScan_of (knd := PySem.strKind P w) (k := k) (is_str k u) ho rfl F.fit F.el ?_))))
  cases hr : List.findIdx? (fun e => (PySem.strKind P w).is k e.2) es.toList with
  | none =>
    have z := List.findIdx?_eq_none_iff.mp hr e he
    rw [hi] at z
    cases z
  | some j => exact wpAny_pure (wpAny_pure h)
/-- texts of a kind, so many at most -/
def SetX (P : Program) (w : World) (h : Heap) (a : Addr) (R : Str → Prop) (n : Nat) : Prop := ∃ D l, h.get? a = some (sObj "set" D) ∧ TxOk P w D l ∧ LaidD w D ∧ l.length ≤ n ∧ ∀ z ∈ l, R z
theorem SetX.at {h h' : Heap} {a : Addr} {R : Str → Prop} {n : Nat} (S : SetX P w h a R n) (k : ∀ o, h.get? a = some o → h'.get? a = some o) : SetX P w h' a R n := by
  obtain ⟨D, l, h1, r⟩ := S
  exact ⟨D, l, k _ h1, r⟩
theorem setX_add {a : Addr} {R : Str → Prop} {n : Nat} {k : Str} {u : Tok} {Q : Bool → Shared → Prop} (S : SetX P w s.heap a R n) (hk : R k) (hn : n + 1 < scanBound)
    (h : ∀ b h', Heap.SameBut a s.heap h' → SetX P w h' a R (n + 1) → Q b { s with heap := h' }) : wpAny (model P w) A (setAddHashed a (.str k u) (hashStr w k)) Q E s := by
  obtain ⟨D, l, ho, F, L, hl, hr⟩ := S
  by_cases hm : k ∈ l
  · exact dup_x ho F hm (by omega) (h false s.heap (Heap.SameBut.refl a s.heap) ⟨D, l, ho, F, L, by omega, hr⟩)
  · refine add_x ho F hm (by omega) (h true _ (Heap.SameBut.update s.heap a _) ⟨_, k :: l, get_upd _ ho rfl, add_ok u F, laid_add L, by rw [List.length_cons]; omega, fun z hz => ?_⟩)
    rcases List.mem_cons.mp hz with rfl | hz
    · exact hk
    · exact hr z hz
/-- the adds of a walk -/
theorem setX_loop {I : Addr} {fp wr : List Addr} {G : Array GenState → Array GenState → Prop} {n : Nat} {Pv : Nat → Value → Prop} {St : Nat → Shared → Prop} {R : Str → Prop} {T : Result → Shared → Prop}
    (W : WalksS P w A.in1 I fp wr G n Pv St) (a : Addr) (ha : a ∉ fp) (hn : n + 1 < scanBound) (hv : ∀ i v, Pv i v → ∃ z t, R z ∧ v = .str z t) :
    ∀ (k i : Nat) (s : Shared), n = i + k → St i s → SetX P w s.heap a R i →
      (∀ s', Moved (a :: wr) G s s' → SetX P w s'.heap a R n → T (.ok (.ret .none)) s') → codeAny (model P w) A (.builtin "set.update.loop" ⟨[.ref a, .ref I], []⟩) T s := by
  have up : ∀ b ∈ wr, b ∈ a :: wr := fun b hb => List.mem_cons_of_mem _ hb
  have na : a ∉ wr := fun h => ha (W.sub _ h)
  intro k
  induction k with
  | zero =>
    intro i s hk hst hS hT
    obtain rfl : n = i := hk
    refine codeAny_builtin F.entry_set_update_loop ?_
    rw [Around.under_plainId F.plain_set_update_loop _]
    show wpAny _ A.in1 (pyNext (.ref I) >>= _) _ _ s
    refine wpAny_bind (W.done s _ _ hst fun s' hm => ?_)
    exact wpAny_pure (hT s' (hm.mono up) (hS.at fun o e => hm.heap a o na e))
  | succ k ih =>
    intro i s hk hst hS hT
    refine codeAny_builtin F.entry_set_update_loop ?_
    rw [Around.under_plainId F.plain_set_update_loop _]
    show wpAny _ A.in1 (pyNext (.ref I) >>= _) _ _ s
    refine wpAny_bind (W.item i s _ _ (by omega) hst fun v s' hP hst' hm => ?_)
    obtain ⟨z, t, hz, rfl⟩ := hv i v hP
    have hS1 : SetX P w s'.heap a R i := hS.at fun o e => hm.heap a o na e
    show wpAny _ A.in1 (holding [Value.str z t] (setAdd a (.str z t)) >>= _) _ _ s'
    refine wpAny_bind (wpAny_holding ?_)
    unfold setAdd
    refine wpAny_holding (wpAny_bind ((PySem.strKind P w).pyHash (k := z) (is_str z t) ?_))
    refine setX_add (s := { s' with toks := s'.toks + 1 }) hS1 hz (by omega) fun _ h' sb hS2 => ?_
    refine wpAny_pure ⟨plainId_quiet F.plain_set_update_loop _, ih (i + 1) _ (by omega) (W.frame _ s' _ _ hst' (Nat.le_succ _) fun b hb o e => ?_) hS2 fun s2 hm2 hS3 => ?_⟩
    · exact (sb.2 b fun e : b = a => ha (e ▸ hb)).trans e
    · exact hT s2 (Moved.trans W.gtrans ((hm.mono up).then_heap (Nat.le_succ _) fun b o hb e => (sb.2 b fun z : b = a => hb (z ▸ List.mem_cons_self)).trans e) hm2) hS3
end
end GT
namespace GT
open PySem PySem.Spec PyProof.Rows L2 PySem.Froz
section
variable {P : Program} {w : World} {A : Around} {E : Value → Shared → Prop} {s : Shared}
/-- a class called: made, then begun -/
theorem callType_wp {T newId initId : String} {args : List Value} {Q Q₁ : Value → Shared → Prop} (ft : TypeCalled T newId initId) (hct : checkTypeCall T ⟨args, []⟩ = pure ())
    (hnew : codeAny (model P w) A.in1 (.call (.builtin newId) ⟨.type T :: args, []⟩) (wants Q₁ E) s)
    (hinit : ∀ o s1, Q₁ o s1 → s1.TypeIs o T ∧ codeAny (model P w) A.in1 (.call (.builtin initId) ⟨o :: args, []⟩) (wants (fun r s2 => r = .none ∧ Q o s2) E) s1) : wpAny (model P w) A (call (.type T) args) Q E s := by
  obtain ⟨c, tl, hmro⟩ := ft.mro
  have hmade := ft.made
  have hsub := ft.sub
  refine wpAny_call (codeAny_of_tree ?_)
  show wpAny _ _ (callAny (.type T) _) _ _ _
  refine wpAny_pure ⟨Code.quiet_builtin _ (by decide +kernel), codeAny_builtin F.entry_type_call ?_⟩
  rw [Around.under_plain (weight_type_call_type T args []) rfl]
  have h1 := ft.notType
  have h2 := ft.canCreate
  repeat (any_goals (first | assumption | wp_step))
  refine codeAny_mono hnew fun r s1 hr => ?_
  rcases r with e | fl
  · exact hr
  cases fl with
  | ret o =>
    obtain ⟨hT, hi⟩ := hinit _ _ hr
    have hli := ft.init.lookup
    have hbi := ft.init.bind o
    repeat (any_goals (first | assumption | wp_step))
    refine codeAny_mono hi fun r2 s2 hr2 => ?_
    rcases r2 with e | fl2
    · exact hr2
    cases fl2 with
    | ret r =>
      obtain ⟨rfl, hq⟩ := hr2
      repeat (any_goals (first | assumption | wp_step))
    | _ => exact hr2.elim
  | _ => exact hr.elim
abbrev newSet (w : World) : Obj := sObj "set" (#[], 0, .fresh 0 0 (!w.params.followText "set-order"))
theorem setX_new {h : Heap} {a : Addr} {R : Str → Prop} (ho : h.get? a = some (newSet w)) : SetX P w h a R 0 :=
  ⟨_, [], ho, TxOk.nil rfl, ⟨List.Pairwise.nil, by
    show _ ∨ (!w.params.followText "set-order") = true
    cases w.params.followText "set-order"
    · exact .inr rfl
    · exact .inl rfl⟩, Nat.le_refl 0, fun z h => by cases h⟩
theorem call_setX {l : Addr} {items : Array Value} {R : Str → Prop} {Q : Value → Shared → Prop} (hh : A.handled = none) (hl : s.heap.IsList l items) (hv : ∀ (i : Nat) (v : Value), (items[i]? : Option Value) = some v → ∃ z t, R z ∧ v = Value.str z t) (hn : items.size + 1 < scanBound)
    (h : ∀ h' tk, SetX P w h' s.heap.objs.size R items.size → (∀ b o, s.heap.get? b = some o → h'.get? b = some o) → Q (.ref s.heap.objs.size) { s with heap := h', toks := tk }) :
    wpAny (model P w) A (call (.type "set") [.ref l]) Q E s := by
  refine callType_wp PySem.F.called_set (PySem.F.typeCall_set_1 (.ref l)) (code_set_led1 (.ref l) (Q₁ := fun obj s₁ => obj = .ref s.heap.objs.size ∧ s₁ = { s with heap := s.heap.push (newSet w) }) ⟨rfl, rfl⟩) ?_
  rintro _ _ ⟨rfl, rfl⟩
  have hS : (s.heap.push (newSet w)).get? s.heap.objs.size = some (newSet w) := Heap.get?_push_size _ rfl
  have zS : (s.heap.push (newSet w)).objs.size = s.heap.objs.size + 1 := Heap.size_push ..
  refine ⟨⟨_, hS, rfl⟩, codeAny_call_builtin PySem.F.called_set.init.plain PySem.F.entry_set_init (check_set_init_1 ⟨_, hS, rfl⟩ ?_)⟩
  obtain ⟨⟨ocls, odict, odata, oslots⟩, hol, hcl, nl, hdl⟩ := hl
  simp only at hcl hdl
  subst hcl
  subst hdl
  have hlt : l < s.heap.objs.size := Heap.lt_size hol
  have hol1 : (s.heap.push (newSet w)).get? l = some { cls := .type "list", dict := odict, data := .seq items nl, slots := oslots } := Heap.get?_push_of_some _ hol
  have hl1 : (s.heap.push (newSet w)).IsList l items := ⟨_, hol1, rfl, nl, rfl⟩
  have hsls := PySem.F.sub_list_set
  have hslf := PySem.F.sub_list_frozenset
  have hne : (Value.type "list" == Value.type "dict") = false := by decide
  unfold Builtin.«set.__init__» noKeywords Builtin.Frozenset.updateFrom
  generalize hPI : pyIter = PI
  wp_walk
  subst hPI
  refine wpAny_pyIter_list hl1 (wpAny_bind (wpAny_runValue ?_))
  refine setX_loop (R := R) ((Walks.list (by simp [hh]) _ l (show l ≠ (s.heap.push (newSet w)).objs.size by rw [zS]; exact Nat.ne_of_lt (Nat.lt_succ_of_lt hlt)) items).toS) s.heap.objs.size
    (fun z => by
      rcases List.mem_cons.mp z with z | z
      · exact Nat.ne_of_lt (Nat.lt_succ_self _) (z.trans zS)
      · exact Nat.ne_of_gt hlt (List.mem_singleton.mp z)) hn hv items.size 0 _ (by omega) ⟨⟨_, Heap.get?_push_size _ rfl, rfl, rfl⟩, hl1.push _⟩ (setX_new (Heap.get?_push_of_some _ hS)) fun s' hm hX => ?_
  obtain ⟨h', g', d', tk', os'⟩ := s'
  obtain rfl : g' = s.gens := hm.gens
  obtain rfl : d' = s.drawn := hm.drawn
  obtain rfl : os' = s.os := hm.os
  show wpAny _ _ _ _ _ _
  refine wpAny_pure ?_
  show wpAny _ _ (ret Value.none) _ _ _
  refine wpAny_pure ⟨rfl, h h' tk' hX fun b o e => ?_⟩
  have hb : b < s.heap.objs.size := Heap.lt_size e
  refine hm.heap b o (fun z => ?_) (Heap.get?_push_of_some _ (Heap.get?_push_of_some _ e))
  rcases List.mem_cons.mp z with z | z
  · exact Nat.ne_of_lt hb z
  · exact Nat.ne_of_lt (Nat.lt_succ_of_lt hb) ((List.mem_singleton.mp z).trans zS)
theorem sorted_setX {a : Addr} {R : Str → Prop} {n : Nat} {Q : Value → Shared → Prop} (S : SetX P w s.heap a R n) (hh : A.handled = none) (h64 : n < 64)
    (hQ : ∀ s' p (out : Array Value) (c : Nat) (ys : List Str), (∀ b o, s.heap.get? b = some o → s'.heap.get? b = some o) → s'.gens = s.gens → s'.os = s.os → s.heap.objs.size ≤ p →
      s'.heap.get? p = some (seqObj "list" out c) → StrsAre out.toList ys → ys.length ≤ n → (∀ z ∈ ys, R z) → Q (.ref p) s') :
    wpAny (model P w) A (call (.builtin "sorted") [.ref a]) Q E s := by
  obtain ⟨⟨es, ep, t⟩, l, ho, F, L, hl, hr⟩ := S
  have hz : es.size = l.length := F.sz
  have hb : es.size < scanBound := by unfold scanBound; omega
  refine Calls.call_function_entry kind_sorted plain_sorted entry_sorted (args_sorted1 _) ?_
  unfold Builtin.«sorted»
  refine wpAny_bind (m := checkCount "sorted" 1 1 _) (wpAny_pure ?_)
  refine wpAny_bind (collect_set (A := A.in1) hh ⟨_, ho, rfl, rfl⟩ F.fit hb L.1 L.2 fun s1 vs k1 z1 g1 o1 pm => ?_)
  have hvl : vs.length = l.length := by rw [pm.length_eq, List.length_map, Array.length_toList]; exact hz
  have hm : ∀ v ∈ vs, ∃ x t, v = Value.str x t ∧ R x := fun v hv => by
    obtain ⟨e, he, q⟩ := List.mem_map.mp (pm.mem_iff.mp hv)
    obtain ⟨⟨x, hx, _⟩, _⟩ := F.el e he
    obtain ⟨t, e2⟩ := Value.isStrOf_shape (x := x) (v := e.2) hx
    exact ⟨x, t, q ▸ e2, hr x ((F.mem x).mpr ⟨e, he, hx⟩)⟩
  have hS : StrsAre vs (vs.map strOf) := strsAre_map vs fun v hv => by
    obtain ⟨x, t, e, _⟩ := hm v hv
    exact ⟨x, t, e⟩
  refine wpAny_bind (wpAny_newList ?_ (by rw [hvl, sizeLine_eq]; omega))
  have hoL : (s1.heap.push (seqObj "list" vs.toArray 0)).get? s1.heap.objs.size = some (seqObj "list" vs.toArray 0) := Heap.get?_push_size _ rfl
  refine wpAny_bind (wpAny_holding (wpAny_call_entry slot_list_sort ⟨_, hoL, rfl⟩ entry_list_sort
    (list_sort_treeK strKind_oneLt hoL hS.keysOf (fun v₁ v₂ rest e => keyKind_strs (by rw [← e]; exact hS)) (by omega) fun st' hp hs => ⟨_, rfl, ?_⟩) (args_list_sort _)))
  obtain ⟨ys, g4, g5, g6⟩ := sorted_out_str hS hp hs
  obtain ⟨c, hc⟩ := sortedHeap_at (vs := vs) (out := (arrOf st').map (·.2)) hoL
  refine wpAny_pure ⟨_, rfl, hQ _ s1.heap.objs.size _ c ys (fun b u e => ?_) g1 o1 z1 hc g4 (by rw [g5.length_eq, List.length_map]; omega) fun z hzm => ?_⟩
  · have q := k1 b u e
    have hlt := Heap.lt_size q
    show (sortedHeap (s1.heap.push (seqObj "list" vs.toArray 0)) s1.heap.objs.size vs _).get? b = some u
    rw [sortedHeap_old (Nat.ne_of_lt hlt) (by rw [size_push']; exact Nat.lt_succ_of_lt hlt)]
    exact Heap.get?_push_of_some _ q
  · obtain ⟨v, hv, e⟩ := List.mem_map.mp (g5.mem_iff.mp hzm)
    obtain ⟨x, t, e2, hx⟩ := hm v hv
    rw [e2] at e
    rw [← e]
    exact hx
end
def SetXO (P : Program) (w : World) (a : Addr) (R : Str → Prop) (n : Nat) : HO := .ext fun h => SetX P w h a R n
section
variable {X : Cx} {N : List Str} {L : List (Str × KN)} {k n : Nat} {σ : L2.St} {H : Hp} {Q : VK} {p : Addr} {R : Str → Prop}
theorem setXO_new {P : Program} {w : World} {H : Hp} {h : Heap} {a : Addr} (S : SetX P w h a R n) : ObjOk P w H h a (SetXO P w a R n) := by
  have ⟨D, l, ho, _⟩ := S
  exact ⟨S, ⟨_, ho⟩, fun h1 h2 p k => SetX.at p k⟩
theorem cr_setX (hc : X.calm = true) : CallR X (.type "set") (fun xs H Q => ∃ (p : Addr) (R : Str → Prop) (zs : List Str), xs = [.ref p] ∧ SqL X.K H p (zs.map V.str) ∧ zs.length < 64 ∧ (∀ z ∈ zs, R z) ∧ ∀ a, H a = none → Q (.ref a) (upd H a (SetXO X.prog X.w a R zs.length))) := by
  intro pins s σ H xs us Q I r h
  obtain ⟨p, R, zs, rfl, hp, hl, hr, q⟩ := h
  rw [Vals.ref1 r]
  obtain ⟨its, rv, pl, hz⟩ := I.list hp
  have hS := L2.strsAre_of rv
  have hsz : its.toArray.size = zs.length := by rw [List.size_toArray, ← rv.length, List.length_map]
  refine call_setX (R := R) (I.ok.hd hc) pl.isList (fun i v hv => ?_) (by rw [hsz]; unfold scanBound; omega) fun h' tk hX hk => ?_
  · have hv : its[i]? = some v := by simpa using hv
    have hi : i < zs.length := by
      have := (List.getElem?_eq_some_iff.mp hv).1
      rw [← hsz, List.size_toArray]
      exact this
    obtain ⟨t, e⟩ := SS.strs_at hS i v hv
    refine ⟨zs.getD i Str.empty, t, hr _ ?_, e⟩
    rw [List.getD_eq_getElem?_getD, List.getElem?_eq_getElem hi]
    exact List.getElem_mem hi
  · rw [hsz] at hX
    exact ⟨.ref _, upd H s.heap.objs.size (SetXO X.prog X.w s.heap.objs.size R zs.length), I.laid (t' := tk) hk (Nat.le_refl _) (setXO_new hX), rfl, q _ (I.hok.fresh (Nat.le_refl _))⟩
theorem cr_sortedX (hc : X.calm = true) : CallR X (.builtin "sorted") (fun xs H Q => ∃ (a : Addr) (R : Str → Prop) (n : Nat), xs = [.ref a] ∧ H a = some (SetXO X.prog X.w a R n) ∧ n < 64 ∧ ∀ (ys : List Str) p, ys.length ≤ n → (∀ z ∈ ys, R z) → H p = none → Q (.ref p) (upd H p (.lst (ys.map V.str)))) := by
  intro pins s σ H xs us Q I r h
  obtain ⟨a, R, n, rfl, ha, h64, q⟩ := h
  rw [Vals.ref1 r]
  have S : SetX X.prog X.w s.heap a R n := (I.hok a _ ha).1
  refine sorted_setX S (I.ok.hd hc) h64 fun s' p out c ys k g o hp hg hi hl hr => ?_
  have hn : H p = none := I.hok.fresh hp
  have hlen : (ys.map V.str).length ≤ sizeLine := by rw [List.length_map, sizeLine_eq]; omega
  exact ⟨.ref p, _, I.call' (ch := []) o (Un.laid k hp hn) (I.hok.laid k hp (show ObjOk X.prog X.w _ _ _ (.lst (ys.map V.str)) from ⟨hlen, out.toList, c, vals_of_strs hi, hg⟩)) (by rw [g]; exact I.bare) (fun _ z => nomatch z), rfl, q ys p hl hr hn⟩
theorem re_c_set (c : Ctx X N L k) {e : Expr} {es : List Expr} {p0 pos : Pos} (h : (("set" : Str), KN.glob) ∈ L) (hm : X.mg "set" = none) (q : RA X (e :: es) σ H fun vs H1 => ClV X (.type "set") vs H1 Q)
    (he : starEach (e :: es) X.env = (false, eval e X.env) :: starEach es X.env := by with_unfolding_all rfl) (hpl : (backTo pos (starEach es X.env)).any (·.1) = false := by with_unfolding_all rfl) : RE X (.Call (.Name "set" p0) (e :: es) [] pos) σ H Q := re_callT c h hm (by decide +kernel) q he hpl
theorem lv_setX (c : Ctx X N L k) {zs : List Str} (h : SqL X.K H p (zs.map V.str)) (hl : zs.length < 64) (hr : ∀ z ∈ zs, R z) (q : ∀ a, H a = none → Q (.ref a) (upd H a (SetXO X.prog X.w a R zs.length))) : ClV X (.type "set") [.ref p] H Q := ⟨⟨_, cr_setX c.calm, p, R, zs, rfl, h, hl, hr, q⟩⟩
theorem lv_sortedX (c : Ctx X N L k) (h : H p = some (SetXO X.prog X.w p R n)) (hl : n < 64) (q : ∀ (ys : List Str) a, ys.length ≤ n → (∀ z ∈ ys, R z) → H a = none → Q (.ref a) (upd H a (.lst (ys.map V.str)))) : ClV X (.builtin "sorted") [.ref p] H Q := ⟨⟨_, cr_sortedX c.calm, p, R, n, rfl, h, hl, q⟩⟩
end
end GT
namespace GT
open PySem PySem.Spec PyProof.Rows L2
theorem tg_up {n l m k : Nat} {d : D} (h : TG n l d) (h1 : n ≤ m) (h2 : l ≤ k) : TG m k d := by
  obtain ⟨ds, rfl, a, c⟩ := h
  exact ⟨ds, rfl, by omega, fun e he => gd_up (c e he) m h1⟩
theorem lg_up {n l m k : Nat} {d : D} (h : LG n l d) (h1 : n ≤ m) (h2 : l ≤ k) : LG m k d := by
  obtain ⟨ds, rfl, a, c⟩ := h
  exact ⟨ds, rfl, by omega, fun e he => gd_up (c e he) m h1⟩
/-- what a menu gives -/
def MnQ (K : PySem.W.Frag) (b : Addr) (H : Hp) (Q : VK) : Prop := ∀ u e H', LG 8 60 e → Dt K (· = b) H' u e → Fr (· = b) H H' → BoxAt H' b → Q u H'
theorem small_txt : ∀ n : Fin 32, (Str.ofString (toString (n.val : Int))).length ≤ 8 ∧ PyData.strOk (Str.ofString (toString (n.val : Int))) = true := by decide +kernel
section
variable {X : Cx} {N : List Str} {L : List (Str × KN)} {k n l : Nat} {σ : L2.St} {b : Addr} {Bx : Addr → Prop} {Γ : List (V × D)} {R : D → Prop} {e e1 e2 : Expr} {es : List Expr} {pos p0 p1 : Pos} {x : Str}
theorem ev_str (c : Ctx X N L k) (zs : X.mg "str" = none) {j : KN} {i : Int} (hg : (("str" : Str), KN.glob) ∈ L) (s : Slot N σ x (.int i)) (hb : (x, j) ∈ L) (mb : Mine j) (h : 0 ≤ i ∧ i ≤ 31)
    (he : starEach (.Name x p1 :: []) X.env = (false, eval (.Name x p1) X.env) :: starEach [] X.env := by with_unfolding_all rfl) (hpl : (backTo pos (starEach [] X.env)).any (·.1) = false := by with_unfolding_all rfl) :
    Ev X Bx b Γ σ (Gd n) (.Call (.Name "str" p0) [.Name x p1] [] pos) := fun H Q st q => by
  refine re_c_str c hg zs (ra_cons (re_name c s hb mb (ra_nil ?_)) he) he hpl
  obtain ⟨m, rfl⟩ : ∃ m : Nat, i = m := ⟨i.toNat, by omega⟩
  have h1 := small_txt ⟨m, by omega⟩
  refine lv_strI ?_ (q _ (.str (toString (m : Int))) H Fr.refl st.box (.str (Nat.le_trans h1.1 (by decide)) h1.2) .str)
  have hm : m < 32 := by omega
  rw [Int.natAbs_natCast]
  rcases Nat.eq_zero_or_pos m with rfl | z
  · decide
  · have := (Nat.log2_lt (by omega : m ≠ 0) (k := 5)).mpr (by omega)
    omega
theorem ev_one {kk : Nat} (h : Ev X Bx b Γ σ (Gd n) e) (hs : starEach [e] X.env = (false, eval e X.env) :: starEach [] X.env := by with_unfolding_all rfl) : Ev X Bx b Γ σ (fun d => ∃ x, d = .tup [x] ∧ Gd n x) (.Tuple [e] kk pos) := fun H Q st q => by
  refine re_tup (ra_cons (h H _ st fun v d H1 f1 b1 r1 d1 => ra_nil ⟨by show 1 ≤ sizeLine; decide, fun p hp => ?_⟩) hs)
  have st1 := st.fr f1 b1
  exact q _ (.tup [d]) _ (f1.trans (Fr.new hp)) (st1.new hp).box ⟨d, rfl, r1⟩ (Dt.newT hp (fun z => st1.old _ z hp) (.cons d1 .nil))
end
end GT
namespace GT
open PySem PySem.Spec PyProof.Rows L2
section
variable {K : PySem.W.Frag} {B Bx : Addr → Prop} {b p : Addr} {Γ : List (V × D)} {H H1 H2 : Hp} {v : V} {d : D}
/-- what stands keeps off what is not yet there -/
theorem dt_new (h : Dt K B H v d) (hp : H p = none) : Dt K (fun a => B a ∨ a = p) H v d := by
  induction h with
  | non => exact .non
  | bl => exact .bl
  | int => exact .int
  | str => exact .str
  | @lst a vs ds nb t l hh ih => exact .lst (fun z => z.elim nb fun e => by rw [e, hp] at t; cases t) t l ih
  | @tup a vs ds nb t l hh ih => exact .tup (fun z => z.elim nb fun e => by rw [e, hp] at t; cases t) t l ih
theorem dts_new {vs : List V} {ds : List D} (h : Dts K B H vs ds) (hp : H p = none) : Dts K (fun a => B a ∨ a = p) H vs ds := ⟨h.1, fun i v d a c => dt_new (h.2 i v d a c) hp⟩
theorem fr_fresh {f : Fr (· = b) H H1} (hp : H1 p = none) (g : Fr (fun a => a = b ∨ a = p) H1 H2) : Fr (· = b) H H2 := fun a o na e => by
  have e1 := f a o na e
  exact g a o (fun z => z.elim na fun z => by rw [z, hp] at e1; cases e1) e1
theorem ST.put {xs : List V} (h : ST K Bx b Γ H) (hp : Bx p) (np : p ≠ b) : ST K Bx b Γ (upd H p (.lst xs)) := by
  have f : Fr Bx H (upd H p (.lst xs)) := fun a o na e => by
    rw [upd_ne (fun z : a = p => na (by rw [z]; exact hp))]
    exact e
  refine ⟨h.box.put np, h.mem, fun a ha => ?_, fun q hq => (h.dat q hq).fr f⟩
  by_cases z : a = p
  · exact .inr ⟨xs, by rw [z]; exact upd_same⟩
  · rcases h.lst a ha with e | ⟨ys, e⟩
    · exact .inl e
    · exact .inr ⟨ys, by rw [upd_ne z]; exact e⟩
end
section
variable {X : Cx} {N : List Str} {L : List (Str × KN)} {k n m : Nat} {σ : L2.St} {H : Hp} {b p : Addr} {Bx : Addr → Prop} {Γ : List (V × D)} {R : D → Prop} {e l elt : Expr} {pos p0 p1 : Pos}
/-- x, y = e, e a list of two -/
theorem rs_lst2 (c : Ctx X N L k) {x y : Str} {e : Expr} {j j' : KN} {kt : Nat} {q0 q1 q2 : Pos} (h : (x, j) ∈ L) (m : Own j) (hx : x ∈ N) (h' : (y, j') ∈ L) (m' : Own j') (hy : y ∈ N) {D : Ends}
    (q : RE X e σ H fun w H1 => ∃ t u v, w = .ref t ∧ SqL X.K H1 t [u, v] ∧ ∃ σ' σ'', Put N σ x u σ' ∧ Put N σ' y v σ'' ∧ D.nx σ'' H1)
    (hw : swappedStores [.Tuple [.Name x q0, .Name y q1] kt q2] e X.env = pure none) (hs : swapsWithSole [.Tuple [.Name x q0, .Name y q1] kt q2] e pos.line X.env = pure false := by with_unfolding_all rfl)
    (h1 : (assignEach [.Tuple [.Name x q0, .Name y q1] kt q2] X.env).map (·.2) = [assign (.Tuple [.Name x q0, .Name y q1] kt q2) X.env] := by with_unfolding_all rfl)
    (hn : (assignEach [.Name x q0, .Name y q1] X.env).length = 2 := by with_unfolding_all rfl) (hst : (assignEach [.Name x q0, .Name y q1] X.env).findIdx? (·.1) = none := by with_unfolding_all rfl)
    (ha : (assignEach [.Name x q0, .Name y q1] X.env).map (·.2) = assign (.Name x q0) X.env :: (assignEach [.Name y q1] X.env).map (·.2) := by with_unfolding_all rfl) (hb : (assignEach [.Name y q1] X.env).map (·.2) = assign (.Name y q1) X.env :: (assignEach [] X.env).map (·.2) := by with_unfolding_all rfl) :
    RS X (.Assign [.Tuple [.Name x q0, .Name y q1] kt q2] e pos) D σ H := by
  obtain ⟨i, g, h2⟩ := c.pg (p0 := q0) h m hx
  obtain ⟨i', g', h2'⟩ := c.pg (p0 := q1) h' m' hy
  refine rs_of (ps_asg PE.self (pg_lst (n := 2) c.calm (pgs_cons g (pgs_cons g' pgs_nil hb) ha) hn hst) hs hw h1) (pe_mono q fun w H1 ⟨t, u, v, e1, hT, σ', σ'', a1, a2, r⟩ => ?_)
  subst e1
  rw [h2' a2, h2 a1] at r
  exact ⟨t, _, rfl, hT, rfl, _, _, rfl, _, _, rfl, rfl, r⟩
/-- for x in l: some.append(elt) -/
theorem rs_for_app (c : Ctx X N L k) {x sm : Str} {us : List V} {ds : List D} {D : Ends} {a0 g : Nat} {r0 : Option V} (σf : Option V → L2.St) (hx : (x, KN.loc) ∈ L) (mx : x ∈ N) (hs : (sm, KN.loc) ∈ L)
    (put : ∀ r y, Put N (σf r) x y (σf (some y))) (slot : ∀ r, Slot N (σf r) sm (.ref p)) (st : ST X.K Bx b Γ H) (bp : Bx p) (np : p ≠ b) (hp : H p = some (.lst us)) (hd : Dts X.K Bx H us ds) (hl : ds.length ≤ a0) (hg : ∀ e ∈ ds, Gd g e)
    (hE : Ev X Bx b Γ (σf r0) (LR R n) l) (hB : ∀ y d, R d → Ev X Bx b ((y, d) :: Γ) (σf (some y)) (Gd g) elt) (hn : a0 + n ≤ 1000)
    (q : ∀ r us' ds' H', ST X.K Bx b Γ H' → H' p = some (.lst us') → Dts X.K Bx H' us' ds' → ds'.length ≤ a0 + n → (∀ e ∈ ds', Gd g e) → Fr Bx H H' → D.nx (σf r) H')
    (hsI : ∀ x, foldedSetIterable l X.env x = pure x := by intro _; with_unfolding_all rfl) {ap ac ae an : Pos}
    (hbase : attributeBase (.Name sm an) "append" X.env (eval (.Name sm an) X.env) = eval (.Name sm an) X.env := by with_unfolding_all rfl)
    (hfew : ((backTo ac (starEach [elt] X.env)).all (fun x => !x.1) && (backToKw ac (keywordEach [] X.env)).all (fun x => x.1.isSome) && decide (([elt] : List Expr).length + ([] : List Keyword).length + (if ([] : List Keyword).isEmpty then 0 else 1) < 30)) = true := by with_unfolding_all rfl)
    (hline : (ap.endLine == ac.line) = true := by with_unfolding_all rfl) (hse : starEach [elt] X.env = (false, eval elt X.env) :: starEach [] X.env := by with_unfolding_all rfl) (hplain : (backTo ac (starEach [] X.env)).any (·.1) = false := by with_unfolding_all rfl)
    (hsw : swapsWith (.Call (.Attribute (.Name sm an) "append" ap) [elt] [] ac) none ae.line X.env = pure false := by with_unfolding_all rfl) :
    RS X (.For (.Name x p0) l [.Expr (.Call (.Attribute (.Name sm an) "append" ap) [elt] [] ac) ae] [] pos) D (σf r0) H := by
  refine rs_for_list c hx .loc mx (hE H _ st fun v1 d1 H1 f1 b1 r1 k1 => ?_) hsI
  have st1 := st.fr f1 b1
  obtain ⟨t, ws, es, rfl, rfl, nt, tt, hes, le, re⟩ := lr_at r1 k1
  refine ⟨t, ws, rfl, SqL.of tt, ?_⟩
  refine ⟨fun i σ' H' => ∃ r us' ds', σ' = σf r ∧ ST X.K Bx b Γ H' ∧ H' p = some (.lst us') ∧ Dts X.K Bx H' us' ds' ∧ ds'.length ≤ a0 + i ∧ (∀ e ∈ ds', Gd g e) ∧ Fr Bx H1 H', ⟨r0, us, ds, rfl, st1, f1 _ _ np hp, hd.fr (frB st f1), hl, hg, Fr.refl⟩, ?_, ?_, ?_⟩
  · rintro i σ' H' _ ⟨r, us', ds', _, _, _, _, _, _, f⟩
    exact SqL.of (f _ _ nt tt)
  · rintro i y σ' H' hi hy ⟨r, us', ds', rfl, st', hp', hd', hl', hg', f'⟩
    have hi2 : i < es.length := by have := hes.1; omega
    have ky := (hes.2 i y es[i] hy (List.getElem?_eq_getElem hi2)).fr f'
    have ry := re es[i] (List.getElem_mem hi2)
    refine ⟨σf (some y), put r y, rb_cons (rs_app c hs .loc (slot _) hp' (hB y es[i] ry H' _ (st'.add ky) fun z d H2 f2 b2 gz kz => ?_) hbase hfew hline hse hplain hsw)⟩
    have st2 := st'.fr f2 b2
    have hp2 := f2 _ _ np hp'
    have lu : us'.length = ds'.length := hd'.1
    refine ⟨us', hp2, by rw [lu]; exact Nat.lt_of_lt_of_le (show ds'.length < 1001 by omega) (by decide), rb_nil ?_⟩
    have fB : Fr Bx H2 (upd H2 p (.lst (us' ++ [z]))) := fun a o na e => by
      rw [upd_ne (fun q : a = p => na (by rw [q]; exact bp))]
      exact e
    refine ⟨some y, us' ++ [z], ds' ++ [d], rfl, st2.put bp np, upd_same, (dts_app (hd'.fr (frB st' f2)) (.cons kz .nil)).fr fB, by rw [List.length_append]; show ds'.length + 1 ≤ _; omega, mem_app hg' fun e he => by rw [List.mem_singleton.mp he]; exact gz, (f'.trans (frB st' f2)).trans fB⟩
  · rintro σ' H' ⟨r, us', ds', rfl, st', hp', hd', hl', hg', f'⟩
    have : ws.length = es.length := hes.1
    exact q r us' ds' H' st' hp' hd' (by omega) hg' ((frB st f1).trans f')
end
end GT
namespace GT
open PySem PySem.Spec PyProof.Rows L2
/-- a drawing by a number, data without lists -/
def spNr (lo hi : Int) (R : D → Prop) (K : PySem.W.Frag) : Sp := fun vs H Q _ => ∃ (b : Addr) (i : Int), vs = [.int i] ∧ lo ≤ i ∧ i ≤ hi ∧ BoxAt H b ∧ ∀ v d H', R d → NoL d → Dt K (· = b) H' v d → Fr (· = b) H H' → BoxAt H' b → Q v H'
section
variable {X : Cx} {N : List Str} {L : List (Str × KN)} {k n m : Nat} {σ : L2.St} {H : Hp} {b p : Addr} {Bx : Addr → Prop} {Γ : List (V × D)} {R : D → Prop} {e l elt : Expr} {pos p0 p1 : Pos}
theorem ev_nr (c : Ctx X N L k) {fn : Str} {ps : List Str} {nn : Nat} {i lo hi : Int} {jj : Nat} (F : DefP X.prog X.w X.K X.mg X.base CX0 fn ps nn (spNr lo hi R X.K)) (hn : nn ≤ k) (hg : (fn, KN.glob) ∈ L) (h0 : lo ≤ i) (h1 : i ≤ hi)
    (he : starEach (.Constant (.int i) jj p1 :: []) X.env = (false, eval (.Constant (.int i) jj p1) X.env) :: starEach [] X.env := by with_unfolding_all rfl) (hpl : (backTo pos (starEach [] X.env)).any (·.1) = false := by with_unfolding_all rfl) :
    Ev X Bx b Γ σ (fun d => R d ∧ NoL d) (.Call (.Name fn p0) [.Constant (.int i) jj p1] [] pos) := fun H Q st q => by
  refine re_call c F hn hg (ra_cons (re_int (ra_nil ?_)) he) he hpl
  refine ⟨b, i, rfl, h0, h1, st.box, fun v d H' r nl hd f hb' => ?_⟩
  have st1 := st.fr f hb'
  exact q v d H' f hb' ⟨r, nl⟩ (dt_beside hd nl st1.lst)
end
end GT
namespace GT
open PySem PySem.Spec PyProof.Rows L2
theorem atz_nat {α : Type} {xs : List α} {i : Nat} {v : α} (h : xs[i]? = some v) : atI xs (i : Int) = some v := by
  have h2 : i < xs.length := by
    rcases Nat.lt_or_ge i xs.length with z | z
    · exact z
    · rw [List.getElem?_eq_none z] at h; cases h
  unfold atI ixN
  rw [if_pos (Int.natCast_nonneg i), if_pos (by omega)]
  exact h
def badC (i c : Nat) : Bool := decide (i = 8) || (decide (c < 97) || decide (122 < c))
def tf : D → Option Int
  | .str s => if s.length = 0 then some (-1) else oN (ff badC 0 s.cps.toList)
  | _ => some (-1)
def badL (i : Nat) (d : D) : Bool := decide (i = 6) || (tf d).isSome
def nf : D → Option Int
  | .tup ds => if ds.length = 0 then some (-1) else oN (ff badL 0 ds)
  | _ => some (-1)
def Sm (d : D) : Prop := ∀ s, d = .str s → s.length ≤ 1000
def SmN (d : D) : Prop := ∀ ds, d = .tup ds → ds.length ≤ 1000 ∧ ∀ e ∈ ds, Sm e
theorem at0z {α : Type} {x : α} {l : List α} : atI (x :: l) 0 = some x := atz_nat (xs := x :: l) (i := 0) rfl
/-- a tuple that is not empty -/
def T1 (n : Nat) (d : D) : Prop := ∃ ds, d = .tup ds ∧ 0 < ds.length ∧ ∀ e ∈ ds, Gd n e
section
variable {X : Cx} {N : List Str} {L : List (Str × KN)} {k n m : Nat} {σ : L2.St} {H : Hp} {b p : Addr} {Bx : Addr → Prop} {Γ : List (V × D)} {R : D → Prop} {pos p0 p1 : Pos}
theorem ev_ix0 (c : Ctx X N L k) {x : Str} {j : KN} {v : V} {d : D} {jj : Nat} (s : Slot N σ x v) (hm : (v, d) ∈ Γ) (h : (x, j) ∈ L) (mm : Mine j) (r : T1 n d) (hs : ∀ a c e p, (.Constant (.int 0) jj p1 : Expr) ≠ .Slice a c e p := by intros; nofun) : Ev X Bx b Γ σ (Gd n) (.Subscript (.Name x p0) (.Constant (.int 0) jj p1) pos) := fun H Q st q => by
  obtain ⟨ds, rfl, l0, g⟩ := r
  have kd := st.dat _ hm
  cases kd with
  | @tup t us _ nb tp ll hh =>
    refine re_ix (re_name c s h mm (re_int ?_))
    match us, ds, ll with
    | u :: ur, d0 :: dr, _ => exact iv_tup (SqT.of tp) (at0z) (q u d0 H Fr.refl st.box (g d0 (by simp)) (hh 0 u d0 rfl rfl))
    | _, [], _ => simp at l0
theorem swapped_three {x y z : Str} {a b e : Expr} {px py pz q1 q2 : Pos} {kt k2 : Nat} {env : Env} (hb : env.blockKind = .function) (hx : env.kindOf x = some .local) (hy : env.kindOf y = some .local) (hz : env.kindOf z = some .local) (hl : (px.line == py.line) = true) (hl2 : (px.line == pz.line) = true) (hd : ([x, y, z] : List Str).eraseDups = [x, y, z])
    (ha : ∀ v p, a ≠ .Starred v p) (hb2 : ∀ v p, b ≠ .Starred v p) (he : ∀ v p, e ≠ .Starred v p) (h1 : [a, b, e].all (foldedForSure 8) = false) (h2 : [a, b, e].all (constantsAlone 8) = false) :
    swappedStores [.Tuple [.Name x px, .Name y py, .Name z pz] kt q1] (.Tuple [a, b, e] k2 q2) env = pure (some [x, y, z]) := by
  have hl' : px.line = py.line := by simpa using hl
  have hl2' : px.line = pz.line := by simpa using hl2
  unfold swappedStores
  dsimp only
  rw [h1, h2]
  simp only [Bool.false_eq_true, if_false]
  rw [if_neg (by simp [hb])]
  have hstar : ∀ (f : Expr → Bool), (∀ e, (∀ v p, e ≠ .Starred v p) → f e = false) → [a, b, e].any f = false := fun f hf => by
    simp [hf a ha, hf b hb2, hf e he]
  rw [hstar _ (fun e he => by
    split
    · exact absurd rfl (he _ _)
    · rfl)]
  simp [hx, hy, hz, ← hl', ← hl2', hd, Expr.pos]
/-- x, y, z = a, b, e -/
theorem rs_par3 (c : Ctx X N L k) {x y z : Str} {a b e : Expr} {px py pz pt : Pos} {kt k2 : Nat} {pt2 : Pos} {D : Ends} (hx : (x, KN.loc) ∈ L) (hy : (y, KN.loc) ∈ L) (hz : (z, KN.loc) ∈ L) (mx : x ∈ N) (my : y ∈ N) (mz : z ∈ N) (hxy : x ≠ y) (hxz : x ≠ z) (hyz : y ≠ z)
    (q : RA X [a, b, e] σ H fun vs H1 => ∃ u v w σ1 σ2 σ3, vs = [u, v, w] ∧ Put N σ x u σ1 ∧ Put N σ1 y v σ2 ∧ Put N σ2 z w σ3 ∧ D.nx σ3 H1)
    (hl : (px.line == py.line) = true := by decide +kernel) (hl2 : (px.line == pz.line) = true := by decide +kernel) (hd : ([x, y, z] : List Str).eraseDups = [x, y, z] := by decide +kernel) (ha : ∀ v p, a ≠ .Starred v p := by intros; nofun) (hb2 : ∀ v p, b ≠ .Starred v p := by intros; nofun) (he : ∀ v p, e ≠ .Starred v p := by intros; nofun)
    (h1 : [a, b, e].all (foldedForSure 8) = false := by decide +kernel) (h2 : [a, b, e].all (constantsAlone 8) = false := by decide +kernel)
    (hs : swapsWithSole [.Tuple [.Name x px, .Name y py, .Name z pz] kt pt] (.Tuple [a, b, e] k2 pt2) pos.line X.env = pure false := by with_unfolding_all rfl) :
    RS X (.Assign [.Tuple [.Name x px, .Name y py, .Name z pz] kt pt] (.Tuple [a, b, e] k2 pt2) pos) D σ H := by
  obtain ⟨i, i1, i2⟩ := c.put mx
  obtain ⟨j, j1, j2⟩ := c.put my
  obtain ⟨l, l1, l2⟩ := c.put mz
  have hij : i ≠ j := fun e => hxy (by rw [e, j1] at i1; exact (Option.some.inj i1).symm)
  have hil : i ≠ l := fun e => hxz (by rw [e, l1] at i1; exact (Option.some.inj i1).symm)
  have hjl : j ≠ l := fun e => hyz (by rw [e, l1] at j1; exact (Option.some.inj j1).symm)
  refine rs_of (ps_par3 (i := i) (j := j) (l := l) c.calm c.nodup i1 j1 l1 hij hil hjl (c.lcl hx) (c.lcl hy) (c.lcl hz) PA.self (swapped_three c.bk (c.lcl hx) (c.lcl hy) (c.lcl hz) hl hl2 hd ha hb2 he h1 h2) hs) ?_
  refine ra_mono q fun vs H1 ⟨u, v, w, σ1, σ2, σ3, e, a1, a2, a3, d⟩ => ?_
  rw [l2 a3, j2 a2, i2 a1] at d
  exact ⟨u, v, w, e, d⟩
end
end GT
namespace GT
open PySem PySem.Spec PyProof.Rows L2
section
variable {X : Cx} {N : List Str} {L : List (Str × KN)} {k n m : Nat} {σ : L2.St} {H : Hp} {b p : Addr} {Bx : Addr → Prop} {Γ : List (V × D)} {R : D → Prop} {e l elt : Expr} {pos p0 p1 : Pos}
/-- a loop over a list of data, the box alone moved -/
theorem rs_for_ev (c : Ctx X N L k) {x : Str} {body : List Stmt} {D : Ends} {r0 : Option V} (σf : Option V → L2.St) (hx : (x, KN.loc) ∈ L) (mx : x ∈ N) (put : ∀ r y, Put N (σf r) x y (σf (some y))) (st : ST X.K Bx b Γ H)
    (hE : ∀ (Q : VK), (∀ v d H', Fr (· = b) H H' → BoxAt H' b → LR R n d → Dt X.K Bx H' v d → Q v H') → RE X l (σf r0) H Q)
    (hB : ∀ y d H' (K : L2.St → Hp → Prop), R d → ST X.K Bx b ((y, d) :: Γ) H' → (∀ r H2, Fr (· = b) H' H2 → BoxAt H2 b → K (σf r) H2) → RB X body { D with nx := K, ct := K, bk := D.nx } (σf (some y)) H')
    (q : ∀ r H', Fr (· = b) H H' → BoxAt H' b → D.nx (σf r) H')
    (hs : ∀ x, foldedSetIterable l X.env x = pure x := by intro _; with_unfolding_all rfl) : RS X (.For (.Name x p0) l body [] pos) D (σf r0) H := by
  refine rs_for_list c hx .loc mx (hE _ fun v1 d1 H1 f1 b1 r1 k1 => ?_) hs
  have st1 := st.fr f1 b1
  obtain ⟨t, ws, es, rfl, rfl, nt, tt, hes, le, re⟩ := lr_at r1 k1
  have ntb : t ≠ b := fun z => nt (by rw [z]; exact st.mem)
  refine ⟨t, ws, rfl, SqL.of tt, fun i σ' H' => (∃ r, σ' = σf r) ∧ Fr (· = b) H1 H' ∧ BoxAt H' b, ⟨⟨r0, rfl⟩, Fr.refl, b1⟩, ?_, ?_, ?_⟩
  · rintro i σ' H' _ ⟨_, f, _⟩
    exact SqL.of (f _ _ ntb tt)
  · rintro i y σ' H' hi hy ⟨⟨r, rfl⟩, f, bb⟩
    have hi2 : i < es.length := by have := hes.1; omega
    have st2 := st1.fr f bb
    have ky := (hes.2 i y es[i] hy (List.getElem?_eq_getElem hi2)).fr (frB st1 f)
    exact ⟨σf (some y), put r y, hB y es[i] H' _ (re es[i] (List.getElem_mem hi2)) (st2.add ky) fun r2 H2 f2 b2 => ⟨⟨r2, rfl⟩, f.trans f2, b2⟩⟩
  · rintro σ' H' ⟨⟨r, rfl⟩, f, bb⟩
    exact q r H' (f1.trans f) bb
/-- a text's name and a sign -/
theorem ev_ws (c : Ctx X N L k) {x z w : Str} {j : KN} {jj : Nat} (s : Slot N σ x (.str w)) (h : (x, j) ∈ L) (mm : Mine j) (hw : Gd 0 (.str (w ++ z)) ∧ w.length + z.length ≤ 1000) : Ev X Bx b Γ σ (Gd n) (.BinOp (.Name x p0) .Add (.Constant (.str z) jj p1) pos) := fun H Q st q => by
  refine re_bin (re_name c s h mm (re_str (ov_adds (Nat.le_trans hw.2 (by decide)) (q _ (.str (w ++ z)) H Fr.refl st.box (gd_up hw.1 n (Nat.zero_le n)) .str))))
end
end GT
namespace GT
open PySem PySem.Spec PyProof.Rows L2
/-! ### expressions whose datum is known -/
abbrev EvE (X : Cx) (Bx : Addr → Prop) (b : Addr) (Γ : List (V × D)) (σ : L2.St) (d : D) (e : Expr) : Prop := Ev X Bx b Γ σ (fun x => x = d) e
def EvsE (X : Cx) (Bx : Addr → Prop) (b : Addr) (Γ : List (V × D)) (σ : L2.St) (ds : List D) (es : List Expr) : Prop := ds.length = es.length ∧ ∀ (H : Hp) (Q : List V → Hp → Prop), ST X.K Bx b Γ H → (∀ vs H', Fr (· = b) H H' → BoxAt H' b → Dts X.K Bx H' vs ds → Q vs H') → RA X es σ H Q
section
variable {X : Cx} {N : List Str} {L : List (Str × KN)} {k n m : Nat} {σ : L2.St} {H : Hp} {b p : Addr} {Bx : Addr → Prop} {Γ : List (V × D)} {R : D → Prop} {e e1 e2 l elt : Expr} {es : List Expr} {pos p0 p1 p2 : Pos} {d d1 d2 : D} {ds ds1 ds2 : List D} {x : Str} {v : V}
theorem eve_name (c : Ctx X N L k) {j : KN} (s : Slot N σ x v) (hm : (v, d) ∈ Γ) (h : (x, j) ∈ L) (mm : Mine j) : EvE X Bx b Γ σ d (.Name x pos) := ev_name c s hm h mm rfl
theorem eve_de (h : DE e d) : EvE X Bx b Γ σ d e := ev_de h rfl
theorem eve_nil : EvsE X Bx b Γ σ [] [] := ⟨rfl, fun H Q st q => ra_nil (q [] H Fr.refl st.box .nil)⟩
theorem eve_cons (h : EvE X Bx b Γ σ d e) (t : EvsE X Bx b Γ σ ds es) (hs : starEach (e :: es) X.env = (false, eval e X.env) :: starEach es X.env := by with_unfolding_all rfl) : EvsE X Bx b Γ σ (d :: ds) (e :: es) := ⟨by rw [List.length_cons, List.length_cons, t.1], fun H Q st q => by
  refine ra_cons (h H _ st fun v d' H1 f1 b1 r1 k1 => ?_) hs
  subst r1
  have st1 := st.fr f1 b1
  exact t.2 H1 _ st1 fun vs H2 f2 b2 k2 => q _ H2 (f1.trans f2) b2 (.cons (k1.fr (frB st1 f2)) k2)⟩
theorem eve_tup {kk : Nat} (h : EvsE X Bx b Γ σ ds es) (hl : es.length ≤ 1000 := by decide) : EvE X Bx b Γ σ (.tup ds) (.Tuple es kk pos) := fun H Q st q => by
  refine re_tup (h.2 H _ st fun vs H1 f1 b1 k1 => ⟨by rw [k1.1, h.1]; exact Nat.le_trans hl (by decide), fun p hp => ?_⟩)
  have st1 := st.fr f1 b1
  exact q _ _ _ (f1.trans (Fr.new hp)) (st1.new hp).box rfl (Dt.newT hp (fun z => st1.old _ z hp) k1)
theorem eve_lst (h : EvsE X Bx b Γ σ ds es) (hl : es.length ≤ 1000 := by decide) : EvE X Bx b Γ σ (.lst ds) (.List es pos) := fun H Q st q => by
  refine re_lst (h.2 H _ st fun vs H1 f1 b1 k1 => ⟨by rw [k1.1, h.1]; exact Nat.le_trans hl (by decide), fun p hp => ?_⟩)
  have st1 := st.fr f1 b1
  exact q _ _ _ (f1.trans (Fr.new hp)) (st1.new hp).box rfl (Dt.newL hp (fun z => st1.old _ z hp) k1)
theorem eve_int {i : Int} (h : ∀ (H : Hp) (Q : VK), Q (.int i) H → RE X e σ H Q) : EvE X Bx b Γ σ (.int i) e := fun H Q st q => h H Q (q _ _ H Fr.refl st.box rfl .int)
theorem eve_str (c : Ctx X N L k) (zs : X.mg "str" = none) {j : KN} {i : Int} (hg : (("str" : Str), KN.glob) ∈ L) (s : Slot N σ x (.int i)) (hb : (x, j) ∈ L) (mb : Mine j) (h : 0 ≤ i ∧ i ≤ 1000)
    (he : starEach (.Name x p1 :: []) X.env = (false, eval (.Name x p1) X.env) :: starEach [] X.env := by with_unfolding_all rfl) (hpl : (backTo pos (starEach [] X.env)).any (·.1) = false := by with_unfolding_all rfl) :
    EvE X Bx b Γ σ (.str (toString i)) (.Call (.Name "str" p0) [.Name x p1] [] pos) := fun H Q st q => by
  refine re_c_str c hg zs (ra_cons (re_name c s hb mb (ra_nil ?_)) he) he hpl
  refine lv_strI ?_ (q _ _ H Fr.refl st.box rfl .str)
  obtain ⟨m, rfl⟩ : ∃ m : Nat, i = m := ⟨i.toNat, by omega⟩
  rw [Int.natAbs_natCast]
  rcases Nat.eq_zero_or_pos m with rfl | z
  · decide
  · have := (Nat.log2_lt (by omega : m ≠ 0) (k := 10)).mpr (by omega)
    omega
theorem lst_at {K : PySem.W.Frag} {H : Hp} {v : V} (h : Dt K Bx H v (.lst ds)) : ∃ p vs, v = .ref p ∧ ¬ Bx p ∧ H p = some (.lst vs) ∧ Dts K Bx H vs ds := by
  cases h with
  | lst nb t ll hh => exact ⟨_, _, rfl, nb, t, ll, hh⟩
theorem eve_cat (h1 : EvE X Bx b Γ σ (.lst ds1) e1) (h2 : EvE X Bx b Γ σ (.lst ds2) e2) (hl : ds1.length + ds2.length ≤ 1000) : EvE X Bx b Γ σ (.lst (ds1 ++ ds2)) (.BinOp e1 .Add e2 pos) := fun H Q st q => by
  refine re_bin (h1 H _ st fun v1 d1 H1 f1 b1 r1 k1 => ?_)
  subst r1
  have st1 := st.fr f1 b1
  refine h2 H1 _ st1 fun v2 d2 H2 f2 b2 r2 k2 => ?_
  subst r2
  have st2 := st1.fr f2 b2
  obtain ⟨p, us, rfl, np, tp, hp⟩ := lst_at (k1.fr (frB st1 f2))
  obtain ⟨r, ws, rfl, nr, tr, hr⟩ := lst_at k2
  refine ov_cat tp tr (by rw [hp.1, hr.1]; exact Nat.le_trans hl (by decide)) fun p2 hp2 => ?_
  exact q _ _ _ ((f1.trans f2).trans (Fr.new hp2)) (st2.new hp2).box rfl (Dt.newL hp2 (fun z => st2.old _ z hp2) (dts_app hp hr))
theorem eve_cut {lo hi : Option Expr} {a c : Option Int} (h : EvE X Bx b Γ σ (.lst ds) e) (hlo : ∀ (H : Hp) (Q : Option Int → Hp → Prop), Q a H → RO X lo σ H Q) (hhi : ∀ (H : Hp) (Q : Option Int → Hp → Prop), Q c H → RO X hi σ H Q) : EvE X Bx b Γ σ (.lst (GT.cutD ds a c)) (.Subscript e (.Slice lo hi none p2) pos) := fun H Q st q => by
  refine re_slice (h H _ st fun v1 d1 H1 f1 b1 r1 k1 => hlo H1 _ (hhi H1 _ ?_))
  subst r1
  have st1 := st.fr f1 b1
  obtain ⟨p, us, rfl, np, tp, hp⟩ := lst_at k1
  refine sv_list (SqL.of tp) fun r hr => ?_
  exact q _ _ _ (f1.trans (Fr.new hr)) (st1.new hr).box rfl (Dt.newL hr (fun z => st1.old _ z hr) (dts_cut hp a c))
theorem eve_tuple (c : Ctx X N L k) (hg : (("tuple" : Str), KN.glob) ∈ L) (hm : X.mg "tuple" = none) (h : EvE X Bx b Γ σ (.lst ds) e) (he : starEach (e :: []) X.env = (false, eval e X.env) :: starEach [] X.env := by with_unfolding_all rfl) (hpl : (backTo pos (starEach [] X.env)).any (·.1) = false := by with_unfolding_all rfl) :
    EvE X Bx b Γ σ (.tup ds) (.Call (.Name "tuple" p0) [e] [] pos) := fun H Q st q => by
  refine re_c_tuple c hg hm (ra_cons (h H _ st fun v1 d1 H1 f1 b1 r1 k1 => ra_nil ?_) he) he hpl
  subst r1
  have st1 := st.fr f1 b1
  obtain ⟨p, us, rfl, np, tp, hp⟩ := lst_at k1
  exact lv_tupL (SqL.of tp) fun r hr => q _ _ _ (f1.trans (Fr.new hr)) (st1.new hr).box rfl (Dt.newT hr (fun z => st1.old _ z hr) hp)
theorem eve_list (c : Ctx X N L k) (hg : (("list" : Str), KN.glob) ∈ L) (hm : X.mg "list" = none) (h : EvE X Bx b Γ σ (.lst ds) e) (he : starEach (e :: []) X.env = (false, eval e X.env) :: starEach [] X.env := by with_unfolding_all rfl) (hpl : (backTo pos (starEach [] X.env)).any (·.1) = false := by with_unfolding_all rfl) :
    EvE X Bx b Γ σ (.lst ds) (.Call (.Name "list" p0) [e] [] pos) := fun H Q st q => by
  refine re_c_list c hg hm (ra_cons (h H _ st fun v1 d1 H1 f1 b1 r1 k1 => ra_nil ?_) he) he hpl
  subst r1
  have st1 := st.fr f1 b1
  obtain ⟨p, us, rfl, np, tp, hp⟩ := lst_at k1
  exact lv_listL (.inl (SqL.of tp)) fun r hr => q _ _ _ (f1.trans (Fr.new hr)) (st1.new hr).box rfl (Dt.newL hr (fun z => st1.old _ z hr) hp)
/-- a loop over a list of data, the box alone moved; some slots change -/
theorem rs_for_evA {α : Type} (c : Ctx X N L k) {body : List Stmt} {D : Ends} {r0 : α} (σf : α → L2.St) (up : α → V → α) (hx : (x, KN.loc) ∈ L) (mx : x ∈ N) (put : ∀ r y, Put N (σf r) x y (σf (up r y))) (st : ST X.K Bx b Γ H)
    (hE : ∀ (Q : VK), (∀ v d H', Fr (· = b) H H' → BoxAt H' b → LR R n d → Dt X.K Bx H' v d → Q v H') → RE X l (σf r0) H Q)
    (hB : ∀ r y d H' (K : L2.St → Hp → Prop), R d → ST X.K Bx b ((y, d) :: Γ) H' → (∀ r H2, Fr (· = b) H' H2 → BoxAt H2 b → K (σf r) H2) → RB X body { D with nx := K, ct := K, bk := D.nx } (σf (up r y)) H')
    (q : ∀ r H', Fr (· = b) H H' → BoxAt H' b → D.nx (σf r) H')
    (hs : ∀ x, foldedSetIterable l X.env x = pure x := by intro _; with_unfolding_all rfl) : RS X (.For (.Name x p0) l body [] pos) D (σf r0) H := by
  refine rs_for_list c hx .loc mx (hE _ fun v1 d1 H1 f1 b1 r1 k1 => ?_) hs
  have st1 := st.fr f1 b1
  obtain ⟨t, ws, es, rfl, rfl, nt, tt, hes, le, re⟩ := lr_at r1 k1
  have ntb : t ≠ b := fun z => nt (by rw [z]; exact st.mem)
  refine ⟨t, ws, rfl, SqL.of tt, fun i σ' H' => (∃ r, σ' = σf r) ∧ Fr (· = b) H1 H' ∧ BoxAt H' b, ⟨⟨r0, rfl⟩, Fr.refl, b1⟩, ?_, ?_, ?_⟩
  · rintro i σ' H' _ ⟨_, f, _⟩
    exact SqL.of (f _ _ ntb tt)
  · rintro i y σ' H' hi hy ⟨⟨r, rfl⟩, f, bb⟩
    have hi2 : i < es.length := by have := hes.1; omega
    have st2 := st1.fr f bb
    have ky := (hes.2 i y es[i] hy (List.getElem?_eq_getElem hi2)).fr (frB st1 f)
    exact ⟨_, put r y, hB r y es[i] H' _ (re es[i] (List.getElem_mem hi2)) (st2.add ky) fun r2 H2 f2 b2 => ⟨⟨r2, rfl⟩, f.trans f2, b2⟩⟩
  · rintro σ' H' ⟨⟨r, rfl⟩, f, bb⟩
    exact q r H' (f1.trans f) bb
end
end GT
namespace K12
open PySem PySem.Spec PyProof.Rows L2 GT
def top (i : Nat) : Stmt := PySem.Challenge.pw_goodtill_k12_events_entries_and_rosters.main.body.getD i (.Pass ⟨0, 0, 0, 0⟩)
/-! label_fault -/
abbrev sq_label_fault : Stmt := top 17
abbrev nq_label_fault : List Str := ["value", "at", "letter"]
abbrev lq_label_fault : List (Str × KN) := [("value", .loc), ("isinstance", .glob), ("str", .glob), ("at", .loc), ("letter", .loc), ("enumerate", .glob), ("LABEL_LETTERS", .glob)]
theorem mq_label_fault : Nms sq_label_fault nq_label_fault ["value"] lq_label_fault := ⟨⟨rfl, rfl, rfl, by decide +kernel, rfl, by decide +kernel, by decide +kernel⟩, by decide +kernel, by decide +kernel, by decide +kernel⟩
/-! is_label -/
abbrev sq_is_label : Stmt := top 18
abbrev nq_is_label : List Str := ["value"]
abbrev lq_is_label : List (Str × KN) := [("value", .loc), ("label_fault", .glob)]
theorem mq_is_label : Nms sq_is_label nq_is_label ["value"] lq_is_label := ⟨⟨rfl, rfl, rfl, by decide +kernel, rfl, by decide +kernel, by decide +kernel⟩, by decide +kernel, by decide +kernel, by decide +kernel⟩
/-! name_fault -/
abbrev sq_name_fault : Stmt := top 19
abbrev nq_name_fault : List Str := ["value", "at", "label"]
abbrev lq_name_fault : List (Str × KN) := [("value", .loc), ("isinstance", .glob), ("tuple", .glob), ("len", .glob), ("at", .loc), ("label", .loc), ("enumerate", .glob), ("NAME_LABELS", .glob), ("is_label", .glob)]
theorem mq_name_fault : Nms sq_name_fault nq_name_fault ["value"] lq_name_fault := ⟨⟨rfl, rfl, rfl, by decide +kernel, rfl, by decide +kernel, by decide +kernel⟩, by decide +kernel, by decide +kernel, by decide +kernel⟩
/-! is_name -/
abbrev sq_is_name : Stmt := top 20
abbrev nq_is_name : List Str := ["value"]
abbrev lq_is_name : List (Str × KN) := [("value", .loc), ("name_fault", .glob)]
theorem mq_is_name : Nms sq_is_name nq_is_name ["value"] lq_is_name := ⟨⟨rfl, rfl, rfl, by decide +kernel, rfl, by decide +kernel, by decide +kernel⟩, by decide +kernel, by decide +kernel, by decide +kernel⟩
/-! is_whole -/
abbrev sq_is_whole : Stmt := top 22
abbrev nq_is_whole : List Str := ["value"]
abbrev lq_is_whole : List (Str × KN) := [("value", .loc), ("isinstance", .glob), ("int", .glob), ("bool", .glob)]
theorem mq_is_whole : Nms sq_is_whole nq_is_whole ["value"] lq_is_whole := ⟨⟨rfl, rfl, rfl, by decide +kernel, rfl, by decide +kernel, by decide +kernel⟩, by decide +kernel, by decide +kernel, by decide +kernel⟩
/-! fraction_fault -/
abbrev sq_fraction_fault : Stmt := top 23
abbrev nq_fraction_fault : List Str := ["value", "n", "d"]
abbrev lq_fraction_fault : List (Str × KN) := [("value", .loc), ("isinstance", .glob), ("tuple", .glob), ("len", .glob), ("n", .loc), ("d", .loc), ("is_whole", .glob), ("gcd", .glob)]
theorem mq_fraction_fault : Nms sq_fraction_fault nq_fraction_fault ["value"] lq_fraction_fault := ⟨⟨rfl, rfl, rfl, by decide +kernel, rfl, by decide +kernel, by decide +kernel⟩, by decide +kernel, by decide +kernel, by decide +kernel⟩
/-! is_fraction -/
abbrev sq_is_fraction : Stmt := top 24
abbrev nq_is_fraction : List Str := ["value"]
abbrev lq_is_fraction : List (Str × KN) := [("value", .loc), ("fraction_fault", .glob)]
theorem mq_is_fraction : Nms sq_is_fraction nq_is_fraction ["value"] lq_is_fraction := ⟨⟨rfl, rfl, rfl, by decide +kernel, rfl, by decide +kernel, by decide +kernel⟩, by decide +kernel, by decide +kernel, by decide +kernel⟩
/-! is_node -/
abbrev sq_is_node : Stmt := top 31
abbrev nq_is_node : List Str := ["value"]
abbrev lq_is_node : List (Str × KN) := [("value", .loc), ("is_whole", .glob), ("LAST_NODE", .glob)]
theorem mq_is_node : Nms sq_is_node nq_is_node ["value"] lq_is_node := ⟨⟨rfl, rfl, rfl, by decide +kernel, rfl, by decide +kernel, by decide +kernel⟩, by decide +kernel, by decide +kernel, by decide +kernel⟩
/-! is_most -/
abbrev sq_is_most : Stmt := top 32
abbrev nq_is_most : List Str := ["value"]
abbrev lq_is_most : List (Str × KN) := [("value", .loc), ("is_whole", .glob), ("MOST_NAMES", .glob)]
theorem mq_is_most : Nms sq_is_most nq_is_most ["value"] lq_is_most := ⟨⟨rfl, rfl, rfl, by decide +kernel, rfl, by decide +kernel, by decide +kernel⟩, by decide +kernel, by decide +kernel, by decide +kernel⟩
/-! is_count -/
abbrev sq_is_count : Stmt := top 33
abbrev nq_is_count : List Str := ["value"]
abbrev lq_is_count : List (Str × KN) := [("value", .loc), ("is_whole", .glob)]
theorem mq_is_count : Nms sq_is_count nq_is_count ["value"] lq_is_count := ⟨⟨rfl, rfl, rfl, by decide +kernel, rfl, by decide +kernel, by decide +kernel⟩, by decide +kernel, by decide +kernel, by decide +kernel⟩
/-! is_id -/
abbrev sq_is_id : Stmt := top 34
abbrev nq_is_id : List Str := ["value"]
abbrev lq_is_id : List (Str × KN) := [("value", .loc), ("isinstance", .glob), ("tuple", .glob), ("len", .glob), ("is_node", .glob), ("is_count", .glob)]
theorem mq_is_id : Nms sq_is_id nq_is_id ["value"] lq_is_id := ⟨⟨rfl, rfl, rfl, by decide +kernel, rfl, by decide +kernel, by decide +kernel⟩, by decide +kernel, by decide +kernel, by decide +kernel⟩
/-! is_kept -/
abbrev sq_is_kept : Stmt := top 35
abbrev nq_is_kept : List Str := ["value"]
abbrev lq_is_kept : List (Str × KN) := [("value", .loc), ("is_id", .glob)]
theorem mq_is_kept : Nms sq_is_kept nq_is_kept ["value"] lq_is_kept := ⟨⟨rfl, rfl, rfl, by decide +kernel, rfl, by decide +kernel, by decide +kernel⟩, by decide +kernel, by decide +kernel, by decide +kernel⟩
/-! is_term -/
abbrev sq_is_term : Stmt := top 36
abbrev nq_is_term : List Str := ["value"]
abbrev lq_is_term : List (Str × KN) := [("value", .loc), ("is_id", .glob)]
theorem mq_is_term : Nms sq_is_term nq_is_term ["value"] lq_is_term := ⟨⟨rfl, rfl, rfl, by decide +kernel, rfl, by decide +kernel, by decide +kernel⟩, by decide +kernel, by decide +kernel, by decide +kernel⟩
/-! is_value -/
abbrev sq_is_value : Stmt := top 37
abbrev nq_is_value : List Str := ["value"]
abbrev lq_is_value : List (Str × KN) := [("value", .loc), ("isinstance", .glob), ("tuple", .glob), ("len", .glob), ("is_count", .glob)]
theorem mq_is_value : Nms sq_is_value nq_is_value ["value"] lq_is_value := ⟨⟨rfl, rfl, rfl, by decide +kernel, rfl, by decide +kernel, by decide +kernel⟩, by decide +kernel, by decide +kernel, by decide +kernel⟩
/-! is_first_entry -/
abbrev sq_is_first_entry : Stmt := top 38
abbrev nq_is_first_entry : List Str := ["value"]
abbrev lq_is_first_entry : List (Str × KN) := [("value", .loc), ("is_value", .glob), ("isinstance", .glob), ("tuple", .glob), ("len", .glob), ("is_name", .glob)]
theorem mq_is_first_entry : Nms sq_is_first_entry nq_is_first_entry ["value"] lq_is_first_entry := ⟨⟨rfl, rfl, rfl, by decide +kernel, rfl, by decide +kernel, by decide +kernel⟩, by decide +kernel, by decide +kernel, by decide +kernel⟩
/-! are_first_entries -/
abbrev sq_are_first_entries : Stmt := top 39
abbrev nq_are_first_entries : List Str := ["value", "ahead", "pair", "label", "entry"]
abbrev lq_are_first_entries : List (Str × KN) := [("value", .loc), ("isinstance", .glob), ("tuple", .glob), ("len", .glob), ("FIRST_ENTRIES", .glob), ("ahead", .loc), ("pair", .loc), ("label", .loc), ("entry", .loc), ("is_label", .glob), ("is_first_entry", .glob)]
theorem mq_are_first_entries : Nms sq_are_first_entries nq_are_first_entries ["value"] lq_are_first_entries := ⟨⟨rfl, rfl, rfl, by decide +kernel, rfl, by decide +kernel, by decide +kernel⟩, by decide +kernel, by decide +kernel, by decide +kernel⟩
/-! is_pointer -/
abbrev sq_is_pointer : Stmt := top 40
abbrev nq_is_pointer : List Str := ["value"]
abbrev lq_is_pointer : List (Str × KN) := [("value", .loc), ("isinstance", .glob), ("tuple", .glob), ("len", .glob), ("is_node", .glob), ("are_first_entries", .glob)]
theorem mq_is_pointer : Nms sq_is_pointer nq_is_pointer ["value"] lq_is_pointer := ⟨⟨rfl, rfl, rfl, by decide +kernel, rfl, by decide +kernel, by decide +kernel⟩, by decide +kernel, by decide +kernel, by decide +kernel⟩
/-! is_entry -/
abbrev sq_is_entry : Stmt := top 41
abbrev nq_is_entry : List Str := ["value"]
abbrev lq_is_entry : List (Str × KN) := [("value", .loc), ("is_first_entry", .glob), ("is_pointer", .glob)]
theorem mq_is_entry : Nms sq_is_entry nq_is_entry ["value"] lq_is_entry := ⟨⟨rfl, rfl, rfl, by decide +kernel, rfl, by decide +kernel, by decide +kernel⟩, by decide +kernel, by decide +kernel, by decide +kernel⟩
/-! is_found -/
abbrev sq_is_found : Stmt := top 42
abbrev nq_is_found : List Str := ["value"]
abbrev lq_is_found : List (Str × KN) := [("value", .loc), ("is_value", .glob), ("isinstance", .glob), ("tuple", .glob), ("len", .glob), ("is_node", .glob), ("is_term", .glob)]
theorem mq_is_found : Nms sq_is_found nq_is_found ["value"] lq_is_found := ⟨⟨rfl, rfl, rfl, by decide +kernel, rfl, by decide +kernel, by decide +kernel⟩, by decide +kernel, by decide +kernel, by decide +kernel⟩
/-! is_answer -/
abbrev sq_is_answer : Stmt := top 43
abbrev nq_is_answer : List Str := ["value", "names", "name"]
abbrev lq_is_answer : List (Str × KN) := [("value", .loc), ("isinstance", .glob), ("tuple", .glob), ("len", .glob), ("is_found", .glob), ("names", .loc), ("MOST_NAMES", .glob), ("all", .glob)]
theorem mq_is_answer : Nms sq_is_answer nq_is_answer ["value"] lq_is_answer := ⟨⟨rfl, rfl, rfl, by decide +kernel, rfl, by decide +kernel, by decide +kernel⟩, by decide +kernel, by decide +kernel, by decide +kernel⟩
abbrev lq_is_answer_c0 : List (Str × KN) := [("name", .loc), ("is_name", .glob)]
/-! is_part -/
abbrev sq_is_part : Stmt := top 45
abbrev nq_is_part : List Str := ["part", "value", "check"]
abbrev lq_is_part : List (Str × KN) := [("part", .loc), ("value", .loc), ("is_label", .glob), ("is_name", .glob), ("is_fraction", .glob), ("check", .loc), ("CHECKS", .glob)]
theorem mq_is_part : Nms sq_is_part nq_is_part ["part", "value"] lq_is_part := ⟨⟨rfl, rfl, rfl, by decide +kernel, rfl, by decide +kernel, by decide +kernel⟩, by decide +kernel, by decide +kernel, by decide +kernel⟩
/-! are_parts -/
abbrev sq_are_parts : Stmt := top 46
abbrev nq_are_parts : List Str := ["parts", "values", "part", "value"]
abbrev lq_are_parts : List (Str × KN) := [("parts", .loc), ("values", .loc), ("len", .glob), ("all", .glob), ("zip", .glob)]
theorem mq_are_parts : Nms sq_are_parts nq_are_parts ["parts", "values"] lq_are_parts := ⟨⟨rfl, rfl, rfl, by decide +kernel, rfl, by decide +kernel, by decide +kernel⟩, by decide +kernel, by decide +kernel, by decide +kernel⟩
abbrev lq_are_parts_c0 : List (Str × KN) := [("part", .loc), ("value", .loc), ("is_part", .glob)]
/-! is_deed -/
abbrev sq_is_deed : Stmt := top 47
abbrev nq_is_deed : List Str := ["value"]
abbrev lq_is_deed : List (Str × KN) := [("value", .loc), ("isinstance", .glob), ("tuple", .glob), ("len", .glob), ("KINDS", .glob), ("are_parts", .glob), ("PARTS", .glob)]
theorem mq_is_deed : Nms sq_is_deed nq_is_deed ["value"] lq_is_deed := ⟨⟨rfl, rfl, rfl, by decide +kernel, rfl, by decide +kernel, by decide +kernel⟩, by decide +kernel, by decide +kernel, by decide +kernel⟩
/-! event_fault -/
abbrev sq_event_fault : Stmt := top 48
abbrev nq_event_fault : List Str := ["value"]
abbrev lq_event_fault : List (Str × KN) := [("value", .loc), ("isinstance", .glob), ("tuple", .glob), ("len", .glob), ("is_id", .glob), ("is_fraction", .glob), ("is_deed", .glob)]
theorem mq_event_fault : Nms sq_event_fault nq_event_fault ["value"] lq_event_fault := ⟨⟨rfl, rfl, rfl, by decide +kernel, rfl, by decide +kernel, by decide +kernel⟩, by decide +kernel, by decide +kernel, by decide +kernel⟩
/-! check_event -/
abbrev sq_check_event : Stmt := top 52
abbrev nq_check_event : List Str := ["value", "fault"]
abbrev lq_check_event : List (Str × KN) := [("value", .loc), ("fault", .loc), ("event_fault", .glob), ("BadEvent", .glob)]
theorem mq_check_event : Nms sq_check_event nq_check_event ["value"] lq_check_event := ⟨⟨rfl, rfl, rfl, by decide +kernel, rfl, by decide +kernel, by decide +kernel⟩, by decide +kernel, by decide +kernel, by decide +kernel⟩
/-! check_entry -/
abbrev sq_check_entry : Stmt := top 53
abbrev nq_check_entry : List Str := ["value"]
abbrev lq_check_entry : List (Str × KN) := [("value", .loc), ("is_entry", .glob), ("BadEvent", .glob)]
theorem mq_check_entry : Nms sq_check_entry nq_check_entry ["value"] lq_check_entry := ⟨⟨rfl, rfl, rfl, by decide +kernel, rfl, by decide +kernel, by decide +kernel⟩, by decide +kernel, by decide +kernel, by decide +kernel⟩
/-! is_bounds -/
abbrev sq_is_bounds : Stmt := top 54
abbrev nq_is_bounds : List Str := ["value", "a", "b"]
abbrev lq_is_bounds : List (Str × KN) := [("value", .loc), ("isinstance", .glob), ("tuple", .glob), ("len", .glob), ("a", .loc), ("b", .loc), ("is_whole", .glob), ("SLOWEST", .glob)]
theorem mq_is_bounds : Nms sq_is_bounds nq_is_bounds ["value"] lq_is_bounds := ⟨⟨rfl, rfl, rfl, by decide +kernel, rfl, by decide +kernel, by decide +kernel⟩, by decide +kernel, by decide +kernel, by decide +kernel⟩
/-! check_roster -/
abbrev sq_check_roster : Stmt := top 55
abbrev nq_check_roster : List Str := ["value", "at", "pair"]
abbrev lq_check_roster : List (Str × KN) := [("value", .loc), ("isinstance", .glob), ("tuple", .glob), ("BadRoster", .glob), ("at", .loc), ("pair", .loc), ("enumerate", .glob), ("ROSTER_PAIRS", .glob), ("is_bounds", .glob)]
theorem mq_check_roster : Nms sq_check_roster nq_check_roster ["value"] lq_check_roster := ⟨⟨rfl, rfl, rfl, by decide +kernel, rfl, by decide +kernel, by decide +kernel⟩, by decide +kernel, by decide +kernel, by decide +kernel⟩
/-! _law_box -/
abbrev sq_box : Stmt := top 57
abbrev nq_box : List Str := ["script", "k", "cell", "great"]
abbrev lq_box : List (Str × KN) := [("script", .loc), ("k", .loc), ("cell", .loc), ("len", .glob), ("abs", .glob), ("int", .glob), ("great", .loc)]
theorem mq_box : Nms sq_box nq_box ["script", "k"] lq_box := ⟨⟨rfl, rfl, rfl, by decide +kernel, rfl, by decide +kernel, by decide +kernel⟩, by decide +kernel, by decide +kernel, by decide +kernel⟩
/-! _law_take -/
abbrev sq_take : Stmt := top 58
abbrev nq_take : List Str := ["box", "many", "digit", "raw"]
abbrev lq_take : List (Str × KN) := [("box", .loc), ("many", .loc), ("digit", .loc), ("int", .glob), ("raw", .loc)]
theorem mq_take : Nms sq_take nq_take ["box", "many"] lq_take := ⟨⟨rfl, rfl, rfl, by decide +kernel, rfl, by decide +kernel, by decide +kernel⟩, by decide +kernel, by decide +kernel, by decide +kernel⟩
/-! _law_pick -/
abbrev sq_pick : Stmt := top 59
abbrev nq_pick : List Str := ["box", "some"]
abbrev lq_pick : List (Str × KN) := [("box", .loc), ("some", .loc), ("_law_take", .glob), ("len", .glob)]
theorem mq_pick : Nms sq_pick nq_pick ["box", "some"] lq_pick := ⟨⟨rfl, rfl, rfl, by decide +kernel, rfl, by decide +kernel, by decide +kernel⟩, by decide +kernel, by decide +kernel, by decide +kernel⟩
/-! _law_same -/
abbrev sq_same : Stmt := top 60
abbrev nq_same : List Str := ["told", "due", "is_kind", "one", "other"]
abbrev lq_same : List (Str × KN) := [("told", .loc), ("due", .loc), ("isinstance", .glob), ("tuple", .glob), ("list", .glob), ("is_kind", .loc), ("len", .glob), ("one", .loc), ("other", .loc), ("zip", .glob), ("_law_same", .glob), ("bool", .glob), ("int", .glob), ("str", .glob)]
theorem mq_same : Nms sq_same nq_same ["told", "due"] lq_same := ⟨⟨rfl, rfl, rfl, by decide +kernel, rfl, by decide +kernel, by decide +kernel⟩, by decide +kernel, by decide +kernel, by decide +kernel⟩
/-! _law_gcd -/
abbrev sq_gcd : Stmt := top 61
abbrev nq_gcd : List Str := ["one", "two", "turn"]
abbrev lq_gcd : List (Str × KN) := [("one", .loc), ("two", .loc), ("turn", .loc), ("range", .glob), ("int", .glob)]
theorem mq_gcd : Nms sq_gcd nq_gcd ["one", "two"] lq_gcd := ⟨⟨rfl, rfl, rfl, by decide +kernel, rfl, by decide +kernel, by decide +kernel⟩, by decide +kernel, by decide +kernel, by decide +kernel⟩
/-! _law_fraction -/
abbrev sq_fraction : Stmt := top 62
abbrev nq_fraction : List Str := ["box", "kind", "n", "d", "part"]
abbrev lq_fraction : List (Str × KN) := [("box", .loc), ("kind", .loc), ("_law_take", .glob), ("n", .loc), ("d", .loc), ("part", .loc), ("_law_gcd", .glob), ("abs", .glob)]
theorem mq_fraction : Nms sq_fraction nq_fraction ["box"] lq_fraction := ⟨⟨rfl, rfl, rfl, by decide +kernel, rfl, by decide +kernel, by decide +kernel⟩, by decide +kernel, by decide +kernel, by decide +kernel⟩
/-! _law_id -/
abbrev sq_id : Stmt := top 63
abbrev nq_id : List Str := ["box", "life"]
abbrev lq_id : List (Str × KN) := [("box", .loc), ("life", .loc), ("_law_pick", .glob), ("_law_take", .glob)]
theorem mq_id : Nms sq_id nq_id ["box"] lq_id := ⟨⟨rfl, rfl, rfl, by decide +kernel, rfl, by decide +kernel, by decide +kernel⟩, by decide +kernel, by decide +kernel, by decide +kernel⟩
/-! _law_label -/
abbrev sq_label : Stmt := top 64
abbrev nq_label : List Str := ["box", "letters", "turn"]
abbrev lq_label : List (Str × KN) := [("box", .cell), ("letters", .cell), ("range", .glob), ("_law_pick", .glob), ("_law_take", .glob)]
theorem mq_label : Nms sq_label nq_label ["box"] lq_label := ⟨⟨rfl, rfl, rfl, by decide +kernel, rfl, by decide +kernel, by decide +kernel⟩, by decide +kernel, by decide +kernel, by decide +kernel⟩
abbrev lq_label_c0 : List (Str × KN) := [("turn", .loc), ("_law_pick", .glob), ("box", .cap), ("letters", .cap)]
/-! _law_name -/
abbrev sq_name : Stmt := top 65
abbrev nq_name : List Str := ["box", "turn"]
abbrev lq_name : List (Str × KN) := [("box", .cell), ("tuple", .glob), ("range", .glob), ("_law_pick", .glob), ("_law_take", .glob)]
theorem mq_name : Nms sq_name nq_name ["box"] lq_name := ⟨⟨rfl, rfl, rfl, by decide +kernel, rfl, by decide +kernel, by decide +kernel⟩, by decide +kernel, by decide +kernel, by decide +kernel⟩
abbrev lq_name_c0 : List (Str × KN) := [("turn", .loc), ("_law_label", .glob), ("box", .cap)]
/-! _law_plain -/
abbrev sq_plain : Stmt := top 66
abbrev nq_plain : List Str := ["box"]
abbrev lq_plain : List (Str × KN) := [("box", .loc), ("_law_take", .glob), ("_law_name", .glob), ("_law_pick", .glob)]
theorem mq_plain : Nms sq_plain nq_plain ["box"] lq_plain := ⟨⟨rfl, rfl, rfl, by decide +kernel, rfl, by decide +kernel, by decide +kernel⟩, by decide +kernel, by decide +kernel, by decide +kernel⟩
/-! _law_rows -/
abbrev sq_rows : Stmt := top 67
abbrev nq_rows : List Str := ["box", "labels", "turn", "label"]
abbrev lq_rows : List (Str × KN) := [("box", .cell), ("labels", .loc), ("sorted", .glob), ("set", .glob), ("range", .glob), ("_law_take", .glob), ("tuple", .glob)]
theorem mq_rows : Nms sq_rows nq_rows ["box"] lq_rows := ⟨⟨rfl, rfl, rfl, by decide +kernel, rfl, by decide +kernel, by decide +kernel⟩, by decide +kernel, by decide +kernel, by decide +kernel⟩
abbrev lq_rows_c0 : List (Str × KN) := [("turn", .loc), ("_law_label", .glob), ("box", .cap)]
abbrev lq_rows_c1 : List (Str × KN) := [("label", .loc), ("_law_plain", .glob), ("box", .cap)]
/-! _law_entry -/
abbrev sq_entry : Stmt := top 68
abbrev nq_entry : List Str := ["box", "kind"]
abbrev lq_entry : List (Str × KN) := [("box", .loc), ("kind", .loc), ("_law_take", .glob), ("_law_plain", .glob), ("_law_rows", .glob)]
theorem mq_entry : Nms sq_entry nq_entry ["box"] lq_entry := ⟨⟨rfl, rfl, rfl, by decide +kernel, rfl, by decide +kernel, by decide +kernel⟩, by decide +kernel, by decide +kernel, by decide +kernel⟩
/-! _law_answer -/
abbrev sq_answer : Stmt := top 69
abbrev nq_answer : List Str := ["box", "what", "turn"]
abbrev lq_answer : List (Str × KN) := [("box", .cell), ("what", .loc), ("_law_pick", .glob), ("_law_take", .glob), ("_law_id", .glob), ("tuple", .glob), ("range", .glob)]
theorem mq_answer : Nms sq_answer nq_answer ["box"] lq_answer := ⟨⟨rfl, rfl, rfl, by decide +kernel, rfl, by decide +kernel, by decide +kernel⟩, by decide +kernel, by decide +kernel, by decide +kernel⟩
abbrev lq_answer_c0 : List (Str × KN) := [("turn", .loc), ("_law_name", .glob), ("box", .cap)]
/-! _law_words -/
abbrev sq_words : Stmt := top 70
abbrev nq_words : List Str := []
abbrev lq_words : List (Str × KN) := []
theorem mq_words : Nms sq_words nq_words [] lq_words := ⟨⟨rfl, rfl, rfl, by decide +kernel, rfl, by decide +kernel, by decide +kernel⟩, by decide +kernel, by decide +kernel, by decide +kernel⟩
/-! _law_part -/
abbrev sq_part : Stmt := top 71
abbrev nq_part : List Str := ["box", "word", "least"]
abbrev lq_part : List (Str × KN) := [("box", .loc), ("word", .loc), ("least", .loc), ("_law_pick", .glob), ("_law_id", .glob), ("_law_take", .glob), ("_law_label", .glob), ("_law_entry", .glob), ("_law_fraction", .glob), ("_law_name", .glob), ("_law_answer", .glob)]
theorem mq_part : Nms sq_part nq_part ["box", "word"] lq_part := ⟨⟨rfl, rfl, rfl, by decide +kernel, rfl, by decide +kernel, by decide +kernel⟩, by decide +kernel, by decide +kernel, by decide +kernel⟩
/-! _law_deed -/
abbrev sq_deed : Stmt := top 72
abbrev nq_deed : List Str := ["box", "word", "part"]
abbrev lq_deed : List (Str × KN) := [("box", .cell), ("word", .loc), ("tuple", .glob), ("_law_words", .glob)]
theorem mq_deed : Nms sq_deed nq_deed ["box", "word"] lq_deed := ⟨⟨rfl, rfl, rfl, by decide +kernel, rfl, by decide +kernel, by decide +kernel⟩, by decide +kernel, by decide +kernel, by decide +kernel⟩
abbrev lq_deed_c0 : List (Str × KN) := [("part", .loc), ("_law_part", .glob), ("box", .cap)]
/-! _law_ids -/
abbrev sq_ids : Stmt := top 73
abbrev nq_ids : List Str := ["own", "node", "life", "number", "some"]
abbrev lq_ids : List (Str × KN) := [("own", .loc), ("node", .loc), ("life", .loc), ("number", .loc), ("some", .loc), ("str", .glob)]
theorem mq_ids : Nms sq_ids nq_ids ["own"] lq_ids := ⟨⟨rfl, rfl, rfl, by decide +kernel, rfl, by decide +kernel, by decide +kernel⟩, by decide +kernel, by decide +kernel, by decide +kernel⟩
/-! _law_fractions -/
abbrev sq_fractions : Stmt := top 74
abbrev nq_fractions : List Str := []
abbrev lq_fractions : List (Str × KN) := []
theorem mq_fractions : Nms sq_fractions nq_fractions [] lq_fractions := ⟨⟨rfl, rfl, rfl, by decide +kernel, rfl, by decide +kernel, by decide +kernel⟩, by decide +kernel, by decide +kernel, by decide +kernel⟩
/-! _law_labels -/
abbrev sq_labels : Stmt := top 75
abbrev nq_labels : List Str := []
abbrev lq_labels : List (Str × KN) := []
theorem mq_labels : Nms sq_labels nq_labels [] lq_labels := ⟨⟨rfl, rfl, rfl, by decide +kernel, rfl, by decide +kernel, by decide +kernel⟩, by decide +kernel, by decide +kernel, by decide +kernel⟩
/-! _law_names -/
abbrev sq_names : Stmt := top 76
abbrev nq_names : List Str := ["box", "one", "some"]
abbrev lq_names : List (Str × KN) := [("box", .loc), ("one", .loc), ("_law_label", .glob), ("some", .loc)]
theorem mq_names : Nms sq_names nq_names ["box"] lq_names := ⟨⟨rfl, rfl, rfl, by decide +kernel, rfl, by decide +kernel, by decide +kernel⟩, by decide +kernel, by decide +kernel, by decide +kernel⟩
/-! _law_many_rows -/
abbrev sq_many_rows : Stmt := top 77
abbrev nq_many_rows : List Str := ["many", "place"]
abbrev lq_many_rows : List (Str × KN) := [("many", .loc), ("tuple", .glob), ("range", .glob)]
theorem mq_many_rows : Nms sq_many_rows nq_many_rows ["many"] lq_many_rows := ⟨⟨rfl, rfl, rfl, by decide +kernel, rfl, by decide +kernel, by decide +kernel⟩, by decide +kernel, by decide +kernel, by decide +kernel⟩
abbrev lq_many_rows_c0 : List (Str × KN) := [("place", .loc)]
/-! _law_entries -/
abbrev sq_entries : Stmt := top 78
abbrev nq_entries : List Str := ["box", "one", "two", "node", "good", "some", "rows"]
abbrev lq_entries : List (Str × KN) := [("box", .loc), ("one", .loc), ("two", .loc), ("sorted", .glob), ("_law_label", .glob), ("node", .loc), ("good", .loc), ("_law_take", .glob), ("_law_plain", .glob), ("some", .loc), ("_law_many_rows", .glob), ("rows", .loc)]
theorem mq_entries : Nms sq_entries nq_entries ["box"] lq_entries := ⟨⟨rfl, rfl, rfl, by decide +kernel, rfl, by decide +kernel, by decide +kernel⟩, by decide +kernel, by decide +kernel, by decide +kernel⟩
/-! _law_answers -/
abbrev sq_answers : Stmt := top 79
abbrev nq_answers : List Str := ["box", "name", "node", "own", "some", "what", "names"]
abbrev lq_answers : List (Str × KN) := [("box", .loc), ("name", .loc), ("node", .loc), ("own", .loc), ("_law_name", .glob), ("_law_take", .glob), ("_law_id", .glob), ("some", .loc), ("what", .loc), ("len", .glob), ("names", .loc)]
theorem mq_answers : Nms sq_answers nq_answers ["box"] lq_answers := ⟨⟨rfl, rfl, rfl, by decide +kernel, rfl, by decide +kernel, by decide +kernel⟩, by decide +kernel, by decide +kernel, by decide +kernel⟩
/-! _law_menu -/
abbrev sq_menu : Stmt := top 80
abbrev nq_menu : List Str := ["box", "word", "own"]
abbrev lq_menu : List (Str × KN) := [("box", .loc), ("word", .loc), ("own", .loc), ("_law_ids", .glob), ("_law_labels", .glob), ("_law_entries", .glob), ("_law_fractions", .glob), ("_law_names", .glob), ("_law_answers", .glob)]
theorem mq_menu : Nms sq_menu nq_menu ["box", "word", "own"] lq_menu := ⟨⟨rfl, rfl, rfl, by decide +kernel, rfl, by decide +kernel, by decide +kernel⟩, by decide +kernel, by decide +kernel, by decide +kernel⟩
/-! _law_whole -/
abbrev sq_whole : Stmt := top 81
abbrev nq_whole : List Str := ["value", "least"]
abbrev lq_whole : List (Str × KN) := [("value", .loc), ("least", .loc), ("isinstance", .glob), ("int", .glob), ("bool", .glob)]
theorem mq_whole : Nms sq_whole nq_whole ["value", "least"] lq_whole := ⟨⟨rfl, rfl, rfl, by decide +kernel, rfl, by decide +kernel, by decide +kernel⟩, by decide +kernel, by decide +kernel, by decide +kernel⟩
/-! _law_size -/
abbrev sq_size : Stmt := top 82
abbrev nq_size : List Str := ["value", "many"]
abbrev lq_size : List (Str × KN) := [("value", .loc), ("many", .loc), ("isinstance", .glob), ("tuple", .glob), ("len", .glob)]
theorem mq_size : Nms sq_size nq_size ["value", "many"] lq_size := ⟨⟨rfl, rfl, rfl, by decide +kernel, rfl, by decide +kernel, by decide +kernel⟩, by decide +kernel, by decide +kernel, by decide +kernel⟩
/-! _law_is_node -/
abbrev sq_is_nodeL : Stmt := top 83
abbrev nq_is_nodeL : List Str := ["value"]
abbrev lq_is_nodeL : List (Str × KN) := [("value", .loc), ("_law_whole", .glob)]
theorem mq_is_nodeL : Nms sq_is_nodeL nq_is_nodeL ["value"] lq_is_nodeL := ⟨⟨rfl, rfl, rfl, by decide +kernel, rfl, by decide +kernel, by decide +kernel⟩, by decide +kernel, by decide +kernel, by decide +kernel⟩
/-! _law_is_id -/
abbrev sq_is_idL : Stmt := top 84
abbrev nq_is_idL : List Str := ["value"]
abbrev lq_is_idL : List (Str × KN) := [("value", .loc), ("_law_size", .glob), ("_law_is_node", .glob), ("_law_whole", .glob)]
theorem mq_is_idL : Nms sq_is_idL nq_is_idL ["value"] lq_is_idL := ⟨⟨rfl, rfl, rfl, by decide +kernel, rfl, by decide +kernel, by decide +kernel⟩, by decide +kernel, by decide +kernel, by decide +kernel⟩
/-! _law_is_label -/
abbrev sq_is_labelL : Stmt := top 85
abbrev nq_is_labelL : List Str := ["value", "sign"]
abbrev lq_is_labelL : List (Str × KN) := [("value", .loc), ("isinstance", .glob), ("str", .glob), ("len", .glob)]
theorem mq_is_labelL : Nms sq_is_labelL nq_is_labelL ["value"] lq_is_labelL := ⟨⟨rfl, rfl, rfl, by decide +kernel, rfl, by decide +kernel, by decide +kernel⟩, by decide +kernel, by decide +kernel, by decide +kernel⟩
abbrev lq_is_labelL_c0 : List (Str × KN) := [("sign", .loc)]
/-! _law_is_name -/
abbrev sq_is_nameL : Stmt := top 86
abbrev nq_is_nameL : List Str := ["value", "label"]
abbrev lq_is_nameL : List (Str × KN) := [("value", .loc), ("isinstance", .glob), ("tuple", .glob), ("len", .glob)]
theorem mq_is_nameL : Nms sq_is_nameL nq_is_nameL ["value"] lq_is_nameL := ⟨⟨rfl, rfl, rfl, by decide +kernel, rfl, by decide +kernel, by decide +kernel⟩, by decide +kernel, by decide +kernel, by decide +kernel⟩
abbrev lq_is_nameL_c0 : List (Str × KN) := [("label", .loc), ("_law_is_label", .glob)]
/-! _law_is_fraction -/
abbrev sq_is_fractionL : Stmt := top 87
abbrev nq_is_fractionL : List Str := ["value"]
abbrev lq_is_fractionL : List (Str × KN) := [("value", .loc), ("_law_size", .glob), ("_law_whole", .glob), ("_law_gcd", .glob), ("abs", .glob)]
theorem mq_is_fractionL : Nms sq_is_fractionL nq_is_fractionL ["value"] lq_is_fractionL := ⟨⟨rfl, rfl, rfl, by decide +kernel, rfl, by decide +kernel, by decide +kernel⟩, by decide +kernel, by decide +kernel, by decide +kernel⟩
/-! _law_is_plain -/
abbrev sq_is_plain : Stmt := top 88
abbrev nq_is_plain : List Str := ["value"]
abbrev lq_is_plain : List (Str × KN) := [("value", .loc), ("_law_size", .glob), ("isinstance", .glob), ("str", .glob), ("_law_whole", .glob), ("_law_is_name", .glob)]
theorem mq_is_plain : Nms sq_is_plain nq_is_plain ["value"] lq_is_plain := ⟨⟨rfl, rfl, rfl, by decide +kernel, rfl, by decide +kernel, by decide +kernel⟩, by decide +kernel, by decide +kernel, by decide +kernel⟩
/-! _law_is_entry -/
abbrev sq_is_entryL : Stmt := top 89
abbrev nq_is_entryL : List Str := ["value", "row", "one", "two"]
abbrev lq_is_entryL : List (Str × KN) := [("value", .loc), ("_law_is_plain", .glob), ("_law_size", .glob), ("isinstance", .glob), ("str", .glob), ("_law_is_node", .glob), ("tuple", .glob), ("len", .glob), ("row", .loc), ("_law_is_label", .glob), ("zip", .glob)]
theorem mq_is_entryL : Nms sq_is_entryL nq_is_entryL ["value"] lq_is_entryL := ⟨⟨rfl, rfl, rfl, by decide +kernel, rfl, by decide +kernel, by decide +kernel⟩, by decide +kernel, by decide +kernel, by decide +kernel⟩
abbrev lq_is_entryL_c0 : List (Str × KN) := [("one", .loc), ("two", .loc)]
/-! _law_is_answer -/
abbrev sq_is_answerL : Stmt := top 90
abbrev nq_is_answerL : List Str := ["value", "what", "is_what", "name"]
abbrev lq_is_answerL : List (Str × KN) := [("value", .loc), ("_law_size", .glob), ("isinstance", .glob), ("tuple", .glob), ("len", .glob), ("str", .glob), ("what", .loc), ("is_what", .loc), ("_law_whole", .glob), ("_law_is_node", .glob), ("_law_is_id", .glob)]
theorem mq_is_answerL : Nms sq_is_answerL nq_is_answerL ["value"] lq_is_answerL := ⟨⟨rfl, rfl, rfl, by decide +kernel, rfl, by decide +kernel, by decide +kernel⟩, by decide +kernel, by decide +kernel, by decide +kernel⟩
abbrev lq_is_answerL_c0 : List (Str × KN) := [("name", .loc), ("_law_is_name", .glob)]
/-! _law_may_stand -/
abbrev sq_may_stand : Stmt := top 91
abbrev nq_may_stand : List Str := ["word", "value"]
abbrev lq_may_stand : List (Str × KN) := [("word", .loc), ("value", .loc), ("_law_is_node", .glob), ("_law_is_id", .glob), ("_law_size", .glob), ("_law_is_label", .glob), ("_law_is_entry", .glob), ("_law_is_fraction", .glob), ("_law_is_name", .glob), ("_law_whole", .glob), ("_law_is_answer", .glob)]
theorem mq_may_stand : Nms sq_may_stand nq_may_stand ["word", "value"] lq_may_stand := ⟨⟨rfl, rfl, rfl, by decide +kernel, rfl, by decide +kernel, by decide +kernel⟩, by decide +kernel, by decide +kernel, by decide +kernel⟩
/-! _law_is_deed -/
abbrev sq_is_deedL : Stmt := top 92
abbrev nq_is_deedL : List Str := ["value", "words", "parts", "word", "part"]
abbrev lq_is_deedL : List (Str × KN) := [("value", .loc), ("words", .loc), ("_law_words", .glob), ("isinstance", .glob), ("tuple", .glob), ("len", .glob), ("str", .glob), ("parts", .loc), ("zip", .glob)]
theorem mq_is_deedL : Nms sq_is_deedL nq_is_deedL ["value"] lq_is_deedL := ⟨⟨rfl, rfl, rfl, by decide +kernel, rfl, by decide +kernel, by decide +kernel⟩, by decide +kernel, by decide +kernel, by decide +kernel⟩
abbrev lq_is_deedL_c0 : List (Str × KN) := [("word", .loc), ("part", .loc), ("_law_may_stand", .glob)]
/-! _law_fault -/
abbrev sq_fault : Stmt := top 93
abbrev nq_fault : List Str := ["value"]
abbrev lq_fault : List (Str × KN) := [("value", .loc), ("_law_size", .glob), ("_law_is_id", .glob), ("_law_is_fraction", .glob), ("_law_is_deed", .glob)]
theorem mq_fault : Nms sq_fault nq_fault ["value"] lq_fault := ⟨⟨rfl, rfl, rfl, by decide +kernel, rfl, by decide +kernel, by decide +kernel⟩, by decide +kernel, by decide +kernel, by decide +kernel⟩
/-! _law_bad -/
abbrev sq_bad : Stmt := top 94
abbrev nq_bad : List Str := ["error", "some"]
abbrev lq_bad : List (Str × KN) := [("error", .loc), ("some", .loc), ("isinstance", .glob), ("BadDeed", .glob), ("BadFraction", .glob), ("BadLabel", .glob), ("BadName", .glob), ("BadOctets", .glob), ("BadRun", .glob), ("BadText", .glob), ("BadView", .glob), ("Refused", .glob), ("OwnError", .glob)]
theorem mq_bad : Nms sq_bad nq_bad ["error"] lq_bad := ⟨⟨rfl, rfl, rfl, by decide +kernel, rfl, by decide +kernel, by decide +kernel⟩, by decide +kernel, by decide +kernel, by decide +kernel⟩
/-! _law_event_told -/
abbrev sq_event_told : Stmt := top 95
abbrev nq_event_told : List Str := ["value", "e"]
abbrev lq_event_told : List (Str × KN) := [("value", .loc), ("check_event", .glob), ("BadEvent", .glob), ("e", .loc), ("isinstance", .glob), ("BadRoster", .glob), ("_law_bad", .glob)]
theorem mq_event_told : Nms sq_event_told nq_event_told ["value"] lq_event_told := ⟨⟨rfl, rfl, rfl, by decide +kernel, rfl, by decide +kernel, by decide +kernel⟩, by decide +kernel, by decide +kernel, by decide +kernel⟩
/-! _law_entry_told -/
abbrev sq_entry_told : Stmt := top 96
abbrev nq_entry_told : List Str := ["value", "e"]
abbrev lq_entry_told : List (Str × KN) := [("value", .loc), ("check_entry", .glob), ("BadEvent", .glob), ("e", .loc), ("isinstance", .glob), ("BadRoster", .glob), ("_law_bad", .glob)]
theorem mq_entry_told : Nms sq_entry_told nq_entry_told ["value"] lq_entry_told := ⟨⟨rfl, rfl, rfl, by decide +kernel, rfl, by decide +kernel, by decide +kernel⟩, by decide +kernel, by decide +kernel, by decide +kernel⟩
/-! _law_roster_told -/
abbrev sq_roster_told : Stmt := top 97
abbrev nq_roster_told : List Str := ["value", "e"]
abbrev lq_roster_told : List (Str × KN) := [("value", .loc), ("check_roster", .glob), ("BadRoster", .glob), ("e", .loc), ("isinstance", .glob), ("BadEvent", .glob), ("_law_bad", .glob)]
theorem mq_roster_told : Nms sq_roster_told nq_roster_told ["value"] lq_roster_told := ⟨⟨rfl, rfl, rfl, by decide +kernel, rfl, by decide +kernel, by decide +kernel⟩, by decide +kernel, by decide +kernel, by decide +kernel⟩
/-! _law_base_told -/
abbrev sq_base_told : Stmt := top 98
abbrev nq_base_told : List Str := ["value", "e"]
abbrev lq_base_told : List (Str × KN) := [("value", .loc), ("check_roster", .glob), ("OwnError", .glob), ("e", .loc), ("isinstance", .glob), ("BadRoster", .glob), ("BadEvent", .glob), ("ValueError", .glob)]
theorem mq_base_told : Nms sq_base_told nq_base_told ["value"] lq_base_told := ⟨⟨rfl, rfl, rfl, by decide +kernel, rfl, by decide +kernel, by decide +kernel⟩, by decide +kernel, by decide +kernel, by decide +kernel⟩
/-! _law_due -/
abbrev sq_due : Stmt := top 99
abbrev nq_due : List Str := ["value", "fault"]
abbrev lq_due : List (Str × KN) := [("value", .loc), ("fault", .loc)]
theorem mq_due : Nms sq_due nq_due ["value", "fault"] lq_due := ⟨⟨rfl, rfl, rfl, by decide +kernel, rfl, by decide +kernel, by decide +kernel⟩, by decide +kernel, by decide +kernel, by decide +kernel⟩
/-! _law_asked -/
abbrev sq_asked : Stmt := top 100
abbrev nq_asked : List Str := ["value"]
abbrev lq_asked : List (Str × KN) := [("value", .loc), ("_law_same", .glob), ("_law_event_told", .glob), ("_law_due", .glob), ("_law_fault", .glob)]
theorem mq_asked : Nms sq_asked nq_asked ["value"] lq_asked := ⟨⟨rfl, rfl, rfl, by decide +kernel, rfl, by decide +kernel, by decide +kernel⟩, by decide +kernel, by decide +kernel, by decide +kernel⟩
/-! _law_swept -/
abbrev sq_swept : Stmt := top 101
abbrev nq_swept : List Str := ["box", "word", "event", "own", "reading", "deed", "value", "place", "part"]
abbrev lq_swept : List (Str × KN) := [("box", .loc), ("word", .loc), ("event", .loc), ("_law_id", .glob), ("_law_fraction", .glob), ("_law_deed", .glob), ("own", .loc), ("reading", .loc), ("deed", .loc), ("value", .loc), ("list", .glob), ("_law_asked", .glob), ("place", .loc), ("part", .loc), ("enumerate", .glob), ("_law_words", .glob), ("_law_menu", .glob)]
theorem mq_swept : Nms sq_swept nq_swept ["box", "word"] lq_swept := ⟨⟨rfl, rfl, rfl, by decide +kernel, rfl, by decide +kernel, by decide +kernel⟩, by decide +kernel, by decide +kernel, by decide +kernel⟩
/-! _law_ends -/
abbrev sq_ends : Stmt := top 102
abbrev nq_ends : List Str := ["box", "deed", "value"]
abbrev lq_ends : List (Str × KN) := [("box", .loc), ("deed", .loc), ("_law_deed", .glob), ("_law_pick", .glob), ("sorted", .glob), ("_law_words", .glob), ("value", .loc), ("_law_ids", .glob), ("_law_id", .glob), ("_law_asked", .glob), ("_law_fraction", .glob), ("_law_fractions", .glob), ("_law_entries", .glob), ("_law_entry", .glob), ("_law_same", .glob), ("_law_entry_told", .glob), ("_law_due", .glob), ("_law_is_entry", .glob)]
theorem mq_ends : Nms sq_ends nq_ends ["box"] lq_ends := ⟨⟨rfl, rfl, rfl, by decide +kernel, rfl, by decide +kernel, by decide +kernel⟩, by decide +kernel, by decide +kernel, by decide +kernel⟩
/-! _law_rate -/
abbrev sq_rate : Stmt := top 103
abbrev nq_rate : List Str := ["box", "low"]
abbrev lq_rate : List (Str × KN) := [("box", .loc), ("low", .loc), ("_law_pick", .glob), ("_law_take", .glob)]
theorem mq_rate : Nms sq_rate nq_rate ["box"] lq_rate := ⟨⟨rfl, rfl, rfl, by decide +kernel, rfl, by decide +kernel, by decide +kernel⟩, by decide +kernel, by decide +kernel, by decide +kernel⟩
/-! _law_rosters -/
abbrev sq_rosters : Stmt := top 104
abbrev nq_rosters : List Str := ["box", "pairs", "many", "long", "value", "low", "high", "pair", "place", "late", "spoilt", "turn"]
abbrev lq_rosters : List (Str × KN) := [("box", .cell), ("pairs", .loc), ("range", .glob), ("_law_pick", .glob), ("_law_take", .glob), ("_law_same", .glob), ("_law_roster_told", .glob), ("tuple", .glob), ("_law_due", .glob), ("many", .loc), ("len", .glob), ("long", .loc), ("_law_base_told", .glob), ("value", .loc), ("list", .glob), ("low", .loc), ("high", .loc), ("_law_rate", .glob), ("pair", .loc), ("str", .glob), ("place", .loc), ("late", .loc), ("spoilt", .loc), ("min", .glob)]
theorem mq_rosters : Nms sq_rosters nq_rosters ["box"] lq_rosters := ⟨⟨rfl, rfl, rfl, by decide +kernel, rfl, by decide +kernel, by decide +kernel⟩, by decide +kernel, by decide +kernel, by decide +kernel⟩
abbrev lq_rosters_c0 : List (Str × KN) := [("turn", .loc), ("_law_rate", .glob), ("box", .cap)]
abbrev lq_rosters_c1 : List (Str × KN) := [("turn", .loc), ("_law_rate", .glob), ("box", .cap)]
/-! law -/
abbrev sq_law : Stmt := top 105
abbrev nq_law : List Str := ["script", "words", "box", "first", "turn", "word"]
abbrev lq_law : List (Str × KN) := [("script", .loc), ("words", .loc), ("sorted", .glob), ("_law_words", .glob), ("box", .loc), ("_law_box", .glob), ("first", .loc), ("_law_take", .glob), ("turn", .loc), ("range", .glob), ("_law_swept", .glob), ("int", .glob), ("word", .loc), ("_law_asked", .glob), ("_law_id", .glob), ("_law_fraction", .glob), ("_law_deed", .glob), ("_law_ends", .glob), ("_law_rosters", .glob)]
theorem mq_law : Nms sq_law nq_law ["script"] lq_law := ⟨⟨rfl, rfl, rfl, by decide +kernel, rfl, by decide +kernel, by decide +kernel⟩, by decide +kernel, by decide +kernel, by decide +kernel⟩
end K12
namespace K12
open PySem PySem.Spec PyProof.Rows L2 GT
local macro_rules | `(tactic| walk_at "gm") => `(tactic| with_reducible (repeat (first | exact List.mem_cons_self | apply List.mem_cons_of_mem)))
local macro_rules | `(tactic| walk_at "gs") => `(tactic| with_reducible (repeat (first | exact Slot.here | exact Put.here | apply Slot.there | apply Put.there)))
local macro_rules | `(tactic| walk_at "gCall") => `(tactic| first
  | (show RE _ (.Call (.Name "len" _) _ _ _) _ _ _; refine re_c_len (by assumption) (by walk_at "gm") (by assumption) ?_)
  | (show RE _ (.Call (.Name "isinstance" _) _ _ _) _ _ _; refine re_c_isinstance (by assumption) (by walk_at "gm") (by assumption) ?_)
  | (show RE _ (.Call (.Name "int" _) _ _ _) _ _ _; refine re_c_int (by assumption) (by walk_at "gm") (by assumption) ?_)
  | (show RE _ (.Call (.Name "abs" _) _ _ _) _ _ _; refine re_c_abs (by assumption) (by walk_at "gm") (by assumption) ?_)
  | (show RE _ (.Call (.Name "min" _) _ _ _) _ _ _; refine re_c_min (by assumption) (by walk_at "gm") (by assumption) ?_)
  | (show RE _ (.Call (.Name "max" _) _ _ _) _ _ _; refine re_c_max (by assumption) (by walk_at "gm") (by assumption) ?_)
  | (show RE _ (.Call (.Name "tuple" _) _ _ _) _ _ _; refine re_c_tuple (by assumption) (by walk_at "gm") (by assumption) ?_)
  | (show RE _ (.Call (.Name "list" _) _ _ _) _ _ _; refine re_c_list (by assumption) (by walk_at "gm") (by assumption) ?_))
local macro_rules | `(tactic| walk_at "gName") => `(tactic| first
  | refine re_name (by assumption) (by walk_at "gs") (by walk_at "gm") (by constructor) ?_
  | (show RE _ (.Name "int" _) _ _ _; refine re_ty_int (by assumption) (by walk_at "gm") (by assumption) ?_)
  | (show RE _ (.Name "bool" _) _ _ _; refine re_ty_bool (by assumption) (by walk_at "gm") (by assumption) ?_)
  | (show RE _ (.Name "str" _) _ _ _; refine re_ty_str (by assumption) (by walk_at "gm") (by assumption) ?_)
  | (show RE _ (.Name "tuple" _) _ _ _; refine re_ty_tuple (by assumption) (by walk_at "gm") (by assumption) ?_)
  | (show RE _ (.Name "list" _) _ _ _; refine re_ty_list (by assumption) (by walk_at "gm") (by assumption) ?_)
  | (show RE _ (.Name "ValueError" _) _ _ _; refine re_ty_ValueError (by assumption) (by walk_at "gm") (by assumption) ?_))
local macro_rules | `(tactic| walk_at "gRE") => `(tactic| first
  | (show RE _ (.Name _ _) _ _ _; walk_at "gName")
  | (show RE _ (.Constant _ _ _) _ _ _; first | refine re_int ?_ | refine re_str ?_ | refine re_non ?_ | refine re_bl ?_)
  | (show RE _ (.BinOp _ _ _ _) _ _ _; refine re_bin ?_)
  | (show RE _ (.Compare _ [_] [_] _) _ _ _; refine re_cmp ?_)
  | (show RE _ (.Compare _ [_, _] [_, _] _) _ _ _; refine re_chain ?_)
  | (show RE _ (.Subscript _ (.Slice _ _ _ _) _) _ _ _; refine re_slice ?_)
  | (show RE _ (.Subscript _ _ _) _ _ _; refine re_ix ?_)
  | (show RE _ (.Call (.Name _ _) _ _ _) _ _ _; walk_at "gCall")
  | (show RE _ (.Tuple _ _ _) _ _ _; refine re_tup ?_)
  | (show RE _ (.List _ _) _ _ _; refine re_lst ?_)
  | (show RE _ (.IfExp _ _ _ _) _ _ _; refine re_if ?_)
  | (show RE _ (.BoolOp _ _ _) _ _ _; first | refine re_one ?_ | refine re_and ?_ | refine re_or ?_)
  | (show RE _ (.UnaryOp _ _ _) _ _ _; first | refine re_not ?_ | refine re_neg ?_))
local macro_rules | `(tactic| walk_at "gRT") => `(tactic| first
  | (show RT _ (.Compare _ [_] [_] _) _ _ _; refine rt_cmp ?_)
  | (show RT _ (.Compare _ [_, _] [_, _] _) _ _ _; refine rt_chain ?_)
  | (show RT _ (.BoolOp _ _ _) _ _ _; refine rt_bool ?_)
  | (show RT _ (.UnaryOp .Not _ _) _ _ _; refine rt_not ?_)
  | (show RT _ (.Call _ _ _ _) _ _ _; refine rt_val ?_)
  | (show RT _ (.Name _ _) _ _ _; refine rt_val ?_))
local macro_rules | `(tactic| walk_at "gRS") => `(tactic| first
  | (show RS _ (.Return (some _) _) _ _ _; refine rs_ret ?_)
  | (show RS _ (.If _ _ _ _) _ _ _; refine rs_if ?_)
  | (show RS _ (.Assign [.Subscript _ _ _] _ _) _ _ _; refine rs_sub ?_)
  | (show RS _ (.Assign [.Name _ _] (.ListComp _ _ _ _) _) _ _ _; fail)
  | (show RS _ (.Assign [.Name _ _] _ _) _ _ _; refine rs_set (by assumption) (by walk_at "gm") (by constructor) (by walk_at "gm") ?_)
  | (show RS _ (.Expr _ _) _ _ _; refine rs_expr ?_)
  | (show RS _ (.Pass _) _ _ _; refine rs_pass ?_)
  | (show RS _ (.Break _) _ _ _; refine rs_break ?_)
  | (show RS _ (.Continue _) _ _ _; refine rs_continue ?_))
local macro_rules | `(tactic| walk_at "gV") => `(tactic| first
  | (show OpV _ _ _ _ _ _; first | refine ov_add ?_ | refine ov_sub ?_ | refine ov_mulR (by decide) ?_ | refine ov_mulL (by decide) ?_ | refine ov_mod (by first | decide | assumption) ?_)
  | (show CpV _ _ _ _ _ _; first | refine cv_lt ?_ | refine cv_le ?_ | refine cv_gt ?_ | refine cv_ge ?_ | refine cv_eqI ?_ | refine cv_neI ?_ | refine cv_eqS ?_ | refine cv_neS ?_ | refine cv_isN_n ?_ | refine cv_isN_s ?_ | refine cv_isN_i ?_ | refine cv_isN_b ?_ | refine cv_isN_r ?_ | refine cv_notN_n ?_ | refine cv_notN_s ?_ | refine cv_notN_i ?_ | refine cv_notN_b ?_ | refine cv_notN_r ?_ | refine cv_ltS ?_ | refine cv_gtS ?_ | refine cv_leS ?_ | refine cv_geS ?_ | refine cv_isB_b ?_ | refine cv_isB_i ?_ | refine cv_isB_s ?_ | refine cv_isB_n ?_)
  | (show IxV _ _ _ _ _; first | refine iv_list (by assumption) (by with_unfolding_all exact rfl) ?_ | refine iv_list (SqL.of (by assumption)) (by with_unfolding_all exact rfl) ?_ | refine iv_tup (SqT.of (by assumption)) (by with_unfolding_all exact rfl) ?_)
  | (show ClV _ _ _ _ _; first | refine lv_isT_n (b := false) (by decide +kernel) ?_ | refine lv_isT_n (b := true) (by decide +kernel) ?_ | refine lv_isT_b (b := false) (by decide +kernel) ?_ | refine lv_isT_b (b := true) (by decide +kernel) ?_ | refine lv_isT_i (b := false) (by decide +kernel) ?_ | refine lv_isT_i (b := true) (by decide +kernel) ?_ | refine lv_isT_s (b := false) (by decide +kernel) ?_ | refine lv_isT_s (b := true) (by decide +kernel) ?_ | refine lv_isT_l (b := false) (by assumption) (by decide +kernel) ?_ | refine lv_isT_l (b := true) (by assumption) (by decide +kernel) ?_ | refine lv_isT_t (b := false) (by assumption) (by decide +kernel) ?_ | refine lv_isT_t (b := true) (by assumption) (by decide +kernel) ?_ | refine lv_int ?_ | refine lv_abs ?_ | refine lv_max (Ctx.calm (by assumption)) ?_ | refine lv_min (Ctx.calm (by assumption)) ?_))
local macro_rules | `(tactic| walk_at "e1") => `(tactic| with_reducible first
  | (show RE _ _ _ _ _; walk_at "gRE")
  | (show RA _ _ _ _ _; first | refine ra_cons ?_ | refine ra_nil ?_)
  | (show RT _ _ _ _ _; walk_at "gRT")
  | (show RW _ _ _ _ _; first | refine rw_and1 ?_ | refine rw_or1 ?_ | refine rw_and ?_ | refine rw_or ?_)
  | (show RS _ _ _ _ _; walk_at "gRS")
  | refine rb_nil ?_
  | (show RO _ _ _ _ _; first | refine ro_none ?_ | refine ro_some ?_)
  | (show if true = true then _ else _; refine iteT ?_)
  | (show if false = true then _ else _; refine iteF ?_)
  | (show if (!true) = true then _ else _; refine iteNT ?_)
  | (show if (!false) = true then _ else _; refine iteNF ?_)
  | walk_at "gV"
  | refine ⟨_, rfl, ?_⟩
  | refine ⟨_, by walk_at "gs", ?_⟩)
local macro_rules | `(tactic| walk_at "e") => `(tactic| repeat walk_at "e1")
local macro_rules | `(tactic| walk_at "g1") => `(tactic| first | walk_at "e1" | with_reducible refine rb_cons ?_)
local macro_rules | `(tactic| walk_at "g") => `(tactic| repeat walk_at "g1")
local macro_rules | `(tactic| walk_at "g0") => `(tactic| (refine rb_cons ?_; walk_at "g"))
local macro_rules | `(tactic| walk_at "e0") => `(tactic| (refine rb_cons ?_; walk_at "e"))
local macro_rules | `(tactic| walk_at "de") => `(tactic| repeat (first | exact DEs.nil | apply DEs.cons | exact DE.non | exact DE.bl | exact DE.int | exact DE.str | exact DE.neg | apply DE.tupS | apply DE.lstS | apply DE.sub | apply DE.add | apply DE.mul | apply DE.pow | exact ⟨by decide, by decide, by decide⟩ | (show List.length _ ≤ 1000; decide) | decide))
local macro_rules | `(tactic| walk_at "gd") => `(tactic| repeat (first | exact gdl_nil | refine gdl_cons ?_ ?_ | exact Gd.non | exact Gd.bl | exact Gd.int (by decide +kernel) | exact Gd.str (by decide +kernel) (by decide +kernel) | refine Gd.tup (by simp) ?_ | refine Gd.lst (by simp) ?_))
local macro_rules | `(tactic| walk_at "evI") => `(tactic| first
  | exact ev_de (by walk_at "de") ⟨_, rfl, by decide +kernel, by decide +kernel⟩
  | exact Ev.mono (ev_take (by assumption) (by assumption) (by decide) (by walk_at "gm") (by walk_at "gs") (by walk_at "gm") (by constructor) (by walk_at "de") (by decide +kernel) (by decide +kernel)) (ir_mono (by decide +kernel) (by decide +kernel))
  | exact Ev.mono (ev_addCI (by walk_at "de") (ev_take (by assumption) (by assumption) (by decide) (by walk_at "gm") (by walk_at "gs") (by walk_at "gm") (by constructor) (by walk_at "de") (by decide +kernel) (by decide +kernel)) (Int.le_refl _) (Int.le_refl _)) (ir_mono (by decide +kernel) (by decide +kernel))
  | exact Ev.mono (ev_subIC (ev_take (by assumption) (by assumption) (by decide) (by walk_at "gm") (by walk_at "gs") (by walk_at "gm") (by constructor) (by walk_at "de") (by decide +kernel) (by decide +kernel)) (by walk_at "de") (Int.le_refl _) (Int.le_refl _)) (ir_mono (by decide +kernel) (by decide +kernel)))
local macro_rules | `(tactic| walk_at "evP") => `(tactic| (refine ev_pick (by assumption) (by assumption) (by decide) (by walk_at "gm") (by walk_at "gs") (by walk_at "gm") (by constructor) (ev_items ?_)))
local macro_rules | `(tactic| walk_at "evs") => `(tactic| repeat' (first | exact evs_nil | refine evs_cons ?_ ?_))
local macro_rules | `(tactic| walk_at "ev1") => `(tactic| first
  | exact ev_de (by walk_at "de") (by walk_at "gd")
  | exact ev_name (by assumption) (by walk_at "gs") (by walk_at "gm") (by walk_at "gm") (by constructor) (gd_up (by assumption) _ (by decide))
  | refine Ev.tg (ev_tup (l := 200) ?_)
  | refine Ev.lg (ev_lst (l := 200) ?_)
  | exact evs_nil | refine evs_cons ?_ ?_)
local macro_rules | `(tactic| walk_at "ev") => `(tactic| repeat' walk_at "ev1")
local macro_rules | `(tactic| walk_at "ie") => `(tactic| repeat (first | walk_at "e1" | refine ov_pow (by exact ⟨by decide, by decide, by decide⟩) ?_ | refine ov_mulL (by decide) ?_))
local macro_rules | `(tactic| walk_at "evT") => `(tactic| exact ev_takeX (by assumption) (by assumption) (by decide) (by walk_at "gm") (by walk_at "gs") (by walk_at "gm") (by constructor) (fun H Q q => by walk_at "ie"; exact q) (by decide +kernel) (by decide +kernel))
local macro_rules | `(tactic| walk_at "nl") => `(tactic| repeat (first | exact nol_nil | refine nol_cons ?_ ?_ | exact NoL.non | exact NoL.bl | exact NoL.int | exact NoL.str | refine NoL.tup ?_))
local macro_rules | `(tactic| walk_at "evB") => `(tactic| first
  | exact ev_de (by walk_at "de") ⟨_, rfl, by decide +kernel, by decide +kernel⟩
  | exact Ev.mono (by walk_at "evT") (ir_mono (by decide +kernel) (by decide +kernel))
  | exact Ev.mono (ev_addCI (by walk_at "de") (by walk_at "evT") (Int.le_refl _) (Int.le_refl _)) (ir_mono (by decide +kernel) (by decide +kernel)))
local macro_rules | `(tactic| walk_at "evN") => `(tactic| first
  | (show Ev _ _ _ _ _ _ (.Call (.Name "_law_take" _) _ _ _); exact Ev.mono (by walk_at "evT") (gn_IR (by decide +kernel) (by decide +kernel)))
  | (show Ev _ _ _ _ _ _ (.Name _ _); exact ev_name (by assumption) (by walk_at "gs") (by walk_at "gm") (by walk_at "gm") (by constructor) (by first | assumption | exact gn_up (by assumption) (by decide)))
  | (show Ev _ _ _ _ _ _ (.Call (.Name "_law_id" _) _ _ _); exact Ev.mono (ev_drN (by assumption) (by assumption) (by decide) (by walk_at "gm") (by walk_at "gs") (by walk_at "gm") (by constructor) fun d hd => gd_id hd) fun d r => r.2)
  | (show Ev _ _ _ _ _ _ (.Call (.Name "_law_name" _) _ _ _); exact Ev.mono (ev_drN (by assumption) (by assumption) (by decide) (by walk_at "gm") (by walk_at "gs") (by walk_at "gm") (by constructor) fun d hd => gd_nam hd) fun d r => r.2)
  | (show Ev _ _ _ _ _ _ (.Call (.Name "_law_label" _) _ _ _); exact Ev.mono (ev_drN (by assumption) (by assumption) (by decide) (by walk_at "gm") (by walk_at "gs") (by walk_at "gm") (by constructor) fun d hd => gd_lab hd) fun d r => r.2)
  | (show Ev _ _ _ _ _ _ (.Call _ _ _ _); exact Ev.mono (ev_drN (by assumption) (by assumption) (by decide) (by walk_at "gm") (by walk_at "gs") (by walk_at "gm") (by constructor) fun d hd => hd) fun d r => gn_up r.2 (by decide))
  | exact ev_de (by walk_at "de") ⟨by walk_at "gd", by walk_at "nl"⟩)
local macro_rules | `(tactic| walk_at "en1") => `(tactic| first
  | exact evs_nil
  | refine evs_cons ?_ ?_
  | (show Ev _ _ _ _ _ _ (.Call (.Name "_law_pick" _) _ _ _); refine ev_pick (by assumption) (by assumption) (by decide) (by walk_at "gm") (by walk_at "gs") (by walk_at "gm") (by constructor) (ev_items ?_))
  | (show Ev _ _ _ _ _ _ (.Call _ _ _ _); walk_at "evN")
  | (show Ev _ _ _ _ _ _ (.Name _ _); walk_at "evN")
  | (show Ev _ _ _ _ _ _ (.Constant _ _ _); exact ev_de (by walk_at "de") ⟨by walk_at "gd", by walk_at "nl"⟩)
  | (show Ev _ _ _ _ _ _ (.UnaryOp _ _ _); exact ev_de (by walk_at "de") ⟨by walk_at "gd", by walk_at "nl"⟩)
  | (show Ev _ _ _ _ _ _ (.BinOp _ .Pow _ _); exact ev_de (by walk_at "de") ⟨by walk_at "gd", by walk_at "nl"⟩)
  | (show Ev _ _ _ _ _ _ (.BinOp (.BinOp _ .Pow _ _) .Sub _ _); exact ev_de (by walk_at "de") ⟨by walk_at "gd", by walk_at "nl"⟩)
  | refine Ev.tn (ev_tupN ?_))
local macro_rules | `(tactic| walk_at "en") => `(tactic| repeat' walk_at "en1")
local macro_rules | `(tactic| walk_at "em1") => `(tactic| first
  | exact evs_nil
  | refine evs_cons ?_ ?_
  | (show Ev _ _ _ _ _ _ (.Name _ _); exact ev_name (by assumption) (by walk_at "gs") (by walk_at "gm") (by walk_at "gm") (by constructor) (by first | assumption | exact gd_up (by assumption) _ (by decide) | exact tg_up (by assumption) (by decide) (by decide) | exact lg_up (by assumption) (by decide) (by decide)))
  | (show Ev _ _ _ _ _ _ (.BinOp (.Name _ _) .Add (.Constant _ _ _) _); exact ev_ws (by assumption) (by walk_at "gs") (by walk_at "gm") (by constructor) (by assumption))
  | (show Ev _ _ _ _ _ (TG _ _) (.Subscript _ (.Slice _ _ _ _) _); refine ev_cut ?_ (fun H Q q => by walk_at "e"; exact q _) (fun H Q q => by walk_at "e"; exact q _))
  | (show Ev _ _ _ _ _ _ (.Subscript _ (.Slice _ _ _ _) _); refine Ev.tg (ev_cut (l := 60) ?_ (fun H Q q => by walk_at "e"; exact q _) (fun H Q q => by walk_at "e"; exact q _)))
  | (show Ev _ _ _ _ _ _ (.Call (.Name "list" _) _ _ _); refine Ev.lg (ev_list (l := 60) (by assumption) (by walk_at "gm") (by assumption) ?_))
  | (show Ev _ _ _ _ _ _ (.Subscript _ _ _); exact ev_ix0 (by assumption) (by walk_at "gs") (by walk_at "gm") (by walk_at "gm") (by constructor) (by assumption))
  | (show Ev _ _ _ _ _ _ (.Call (.Name "_law_id" _) _ _ _); exact Ev.mono (ev_drN (by assumption) (by assumption) (by decide) (by walk_at "gm") (by walk_at "gs") (by walk_at "gm") (by constructor) fun d hd => gd_id hd) fun d r => r.2.1)
  | (show Ev _ _ _ _ _ _ (.Call (.Name "_law_fraction" _) _ _ _); exact Ev.mono (ev_drN (by assumption) (by assumption) (by decide) (by walk_at "gm") (by walk_at "gs") (by walk_at "gm") (by constructor) fun d hd => gd_fr hd) fun d r => r.2.1)
  | (show Ev _ _ _ _ _ _ (.Call (.Name "_law_entry" _) _ _ _); exact Ev.mono (ev_drN (by assumption) (by assumption) (by decide) (by walk_at "gm") (by walk_at "gs") (by walk_at "gm") (by constructor) fun d hd => hd) fun d r => gd_up r.2.1 _ (by decide))
  | (show Ev _ _ _ _ _ _ (.Call (.Name "str" _) _ _ _); exact ev_str (by assumption) (by assumption) (by walk_at "gm") (by walk_at "gs") (by walk_at "gm") (by constructor) (by assumption))
  | (show Ev _ _ _ _ _ _ (.Call (.Name "_law_many_rows" _) _ _ _); exact Ev.mono (ev_nr (by assumption) (by assumption) (by decide) (by walk_at "gm") (by decide) (by decide)) fun d r => gd_up (gd_TG r.1 (by decide)) _ (by decide))
  | (show Ev _ _ _ _ _ _ (.Call (.Name "_law_many_rows" _) _ _ _); exact Ev.mono (ev_nr (by assumption) (by assumption) (by decide) (by walk_at "gm") (by decide) (by decide)) fun d r => tg_up r.1 (by decide) (by decide))
  | refine ev_lst ?_
  | refine ev_tup ?_
  | (show Ev _ _ _ _ _ _ (.Constant _ _ _); exact ev_de (by walk_at "de") (by walk_at "gd"))
  | (show Ev _ _ _ _ _ _ (.UnaryOp _ _ _); exact ev_de (by walk_at "de") (by walk_at "gd"))
  | (show Ev _ _ _ _ _ _ (.BinOp _ .Pow _ _); exact ev_de (by walk_at "de") (by walk_at "gd"))
  | (show Ev _ _ _ _ _ _ (.BinOp (.BinOp _ .Pow _ _) .Sub _ _); exact ev_de (by walk_at "de") (by walk_at "gd"))
  | refine Ev.tg (ev_tup (l := 60) ?_)
  | refine Ev.lg (ev_lst (l := 60) ?_)
  | refine ev_cat (l1 := 30) (l2 := 30) ?_ ?_
  | refine ev_cat (l1 := 10) (l2 := 10) ?_ ?_
  | refine ev_catL (l1 := 30) (l2 := 30) ?_ ?_
  | refine Ev.tg (ev_cat (l := 60) (l1 := 30) (l2 := 30) ?_ ?_)
  | refine Ev.tg (ev_rep (l := 60) (ev_one ?_) (by walk_at "de") (by decide) (by decide)))
local macro_rules | `(tactic| walk_at "em") => `(tactic| repeat' walk_at "em1")
local macro_rules | `(tactic| walk_at "ee1") => `(tactic| first
  | exact eve_nil
  | apply eve_cons
  | (show Ev _ _ _ _ _ _ (.Name _ _); exact eve_name (by assumption) (by walk_at "gs") (by walk_at "gm") (by walk_at "gm") (by constructor))
  | (show Ev _ _ _ _ _ _ (.Constant _ _ _); exact eve_de (by walk_at "de"))
  | (show Ev _ _ _ _ _ _ (.UnaryOp _ _ _); exact eve_de (by walk_at "de"))
  | (show Ev _ _ _ _ _ _ (.Call (.Name "str" _) _ _ _); exact eve_str (by assumption) (by assumption) (by walk_at "gm") (by walk_at "gs") (by walk_at "gm") (by constructor) (by omega))
  | (show Ev _ _ _ _ _ _ (.BinOp (.Name _ _) _ (.Constant _ _ _) _); exact eve_int (fun H Q q => by walk_at "e"; exact q))
  | apply eve_tup
  | apply eve_lst
  | (with_unfolding_all rfl)
  | decide)
local macro_rules | `(tactic| walk_at "ee") => `(tactic| repeat' walk_at "ee1")
theorem at_nat {α : Type} {xs : List α} {i : Nat} {v : α} (h : xs[i]? = some v) : atI xs (i : Int) = some v := by
  have h2 : i < xs.length := by
    rcases Nat.lt_or_ge i xs.length with z | z
    · exact z
    · rw [List.getElem?_eq_none z] at h; cases h
  unfold atI ixN
  rw [if_pos (Int.natCast_nonneg i), if_pos (by omega)]
  exact h
def badC (i c : Nat) : Bool := decide (i = 8) || (decide (c < 97) || decide (122 < c))
def tf : D → Option Int
  | .str s => if s.length = 0 then some (-1) else oN (ff badC 0 s.cps.toList)
  | _ => some (-1)
def badL (i : Nat) (d : D) : Bool := decide (i = 6) || (tf d).isSome
def nf : D → Option Int
  | .tup ds => if ds.length = 0 then some (-1) else oN (ff badL 0 ds)
  | _ => some (-1)
def Sm (d : D) : Prop := ∀ s, d = .str s → s.length ≤ 1000
def SmN (d : D) : Prop := ∀ ds, d = .tup ds → ds.length ≤ 1000 ∧ ∀ e ∈ ds, Sm e
theorem lt_a (ch : Nat) : decide ((⟨#[ch]⟩ : Str).cps.toList < ("a" : Str).cps.toList) = decide (ch < 97) := by
  have e : ("a" : Str).cps.toList = [97] := by decide +kernel
  rw [e]
  show decide ([ch] < [97]) = _
  rw [decide_eq_decide, List.cons_lt_cons_iff]
  simp
theorem gt_z (ch : Nat) : decide (("z" : Str).cps.toList < (⟨#[ch]⟩ : Str).cps.toList) = decide (122 < ch) := by
  have e : ("z" : Str).cps.toList = [122] := by decide +kernel
  rw [e]
  show decide ([122] < [ch]) = _
  rw [decide_eq_decide, List.cons_lt_cons_iff]
  simp
theorem len0 {s : Str} : s.length = 0 ↔ s = "" := by
  constructor
  · intro h
    have h2 : s.cps.size = 0 := h
    refine TL.ext_tl ?_
    have e : TL.tl ("" : Str) = [] := by decide +kernel
    rw [e]
    show s.cps.toList = []
    exact List.eq_nil_of_length_eq_zero (by simpa using h2)
  · rintro rfl
    decide +kernel
def spLF (K : PySem.W.Frag) : Sp := fun vs H Q _ => ∃ (B : Addr → Prop) (v : V) (d : D), vs = [v] ∧ Dt K B H v d ∧ Sm d ∧ ∀ H', Fr NoB H H' → Q (oI (tf d)) H'
theorem body_label_fault {X : Cx} (c : Ctx X nq_label_fault lq_label_fault 0) (zi : X.mg "isinstance" = none) (zs : X.mg "str" = none) (ze : X.mg "enumerate" = none) (gl : ∃ t, X.mg "LABEL_LETTERS" = some (.int 8 t)) {vs : List V} {H : Hp} {Q : VK} {E : XK} (h : spLF X.K vs H Q E) :
    RB X (defBody sq_label_fault) { nx := fun _ H' => Q .non H', rt := Q } (start nq_label_fault vs) H := by
  obtain ⟨B, v, d, rfl, hv, hs, q⟩ := h
  cases hv with
  | non =>
    show RB X (defBody sq_label_fault) _ [some .non, none, none] H
    walk_at "g0"
    exact q H Fr.refl
  | bl =>
    rename_i b
    show RB X (defBody sq_label_fault) _ [some (.bl b), none, none] H
    walk_at "g0"
    exact q H Fr.refl
  | int =>
    rename_i b
    show RB X (defBody sq_label_fault) _ [some (.int b), none, none] H
    walk_at "g0"
    exact q H Fr.refl
  | @lst a vs ds n t l hh =>
    show RB X (defBody sq_label_fault) _ [some (.ref a), none, none] H
    walk_at "g0"
    exact q H Fr.refl
  | @tup a vs ds n t l hh =>
    show RB X (defBody sq_label_fault) _ [some (.ref a), none, none] H
    walk_at "g0"
    exact q H Fr.refl
  | str =>
    rename_i s
    have s1000 := hs s rfl
    show RB X (defBody sq_label_fault) _ [some (.str s), none, none] H
    walk_at "e0"
    refine ite2 (fun e => ?_) (fun e => ?_)
    · walk_at "g"
      have e1 : tf (.str s) = some (-1) := if_pos (len0.mpr (of_decide_eq_true e))
      have q1 := q H Fr.refl
      rw [e1] at q1
      exact q1
    · walk_at "e"
      have ne : s.length ≠ 0 := fun z => by rw [len0] at z; simp [z] at e
      have q1 : ∀ H', Fr NoB H H' → Q (oI (oN (ff badC 0 s.cps.toList))) H' := fun H' f => by
        have e1 : tf (.str s) = oN (ff badC 0 s.cps.toList) := if_neg ne
        have q2 := q H' f
        rw [e1] at q2
        exact q2
      have es : s.cps.size = s.cps.toList.length := by simp
      refine rb_cons ?_
      refine rs_for_enumS c (by walk_at "gm") .loc (by walk_at "gm") (by walk_at "gm") .loc (by walk_at "gm") (by walk_at "gm") ze ?_
      walk_at "e"
      refine ⟨fun i σ H' => Fr NoB H H' ∧ ff badC 0 s.cps.toList = ff badC i (s.cps.toList.drop i) ∧ ∃ s1 s2 : Option V, σ = [some (.str s), s1, s2], ⟨Fr.refl, rfl, none, none, rfl⟩, fun _ _ _ _ _ => trivial, ?_, ?_⟩
      · rintro i a b σ H' T hi ea eb ⟨f, hff, s1, s2, rfl⟩ hT
        cases ea
        obtain ⟨ch, hc, rfl⟩ : ∃ ch, s.cps.toList[i]? = some ch ∧ V.str ⟨#[ch]⟩ = b := by
          have eb : Option.map (fun c => V.str ⟨#[c]⟩) s.cps[i]? = some b := eb
          cases hh : s.cps[i]? with
          | none => rw [hh] at eb; cases eb
          | some ch => rw [hh] at eb; exact ⟨ch, by simpa using hh, Option.some.inj eb⟩
        have f2 := f.trans (Fr.new (o := .tup [.int (i : Nat), .str ⟨#[ch]⟩]) hT)
        generalize upd H' T (.tup [.int (i : Nat), .str ⟨#[ch]⟩]) = H2 at f2
        have hst := ff_at (p := badC) hc
        have bad : badC i ch = true → Q (.int (i : Nat)) H2 := fun z => by
          have q2 := q1 H2 f2
          rw [hff, hst, if_pos z] at q2
          exact q2
        refine ⟨_, _, by walk_at "gs", by walk_at "gs", ?_⟩
        walk_at "e0"
        refine re_gint c (by walk_at "gm") gl ?_
        walk_at "e"
        refine ite2 (fun e1 => ?_) (fun e1 => ?_)
        · walk_at "g"
          exact bad (by unfold badC; rw [decide_eq_true (by have := of_decide_eq_true e1; omega)]; rfl)
        · walk_at "e"
          rw [lt_a]
          refine ite2 (fun e2 => ?_) (fun e2 => ?_)
          · walk_at "g"
            exact bad (by unfold badC; rw [e2]; simp)
          · walk_at "e"
            rw [gt_z]
            refine ite2 (fun e3 => ?_) (fun e3 => ?_)
            · walk_at "g"
              exact bad (by unfold badC; rw [e3]; simp)
            · walk_at "g"
              refine ⟨f2, ?_, _, _, rfl⟩
              have z : badC i ch = false := by
                unfold badC
                rw [Bool.eq_false_iff.mpr e2, Bool.eq_false_iff.mpr e3, decide_eq_false (fun z => e1 (decide_eq_true (by omega)))]
                rfl
              rw [hff, hst, if_neg (by rw [z]; exact Bool.false_ne_true)]
      · rintro σ H' ⟨f, hff, s1, s2, rfl⟩
        walk_at "g"
        have q2 := q1 H' f
        rw [hff, es, ff_end] at q2
        exact q2
def spIL (K : PySem.W.Frag) : Sp := fun vs H Q _ => ∃ (B : Addr → Prop) (v : V) (d : D), vs = [v] ∧ Dt K B H v d ∧ Sm d ∧ ∀ H', Fr NoB H H' → Q (.bl (tf d).isNone) H'
theorem body_is_label {X : Cx} (c : Ctx X nq_is_label lq_is_label 1) (dF : DefP X.prog X.w X.K X.mg X.base CX0 "label_fault" ["value"] 1 (spLF X.K)) {vs : List V} {H : Hp} {Q : VK} {E : XK} (h : spIL X.K vs H Q E) :
    RB X (defBody sq_is_label) { nx := fun _ H' => Q .non H', rt := Q } (start nq_is_label vs) H := by
  obtain ⟨B, v, d, rfl, hv, hs, q⟩ := h
  show RB X (defBody sq_is_label) _ [some v] H
  walk_at "e0"
  refine re_call c dF (by decide) (by walk_at "gm") ?_
  walk_at "e"
  refine ⟨B, v, d, rfl, hv, hs, fun H' f => ?_⟩
  have q1 := q H' f
  walk_at "e"
  cases hd : tf d with
  | none =>
    rw [hd] at q1
    show CpV _ _ V.non V.non _ _
    walk_at "g"
    exact q1
  | some i =>
    rw [hd] at q1
    show CpV _ _ (V.int i) V.non _ _
    walk_at "g"
    exact q1
def spNF (K : PySem.W.Frag) : Sp := fun vs H Q _ => ∃ (B : Addr → Prop) (v : V) (d : D), vs = [v] ∧ Dt K B H v d ∧ SmN d ∧ ∀ H', Fr NoB H H' → Q (oI (nf d)) H'
theorem body_name_fault {X : Cx} (c : Ctx X nq_name_fault lq_name_fault 2) (zi : X.mg "isinstance" = none) (zl : X.mg "len" = none) (zt : X.mg "tuple" = none) (ze : X.mg "enumerate" = none) (gl : ∃ t, X.mg "NAME_LABELS" = some (.int 6 t))
    (dI : DefP X.prog X.w X.K X.mg X.base CX0 "is_label" ["value"] 2 (spIL X.K)) {vs : List V} {H : Hp} {Q : VK} {E : XK} (h : spNF X.K vs H Q E) :
    RB X (defBody sq_name_fault) { nx := fun _ H' => Q .non H', rt := Q } (start nq_name_fault vs) H := by
  obtain ⟨B, v, d, rfl, hv, hs, q⟩ := h
  cases hv with
  | non =>
    show RB X (defBody sq_name_fault) _ [some .non, none, none] H
    walk_at "g0"
    exact q H Fr.refl
  | bl =>
    rename_i b
    show RB X (defBody sq_name_fault) _ [some (.bl b), none, none] H
    walk_at "g0"
    exact q H Fr.refl
  | int =>
    rename_i b
    show RB X (defBody sq_name_fault) _ [some (.int b), none, none] H
    walk_at "g0"
    exact q H Fr.refl
  | str =>
    rename_i b
    show RB X (defBody sq_name_fault) _ [some (.str b), none, none] H
    walk_at "g0"
    exact q H Fr.refl
  | @lst a vs ds n t l hh =>
    show RB X (defBody sq_name_fault) _ [some (.ref a), none, none] H
    walk_at "g0"
    exact q H Fr.refl
  | @tup a vs ds n t l hh =>
    obtain ⟨d1000, hsm⟩ := hs ds rfl
    show RB X (defBody sq_name_fault) _ [some (.ref a), none, none] H
    walk_at "e0"
    refine lv_lenT (SqT.of t) ?_
    walk_at "e"
    refine ite2 (fun e => ?_) (fun e => ?_)
    · walk_at "g"
      have e1 : nf (.tup ds) = some (-1) := if_pos (by have := of_decide_eq_true e; omega)
      have q1 := q H Fr.refl
      rw [e1] at q1
      exact q1
    · walk_at "e"
      have ne : ds.length ≠ 0 := fun z => e (decide_eq_true (by omega))
      have q1 : ∀ H', Fr NoB H H' → Q (oI (oN (ff badL 0 ds))) H' := fun H' f => by
        have e1 : nf (.tup ds) = oN (ff badL 0 ds) := if_neg ne
        have q2 := q H' f
        rw [e1] at q2
        exact q2
      refine rb_cons ?_
      refine rs_for_enumT c (by walk_at "gm") .loc (by walk_at "gm") (by walk_at "gm") .loc (by walk_at "gm") (by walk_at "gm") ze ?_
      walk_at "e"
      refine ⟨a, vs, rfl, SqT.of t, fun i σ H' => Fr NoB H H' ∧ ff badL 0 ds = ff badL i (ds.drop i) ∧ ∃ s1 s2 : Option V, σ = [some (.ref a), s1, s2], ⟨Fr.refl, rfl, none, none, rfl⟩, fun _ _ _ _ h => SqT.of (h.1 _ _ (fun z => z) t), ?_, ?_⟩
      · rintro i x b σ H' T hi ea eb ⟨f, hff, s1, s2, rfl⟩ hT
        cases ea
        have hi2 : i < ds.length := by omega
        have hc : ds[i]? = some ds[i] := List.getElem?_eq_getElem hi2
        have f2 := f.trans (Fr.new (o := .tup [.int (i : Nat), b]) hT)
        generalize upd H' T (.tup [.int (i : Nat), b]) = H2 at f2
        have hst := ff_at (p := badL) hc
        have bad : ∀ H3, Fr NoB H H3 → badL i ds[i] = true → Q (.int (i : Nat)) H3 := fun H3 f3 z => by
          have q2 := q1 H3 f3
          rw [hff, hst, if_pos z] at q2
          exact q2
        refine ⟨_, _, by walk_at "gs", by walk_at "gs", ?_⟩
        walk_at "e0"
        refine re_gint c (by walk_at "gm") gl ?_
        walk_at "e"
        refine ite2 (fun e1 => ?_) (fun e1 => ?_)
        · walk_at "g"
          exact bad _ f2 (by unfold badL; rw [decide_eq_true (by have := of_decide_eq_true e1; omega)]; rfl)
        · walk_at "e"
          refine re_call c dI (by decide) (by walk_at "gm") ?_
          walk_at "e"
          refine ⟨B, b, ds[i], rfl, (hh i b _ eb hc).fr f2.any, hsm _ (List.getElem_mem hi2), fun H3 f3 => ?_⟩
          walk_at "e"
          cases hd : tf ds[i] with
          | none =>
            show if (!true) = true then _ else _
            walk_at "g"
            refine ⟨f2.trans f3, ?_, _, _, rfl⟩
            have z : badL i ds[i] = false := by
              unfold badL
              rw [hd, decide_eq_false (fun z => e1 (decide_eq_true (by omega)))]
              rfl
            rw [hff, hst, if_neg (by rw [z]; exact Bool.false_ne_true)]
          | some k =>
            show if (!false) = true then _ else _
            walk_at "g"
            exact bad _ (f2.trans f3) (by unfold badL; rw [hd]; simp)
      · rintro σ H' ⟨f, hff, s1, s2, rfl⟩
        walk_at "g"
        have q2 := q1 H' f
        rw [hff, l, ff_end] at q2
        exact q2
def gi (a b : Int) : Int := ((Nat.gcd a.natAbs b.natAbs : Nat) : Int)
def isI : D → Bool
  | .int _ => true
  | _ => false
def fp (n m : Int) : Option Int := if m < 1 then some 1 else if gi n m = 1 then none else some 2
def fd2 : D → D → Option Int
  | .int n, .int m => fp n m
  | .int _, _ => some 1
  | _, _ => some 0
def fdl : List D → Option Int
  | [a, b] => fd2 a b
  | _ => some (-1)
def fd : D → Option Int
  | .tup ds => fdl ds
  | _ => some (-1)
def spIW (K : PySem.W.Frag) : Sp := fun vs H Q _ => ∃ (B : Addr → Prop) (v : V) (d : D), vs = [v] ∧ Dt K B H v d ∧ Q (.bl (isI d)) H
theorem body_is_whole {X : Cx} (c : Ctx X nq_is_whole lq_is_whole 0) (zi : X.mg "isinstance" = none) (zI : X.mg "int" = none) (zb : X.mg "bool" = none) {vs : List V} {H : Hp} {Q : VK} {E : XK} (h : spIW X.K vs H Q E) :
    RB X (defBody sq_is_whole) { nx := fun _ H' => Q .non H', rt := Q } (start nq_is_whole vs) H := by
  obtain ⟨B, v, d, rfl, hv, q⟩ := h
  cases hv with
  | non =>
    show RB X (defBody sq_is_whole) _ [some .non] H
    walk_at "g0"
    exact q
  | bl =>
    rename_i b
    show RB X (defBody sq_is_whole) _ [some (.bl b)] H
    walk_at "g0"
    exact q
  | int =>
    rename_i b
    show RB X (defBody sq_is_whole) _ [some (.int b)] H
    walk_at "g0"
    exact q
  | str =>
    rename_i b
    show RB X (defBody sq_is_whole) _ [some (.str b)] H
    walk_at "g0"
    exact q
  | @lst a vs ds n t l hh =>
    show RB X (defBody sq_is_whole) _ [some (.ref a)] H
    walk_at "g0"
    exact q
  | @tup a vs ds n t l hh =>
    show RB X (defBody sq_is_whole) _ [some (.ref a)] H
    walk_at "g0"
    exact q
def spFF (K : PySem.W.Frag) : Sp := fun vs H Q _ => ∃ (B : Addr → Prop) (v : V) (d : D), vs = [v] ∧ Dt K B H v d ∧ Q (oI (fd d)) H
theorem fd_len {ds : List D} (h : ds.length ≠ 2) : fd (.tup ds) = some (-1) := by
  match ds, h with
  | [], _ => rfl
  | [_], _ => rfl
  | [_, _], h => exact absurd rfl h
  | _ :: _ :: _ :: _, _ => rfl
theorem two_of {α : Type} {l : List α} (h : l.length = 2) : ∃ a b, l = [a, b] := by
  match l, h with
  | [a, b], _ => exact ⟨a, b, rfl⟩
theorem fd_0 {a b : D} (h : isI a = false) : fd (.tup [a, b]) = some 0 := by
  cases a <;> first | rfl | cases h
theorem fd_1 {n : Int} {b : D} (h : isI b = false) : fd (.tup [.int n, b]) = some 1 := by
  cases b <;> first | rfl | cases h
theorem dt_int {K : PySem.W.Frag} {B : Addr → Prop} {H : Hp} {v : V} {d : D} (h : Dt K B H v d) (e : isI d = true) : ∃ n, d = .int n ∧ v = .int n := by
  cases h <;> first | exact ⟨_, rfl, rfl⟩ | cases e
theorem body_fraction_fault {X : Cx} (c : Ctx X nq_fraction_fault lq_fraction_fault 1) (zi : X.mg "isinstance" = none) (zl : X.mg "len" = none) (zt : X.mg "tuple" = none) (zg : X.mg "gcd" = some (.builtin "math.gcd"))
    (dW : DefP X.prog X.w X.K X.mg X.base CX0 "is_whole" ["value"] 1 (spIW X.K)) {vs : List V} {H : Hp} {Q : VK} {E : XK} (h : spFF X.K vs H Q E) :
    RB X (defBody sq_fraction_fault) { nx := fun _ H' => Q .non H', rt := Q } (start nq_fraction_fault vs) H := by
  obtain ⟨B, v, d, rfl, hv, q⟩ := h
  cases hv with
  | non =>
    show RB X (defBody sq_fraction_fault) _ [some .non, none, none] H
    walk_at "g0"
    exact q
  | bl =>
    rename_i b
    show RB X (defBody sq_fraction_fault) _ [some (.bl b), none, none] H
    walk_at "g0"
    exact q
  | int =>
    rename_i b
    show RB X (defBody sq_fraction_fault) _ [some (.int b), none, none] H
    walk_at "g0"
    exact q
  | str =>
    rename_i b
    show RB X (defBody sq_fraction_fault) _ [some (.str b), none, none] H
    walk_at "g0"
    exact q
  | @lst a vs ds n t l hh =>
    show RB X (defBody sq_fraction_fault) _ [some (.ref a), none, none] H
    walk_at "g0"
    exact q
  | @tup a vs ds n t l hh =>
    show RB X (defBody sq_fraction_fault) _ [some (.ref a), none, none] H
    walk_at "e0"
    refine lv_lenT (SqT.of t) ?_
    walk_at "e"
    refine ite2 (fun e => ?_) (fun e => ?_)
    · walk_at "g"
      have e2 : vs.length ≠ 2 := fun z => by simp [z] at e
      rw [fd_len (by omega)] at q
      exact q
    · walk_at "e"
      have e2 : vs.length = 2 := by
        have e3 : decide ((vs.length : Int) = 2) = true := by simpa using e
        have := of_decide_eq_true e3
        omega
      obtain ⟨v1, v2, rfl⟩ := two_of e2
      obtain ⟨d1, d2, rfl⟩ := two_of (l.symm.trans e2)
      have h1 := hh 0 v1 d1 rfl rfl
      have h2 := hh 1 v2 d2 rfl rfl
      refine rb_cons ?_
      refine rs_tup2 c (by walk_at "gm") .loc (by walk_at "gm") (by walk_at "gm") .loc (by walk_at "gm") ?_ (by with_unfolding_all rfl)
      walk_at "e"
      refine ⟨a, v1, v2, rfl, SqT.of t, _, _, by walk_at "gs", by walk_at "gs", ?_⟩
      walk_at "e0"
      refine re_call c dW (by decide) (by walk_at "gm") ?_
      walk_at "e"
      refine ⟨B, v1, d1, rfl, h1, ?_⟩
      walk_at "e"
      cases e1 : isI d1 with
      | false =>
        walk_at "g"
        rw [fd_0 e1] at q
        exact q
      | true =>
        obtain ⟨n, rfl, rfl⟩ := dt_int h1 e1
        walk_at "e"
        walk_at "e0"
        refine re_call c dW (by decide) (by walk_at "gm") ?_
        walk_at "e"
        refine ⟨B, v2, d2, rfl, h2, ?_⟩
        walk_at "e"
        cases e2 : isI d2 with
        | false =>
          walk_at "g"
          rw [fd_1 e2] at q
          exact q
        | true =>
          obtain ⟨m, rfl, rfl⟩ := dt_int h2 e2
          have q1 : Q (oI (fp n m)) H := q
          unfold fp at q1
          walk_at "e"
          refine ite2 (fun e3 => ?_) (fun e3 => ?_)
          · walk_at "g"
            rw [if_pos (of_decide_eq_true e3)] at q1
            exact q1
          · walk_at "e"
            rw [if_neg (fun z => e3 (decide_eq_true z))] at q1
            walk_at "e0"
            refine re_gcd c (by walk_at "gm") zg ?_
            walk_at "e"
            refine ⟨n, m, rfl, ?_⟩
            walk_at "e"
            refine ite2 (fun e4 => ?_) (fun e4 => ?_)
            · walk_at "g"
              rw [if_neg (fun z => by
                have z2 : (((n.natAbs.gcd m.natAbs : Nat) : Int)) = 1 := z
                simp [z2] at e4)] at q1
              exact q1
            · walk_at "g"
              rw [if_pos (show gi n m = 1 by
                have e5 : decide ((((n.natAbs.gcd m.natAbs : Nat) : Int)) = 1) = true := by simpa using e4
                exact of_decide_eq_true e5)] at q1
              exact q1
/-! ### the program's small predicates -/
def spQ (K : PySem.W.Frag) (p : D → Bool) : Sp := fun vs H Q _ => ∃ (B : Addr → Prop) (v : V) (d : D), vs = [v] ∧ Dt K B H v d ∧ Gd 20 d ∧ Q (.bl (p d)) H
def spP (K : PySem.W.Frag) (p : D → Bool) : Sp := fun vs H Q _ => ∃ (B : Addr → Prop) (v : V) (d : D), vs = [v] ∧ Dt K B H v d ∧ Gd 20 d ∧ ∀ H', Fr NoB H H' → Q (.bl (p d)) H'
theorem gd_in {ds : List D} {d : D} (h : Gd 20 (.tup ds)) (m : d ∈ ds) : Gd 20 d := by
  cases h with
  | tup hl h => exact gd_up (h d m) 20 (by decide)
theorem gd_len {ds : List D} (h : Gd 20 (.tup ds)) : ds.length ≤ 200 := by
  cases h with
  | tup hl h => exact hl
theorem gd_sm {d : D} (h : Gd 20 d) : Sm d := fun s e => by
  subst e
  cases h with
  | str h ok => omega
theorem gd_smN {d : D} (h : Gd 20 d) : SmN d := fun ds e => by
  subst e
  exact ⟨by have := gd_len h; omega, fun e he => gd_sm (gd_in h he)⟩
theorem three_of {α : Type} {l : List α} (h : l.length = 3) : ∃ a b c, l = [a, b, c] := by
  match l, h with
  | [a, b, c], _ => exact ⟨a, b, c, rfl⟩
def pCount : D → Bool
  | .int i => decide (0 ≤ i)
  | _ => false
def pTo (k : Int) : D → Bool
  | .int i => decide (0 ≤ i) && decide (i ≤ k)
  | _ => false
theorem pCount_n {d : D} (h : isI d = false) : pCount d = false := by cases d <;> first | rfl | cases h
theorem pTo_n {k : Int} {d : D} (h : isI d = false) : pTo k d = false := by cases d <;> first | rfl | cases h
def pName (d : D) : Bool := (nf d).isNone
def pFrac (d : D) : Bool := (fd d).isNone
theorem pTo_i {k n : Int} : pTo k (.int n) = (decide (0 ≤ n) && decide (n ≤ k)) := rfl
def pId3 : List D → Bool
  | [a, b, c] => pTo 31 a && (pCount b && pCount c)
  | _ => false
def pId : D → Bool
  | .tup l => pId3 l
  | _ => false
theorem pId_n {d : D} (h : (tyN d == 5) = false) : pId d = false := by cases d <;> first | rfl | cases h
theorem pId3_n {l : List D} (h : l.length ≠ 3) : pId3 l = false := by
  match l, h with
  | [], _ => rfl
  | [_], _ => rfl
  | [_, _], _ => rfl
  | [_, _, _], h => exact absurd rfl h
  | _ :: _ :: _ :: _ :: _, _ => rfl
def pKept : D → Bool
  | .non => true
  | d => pId d
def pTerm (d : D) : Bool := isE d || pId d
section
variable {X : Cx} {vs : List V} {H : Hp} {Q : VK} {E : XK}
theorem body_is_name (c : Ctx X nq_is_name lq_is_name 3) (dF : DefP X.prog X.w X.K X.mg X.base CX0 "name_fault" ["value"] 3 (spNF X.K)) (h : spP X.K pName vs H Q E) :
    RB X (defBody sq_is_name) { nx := fun _ H' => Q .non H', rt := Q } (start nq_is_name vs) H := by
  obtain ⟨B, v, d, rfl, hv, hs, q⟩ := h
  show RB X (defBody sq_is_name) _ [some v] H
  walk_at "e0"
  refine re_call c dF (by decide) (by walk_at "gm") ?_
  walk_at "e"
  refine ⟨B, v, d, rfl, hv, gd_smN hs, fun H' f => ?_⟩
  have q1 : Q (.bl (nf d).isNone) H' := q H' f
  walk_at "e"
  cases hd : nf d with
  | none =>
    rw [hd] at q1
    show CpV _ _ V.non V.non _ _
    walk_at "g"
    exact q1
  | some i =>
    rw [hd] at q1
    show CpV _ _ (V.int i) V.non _ _
    walk_at "g"
    exact q1
theorem body_is_fraction (c : Ctx X nq_is_fraction lq_is_fraction 2) (dF : DefP X.prog X.w X.K X.mg X.base CX0 "fraction_fault" ["value"] 2 (spFF X.K)) (h : spQ X.K pFrac vs H Q E) :
    RB X (defBody sq_is_fraction) { nx := fun _ H' => Q .non H', rt := Q } (start nq_is_fraction vs) H := by
  obtain ⟨B, v, d, rfl, hv, hs, q⟩ := h
  show RB X (defBody sq_is_fraction) _ [some v] H
  walk_at "e0"
  refine re_call c dF (by decide) (by walk_at "gm") ?_
  walk_at "e"
  refine ⟨B, v, d, rfl, hv, ?_⟩
  have q : Q (.bl (fd d).isNone) H := q
  walk_at "e"
  cases hd : fd d with
  | none =>
    rw [hd] at q
    show CpV _ _ V.non V.non _ _
    walk_at "g"
    exact q
  | some i =>
    rw [hd] at q
    show CpV _ _ (V.int i) V.non _ _
    walk_at "g"
    exact q
theorem body_is_node (c : Ctx X nq_is_node lq_is_node 1) (gl : ∃ t, X.mg "LAST_NODE" = some (.int 31 t)) (dW : DefP X.prog X.w X.K X.mg X.base CX0 "is_whole" ["value"] 1 (spIW X.K)) (h : spQ X.K (pTo 31) vs H Q E) :
    RB X (defBody sq_is_node) { nx := fun _ H' => Q .non H', rt := Q } (start nq_is_node vs) H := by
  obtain ⟨B, v, d, rfl, hv, hs, q⟩ := h
  show RB X (defBody sq_is_node) _ [some v] H
  walk_at "e0"
  refine re_call c dW (by decide) (by walk_at "gm") ?_
  walk_at "e"
  refine ⟨B, v, d, rfl, hv, ?_⟩
  walk_at "e"
  cases e1 : isI d with
  | false =>
    walk_at "g"
    rw [pTo_n e1] at q
    exact q
  | true =>
    obtain ⟨n, rfl, rfl⟩ := dt_int hv e1
    walk_at "e"
    refine ite2 (fun e => ?_) (fun e => ?_)
    · walk_at "e"
      refine re_gint c (by walk_at "gm") gl ?_
      walk_at "g"
      rw [pTo_i, e, Bool.true_and] at q
      exact q
    · rw [pTo_i, Bool.eq_false_iff.mpr e, Bool.false_and] at q
      exact q
theorem body_is_most (c : Ctx X nq_is_most lq_is_most 1) (gl : ∃ t, X.mg "MOST_NAMES" = some (.int 8 t)) (dW : DefP X.prog X.w X.K X.mg X.base CX0 "is_whole" ["value"] 1 (spIW X.K)) (h : spQ X.K (pTo 8) vs H Q E) :
    RB X (defBody sq_is_most) { nx := fun _ H' => Q .non H', rt := Q } (start nq_is_most vs) H := by
  obtain ⟨B, v, d, rfl, hv, hs, q⟩ := h
  show RB X (defBody sq_is_most) _ [some v] H
  walk_at "e0"
  refine re_call c dW (by decide) (by walk_at "gm") ?_
  walk_at "e"
  refine ⟨B, v, d, rfl, hv, ?_⟩
  walk_at "e"
  cases e1 : isI d with
  | false =>
    walk_at "g"
    rw [pTo_n e1] at q
    exact q
  | true =>
    obtain ⟨n, rfl, rfl⟩ := dt_int hv e1
    walk_at "e"
    refine ite2 (fun e => ?_) (fun e => ?_)
    · walk_at "e"
      refine re_gint c (by walk_at "gm") gl ?_
      walk_at "g"
      rw [pTo_i, e, Bool.true_and] at q
      exact q
    · rw [pTo_i, Bool.eq_false_iff.mpr e, Bool.false_and] at q
      exact q
theorem body_is_count (c : Ctx X nq_is_count lq_is_count 1) (dW : DefP X.prog X.w X.K X.mg X.base CX0 "is_whole" ["value"] 1 (spIW X.K)) (h : spQ X.K pCount vs H Q E) :
    RB X (defBody sq_is_count) { nx := fun _ H' => Q .non H', rt := Q } (start nq_is_count vs) H := by
  obtain ⟨B, v, d, rfl, hv, hs, q⟩ := h
  show RB X (defBody sq_is_count) _ [some v] H
  walk_at "e0"
  refine re_call c dW (by decide) (by walk_at "gm") ?_
  walk_at "e"
  refine ⟨B, v, d, rfl, hv, ?_⟩
  walk_at "e"
  cases e1 : isI d with
  | false =>
    walk_at "g"
    rw [pCount_n e1] at q
    exact q
  | true =>
    obtain ⟨n, rfl, rfl⟩ := dt_int hv e1
    walk_at "g"
    exact q
theorem body_is_id (c : Ctx X nq_is_id lq_is_id 2) (zi : X.mg "isinstance" = none) (zt : X.mg "tuple" = none) (zl : X.mg "len" = none) (dN : DefP X.prog X.w X.K X.mg X.base CX0 "is_node" ["value"] 2 (spQ X.K (pTo 31))) (dC : DefP X.prog X.w X.K X.mg X.base CX0 "is_count" ["value"] 2 (spQ X.K pCount)) (h : spQ X.K pId vs H Q E) :
    RB X (defBody sq_is_id) { nx := fun _ H' => Q .non H', rt := Q } (start nq_is_id vs) H := by
  obtain ⟨B, v, d, rfl, hv, hs, q⟩ := h
  show RB X (defBody sq_is_id) _ [some v] H
  walk_at "e0"
  refine cl_isT hv ?_
  walk_at "e"
  cases e1 : (tyN d == 5) with
  | false =>
    walk_at "g"
    rw [pId_n e1] at q
    exact q
  | true =>
    obtain ⟨a, us, ds, rfl, rfl, nB, t, hd⟩ := tup_at hv e1
    walk_at "e"
    refine lv_lenT (SqT.of t) ?_
    walk_at "e"
    refine ite2 (fun e => ?_) (fun e => ?_)
    · walk_at "g"
      have z : pId (.tup ds) = false := pId3_n fun z => by rw [hd.1, z] at e; exact absurd e (by decide)
      rw [z] at q
      exact q
    · have el : us.length = 3 := by
        have e3 : decide ((us.length : Int) = 3) = true := by simpa using e
        have := of_decide_eq_true e3
        omega
      obtain ⟨v1, v2, v3, rfl⟩ := three_of el
      obtain ⟨d1, d2, d3, rfl⟩ := three_of (hd.1.symm.trans el)
      have q2 : Q (.bl (pTo 31 d1 && (pCount d2 && pCount d3))) H := q
      walk_at "e"
      walk_at "e0"
      refine re_call c dN (by decide) (by walk_at "gm") ?_
      walk_at "e"
      refine ⟨B, v1, d1, rfl, hd.2 0 v1 d1 rfl rfl, gd_in hs (by simp), ?_⟩
      walk_at "e"
      refine ite2 (fun e1 => ?_) (fun e1 => ?_)
      · rw [e1, Bool.true_and] at q2
        refine re_and ?_
        refine re_call c dC (by decide) (by walk_at "gm") ?_
        walk_at "e"
        refine ⟨B, v2, d2, rfl, hd.2 1 v2 d2 rfl rfl, gd_in hs (by simp), ?_⟩
        walk_at "e"
        refine ite2 (fun e2 => ?_) (fun e2 => ?_)
        · rw [e2, Bool.true_and] at q2
          refine re_one ?_
          refine re_call c dC (by decide) (by walk_at "gm") ?_
          walk_at "e"
          exact ⟨B, v3, d3, rfl, hd.2 2 v3 d3 rfl rfl, gd_in hs (by simp), q2⟩
        · rw [Bool.eq_false_iff.mpr e2, Bool.false_and] at q2
          exact q2
      · rw [Bool.eq_false_iff.mpr e1, Bool.false_and] at q2
        exact q2
theorem body_is_kept (c : Ctx X nq_is_kept lq_is_kept 3) (dI : DefP X.prog X.w X.K X.mg X.base CX0 "is_id" ["value"] 3 (spQ X.K pId)) (h : spQ X.K pKept vs H Q E) :
    RB X (defBody sq_is_kept) { nx := fun _ H' => Q .non H', rt := Q } (start nq_is_kept vs) H := by
  obtain ⟨B, v, d, rfl, hv, hs, q⟩ := h
  show RB X (defBody sq_is_kept) _ [some v] H
  walk_at "e0"
  refine cv_isND hv ?_
  walk_at "e"
  cases e1 : (tyN d == 0) with
  | true =>
    have z : pKept d = true := by cases d <;> first | rfl | cases e1
    rw [z] at q
    walk_at "g"
    exact q
  | false =>
    have z : pKept d = pId d := by cases d <;> first | rfl | cases e1
    rw [z] at q
    walk_at "e"
    refine re_call c dI (by decide) (by walk_at "gm") ?_
    walk_at "e"
    exact ⟨B, v, d, rfl, hv, hs, q⟩
theorem body_is_term (c : Ctx X nq_is_term lq_is_term 3) (dI : DefP X.prog X.w X.K X.mg X.base CX0 "is_id" ["value"] 3 (spQ X.K pId)) (h : spP X.K pTerm vs H Q E) :
    RB X (defBody sq_is_term) { nx := fun _ H' => Q .non H', rt := Q } (start nq_is_term vs) H := by
  obtain ⟨B, v, d, rfl, hv, hs, q⟩ := h
  show RB X (defBody sq_is_term) _ [some v] H
  walk_at "e0"
  refine ⟨by show 0 ≤ sizeLine; decide, fun p hp => ?_⟩
  have f1 : Fr NoB H (upd H p (.tup [])) := Fr.new hp
  have q1 : Q (.bl (isE d || pId d)) (upd H p (.tup [])) := q _ f1
  refine cv_eqDE c (hv.fr f1.any) hs (by decide) (SqT.of upd_same) ?_
  walk_at "e"
  refine ite2 (fun e1 => ?_) (fun e1 => ?_)
  · rw [e1, Bool.true_or] at q1
    exact q1
  · rw [Bool.eq_false_iff.mpr e1, Bool.false_or] at q1
    refine re_one ?_
    refine re_call c dI (by decide) (by walk_at "gm") ?_
    walk_at "e"
    exact ⟨B, v, d, rfl, hv.fr f1.any, hs, q1⟩
end
/-! ### entries -/
def pair2 (f : D → D → Bool) : D → Bool
  | .tup [a, b] => f a b
  | _ => false
def trio (f : D → D → D → Bool) : D → Bool
  | .tup [a, b, e] => f a b e
  | _ => false
theorem pair2_n {f : D → D → Bool} {d : D} (h : (tyN d == 5) = false) : pair2 f d = false := by cases d <;> first | rfl | cases h
theorem trio_n {f : D → D → D → Bool} {d : D} (h : (tyN d == 5) = false) : trio f d = false := by cases d <;> first | rfl | cases h
theorem pair2_l {f : D → D → Bool} {l : List D} (h : l.length ≠ 2) : pair2 f (.tup l) = false := by
  match l, h with
  | [], _ => rfl
  | [_], _ => rfl
  | [_, _], h => exact absurd rfl h
  | _ :: _ :: _ :: _, _ => rfl
theorem trio_l {f : D → D → D → Bool} {l : List D} (h : l.length ≠ 3) : trio f (.tup l) = false := by
  match l, h with
  | [], _ => rfl
  | [_], _ => rfl
  | [_, _], _ => rfl
  | [_, _, _], h => exact absurd rfl h
  | _ :: _ :: _ :: _ :: _, _ => rfl
def pVal : D → Bool := pair2 fun a b => isS "value" a && pCount b
def pNam : D → Bool := pair2 fun a b => isS "name" a && pName b
def pFst (d : D) : Bool := pVal d || pNam d
def pLab (d : D) : Bool := (tf d).isNone
def labS : D → Str
  | .str s => s
  | _ => ""
def rowOk (z : Str) : D → Bool := pair2 fun a e => pLab a && (slt z (labS a) && pFst e)
def rowL : D → Str
  | .tup [a, _] => labS a
  | _ => ""
def rowsA : Str → List D → Bool
  | _, [] => true
  | z, d :: r => rowOk z d && rowsA (rowL d) r
def tupP (f : List D → Bool) : D → Bool
  | .tup l => f l
  | _ => false
theorem tupP_n {f : List D → Bool} {d : D} (h : (tyN d == 5) = false) : tupP f d = false := by cases d <;> first | rfl | cases h
def pRows : D → Bool := tupP fun l => decide (l.length ≤ 6) && rowsA "" l
def pPtr : D → Bool := trio fun a b e => isS "page" a && (pTo 31 b && pRows e)
def pEnt (d : D) : Bool := (tyN d == 0) || (pFst d || pPtr d)
theorem lenN {us : List V} {n : Nat} {e : Bool} (he : decide ((us.length : Int) = n) = e) : (e = true → us.length = n) ∧ (e = false → us.length ≠ n) := by
  subst he
  constructor
  · intro h
    have := of_decide_eq_true h
    omega
  · intro h z
    have := of_decide_eq_false h
    omega
section
variable {X : Cx} {vs : List V} {H : Hp} {Q : VK} {E : XK}
theorem body_is_value (c : Ctx X nq_is_value lq_is_value 2) (zi : X.mg "isinstance" = none) (zt : X.mg "tuple" = none) (zl : X.mg "len" = none) (dC : DefP X.prog X.w X.K X.mg X.base CX0 "is_count" ["value"] 2 (spQ X.K pCount)) (h : spQ X.K pVal vs H Q E) :
    RB X (defBody sq_is_value) { nx := fun _ H' => Q .non H', rt := Q } (start nq_is_value vs) H := by
  obtain ⟨B, v, d, rfl, hv, hs, q⟩ := h
  show RB X (defBody sq_is_value) _ [some v] H
  walk_at "e0"
  refine cl_isT hv ?_
  walk_at "e"
  cases e1 : (tyN d == 5) with
  | false =>
    walk_at "g"
    rw [show pVal d = false from pair2_n e1] at q
    exact q
  | true =>
    obtain ⟨a, us, ds, rfl, rfl, nB, t, hd⟩ := tup_at hv e1
    walk_at "e"
    refine lv_lenT (SqT.of t) ?_
    walk_at "e"
    cases e : decide ((us.length : Int) = 2) with
    | false =>
      have e2 := (lenN (n := 2) e).2 rfl
      rw [show pVal (.tup ds) = false from pair2_l (by rw [← hd.1]; exact e2)] at q
      walk_at "g"
      exact q
    | true =>
      obtain ⟨v1, v2, rfl⟩ := two_of ((lenN (n := 2) e).1 rfl)
      obtain ⟨d1, d2, rfl⟩ := two_of (hd.1.symm)
      have q2 : Q (.bl (isS "value" d1 && pCount d2)) H := q
      walk_at "e"
      refine cv_eqDS c (hd.2 0 v1 d1 rfl rfl) (gd_in hs (by simp)) (by decide) (by decide +kernel) ?_
      walk_at "e"
      refine ite2 (fun e1 => ?_) (fun e1 => ?_)
      · rw [e1, Bool.true_and] at q2
        refine re_one ?_
        refine re_call c dC (by decide) (by walk_at "gm") ?_
        walk_at "e"
        exact ⟨B, v2, d2, rfl, hd.2 1 v2 d2 rfl rfl, gd_in hs (by simp), q2⟩
      · rw [Bool.eq_false_iff.mpr e1, Bool.false_and] at q2
        exact q2
theorem body_is_first_entry (c : Ctx X nq_is_first_entry lq_is_first_entry 4) (zi : X.mg "isinstance" = none) (zt : X.mg "tuple" = none) (zl : X.mg "len" = none) (dV : DefP X.prog X.w X.K X.mg X.base CX0 "is_value" ["value"] 3 (spQ X.K pVal))
    (dN : DefP X.prog X.w X.K X.mg X.base CX0 "is_name" ["value"] 4 (spP X.K pName)) (h : spP X.K pFst vs H Q E) :
    RB X (defBody sq_is_first_entry) { nx := fun _ H' => Q .non H', rt := Q } (start nq_is_first_entry vs) H := by
  obtain ⟨B, v, d, rfl, hv, hs, q⟩ := h
  show RB X (defBody sq_is_first_entry) _ [some v] H
  have q : ∀ H', Fr NoB H H' → Q (.bl (pVal d || pNam d)) H' := q
  have q0 := q H Fr.refl
  walk_at "e0"
  refine re_call c dV (by decide) (by walk_at "gm") ?_
  walk_at "e"
  refine ⟨B, v, d, rfl, hv, hs, ?_⟩
  walk_at "e"
  refine ite2 (fun e0 => ?_) (fun e0 => ?_)
  · rw [e0, Bool.true_or] at q0
    walk_at "g"
    exact q0
  rw [Bool.eq_false_iff.mpr e0, Bool.false_or] at q0 q
  walk_at "e"
  walk_at "e0"
  refine cl_isT hv ?_
  walk_at "e"
  cases e1 : (tyN d == 5) with
  | false =>
    walk_at "g"
    rw [show pNam d = false from pair2_n e1] at q0
    exact q0
  | true =>
    obtain ⟨a, us, ds, rfl, rfl, nB, t, hd⟩ := tup_at hv e1
    walk_at "e"
    refine lv_lenT (SqT.of t) ?_
    walk_at "e"
    cases e : decide ((us.length : Int) = 2) with
    | false =>
      have e2 := (lenN (n := 2) e).2 rfl
      rw [show pNam (.tup ds) = false from pair2_l (by rw [← hd.1]; exact e2)] at q0
      walk_at "g"
      exact q0
    | true =>
      obtain ⟨v1, v2, rfl⟩ := two_of ((lenN (n := 2) e).1 rfl)
      obtain ⟨d1, d2, rfl⟩ := two_of (hd.1.symm)
      have q2 : ∀ H', Fr NoB H H' → Q (.bl (isS "name" d1 && pName d2)) H' := q
      walk_at "e"
      refine cv_eqDS c (hd.2 0 v1 d1 rfl rfl) (gd_in hs (by simp)) (by decide) (by decide +kernel) ?_
      walk_at "e"
      refine ite2 (fun e1 => ?_) (fun e1 => ?_)
      · rw [e1, Bool.true_and] at q2
        refine re_one ?_
        refine re_call c dN (by decide) (by walk_at "gm") ?_
        walk_at "e"
        exact ⟨B, v2, d2, rfl, hd.2 1 v2 d2 rfl rfl, gd_in hs (by simp), q2⟩
      · rw [Bool.eq_false_iff.mpr e1, Bool.false_and] at q2
        exact q2 H Fr.refl
theorem str_of_lab {d : D} (h : pLab d = true) : ∃ z, d = .str z := by
  cases d <;> first | exact ⟨_, rfl⟩ | (exact absurd h (by show ¬ (false = true); decide))
theorem body_are_first_entries (c : Ctx X nq_are_first_entries lq_are_first_entries 5) (zi : X.mg "isinstance" = none) (zt : X.mg "tuple" = none) (zl : X.mg "len" = none) (gl : ∃ t, X.mg "FIRST_ENTRIES" = some (.int 6 t))
    (dL : DefP X.prog X.w X.K X.mg X.base CX0 "is_label" ["value"] 2 (spIL X.K)) (dF : DefP X.prog X.w X.K X.mg X.base CX0 "is_first_entry" ["value"] 5 (spP X.K pFst)) (h : spP X.K pRows vs H Q E) :
    RB X (defBody sq_are_first_entries) { nx := fun _ H' => Q .non H', rt := Q } (start nq_are_first_entries vs) H := by
  obtain ⟨B, v, d, rfl, hv, hs, q⟩ := h
  show RB X (defBody sq_are_first_entries) _ [some v, none, none, none, none] H
  have q0 := q H Fr.refl
  walk_at "e0"
  refine cl_isT hv ?_
  walk_at "e"
  cases e1 : (tyN d == 5) with
  | false =>
    walk_at "g"
    rw [show pRows d = false from tupP_n e1] at q0
    exact q0
  | true =>
    obtain ⟨a, us, ds, rfl, rfl, nB, t, hd⟩ := tup_at hv e1
    have q : ∀ H', Fr NoB H H' → Q (.bl (decide (ds.length ≤ 6) && rowsA "" ds)) H' := q
    walk_at "e"
    refine lv_lenT (SqT.of t) ?_
    walk_at "e"
    refine re_gint c (by walk_at "gm") gl ?_
    walk_at "e"
    refine ite2 (fun e => ?_) (fun e => ?_)
    · walk_at "g"
      have q1 := q H Fr.refl
      rw [decide_eq_false (by have := of_decide_eq_true e; have := hd.1; omega), Bool.false_and] at q1
      exact q1
    · have q : ∀ H', Fr NoB H H' → Q (.bl (rowsA "" ds)) H' := fun H' f => by
        have q1 := q H' f
        rw [decide_eq_true (by have e3 : ¬ ((6 : Int) < us.length) := fun z => e (decide_eq_true z); have := hd.1; omega), Bool.true_and] at q1
        exact q1
      walk_at "e"
      walk_at "e0"
      refine rb_cons ?_
      refine rs_for_tup c (by walk_at "gm") .loc (by walk_at "gm") ?_
      walk_at "e"
      refine ⟨a, us, rfl, SqT.of t, fun i σ H' => Fr NoB H H' ∧ ∃ (z : Str) (s1 s2 s3 : Option V), rowsA "" ds = rowsA z (ds.drop i) ∧ σ = [some (.ref a), some (.str z), s1, s2, s3], ⟨Fr.refl, "", none, none, none, rfl, rfl⟩, fun _ _ _ _ h => SqT.of (h.1 _ _ (fun z => z) t), ?_, ?_⟩
      · rintro i y σ H' hi hy ⟨f, z, s1, s2, s3, hr, rfl⟩
        have hi2 : i < ds.length := by rw [← hd.1]; exact hi
        have hc : ds[i]? = some ds[i] := List.getElem?_eq_getElem hi2
        have hst : rowsA z (ds.drop i) = (rowOk z ds[i] && rowsA (rowL ds[i]) (ds.drop (i + 1))) := by
          rw [List.drop_eq_getElem_cons hi2]
          rfl
        have hy2 := (hd.2 i y ds[i] hy hc).fr f.any
        have hg := gd_in hs (List.getElem_mem hi2)
        have bad : ∀ H3, Fr NoB H H3 → rowOk z ds[i] = false → Q (.bl false) H3 := fun H3 f3 e => by
          have q1 := q H3 f3
          rw [hr, hst, e, Bool.false_and] at q1
          exact q1
        generalize ds[i] = d at *
        refine ⟨_, by walk_at "gs", ?_⟩
        walk_at "e0"
        refine cl_isT hy2 ?_
        walk_at "e"
        cases e1 : (tyN d == 5) with
        | false =>
          walk_at "g"
          exact bad _ f (pair2_n e1)
        | true =>
          obtain ⟨a2, ws, es, rfl, rfl, nB2, t2, hd2⟩ := tup_at hy2 e1
          walk_at "e"
          refine lv_lenT (SqT.of t2) ?_
          walk_at "e"
          cases e : decide ((ws.length : Int) = 2) with
          | false =>
            walk_at "g"
            exact bad _ f (pair2_l (by rw [← hd2.1]; exact (lenN (n := 2) e).2 rfl))
          | true =>
            obtain ⟨v1, v2, rfl⟩ := two_of ((lenN (n := 2) e).1 rfl)
            obtain ⟨d1, d2, rfl⟩ := two_of (hd2.1.symm)
            have g1 := gd_in hg (show d1 ∈ [d1, d2] by simp)
            have g2 := gd_in hg (show d2 ∈ [d1, d2] by simp)
            have er : rowOk z (.tup [d1, d2]) = (pLab d1 && (slt z (labS d1) && pFst d2)) := rfl
            rw [er] at bad hst
            walk_at "e"
            refine rb_cons ?_
            refine rs_tup2 c (by walk_at "gm") .loc (by walk_at "gm") (by walk_at "gm") .loc (by walk_at "gm") ?_ (by with_unfolding_all rfl)
            walk_at "e"
            refine ⟨a2, v1, v2, rfl, SqT.of t2, _, _, by walk_at "gs", by walk_at "gs", ?_⟩
            walk_at "e0"
            refine re_call c dL (by decide) (by walk_at "gm") ?_
            walk_at "e"
            refine ⟨B, v1, d1, rfl, hd2.2 0 v1 d1 rfl rfl, gd_sm g1, fun H2 f2 => ?_⟩
            walk_at "e"
            refine ite2 (fun el => ?_) (fun el => ?_)
            · have el2 : (tf d1).isNone = false := by simpa using el
              walk_at "g"
              exact bad _ (f.trans f2) (by show ((tf d1).isNone && _) = false; rw [el2, Bool.false_and])
            · have el2 : pLab d1 = true := by show (tf d1).isNone = true; simpa using el
              obtain ⟨w, rfl⟩ := str_of_lab el2
              have hw : v1 = .str w := by cases hd2.2 0 v1 (.str w) rfl rfl; rfl
              subst hw
              rw [el2, Bool.true_and] at bad hst
              walk_at "e"
              refine ite2 (fun ez => ?_) (fun ez => ?_)
              · have ez2 : slt z w = false := by
                  show decide (z.cps.toList < w.cps.toList) = false
                  simpa using ez
                walk_at "g"
                exact bad _ (f.trans f2) (by show (slt z w && _) = false; rw [ez2, Bool.false_and])
              · have ez2 : slt z w = true := by
                  show decide (z.cps.toList < w.cps.toList) = true
                  simpa using ez
                have ez3 : slt z (labS (.str w)) = true := ez2
                rw [ez3, Bool.true_and] at bad hst
                walk_at "e"
                refine re_call c dF (by decide) (by walk_at "gm") ?_
                walk_at "e"
                refine ⟨B, v2, d2, rfl, (hd2.2 1 v2 d2 rfl rfl).fr f2.any, g2, fun H3 f3 => ?_⟩
                walk_at "e"
                refine ite2 (fun ef => ?_) (fun ef => ?_)
                · walk_at "g"
                  exact bad _ ((f.trans f2).trans f3) (by simpa using ef)
                · have ef2 : pFst d2 = true := by simpa using ef
                  walk_at "g"
                  refine ⟨(f.trans f2).trans f3, w, _, _, _, ?_, rfl⟩
                  rw [hr, hst, ef2, Bool.true_and]
                  rfl
      · rintro σ H' ⟨f, z, s1, s2, s3, hr, rfl⟩
        walk_at "g"
        have q1 := q H' f
        rw [hr, hd.1, List.drop_length] at q1
        exact q1
theorem body_is_pointer (c : Ctx X nq_is_pointer lq_is_pointer 6) (zi : X.mg "isinstance" = none) (zt : X.mg "tuple" = none) (zl : X.mg "len" = none) (dN : DefP X.prog X.w X.K X.mg X.base CX0 "is_node" ["value"] 2 (spQ X.K (pTo 31)))
    (dR : DefP X.prog X.w X.K X.mg X.base CX0 "are_first_entries" ["value"] 6 (spP X.K pRows)) (h : spP X.K pPtr vs H Q E) :
    RB X (defBody sq_is_pointer) { nx := fun _ H' => Q .non H', rt := Q } (start nq_is_pointer vs) H := by
  obtain ⟨B, v, d, rfl, hv, hs, q⟩ := h
  show RB X (defBody sq_is_pointer) _ [some v] H
  have q0 := q H Fr.refl
  walk_at "e0"
  refine cl_isT hv ?_
  walk_at "e"
  cases e1 : (tyN d == 5) with
  | false =>
    walk_at "g"
    rw [show pPtr d = false from trio_n e1] at q0
    exact q0
  | true =>
    obtain ⟨a, us, ds, rfl, rfl, nB, t, hd⟩ := tup_at hv e1
    walk_at "e"
    refine lv_lenT (SqT.of t) ?_
    walk_at "e"
    cases e : decide ((us.length : Int) = 3) with
    | false =>
      have e2 := (lenN (n := 3) e).2 rfl
      rw [show pPtr (.tup ds) = false from trio_l (by rw [← hd.1]; exact e2)] at q0
      walk_at "g"
      exact q0
    | true =>
      obtain ⟨v1, v2, v3, rfl⟩ := three_of ((lenN (n := 3) e).1 rfl)
      obtain ⟨d1, d2, d3, rfl⟩ := three_of (hd.1.symm)
      have q2 : ∀ H', Fr NoB H H' → Q (.bl (isS "page" d1 && (pTo 31 d2 && pRows d3))) H' := q
      walk_at "e"
      refine cv_neDS c (hd.2 0 v1 d1 rfl rfl) (gd_in hs (by simp)) (by decide) (by decide +kernel) ?_
      walk_at "e"
      cases ep : isS "page" d1 with
      | false =>
        walk_at "g"
        rw [ep, Bool.false_and] at q2
        exact q2 H Fr.refl
      | true =>
        rw [ep, Bool.true_and] at q2
        walk_at "e"
        walk_at "e0"
        refine re_call c dN (by decide) (by walk_at "gm") ?_
        walk_at "e"
        refine ⟨B, v2, d2, rfl, hd.2 1 v2 d2 rfl rfl, gd_in hs (by simp), ?_⟩
        walk_at "e"
        refine ite2 (fun e2 => ?_) (fun e2 => ?_)
        · rw [e2, Bool.true_and] at q2
          refine re_one ?_
          refine re_call c dR (by decide) (by walk_at "gm") ?_
          walk_at "e"
          exact ⟨B, v3, d3, rfl, hd.2 2 v3 d3 rfl rfl, gd_in hs (by simp), q2⟩
        · rw [Bool.eq_false_iff.mpr e2, Bool.false_and] at q2
          exact q2 H Fr.refl
theorem body_is_entry (c : Ctx X nq_is_entry lq_is_entry 7) (dF : DefP X.prog X.w X.K X.mg X.base CX0 "is_first_entry" ["value"] 5 (spP X.K pFst)) (dP : DefP X.prog X.w X.K X.mg X.base CX0 "is_pointer" ["value"] 7 (spP X.K pPtr)) (h : spP X.K pEnt vs H Q E) :
    RB X (defBody sq_is_entry) { nx := fun _ H' => Q .non H', rt := Q } (start nq_is_entry vs) H := by
  obtain ⟨B, v, d, rfl, hv, hs, q⟩ := h
  show RB X (defBody sq_is_entry) _ [some v] H
  have q : ∀ H', Fr NoB H H' → Q (.bl ((tyN d == 0) || (pFst d || pPtr d))) H' := q
  walk_at "e0"
  refine cv_isND hv ?_
  walk_at "e"
  refine ite2 (fun e1 => ?_) (fun e1 => ?_)
  · have q0 := q H Fr.refl
    rw [e1, Bool.true_or] at q0
    exact q0
  · rw [Bool.eq_false_iff.mpr e1, Bool.false_or] at q
    refine re_or ?_
    refine re_call c dF (by decide) (by walk_at "gm") ?_
    walk_at "e"
    refine ⟨B, v, d, rfl, hv, hs, fun H1 f1 => ?_⟩
    walk_at "e"
    refine ite2 (fun e2 => ?_) (fun e2 => ?_)
    · have q0 := q H1 f1
      rw [e2, Bool.true_or] at q0
      exact q0
    · rw [Bool.eq_false_iff.mpr e2, Bool.false_or] at q
      refine re_one ?_
      refine re_call c dP (by decide) (by walk_at "gm") ?_
      walk_at "e"
      exact ⟨B, v, d, rfl, hv.fr f1.any, hs, fun H2 f2 => q H2 (f1.trans f2)⟩
end
/-! ### answers -/
def pFou (d : D) : Bool := ((["nothing", "long", "far"] : List Str).any (fun z => isO z d) || pVal d) || trio (fun a b t => isS "page" a && (pTo 31 b && pTerm t)) d
def pNames : D → Bool := tupP fun l => decide (l.length ≤ 9) && l.all pName
def pAns : D → Bool := pair2 fun a b => pFou a && pNames b
theorem all_range' {f : D → Bool} : ∀ l : List D, ((List.range l.length).map fun i => f (l.getD i .non)).all id = l.all f
  | [] => rfl
  | d :: r => by
    rw [List.length_cons, List.range_succ_eq_map, List.map_cons, List.map_map, List.all_cons, List.all_cons]
    exact congrArg _ (all_range' r)
theorem getD_of {l : List D} {i : Nat} (h : i < l.length) : l[i]? = some (l.getD i .non) := by
  rw [List.getElem?_eq_getElem h, List.getD_eq_getElem?_getD, List.getElem?_eq_getElem h]
  rfl
theorem szl {n : Nat} (h : n ≤ 1000) : n < sizeLine := Nat.lt_of_le_of_lt h (by decide)
section
variable {X : Cx} {vs : List V} {H : Hp} {Q : VK} {E : XK}
theorem body_is_found (c : Ctx X nq_is_found lq_is_found 4) (zi : X.mg "isinstance" = none) (zt : X.mg "tuple" = none) (zl : X.mg "len" = none) (dV : DefP X.prog X.w X.K X.mg X.base CX0 "is_value" ["value"] 3 (spQ X.K pVal))
    (dN : DefP X.prog X.w X.K X.mg X.base CX0 "is_node" ["value"] 2 (spQ X.K (pTo 31))) (dT : DefP X.prog X.w X.K X.mg X.base CX0 "is_term" ["value"] 4 (spP X.K pTerm)) (h : spP X.K pFou vs H Q E) :
    RB X (defBody sq_is_found) { nx := fun _ H' => Q .non H', rt := Q } (start nq_is_found vs) H := by
  obtain ⟨B, v, d, rfl, hv, hs, q⟩ := h
  show RB X (defBody sq_is_found) _ [some v] H
  walk_at "e0"
  refine ⟨by show 1 ≤ sizeLine; decide, fun p1 h1 => ?_⟩
  walk_at "e"
  refine ⟨by show 1 ≤ sizeLine; decide, fun p2 h2 => ?_⟩
  walk_at "e"
  refine ⟨by show 1 ≤ sizeLine; decide, fun p3 h3 => ?_⟩
  walk_at "e"
  refine ⟨by show 3 ≤ sizeLine; decide, fun p4 h4 => ?_⟩
  have f1 : Fr NoB H (upd H p1 (.tup [.str "nothing"])) := Fr.new h1
  have f2 := f1.trans (Fr.new (o := .tup [.str "long"]) h2)
  have f3 := f2.trans (Fr.new (o := .tup [.str "far"]) h3)
  have f4 := f3.trans (Fr.new (o := .tup [.ref p1, .ref p2, .ref p3]) h4)
  have t1 := (Fr.new (B := NoB) (o := .tup [.ref p1, .ref p2, .ref p3]) h4) _ _ (fun z => z) ((Fr.new (B := NoB) (o := .tup [.str "far"]) h3) _ _ (fun z => z) ((Fr.new (B := NoB) (o := .tup [.str "long"]) h2) _ _ (fun z => z) (upd_same (H := H) (a := p1) (o := .tup [.str "nothing"]))))
  have t2 := (Fr.new (B := NoB) (o := .tup [.ref p1, .ref p2, .ref p3]) h4) _ _ (fun z => z) ((Fr.new (B := NoB) (o := .tup [.str "far"]) h3) _ _ (fun z => z) (upd_same (H := upd H p1 (.tup [.str "nothing"])) (a := p2) (o := .tup [.str "long"])))
  have t3 := (Fr.new (B := NoB) (o := .tup [.ref p1, .ref p2, .ref p3]) h4) _ _ (fun z => z) (upd_same (H := upd (upd H p1 (.tup [.str "nothing"])) p2 (.tup [.str "long"])) (a := p3) (o := .tup [.str "far"]))
  have t4 := upd_same (H := upd (upd (upd H p1 (.tup [.str "nothing"])) p2 (.tup [.str "long"])) p3 (.tup [.str "far"])) (a := p4) (o := .tup [.ref p1, .ref p2, .ref p3])
  generalize upd (upd (upd (upd H p1 (.tup [.str "nothing"])) p2 (.tup [.str "long"])) p3 (.tup [.str "far"])) p4 (.tup [.ref p1, .ref p2, .ref p3]) = H4 at *
  have hv4 := hv.fr f4.any
  have q : ∀ H', Fr NoB H4 H' → Q (.bl (((["nothing", "long", "far"] : List Str).any (fun z => isO z d) || pVal d) || trio (fun a b t => isS "page" a && (pTo 31 b && pTerm t)) d)) H' := fun H' f => q H' (f4.trans f)
  have q0 := q H4 Fr.refl
  refine cv_inT1 c (ks := ["nothing", "long", "far"]) (ps := [p1, p2, p3]) hv4 hs (by decide) (SqT.of t4) rfl ?_ (by decide +kernel) ?_
  · intro i a z ha hz
    match i with
    | 0 => cases ha; cases hz; exact SqT.of t1
    | 1 => cases ha; cases hz; exact SqT.of t2
    | 2 => cases ha; cases hz; exact SqT.of t3
    | n + 3 => simp at ha
  walk_at "e"
  refine ite2 (fun e0 => ?_) (fun e0 => ?_)
  · rw [e0, Bool.true_or, Bool.true_or] at q0
    walk_at "g"
    exact q0
  rw [Bool.eq_false_iff.mpr e0, Bool.false_or] at q0 q
  walk_at "e"
  refine re_call c dV (by decide) (by walk_at "gm") ?_
  walk_at "e"
  refine ⟨B, v, d, rfl, hv4, hs, ?_⟩
  walk_at "e"
  refine ite2 (fun e0 => ?_) (fun e0 => ?_)
  · rw [e0, Bool.true_or] at q0
    walk_at "g"
    exact q0
  rw [Bool.eq_false_iff.mpr e0, Bool.false_or] at q0 q
  walk_at "e"
  walk_at "e0"
  refine cl_isT hv4 ?_
  walk_at "e"
  cases e1 : (tyN d == 5) with
  | false =>
    walk_at "g"
    rw [trio_n e1] at q0
    exact q0
  | true =>
    obtain ⟨a, us, ds, rfl, rfl, nB, t, hd⟩ := tup_at hv4 e1
    walk_at "e"
    refine lv_lenT (SqT.of t) ?_
    walk_at "e"
    cases e : decide ((us.length : Int) = 3) with
    | false =>
      have e2 := (lenN (n := 3) e).2 rfl
      rw [trio_l (by rw [← hd.1]; exact e2)] at q0
      walk_at "g"
      exact q0
    | true =>
      obtain ⟨v1, v2, v3, rfl⟩ := three_of ((lenN (n := 3) e).1 rfl)
      obtain ⟨d1, d2, d3, rfl⟩ := three_of (hd.1.symm)
      have q2 : ∀ H', Fr NoB H4 H' → Q (.bl (isS "page" d1 && (pTo 31 d2 && pTerm d3))) H' := q
      walk_at "e"
      refine cv_neDS c (hd.2 0 v1 d1 rfl rfl) (gd_in hs (by simp)) (by decide) (by decide +kernel) ?_
      walk_at "e"
      cases ep : isS "page" d1 with
      | false =>
        walk_at "g"
        rw [ep, Bool.false_and] at q2
        exact q2 H4 Fr.refl
      | true =>
        rw [ep, Bool.true_and] at q2
        walk_at "e"
        walk_at "e0"
        refine re_call c dN (by decide) (by walk_at "gm") ?_
        walk_at "e"
        refine ⟨B, v2, d2, rfl, hd.2 1 v2 d2 rfl rfl, gd_in hs (by simp), ?_⟩
        walk_at "e"
        refine ite2 (fun e2 => ?_) (fun e2 => ?_)
        · rw [e2, Bool.true_and] at q2
          refine re_one ?_
          refine re_call c dT (by decide) (by walk_at "gm") ?_
          walk_at "e"
          exact ⟨B, v3, d3, rfl, hd.2 2 v3 d3 rfl rfl, gd_in hs (by simp), q2⟩
        · rw [Bool.eq_false_iff.mpr e2, Bool.false_and] at q2
          exact q2 H4 Fr.refl
theorem body_is_answer (c : Ctx X nq_is_answer lq_is_answer 5) (zi : X.mg "isinstance" = none) (zt : X.mg "tuple" = none) (zl : X.mg "len" = none) (za : X.mg "all" = none) (gl : ∃ t, X.mg "MOST_NAMES" = some (.int 8 t)) (dF : DefP X.prog X.w X.K X.mg X.base CX0 "is_found" ["value"] 5 (spP X.K pFou))
    (dN : DefP X.prog X.w X.K X.mg X.base CX0 "is_name" ["value"] 4 (spP X.K pName)) (h : spP X.K pAns vs H Q E) :
    RB X (defBody sq_is_answer) { nx := fun _ H' => Q .non H', rt := Q } (start nq_is_answer vs) H := by
  obtain ⟨B, v, d, rfl, hv, hs, q⟩ := h
  show RB X (defBody sq_is_answer) _ [some v, none, none] H
  have q0 := q H Fr.refl
  walk_at "e0"
  refine cl_isT hv ?_
  walk_at "e"
  cases e1 : (tyN d == 5) with
  | false =>
    walk_at "g"
    rw [show pAns d = false from pair2_n e1] at q0
    exact q0
  | true =>
    obtain ⟨a, us, ds, rfl, rfl, nB, t, hd⟩ := tup_at hv e1
    walk_at "e"
    refine lv_lenT (SqT.of t) ?_
    walk_at "e"
    cases e : decide ((us.length : Int) = 2) with
    | false =>
      have e2 := (lenN (n := 2) e).2 rfl
      rw [show pAns (.tup ds) = false from pair2_l (by rw [← hd.1]; exact e2)] at q0
      walk_at "g"
      exact q0
    | true =>
      obtain ⟨v1, v2, rfl⟩ := two_of ((lenN (n := 2) e).1 rfl)
      obtain ⟨d1, d2, rfl⟩ := two_of (hd.1.symm)
      have g2 := gd_in hs (show d2 ∈ [d1, d2] by simp)
      have q2 : ∀ H', Fr NoB H H' → Q (.bl (pFou d1 && pNames d2)) H' := q
      walk_at "e"
      refine re_call c dF (by decide) (by walk_at "gm") ?_
      walk_at "e"
      refine ⟨B, v1, d1, rfl, hd.2 0 v1 d1 rfl rfl, gd_in hs (by simp), fun H1 f1 => ?_⟩
      have t1 := f1 _ _ (fun z => z) t
      have h2 := (hd.2 1 v2 d2 rfl rfl).fr f1.any
      have q2 : ∀ H', Fr NoB H1 H' → Q (.bl (pFou d1 && pNames d2)) H' := fun H' f => q2 H' (f1.trans f)
      walk_at "e"
      cases ep : pFou d1 with
      | false =>
        walk_at "g"
        rw [ep, Bool.false_and] at q2
        exact q2 H1 Fr.refl
      | true =>
        rw [ep, Bool.true_and] at q2
        walk_at "e"
        walk_at "e0"
        walk_at "e0"
        refine cl_isT h2 ?_
        walk_at "e"
        cases e3 : (tyN d2 == 5) with
        | false =>
          walk_at "g"
          have q3 := q2 H1 Fr.refl
          rw [show pNames d2 = false from tupP_n e3] at q3
          exact q3
        | true =>
          obtain ⟨a2, ws, es, rfl, rfl, nB2, t2, hd2⟩ := tup_at h2 e3
          have q2 : ∀ H', Fr NoB H1 H' → Q (.bl (decide (es.length ≤ 9) && es.all pName)) H' := q2
          walk_at "e"
          refine lv_lenT (SqT.of t2) ?_
          walk_at "e"
          refine re_gint c (by walk_at "gm") gl ?_
          walk_at "e"
          refine ite2 (fun e4 => ?_) (fun e4 => ?_)
          · walk_at "g"
            have q3 := q2 H1 Fr.refl
            rw [decide_eq_false (by have := of_decide_eq_true e4; have := hd2.1; omega), Bool.false_and] at q3
            exact q3
          · have l9 : es.length ≤ 9 := by
              have e5 : ¬ ((8 : Int) + 1 < ws.length) := fun z => e4 (decide_eq_true z)
              have := hd2.1
              omega
            rw [decide_eq_true l9, Bool.true_and] at q2
            walk_at "e"
            walk_at "e0"
            refine re_c_all c (by walk_at "gm") za ?_
            walk_at "e"
            refine re_lc_tup c lq_is_answer_c0 (by decide +kernel) ?_
            walk_at "e"
            refine ⟨a2, ws, rfl, SqT.of t2, cturns_gen (g := fun i => .bl (pName (es.getD i .non))) (szl (by have := hd2.1; omega)) (fun H' f => SqT.of (f _ _ (fun z => z) t2)) (fun y => by walk_at "gs") ?_ ?_⟩
            · rintro i y H' hi hy f s Hb C cl fp cb
              have hi2 : i < es.length := by rw [← hd2.1]; exact hi
              refine re_call cb dN (by decide) (by walk_at "gm") ?_
              walk_at "e"
              exact ⟨B, y, es.getD i .non, rfl, (hd2.2 i y _ hy (getD_of hi2)).fr f.any, gd_in g2 (List.mem_of_getElem? (getD_of hi2)), fun H'' f2 => ⟨rfl, f2⟩⟩
            · rintro Dn H' hD f hDn
              walk_at "e"
              refine lv_all c.calm (bs := (List.range es.length).map fun i => pName (es.getD i .non)) (SqL.of (by rw [hDn, hd2.1, List.map_map]; rfl)) ?_
              rw [all_range']
              exact q2 H' f
end
/-! ### deeds, events -/
theorem at0 {u : V} {r : List V} : atI (u :: r) 0 = some u := at_nat (xs := u :: r) (i := 0) rfl
def pPart (w : Str) (d : D) : Bool :=
  if w = "label" then pLab d else if w = "name" then pName d else if w = "fraction" then pFrac d else if w = "kept" then pKept d else if w = "node" then pTo 31 d else if w = "id" then pId d else
    if w = "term" then pTerm d else if w = "most" then pTo 8 d else if w = "entry" then pEnt d else pAns d
abbrev CKW : List Str := ["kept", "node", "id", "term", "most", "entry", "answer"]
abbrev ALW : List Str := ["label", "name", "fraction", "kept", "node", "id", "term", "most", "entry", "answer"]
structure ChkT (X : Cx) : Prop where
  ex : ∃ a, X.mg "CHECKS" = some (.ref a) ∧ ∀ w ∈ CKW, ∃ (f : Addr) (fd : FuncData), KDct X.K X.w a w (.ref f) ∧ FnOk X.prog X.w X.K X.mg X.base CX0 8 f fd ["value"] (spP X.K (pPart w)) ∧ PySem.W.keepIn X.K (.ref f) = true ∧ Binds X.K fd ["value"] []
def partsOk : List Str → List D → Bool
  | [], [] => true
  | w :: ws, d :: ds => pPart w d && partsOk ws ds
  | _, _ => false
theorem partsOk_l : ∀ (ws : List Str) (ds : List D), ws.length ≠ ds.length → partsOk ws ds = false
  | [], [], h => absurd rfl h
  | [], _ :: _, _ => rfl
  | _ :: _, [], _ => rfl
  | w :: ws, d :: ds, h => by
    show (pPart w d && partsOk ws ds) = false
    rw [partsOk_l ws ds (fun z => h (by simp [z])), Bool.and_false]
theorem partsOk_r : ∀ (ws : List Str) (ds : List D), ws.length = ds.length → ((List.range ws.length).map fun i => pPart (ws.getD i "") (ds.getD i .non)).all id = partsOk ws ds
  | [], [], _ => rfl
  | [], _ :: _, h => by cases h
  | _ :: _, [], h => by cases h
  | w :: ws, d :: ds, h => by
    rw [List.length_cons, List.range_succ_eq_map, List.map_cons, List.map_map, List.all_cons]
    exact congrArg _ (partsOk_r ws ds (by simpa using h))
abbrev kindTab : List (Str × List Str) := [("start", ["kept"]), ("tick", []), ("send", ["node"]), ("hear", ["id"]), ("put", ["term", "label", "entry"]), ("give", ["term", "label", "fraction", "node"]), ("pass", ["id", "node"]), ("swear", ["id"]), ("hand", ["term", "node"]), ("tell", ["name", "most", "answer"]), ("ask", ["name", "most"])]
abbrev KINDSL : List Str := ["start", "tick", "send", "hear", "put", "give", "pass", "swear", "hand", "tell", "ask"]
structure PaT (X : Cx) : Prop where
  ex : ∃ a, X.mg "PARTS" = some (.ref a) ∧ ∀ k ws, (k, ws) ∈ kindTab → ∃ t, KDct X.K X.w a k (.ref t) ∧ ∀ H, SqT X.K H t (ws.map V.str)
structure KiT (X : Cx) : Prop where
  ex : ∃ a, X.mg "KINDS" = some (.ref a) ∧ ∀ H, SqT X.K H a (KINDSL.map V.str)
def pDeedL : List D → Bool
  | [] => false
  | d :: r => kindTab.any fun p => isS p.1 d && partsOk p.2 r
def pDeed : D → Bool := tupP pDeedL
def eF3 (a b e : D) : Option Int := if pId a = true then (if pFrac b = true then (if pDeed e = true then none else some 2) else some 1) else some 0
def eF : D → Option Int
  | .tup [a, b, e] => eF3 a b e
  | _ => some (-1)
theorem eF_n {d : D} (h : (tyN d == 5) = false) : eF d = some (-1) := by cases d <;> first | rfl | cases h
theorem eF_l {l : List D} (h : l.length ≠ 3) : eF (.tup l) = some (-1) := by
  match l, h with
  | [], _ => rfl
  | [_], _ => rfl
  | [_, _], _ => rfl
  | [_, _, _], h => exact absurd rfl h
  | _ :: _ :: _ :: _ :: _, _ => rfl
theorem kinds_no {d : D} (h : (KINDSL.any fun z => isS z d) = false) (r : List D) : pDeedL (d :: r) = false := by
  show (kindTab.any fun p => isS p.1 d && partsOk p.2 r) = false
  rw [List.any_eq_false] at h ⊢
  intro p hp
  have h1 := h p.1 (by
    have : p.1 ∈ kindTab.map (·.1) := List.mem_map.mpr ⟨p, hp, rfl⟩
    exact this)
  rw [Bool.eq_false_iff.mpr h1, Bool.false_and]
  exact Bool.false_ne_true
theorem kinds_yes {d : D} (h : (KINDSL.any fun z => isS z d) = true) (r : List D) : ∃ k ws, d = .str k ∧ (k, ws) ∈ kindTab ∧ pDeedL (d :: r) = partsOk ws r ∧ ∀ w ∈ ws, w ∈ ALW := by
  rw [List.any_eq_true] at h
  obtain ⟨k, hk, hz⟩ := h
  have e : d = .str k := by
    cases d with
    | str w => rw [of_decide_eq_true (show decide (w = k) = true from hz)]
    | _ => cases hz
  subst e
  have fin : ∀ ws, (k, ws) ∈ kindTab → (∀ w ∈ ws, w ∈ ALW) → (kindTab.any fun p => isS p.1 (.str k) && partsOk p.2 r) = partsOk ws r → ∃ k' ws, D.str k = .str k' ∧ (k', ws) ∈ kindTab ∧ pDeedL (.str k :: r) = partsOk ws r ∧ ∀ w ∈ ws, w ∈ ALW := fun ws h1 h2 h3 => ⟨k, ws, rfl, h1, h3, h2⟩
  have big : ∀ (ws : List Str), (∀ p ∈ kindTab, isS p.1 (.str k) = decide (p.2 = ws ∧ p.1 = k)) → (k, ws) ∈ kindTab → (kindTab.any fun p => isS p.1 (.str k) && partsOk p.2 r) = partsOk ws r := by
    intro ws h1 h2
    cases hp : partsOk ws r with
    | true =>
      rw [List.any_eq_true]
      exact ⟨(k, ws), h2, by rw [h1 _ h2, decide_eq_true ⟨rfl, rfl⟩, hp]; rfl⟩
    | false =>
      rw [List.any_eq_false]
      intro p hm
      rw [h1 p hm]
      by_cases z : p.2 = ws ∧ p.1 = k
      · rw [z.1, hp, Bool.and_false]
        exact Bool.false_ne_true
      · rw [decide_eq_false z, Bool.false_and]
        exact Bool.false_ne_true
  simp only [List.mem_cons, List.not_mem_nil, or_false] at hk
  rcases hk with rfl | rfl | rfl | rfl | rfl | rfl | rfl | rfl | rfl | rfl | rfl
  · exact fin ["kept"] (by decide +kernel) (by decide +kernel) (big _ (by decide +kernel) (by decide +kernel))
  · exact fin [] (by decide +kernel) (by decide +kernel) (big _ (by decide +kernel) (by decide +kernel))
  · exact fin ["node"] (by decide +kernel) (by decide +kernel) (big _ (by decide +kernel) (by decide +kernel))
  · exact fin ["id"] (by decide +kernel) (by decide +kernel) (big _ (by decide +kernel) (by decide +kernel))
  · exact fin ["term", "label", "entry"] (by decide +kernel) (by decide +kernel) (big _ (by decide +kernel) (by decide +kernel))
  · exact fin ["term", "label", "fraction", "node"] (by decide +kernel) (by decide +kernel) (big _ (by decide +kernel) (by decide +kernel))
  · exact fin ["id", "node"] (by decide +kernel) (by decide +kernel) (big _ (by decide +kernel) (by decide +kernel))
  · exact fin ["id"] (by decide +kernel) (by decide +kernel) (big _ (by decide +kernel) (by decide +kernel))
  · exact fin ["term", "node"] (by decide +kernel) (by decide +kernel) (big _ (by decide +kernel) (by decide +kernel))
  · exact fin ["name", "most", "answer"] (by decide +kernel) (by decide +kernel) (big _ (by decide +kernel) (by decide +kernel))
  · exact fin ["name", "most"] (by decide +kernel) (by decide +kernel) (big _ (by decide +kernel) (by decide +kernel))
def spPart (K : PySem.W.Frag) : Sp := fun vs H Q _ => ∃ (B : Addr → Prop) (v : V) (d : D) (w : Str), vs = [.str w, v] ∧ w ∈ ALW ∧ Dt K B H v d ∧ Gd 20 d ∧ ∀ H', Fr NoB H H' → Q (.bl (pPart w d)) H'
def spParts (K : PySem.W.Frag) : Sp := fun vs H Q _ => ∃ (a b : Addr) (ws : List Str) (us : List V) (ds : List D), vs = [.ref a, .ref b] ∧ SqT K H a (ws.map V.str) ∧ H b = some (.tup us) ∧ Dts K NoB H us ds ∧ ws.length ≤ 200 ∧ (∀ w ∈ ws, w ∈ ALW) ∧ (∀ d ∈ ds, Gd 20 d) ∧ ds.length ≤ 200 ∧ ∀ H', Fr NoB H H' → Q (.bl (partsOk ws ds)) H'
section
variable {X : Cx} {vs : List V} {H : Hp} {Q : VK} {E : XK}
theorem body_is_part (c : Ctx X nq_is_part lq_is_part 8) (T : ChkT X) (dL : DefP X.prog X.w X.K X.mg X.base CX0 "is_label" ["value"] 2 (spIL X.K)) (dN : DefP X.prog X.w X.K X.mg X.base CX0 "is_name" ["value"] 4 (spP X.K pName))
    (dF : DefP X.prog X.w X.K X.mg X.base CX0 "is_fraction" ["value"] 3 (spQ X.K pFrac)) (h : spPart X.K vs H Q E) : RB X (defBody sq_is_part) { nx := fun _ H' => Q .non H', rt := Q } (start nq_is_part vs) H := by
  obtain ⟨B, v, d, w, rfl, hw, hv, hs, q⟩ := h
  show RB X (defBody sq_is_part) _ [some (.str w), some v, none] H
  walk_at "e0"
  refine ite2 (fun e1 => ?_) (fun e1 => ?_)
  · have e1 := of_decide_eq_true e1
    subst e1
    walk_at "e0"
    refine re_call c dL (by decide) (by walk_at "gm") ?_
    walk_at "e"
    exact ⟨B, v, d, rfl, hv, gd_sm hs, q⟩
  walk_at "e"
  walk_at "e0"
  refine ite2 (fun e2 => ?_) (fun e2 => ?_)
  · have e2 := of_decide_eq_true e2
    subst e2
    walk_at "e0"
    refine re_call c dN (by decide) (by walk_at "gm") ?_
    walk_at "e"
    exact ⟨B, v, d, rfl, hv, hs, q⟩
  walk_at "e"
  walk_at "e0"
  refine ite2 (fun e3 => ?_) (fun e3 => ?_)
  · have e3 := of_decide_eq_true e3
    subst e3
    walk_at "e0"
    refine re_call c dF (by decide) (by walk_at "gm") ?_
    walk_at "e"
    exact ⟨B, v, d, rfl, hv, hs, q H Fr.refl⟩
  walk_at "e"
  have hw2 : w ∈ CKW := by
    simp only [List.mem_cons, List.not_mem_nil, or_false] at hw ⊢
    rcases hw with rfl | rfl | rfl | hw
    · exact absurd (decide_eq_true rfl) e1
    · exact absurd (decide_eq_true rfl) e2
    · exact absurd (decide_eq_true rfl) e3
    · exact hw
  obtain ⟨ta, ga, T⟩ := T.ex
  obtain ⟨f, fdd, hk, F, kp, hb⟩ := T w hw2
  walk_at "e0"
  refine re_glob (v := .ref ta) c (by walk_at "gm") ga rfl ?_
  walk_at "e"
  refine iv_kd hk ?_
  walk_at "e"
  walk_at "e0"
  refine re_callL c F (by decide) kp hb (by walk_at "gm") .loc (by walk_at "gs") ?_
  walk_at "e"
  exact ⟨B, v, d, rfl, hv, hs, q⟩
theorem body_are_parts (c : Ctx X nq_are_parts lq_are_parts 9) (zl : X.mg "len" = none) (za : X.mg "all" = none) (zz : X.mg "zip" = none) (dP : DefP X.prog X.w X.K X.mg X.base CX0 "is_part" ["part", "value"] 9 (spPart X.K)) (h : spParts X.K vs H Q E) :
    RB X (defBody sq_are_parts) { nx := fun _ H' => Q .non H', rt := Q } (start nq_are_parts vs) H := by
  obtain ⟨a, b, ws, us, ds, rfl, ha, hb, hd, lw, hw, hg, ld, q⟩ := h
  show RB X (defBody sq_are_parts) _ [some (.ref a), some (.ref b), none, none] H
  have lm : (ws.map V.str).length = ws.length := List.length_map _
  walk_at "e0"
  refine lv_lenT (SqT.of hb) ?_
  walk_at "e"
  refine lv_lenT ha ?_
  walk_at "e"
  refine ite2 (fun e => ?_) (fun e => ?_)
  · have el : ws.length = ds.length := by
      have := of_decide_eq_true e
      rw [lm] at this
      have := hd.1
      omega
    walk_at "e"
    refine re_c_all c (by walk_at "gm") za ?_
    walk_at "e"
    refine re_lc_zipT c lq_are_parts_c0 (by decide +kernel) (by walk_at "gm") zz ?_
    walk_at "e"
    refine ⟨a, b, _, us, rfl, by rw [lm, el, hd.1], ha, SqT.of hb, cturns2_gen (g := fun i => .bl (pPart (ws.getD i "") (ds.getD i .non))) (σf := fun u v => [some (.ref a), some (.ref b), some u, some v]) (szl (by rw [lm]; omega)) (fun H' f => ⟨f.seqT (fun z => z) ha, SqT.of (f _ _ (fun z => z) hb)⟩) (fun u v => ⟨_, by walk_at "gs", by walk_at "gs"⟩) ?_ ?_⟩
    · rintro i u v H' hi hu hv f s Hb C cl fp cb
      rw [lm] at hi
      have hi2 : i < ds.length := by omega
      have hu2 : u = .str (ws.getD i "") ∧ ws.getD i "" ∈ ws := by
        rw [List.getElem?_map, List.getElem?_eq_getElem hi] at hu
        have e2 : ws.getD i "" = ws[i] := by rw [List.getD_eq_getElem?_getD, List.getElem?_eq_getElem hi]; rfl
        rw [e2]
        exact ⟨(Option.some.inj hu).symm, List.getElem_mem hi⟩
      obtain ⟨rfl, hm⟩ := hu2
      refine re_call cb dP (by decide) (by walk_at "gm") ?_
      walk_at "e"
      exact ⟨NoB, v, ds.getD i .non, ws.getD i "", rfl, hw _ hm, (hd.2 i v _ hv (getD_of hi2)).fr f.any, hg _ (List.mem_of_getElem? (getD_of hi2)), fun H'' f2 => ⟨rfl, f2⟩⟩
    · rintro Dn H' hD f hDn
      walk_at "e"
      refine lv_all c.calm (bs := (List.range ws.length).map fun i => pPart (ws.getD i "") (ds.getD i .non)) (SqL.of (by rw [hDn, lm, List.map_map]; rfl)) ?_
      rw [partsOk_r ws ds el]
      exact q H' f
  · have q0 := q H Fr.refl
    rw [partsOk_l ws ds (fun z => e (decide_eq_true (by rw [lm, z, hd.1])))] at q0
    exact q0
theorem body_is_deed (c : Ctx X nq_is_deed lq_is_deed 10) (zi : X.mg "isinstance" = none) (zt : X.mg "tuple" = none) (zl : X.mg "len" = none) (TK : KiT X) (TP : PaT X) (dP : DefP X.prog X.w X.K X.mg X.base CX0 "are_parts" ["parts", "values"] 10 (spParts X.K)) (h : spP X.K pDeed vs H Q E) :
    RB X (defBody sq_is_deed) { nx := fun _ H' => Q .non H', rt := Q } (start nq_is_deed vs) H := by
  obtain ⟨B, v, d, rfl, hv, hs, q⟩ := h
  obtain ⟨ka, gk, hk⟩ := TK.ex
  obtain ⟨ta, gt, ht⟩ := TP.ex
  show RB X (defBody sq_is_deed) _ [some v] H
  have q0 := q H Fr.refl
  walk_at "e0"
  refine cl_isT hv ?_
  walk_at "e"
  cases e1 : (tyN d == 5) with
  | false =>
    walk_at "g"
    rw [show pDeed d = false from tupP_n e1] at q0
    exact q0
  | true =>
    obtain ⟨a, us, ds, rfl, rfl, nB, t, hd⟩ := tup_at hv e1
    walk_at "e"
    refine lv_lenT (SqT.of t) ?_
    walk_at "e"
    cases us with
    | nil =>
      have : ds = [] := List.eq_nil_of_length_eq_zero hd.1.symm
      subst this
      walk_at "g"
      refine iteD (by decide) ?_
      walk_at "g"
      exact q0
    | cons u ur =>
      cases ds with
      | nil => cases hd.1
      | cons d0 dr =>
        have q : ∀ H', Fr NoB H H' → Q (.bl (pDeedL (d0 :: dr))) H' := q
        have q0 : Q (.bl (pDeedL (d0 :: dr))) H := q0
        have h0 := hd.2 0 u d0 rfl rfl
        have g0 := gd_in hs (show d0 ∈ d0 :: dr by simp)
        refine iteDN (by rw [List.length_cons]; omega) ?_
        walk_at "e"
        refine iv_tup (SqT.of t) at0 ?_
        walk_at "e"
        refine re_glob (v := .ref ka) c (by walk_at "gm") gk rfl ?_
        walk_at "e"
        refine cv_ninTS c (ks := KINDSL) h0 g0 (by decide) (hk _) (by decide +kernel) ?_
        walk_at "e"
        cases e2 : (KINDSL.any fun z => isS z d0) with
        | false =>
          rw [kinds_no e2] at q0
          walk_at "g"
          exact q0
        | true =>
          obtain ⟨k, ws, rfl, hm, e3, hA⟩ := kinds_yes e2 dr
          rw [e3] at q
          have hu : u = .str k := by cases h0; rfl
          subst hu
          obtain ⟨tt, hkd, htt⟩ := ht k ws hm
          walk_at "e"
          walk_at "e0"
          refine re_call c dP (by decide) (by walk_at "gm") ?_
          walk_at "e"
          refine re_glob (v := .ref ta) c (by walk_at "gm") gt rfl ?_
          walk_at "e"
          refine iv_tup (SqT.of t) at0 ?_
          walk_at "e"
          refine iv_kd hkd ?_
          walk_at "e"
          have l200 := gd_len hs
          refine sv_dt (B := NoB) (lo := some 1) (hi := none) (fun z => z) t (hd.mono fun _ z => z.elim) (fun _ z => z.elim) fun l ls H' f _ hl hls => ?_
          have ecut : cutD (.str k :: dr) (some 1) none = dr := by
            show (List.drop (HT.sIx (dr.length + 1) 0 (some ((1 : Nat) : Int))) (.str k :: dr)).take (HT.sIx (dr.length + 1) (dr.length + 1) none - HT.sIx (dr.length + 1) 0 (some ((1 : Nat) : Int))) = dr
            rw [HT.sIx_nat, HT.sIx_none, Nat.min_eq_left (by omega)]
            exact List.take_of_length_le (by simp)
          rw [ecut] at hls
          walk_at "e"
          refine ⟨tt, l, ws, ls, dr, rfl, htt _, hl, hls, ?_, hA, fun e he => gd_in hs (List.mem_cons_of_mem _ he), by rw [List.length_cons] at l200; omega, fun H2 f2 => q H2 (f.trans f2)⟩
          have : ∀ p ∈ kindTab, p.2.length ≤ 200 := by decide +kernel
          exact this _ hm
theorem body_event_fault (c : Ctx X nq_event_fault lq_event_fault 11) (zi : X.mg "isinstance" = none) (zt : X.mg "tuple" = none) (zl : X.mg "len" = none) (dI : DefP X.prog X.w X.K X.mg X.base CX0 "is_id" ["value"] 3 (spQ X.K pId))
    (dF : DefP X.prog X.w X.K X.mg X.base CX0 "is_fraction" ["value"] 3 (spQ X.K pFrac)) (dD : DefP X.prog X.w X.K X.mg X.base CX0 "is_deed" ["value"] 11 (spP X.K pDeed))
    (h : ∃ (B : Addr → Prop) (v : V) (d : D), vs = [v] ∧ Dt X.K B H v d ∧ Gd 20 d ∧ ∀ H', Fr NoB H H' → Q (oI (eF d)) H') : RB X (defBody sq_event_fault) { nx := fun _ H' => Q .non H', rt := Q } (start nq_event_fault vs) H := by
  obtain ⟨B, v, d, rfl, hv, hs, q⟩ := h
  show RB X (defBody sq_event_fault) _ [some v] H
  have q0 := q H Fr.refl
  walk_at "e0"
  refine cl_isT hv ?_
  walk_at "e"
  cases e1 : (tyN d == 5) with
  | false =>
    walk_at "g"
    rw [eF_n e1] at q0
    exact q0
  | true =>
    obtain ⟨a, us, ds, rfl, rfl, nB, t, hd⟩ := tup_at hv e1
    walk_at "e"
    refine lv_lenT (SqT.of t) ?_
    walk_at "e"
    cases e : decide ((us.length : Int) = 3) with
    | false =>
      have e2 := (lenN (n := 3) e).2 rfl
      rw [eF_l (by rw [← hd.1]; exact e2)] at q0
      walk_at "g"
      exact q0
    | true =>
      obtain ⟨v1, v2, v3, rfl⟩ := three_of ((lenN (n := 3) e).1 rfl)
      obtain ⟨d1, d2, d3, rfl⟩ := three_of (hd.1.symm)
      have q : ∀ H', Fr NoB H H' → Q (oI (eF3 d1 d2 d3)) H' := q
      unfold eF3 at q
      walk_at "e"
      walk_at "e0"
      refine re_call c dI (by decide) (by walk_at "gm") ?_
      walk_at "e"
      refine ⟨B, v1, d1, rfl, hd.2 0 v1 d1 rfl rfl, gd_in hs (by simp), ?_⟩
      walk_at "e"
      cases p1 : pId d1 with
      | false =>
        walk_at "g"
        have q1 := q H Fr.refl
        rw [p1, if_neg Bool.false_ne_true] at q1
        exact q1
      | true =>
        rw [p1, if_pos rfl] at q
        walk_at "e"
        walk_at "e0"
        refine re_call c dF (by decide) (by walk_at "gm") ?_
        walk_at "e"
        refine ⟨B, v2, d2, rfl, hd.2 1 v2 d2 rfl rfl, gd_in hs (by simp), ?_⟩
        walk_at "e"
        cases p2 : pFrac d2 with
        | false =>
          walk_at "g"
          have q1 := q H Fr.refl
          rw [p2, if_neg Bool.false_ne_true] at q1
          exact q1
        | true =>
          rw [p2, if_pos rfl] at q
          walk_at "e"
          walk_at "e0"
          refine re_call c dD (by decide) (by walk_at "gm") ?_
          walk_at "e"
          refine ⟨B, v3, d3, rfl, hd.2 2 v3 d3 rfl rfl, gd_in hs (by simp), fun H1 f1 => ?_⟩
          walk_at "e"
          have q1 := q H1 f1
          cases p3 : pDeed d3 with
          | false =>
            walk_at "g"
            rw [p3, if_neg Bool.false_ne_true] at q1
            exact q1
          | true =>
            rw [p3, if_pos rfl] at q1
            walk_at "g"
            exact q1
end
/-! ### checks, rosters -/
def spEF (K : PySem.W.Frag) : Sp := fun vs H Q _ => ∃ (B : Addr → Prop) (v : V) (d : D), vs = [v] ∧ Dt K B H v d ∧ Gd 20 d ∧ ∀ H', Fr NoB H H' → Q (oI (eF d)) H'
/-- a check: the very value, or the class with its place -/
def spCk (K : PySem.W.Frag) (C : Addr) (fu : D → Option Int) : Sp := fun vs H Q E => ∃ (B : Addr → Prop) (v : V) (d : D), vs = [v] ∧ Dt K B H v d ∧ Gd 20 d ∧
  (fu d = none → ∀ H', Fr NoB H H' → Q v H') ∧ (∀ i, fu d = some i → ∀ H' x, Fr NoB H H' → H' x = none → E (.ref C) (some x) (upd H' x (.xd [("at", .int i)])))
def enF (d : D) : Option Int := if pEnt d = true then none else some 2
def bnd2 : D → D → Bool
  | .int x, .int y => decide (1 ≤ x) && (decide (x ≤ y) && decide (y ≤ 1000))
  | _, _ => false
def pBnd : D → Bool := pair2 bnd2
def badR (i : Nat) (d : D) : Bool := decide (i = 32) || !pBnd d
def rF : D → Option Int
  | .tup ds => oN (ff badR 0 ds)
  | _ => some (-1)
theorem rF_n {d : D} (h : (tyN d == 5) = false) : rF d = some (-1) := by cases d <;> first | rfl | cases h
theorem bnd_0 {a b : D} (h : isI a = false) : bnd2 a b = false := by cases a <;> first | rfl | cases h
theorem bnd_1 {n : Int} {b : D} (h : isI b = false) : bnd2 (.int n) b = false := by cases b <;> first | rfl | cases h
section
variable {X : Cx} {vs : List V} {H : Hp} {Q : VK} {E : XK}
theorem body_check_event (c : Ctx X nq_check_event lq_check_event 12) {CL : Addr} (EC : ErrC X.prog X.w X.K X.mg X.base "BadEvent" "at" CL) (dF : DefP X.prog X.w X.K X.mg X.base CX0 "event_fault" ["value"] 12 (spEF X.K)) (tk : Takes X (fun cls d _ H' => E cls d H'))
    (h : spCk X.K CL eF vs H Q E) : RB X (defBody sq_check_event) { nx := fun _ H' => Q .non H', rt := Q } (start nq_check_event vs) H := by
  obtain ⟨B, v, d, rfl, hv, hs, q, qe⟩ := h
  show RB X (defBody sq_check_event) _ [some v, none] H
  walk_at "e0"
  refine re_call c dF (by decide) (by walk_at "gm") ?_
  walk_at "e"
  refine ⟨B, v, d, rfl, hv, hs, fun H' f => ?_⟩
  walk_at "e"
  walk_at "e0"
  cases hd : eF d with
  | none =>
    show CpV _ _ V.non V.non _ _
    walk_at "g"
    exact q hd _ f
  | some i =>
    show CpV _ _ (V.int i) V.non _ _
    walk_at "e"
    refine rb_cons ?_
    refine rs_raise c EC (by decide) (by walk_at "gm") tk ?_
    walk_at "e"
    exact fun x hx => qe i hd _ x f hx
theorem body_check_entry (c : Ctx X nq_check_entry lq_check_entry 8) {CL : Addr} (EC : ErrC X.prog X.w X.K X.mg X.base "BadEvent" "at" CL) (dE : DefP X.prog X.w X.K X.mg X.base CX0 "is_entry" ["value"] 8 (spP X.K pEnt)) (tk : Takes X (fun cls d _ H' => E cls d H'))
    (h : spCk X.K CL enF vs H Q E) : RB X (defBody sq_check_entry) { nx := fun _ H' => Q .non H', rt := Q } (start nq_check_entry vs) H := by
  obtain ⟨B, v, d, rfl, hv, hs, q, qe⟩ := h
  show RB X (defBody sq_check_entry) _ [some v] H
  walk_at "e0"
  refine re_call c dE (by decide) (by walk_at "gm") ?_
  walk_at "e"
  refine ⟨B, v, d, rfl, hv, hs, fun H' f => ?_⟩
  walk_at "e"
  cases hd : pEnt d with
  | true =>
    walk_at "g"
    exact q (by show (if pEnt d = true then none else some 2) = none; rw [if_pos hd]) _ f
  | false =>
    walk_at "e"
    refine rb_cons ?_
    refine rs_raise c EC (by decide) (by walk_at "gm") tk ?_
    walk_at "e"
    exact fun x hx => qe 2 (by show (if pEnt d = true then none else some 2) = some 2; rw [if_neg (by rw [hd]; exact Bool.false_ne_true)]) _ x f hx
theorem body_is_bounds (c : Ctx X nq_is_bounds lq_is_bounds 1) (zi : X.mg "isinstance" = none) (zt : X.mg "tuple" = none) (zl : X.mg "len" = none) (gl : ∃ t, X.mg "SLOWEST" = some (.int 1000 t)) (dW : DefP X.prog X.w X.K X.mg X.base CX0 "is_whole" ["value"] 1 (spIW X.K)) (h : spQ X.K pBnd vs H Q E) :
    RB X (defBody sq_is_bounds) { nx := fun _ H' => Q .non H', rt := Q } (start nq_is_bounds vs) H := by
  obtain ⟨B, v, d, rfl, hv, hs, q⟩ := h
  show RB X (defBody sq_is_bounds) _ [some v, none, none] H
  walk_at "e0"
  refine cl_isT hv ?_
  walk_at "e"
  cases e1 : (tyN d == 5) with
  | false =>
    walk_at "g"
    rw [show pBnd d = false from pair2_n e1] at q
    exact q
  | true =>
    obtain ⟨a, us, ds, rfl, rfl, nB, t, hd⟩ := tup_at hv e1
    walk_at "e"
    refine lv_lenT (SqT.of t) ?_
    walk_at "e"
    cases e : decide ((us.length : Int) = 2) with
    | false =>
      have e2 := (lenN (n := 2) e).2 rfl
      rw [show pBnd (.tup ds) = false from pair2_l (by rw [← hd.1]; exact e2)] at q
      walk_at "g"
      exact q
    | true =>
      obtain ⟨v1, v2, rfl⟩ := two_of ((lenN (n := 2) e).1 rfl)
      obtain ⟨d1, d2, rfl⟩ := two_of (hd.1.symm)
      have h1 := hd.2 0 v1 d1 rfl rfl
      have h2 := hd.2 1 v2 d2 rfl rfl
      have q : Q (.bl (bnd2 d1 d2)) H := q
      walk_at "e"
      refine rb_cons ?_
      refine rs_tup2 c (by walk_at "gm") .loc (by walk_at "gm") (by walk_at "gm") .loc (by walk_at "gm") ?_ (by with_unfolding_all rfl)
      walk_at "e"
      refine ⟨a, v1, v2, rfl, SqT.of t, _, _, by walk_at "gs", by walk_at "gs", ?_⟩
      walk_at "e0"
      refine re_call c dW (by decide) (by walk_at "gm") ?_
      walk_at "e"
      refine ⟨B, v1, d1, rfl, h1, ?_⟩
      walk_at "e"
      cases e1 : isI d1 with
      | false =>
        walk_at "g"
        rw [bnd_0 e1] at q
        exact q
      | true =>
        obtain ⟨n, rfl, rfl⟩ := dt_int h1 e1
        walk_at "e"
        refine re_call c dW (by decide) (by walk_at "gm") ?_
        walk_at "e"
        refine ⟨B, v2, d2, rfl, h2, ?_⟩
        walk_at "e"
        cases e2 : isI d2 with
        | false =>
          walk_at "g"
          rw [bnd_1 e2] at q
          exact q
        | true =>
          obtain ⟨m, rfl, rfl⟩ := dt_int h2 e2
          have q : Q (.bl (decide (1 ≤ n) && (decide (n ≤ m) && decide (m ≤ 1000)))) H := q
          walk_at "e"
          refine re_chain3 ?_
          unfold c3Q
          walk_at "e"
          refine ite2 (fun e3 => ?_) (fun e3 => ?_)
          · rw [e3, Bool.true_and] at q
            walk_at "e"
            refine ite2 (fun e4 => ?_) (fun e4 => ?_)
            · rw [e4, Bool.true_and] at q
              refine re_gint c (by walk_at "gm") gl ?_
              walk_at "e"
              exact q
            · rw [Bool.eq_false_iff.mpr e4, Bool.false_and] at q
              exact q
          · rw [Bool.eq_false_iff.mpr e3, Bool.false_and] at q
            exact q
theorem body_check_roster (c : Ctx X nq_check_roster lq_check_roster 2) (zi : X.mg "isinstance" = none) (zt : X.mg "tuple" = none) (ze : X.mg "enumerate" = none) (gl : ∃ t, X.mg "ROSTER_PAIRS" = some (.int 32 t)) {CL : Addr} (EC : ErrC X.prog X.w X.K X.mg X.base "BadRoster" "at" CL)
    (dB : DefP X.prog X.w X.K X.mg X.base CX0 "is_bounds" ["value"] 2 (spQ X.K pBnd)) (tk : Takes X (fun cls d _ H' => E cls d H')) (h : spCk X.K CL rF vs H Q E) : RB X (defBody sq_check_roster) { nx := fun _ H' => Q .non H', rt := Q } (start nq_check_roster vs) H := by
  obtain ⟨B, v, d, rfl, hv, hs, q, qe⟩ := h
  show RB X (defBody sq_check_roster) _ [some v, none, none] H
  walk_at "e0"
  refine cl_isT hv ?_
  walk_at "e"
  cases e1 : (tyN d == 5) with
  | false =>
    walk_at "e"
    refine rb_cons ?_
    refine rs_raise c EC (by decide) (by walk_at "gm") tk ?_
    walk_at "e"
    exact fun x hx => qe (-1) (rF_n e1) _ x Fr.refl hx
  | true =>
    obtain ⟨a, us, ds, rfl, rfl, nB, t, hd⟩ := tup_at hv e1
    have er : rF (.tup ds) = oN (ff badR 0 ds) := rfl
    rw [er] at q qe
    walk_at "e"
    refine rb_cons ?_
    refine rs_for_enumT c (by walk_at "gm") .loc (by walk_at "gm") (by walk_at "gm") .loc (by walk_at "gm") (by walk_at "gm") ze ?_
    walk_at "e"
    refine ⟨a, us, rfl, SqT.of t, fun i σ H' => Fr NoB H H' ∧ ff badR 0 ds = ff badR i (ds.drop i) ∧ ∃ s1 s2 : Option V, σ = [some (.ref a), s1, s2], ⟨Fr.refl, rfl, none, none, rfl⟩, fun _ _ _ _ h => SqT.of (h.1 _ _ (fun z => z) t), ?_, ?_⟩
    · rintro i x b σ H' T hi ea eb ⟨f, hff, s1, s2, rfl⟩ hT
      cases ea
      have hi2 : i < ds.length := by have := hd.1; omega
      have hc : ds[i]? = some ds[i] := List.getElem?_eq_getElem hi2
      have f2 := f.trans (Fr.new (o := .tup [.int (i : Nat), b]) hT)
      generalize upd H' T (.tup [.int (i : Nat), b]) = H2 at f2
      have hst := ff_at (p := badR) hc
      have bad : badR i ds[i] = true → ∀ H3, Fr NoB H H3 → ∀ x, H3 x = none → E (.ref CL) (some x) (upd H3 x (.xd [("at", .int (i : Nat))])) := fun z H3 f3 x hx => by
        refine qe _ ?_ H3 x f3 hx
        rw [hff, hst, if_pos z]
        rfl
      refine ⟨_, _, by walk_at "gs", by walk_at "gs", ?_⟩
      walk_at "e0"
      refine re_gint c (by walk_at "gm") gl ?_
      walk_at "e"
      refine ite2 (fun e1 => ?_) (fun e1 => ?_)
      · walk_at "e"
        refine rb_cons ?_
        refine rs_raise c EC (by decide) (by walk_at "gm") tk ?_
        walk_at "e"
        exact bad (by unfold badR; rw [decide_eq_true (by have := of_decide_eq_true e1; omega)]; rfl) _ f2
      · walk_at "e"
        refine re_call c dB (by decide) (by walk_at "gm") ?_
        walk_at "e"
        refine ⟨B, b, ds[i], rfl, (hd.2 i b _ eb hc).fr f2.any, gd_in hs (List.getElem_mem hi2), ?_⟩
        walk_at "e"
        cases hp : pBnd ds[i] with
        | true =>
          walk_at "g"
          refine ⟨f2, ?_, _, _, rfl⟩
          have z : badR i ds[i] = false := by
            unfold badR
            rw [hp, decide_eq_false (fun z => e1 (decide_eq_true (by omega)))]
            rfl
          rw [hff, hst, if_neg (by rw [z]; exact Bool.false_ne_true)]
        | false =>
          walk_at "e"
          refine rb_cons ?_
          refine rs_raise c EC (by decide) (by walk_at "gm") tk ?_
          walk_at "e"
          exact bad (by unfold badR; rw [hp]; simp) _ f2
    · rintro σ H' ⟨f, hff, s1, s2, rfl⟩
      walk_at "g"
      refine q ?_ _ f
      rw [hff, hd.1, ff_end]
      rfl
end
/-! ### the law's own reading: small things -/
theorem ff_none {α : Type} {p : Nat → α → Bool} : ∀ (l : List α) (i : Nat), ff p i l = none ↔ ∀ (j : Nat) x, l[j]? = some x → p (i + j) x = false
  | [], i => ⟨fun _ j x h => by simp at h, fun _ => rfl⟩
  | y :: r, i => by
    unfold ff
    by_cases h : p i y = true
    · rw [if_pos h]
      constructor
      · intro z
        cases z
      · intro z
        have := z 0 y rfl
        rw [Nat.add_zero, h] at this
        cases this
    · rw [if_neg h, ff_none r (i + 1)]
      constructor
      · intro z j x hj
        cases j with
        | zero =>
          cases hj
          exact Bool.eq_false_iff.mpr h
        | succ j =>
          have := z j x (by simpa using hj)
          rwa [show i + (j + 1) = i + 1 + j by omega]
      · intro z j x hj
        have := z (j + 1) x (by simpa using hj)
        rwa [show i + (j + 1) = i + 1 + j by omega] at this
theorem oN_none {o : Option Nat} : (oN o).isNone = o.isNone := by cases o <;> rfl
def lowC (c : Nat) : Bool := decide (97 ≤ c) && decide (c ≤ 122)
theorem pLab_str {z : Str} : pLab (.str z) = true ↔ 1 ≤ z.length ∧ z.length ≤ 8 ∧ ∀ c ∈ z.cps.toList, 97 ≤ c ∧ c ≤ 122 := by
  have ez : z.length = z.cps.toList.length := by show z.cps.size = _; simp
  show (tf (.str z)).isNone = true ↔ _
  show (if z.length = 0 then some (-1) else oN (ff badC 0 z.cps.toList)).isNone = true ↔ _
  by_cases h : z.length = 0
  · rw [if_pos h]
    constructor
    · intro h; cases h
    · intro h; omega
  · rw [if_neg h, oN_none, Option.isNone_iff_eq_none, ff_none]
    constructor
    · intro g
      refine ⟨by omega, ?_, ?_⟩
      · rcases Nat.lt_or_ge 8 z.length with h8 | h8
        · have h9 : 8 < z.cps.toList.length := by omega
          have := g 8 _ (List.getElem?_eq_getElem h9)
          unfold badC at this
          simp at this
        · exact h8
      · intro c hc
        obtain ⟨j, hj⟩ := List.mem_iff_getElem?.mp hc
        have := g j c hj
        unfold badC at this
        simp at this
        omega
    · rintro ⟨h1, h8, g⟩ j c hj
      have hc := g c (List.mem_of_getElem? hj)
      have hl : j < z.cps.toList.length := by
        rcases Nat.lt_or_ge j z.cps.toList.length with q | q
        · exact q
        · rw [List.getElem?_eq_none q] at hj; cases hj
      unfold badC
      rw [decide_eq_false (by omega), decide_eq_false (by omega), decide_eq_false (by omega)]
      rfl
theorem pName_tup {l : List D} : pName (.tup l) = true ↔ 1 ≤ l.length ∧ l.length ≤ 6 ∧ ∀ d ∈ l, pLab d = true := by
  show (nf (.tup l)).isNone = true ↔ _
  show (if l.length = 0 then some (-1) else oN (ff badL 0 l)).isNone = true ↔ _
  by_cases h : l.length = 0
  · rw [if_pos h]
    constructor
    · intro h; cases h
    · intro h; omega
  · rw [if_neg h, oN_none, Option.isNone_iff_eq_none, ff_none]
    have lab : ∀ d, pLab d = true ↔ (tf d).isSome = false := fun d => by
      show (tf d).isNone = true ↔ _
      cases tf d <;> simp
    constructor
    · intro g
      refine ⟨by omega, ?_, ?_⟩
      · rcases Nat.lt_or_ge 6 l.length with h8 | h8
        · have := g 6 _ (List.getElem?_eq_getElem h8)
          unfold badL at this
          simp at this
        · exact h8
      · intro d hd
        obtain ⟨j, hj⟩ := List.mem_iff_getElem?.mp hd
        have := g j d hj
        unfold badL at this
        rw [Bool.or_eq_false_iff] at this
        exact (lab d).mpr this.2
    · rintro ⟨h1, h8, g⟩ j d hj
      have hc := g d (List.mem_of_getElem? hj)
      have hl : j < l.length := by
        rcases Nat.lt_or_ge j l.length with q | q
        · exact q
        · rw [List.getElem?_eq_none q] at hj; cases hj
      unfold badL
      rw [decide_eq_false (by omega), (lab d).mp hc]
      rfl
def geD (k : Int) : D → Bool
  | .int i => decide (k ≤ i)
  | _ => false
def szD (n : Int) : D → Bool
  | .tup l => decide ((l.length : Int) = n)
  | _ => false
def spGe (K : PySem.W.Frag) : Sp := fun vs H Q _ => ∃ (B : Addr → Prop) (v : V) (d : D) (k : Int), vs = [v, .int k] ∧ Dt K B H v d ∧ Q (.bl (geD k d)) H
def spSz (K : PySem.W.Frag) : Sp := fun vs H Q _ => ∃ (B : Addr → Prop) (v : V) (d : D) (k : Int), vs = [v, .int k] ∧ Dt K B H v d ∧ Q (.bl (szD k d)) H
theorem sz_at {K : PySem.W.Frag} {B : Addr → Prop} {H : Hp} {v : V} {d : D} {n : Nat} (h : Dt K B H v d) (e : szD (n : Int) d = true) : ∃ a vs ds, v = .ref a ∧ d = .tup ds ∧ ¬ B a ∧ H a = some (.tup vs) ∧ Dts K B H vs ds ∧ vs.length = n ∧ ds.length = n := by
  cases h with
  | tup nB t l h =>
    have e2 := of_decide_eq_true e
    exact ⟨_, _, _, rfl, rfl, nB, t, ⟨l, h⟩, by omega, by omega⟩
  | _ => cases e
theorem sz_no {n : Nat} {l : List D} (h : szD (n : Int) (.tup l) = false) : l.length ≠ n := fun z => by
  have h2 : decide ((l.length : Int) = n) = false := h
  have := of_decide_eq_false h2
  omega
theorem pId_sz {d : D} (h : szD 3 d = false) : pId d = false := by
  cases d with
  | tup l => exact pId3_n (sz_no (n := 3) h)
  | _ => rfl
theorem pair2_sz {f : D → D → Bool} {d : D} (h : szD 2 d = false) : pair2 f d = false := by
  cases d with
  | tup l => exact pair2_l (sz_no (n := 2) h)
  | _ => rfl
theorem trio_sz {f : D → D → D → Bool} {d : D} (h : szD 3 d = false) : trio f d = false := by
  cases d with
  | tup l => exact trio_l (sz_no (n := 3) h)
  | _ => rfl
/-- Euclid ends within so many turns -/
def eT : Nat → Nat → Nat → Prop
  | 0, _, y => y = 0
  | n + 1, x, y => y = 0 ∨ eT n y (x % y)
def fb : Nat → Nat × Nat
  | 0 => (1, 2)
  | n + 1 => ((fb n).2, (fb n).1 + (fb n).2)
theorem fb_pos : ∀ n, 1 ≤ (fb n).1 ∧ (fb n).1 ≤ (fb n).2
  | 0 => by decide
  | n + 1 => by
    have := fb_pos n
    show 1 ≤ (fb n).2 ∧ (fb n).2 ≤ (fb n).1 + (fb n).2
    omega
theorem eT_of : ∀ n, (∀ x y, y < (fb n).1 → eT n x y) ∧ (∀ x y, y < (fb n).2 → eT (n + 1) x y)
  | 0 => by
    constructor
    · intro x y h
      have : (fb 0).1 = 1 := rfl
      show y = 0
      omega
    · intro x y h
      have : (fb 0).2 = 2 := rfl
      show y = 0 ∨ x % y = 0
      rcases Nat.eq_zero_or_pos y with z | z
      · exact .inl z
      · have : y = 1 := by omega
        subst this
        exact .inr (Nat.mod_one x)
  | n + 1 => by
    obtain ⟨h1, h2⟩ := eT_of n
    refine ⟨h2, fun x y h => ?_⟩
    have e : (fb (n + 1)).2 = (fb n).1 + (fb n).2 := rfl
    rw [e] at h
    rcases Nat.eq_zero_or_pos y with z | z
    · exact .inl z
    · refine .inr ?_
      have hm := Nat.mod_lt x z
      rcases Nat.lt_or_ge (x % y) (fb n).2 with g | g
      · exact h2 _ _ g
      · have hp := fb_pos n
        refine .inr (h1 _ _ ?_)
        have r0 : 0 < x % y := by omega
        have h3 := Nat.div_add_mod y (x % y)
        have h4 : 1 ≤ y / (x % y) := (Nat.one_le_div_iff r0).mpr (by omega)
        have h5 : (x % y) * 1 ≤ (x % y) * (y / (x % y)) := Nat.mul_le_mul_left _ h4
        omega
theorem e200 {x y : Nat} (h : y ≤ 10 ^ 40) : eT 200 x y := by
  refine (eT_of 200).1 x y (Nat.lt_of_le_of_lt h ?_)
  decide +kernel
def spGcd : Sp := fun vs H Q _ => ∃ a b : Nat, vs = [.int (a : Int), .int (b : Int)] ∧ b ≤ 10 ^ 40 ∧ Q (.int ((Nat.gcd a b : Nat) : Int)) H
section
variable {X : Cx} {vs : List V} {H : Hp} {Q : VK} {E : XK}
theorem body_whole (c : Ctx X nq_whole lq_whole 0) (zi : X.mg "isinstance" = none) (zI : X.mg "int" = none) (zb : X.mg "bool" = none) (h : spGe X.K vs H Q E) : RB X (defBody sq_whole) { nx := fun _ H' => Q .non H', rt := Q } (start nq_whole vs) H := by
  obtain ⟨B, v, d, k, rfl, hv, q⟩ := h
  show RB X (defBody sq_whole) _ [some v, some (.int k)] H
  cases hv with
  | non =>
    walk_at "g0"
    exact q
  | bl =>
    walk_at "g0"
    exact q
  | int =>
    walk_at "g0"
    exact q
  | str =>
    walk_at "g0"
    exact q
  | lst n t l hh =>
    walk_at "g0"
    exact q
  | tup n t l hh =>
    walk_at "g0"
    exact q
theorem body_size (c : Ctx X nq_size lq_size 0) (zi : X.mg "isinstance" = none) (zt : X.mg "tuple" = none) (zl : X.mg "len" = none) (h : spSz X.K vs H Q E) : RB X (defBody sq_size) { nx := fun _ H' => Q .non H', rt := Q } (start nq_size vs) H := by
  obtain ⟨B, v, d, k, rfl, hv, q⟩ := h
  show RB X (defBody sq_size) _ [some v, some (.int k)] H
  walk_at "e0"
  refine cl_isT hv ?_
  walk_at "e"
  cases e1 : (tyN d == 5) with
  | false =>
    have z : szD k d = false := by cases d <;> first | rfl | cases e1
    rw [z] at q
    walk_at "g"
    exact q
  | true =>
    obtain ⟨a, us, ds, rfl, rfl, nB, t, hd⟩ := tup_at hv e1
    have q : Q (.bl (decide ((ds.length : Int) = k))) H := q
    walk_at "e"
    refine lv_lenT (SqT.of t) ?_
    walk_at "e"
    rw [hd.1]
    exact q
theorem body_is_nodeL (c : Ctx X nq_is_nodeL lq_is_nodeL 1) (dW : DefP X.prog X.w X.K X.mg X.base CX0 "_law_whole" ["value", "least"] 1 (spGe X.K)) (h : spQ X.K (pTo 31) vs H Q E) : RB X (defBody sq_is_nodeL) { nx := fun _ H' => Q .non H', rt := Q } (start nq_is_nodeL vs) H := by
  obtain ⟨B, v, d, rfl, hv, hs, q⟩ := h
  show RB X (defBody sq_is_nodeL) _ [some v] H
  walk_at "e0"
  refine re_call c dW (by decide) (by walk_at "gm") ?_
  walk_at "e"
  refine ⟨B, v, d, 0, rfl, hv, ?_⟩
  walk_at "e"
  cases e1 : geD 0 d with
  | false =>
    have z : pTo 31 d = false := by
      cases d with
      | int i =>
        have e1 : decide ((0 : Int) ≤ i) = false := e1
        rw [pTo_i, e1, Bool.false_and]
      | _ => rfl
    rw [z] at q
    walk_at "g"
    exact q
  | true =>
    cases hv with
    | int =>
      rename_i i
      have e1 : decide ((0 : Int) ≤ i) = true := e1
      rw [pTo_i, e1, Bool.true_and] at q
      walk_at "g"
      rw [decide_eq_decide.mpr (show i < 32 ↔ i ≤ 31 by omega)]
      exact q
    | _ => cases e1
theorem geD_0 {d : D} : geD 0 d = pCount d := by cases d <;> rfl
theorem body_is_idL (c : Ctx X nq_is_idL lq_is_idL 2) (dW : DefP X.prog X.w X.K X.mg X.base CX0 "_law_whole" ["value", "least"] 1 (spGe X.K)) (dS : DefP X.prog X.w X.K X.mg X.base CX0 "_law_size" ["value", "many"] 1 (spSz X.K))
    (dN : DefP X.prog X.w X.K X.mg X.base CX0 "_law_is_node" ["value"] 2 (spQ X.K (pTo 31))) (h : spQ X.K pId vs H Q E) : RB X (defBody sq_is_idL) { nx := fun _ H' => Q .non H', rt := Q } (start nq_is_idL vs) H := by
  obtain ⟨B, v, d, rfl, hv, hs, q⟩ := h
  show RB X (defBody sq_is_idL) _ [some v] H
  walk_at "e0"
  refine re_call c dS (by decide) (by walk_at "gm") ?_
  walk_at "e"
  refine ⟨B, v, d, 3, rfl, hv, ?_⟩
  walk_at "e"
  cases e1 : szD 3 d with
  | false =>
    have z : pId d = false := pId_sz e1
    rw [z] at q
    walk_at "g"
    exact q
  | true =>
    obtain ⟨a, us, ds, rfl, rfl, nB, t, hd, l1, l2⟩ := sz_at (n := 3) hv e1
    obtain ⟨v1, v2, v3, rfl⟩ := three_of l1
    obtain ⟨d1, d2, d3, rfl⟩ := three_of l2
    have q2 : Q (.bl (pTo 31 d1 && (pCount d2 && pCount d3))) H := q
    walk_at "e"
    refine re_call c dN (by decide) (by walk_at "gm") ?_
    walk_at "e"
    refine ⟨B, v1, d1, rfl, hd.2 0 v1 d1 rfl rfl, gd_in hs (by simp), ?_⟩
    walk_at "e"
    refine ite2 (fun e1 => ?_) (fun e1 => ?_)
    · rw [e1, Bool.true_and] at q2
      refine re_and ?_
      refine re_call c dW (by decide) (by walk_at "gm") ?_
      walk_at "e"
      refine ⟨B, v2, d2, 0, rfl, hd.2 1 v2 d2 rfl rfl, ?_⟩
      rw [geD_0]
      walk_at "e"
      refine ite2 (fun e2 => ?_) (fun e2 => ?_)
      · rw [e2, Bool.true_and] at q2
        refine re_one ?_
        refine re_call c dW (by decide) (by walk_at "gm") ?_
        walk_at "e"
        refine ⟨B, v3, d3, 0, rfl, hd.2 2 v3 d3 rfl rfl, ?_⟩
        rw [geD_0]
        exact q2
      · rw [Bool.eq_false_iff.mpr e2, Bool.false_and] at q2
        exact q2
    · rw [Bool.eq_false_iff.mpr e1, Bool.false_and] at q2
      exact q2
end
theorem abc_in (ch : Nat) : decide (ch ∈ ("abcdefghijklmnopqrstuvwxyz" : Str).cps.toList) = !(decide (ch < 97) || decide (122 < ch)) := by
  have e : ("abcdefghijklmnopqrstuvwxyz" : Str).cps.toList = (List.range 26).map (· + 97) := by decide +kernel
  rw [e]
  have e2 : (ch ∈ (List.range 26).map (· + 97)) ↔ (97 ≤ ch ∧ ch ≤ 122) := by
    rw [List.mem_map]
    constructor
    · rintro ⟨a, ha, rfl⟩
      rw [List.mem_range] at ha
      omega
    · rintro ⟨h1, h2⟩
      exact ⟨ch - 97, by rw [List.mem_range]; omega, by omega⟩
  rw [decide_eq_decide.mpr e2]
  by_cases h1 : ch < 97
  · rw [decide_eq_false (by omega), decide_eq_true h1]
    rfl
  · by_cases h2 : 122 < ch
    · rw [decide_eq_false (by omega), decide_eq_false h1, decide_eq_true h2]
      rfl
    · rw [decide_eq_true (by omega), decide_eq_false h1, decide_eq_false h2]
      rfl
theorem cv_ninCh {X : Cx} {H : Hp} {Q : VK} {ch : Nat} {z : Str} (q : Q (.bl (!decide (ch ∈ z.cps.toList))) H) : CpV X .NotIn (.str ⟨#[ch]⟩) (.str z) H Q := ⟨⟨_, op_notIn_sign, ch, z, rfl, rfl, q⟩⟩
theorem isS_n {z : Str} {d : D} (h : (tyN d == 3) = false) : isS z d = false := by cases d <;> first | rfl | cases h
theorem one_any {Y : Cx} {σ : L2.St} {H : Hp} {Q : VK} {j : Nat} {pos : Pos} (q : Q (.int 1) H) : RE Y (.Constant (.int 1) j pos) σ H Q := re_int q
theorem fd2_i {n m : Int} : fd2 (.int n) (.int m) = fp n m := rfl
theorem pFst_n {d : D} (h : szD 2 d = false) : pFst d = false := by
  show (pVal d || pNam d) = false
  rw [show pVal d = false from pair2_sz h, show pNam d = false from pair2_sz h]
  rfl
section
variable {X : Cx} {vs : List V} {H : Hp} {Q : VK} {E : XK}
theorem body_gcd (c : Ctx X nq_gcd lq_gcd 0) (zr : X.mg "range" = none) (zi : X.mg "int" = none) (h : spGcd vs H Q E) : RB X (defBody sq_gcd) { nx := fun _ H' => Q .non H', rt := Q } (start nq_gcd vs) H := by
  obtain ⟨m, n, rfl, hn, q⟩ := h
  show RB X (defBody sq_gcd) _ [some (.int (m : Int)), some (.int (n : Int)), none] H
  have done : ∀ (x : Nat) (s y : Option V), x = Nat.gcd m n → RB X (List.drop 1 (defBody sq_gcd)) { nx := fun _ H' => Q .non H', rt := Q } [some (.int (x : Int)), y, s] H := by
    rintro x s y rfl
    walk_at "g0"
    exact q
  refine rb_cons ?_
  refine rs_for_range c (by walk_at "gm") .loc (by walk_at "gm") (by walk_at "gm") zr ?_
  walk_at "e"
  refine ⟨by decide, by decide, ?_⟩
  refine ⟨fun i σ H' => H' = H ∧ ∃ (x y : Nat) (s : Option V), Nat.gcd x y = Nat.gcd m n ∧ eT (200 - i) x y ∧ σ = [some (.int (x : Int)), some (.int (y : Int)), s], ⟨rfl, m, n, none, rfl, e200 hn, rfl⟩, fun _ _ _ _ _ => trivial, ?_, ?_⟩
  · rintro i u σ H' hi rfl ⟨rfl, x, y, s, hg, hb, rfl⟩
    have hi : i < 200 := hi
    refine ⟨_, by walk_at "gs", ?_⟩
    walk_at "e0"
    refine ite2 (fun e => ?_) (fun e => ?_)
    · have y0 : y = 0 := by have := of_decide_eq_true e; omega
      subst y0
      walk_at "e0"
      exact done x _ _ (by rw [← hg, Nat.gcd_zero_right])
    · walk_at "e"
      have y0 : 0 < y := by
        rcases Nat.eq_zero_or_pos y with z | z
        · exact absurd (decide_eq_true (by omega)) e
        · exact z
      refine rb_cons ?_
      refine rs_par2 c (by walk_at "gm") (by walk_at "gm") (by walk_at "gm") (by walk_at "gm") (by decide) ?_
      walk_at "e"
      refine ov_mod (by omega) ?_
      walk_at "e"
      refine ⟨_, _, _, _, rfl, by walk_at "gs", by walk_at "gs", ?_⟩
      walk_at "g"
      rw [← Int.natCast_emod]
      refine ⟨rfl, y, x % y, _, by rw [← hg, Nat.gcd_comm y (x % y), ← Nat.gcd_rec, Nat.gcd_comm], ?_, rfl⟩
      obtain ⟨k, hk⟩ : ∃ k, 200 - i = k + 1 := ⟨199 - i, by omega⟩
      rw [hk] at hb
      rw [show 200 - (i + 1) = k by omega]
      rcases hb with z | z
      · omega
      · exact z
  · rintro σ H' ⟨rfl, x, y, s, hg, hb, rfl⟩
    have y0 : y = 0 := hb
    subst y0
    exact done x _ _ (by rw [← hg, Nat.gcd_zero_right])
theorem body_is_labelL (c : Ctx X nq_is_labelL lq_is_labelL 0) (zi : X.mg "isinstance" = none) (zs : X.mg "str" = none) (zl : X.mg "len" = none) (h : spP X.K pLab vs H Q E) : RB X (defBody sq_is_labelL) { nx := fun _ H' => Q .non H', rt := Q } (start nq_is_labelL vs) H := by
  obtain ⟨B, v, d, rfl, hv, hs, q⟩ := h
  show RB X (defBody sq_is_labelL) _ [some v, none] H
  have q0 := q H Fr.refl
  walk_at "e0"
  refine cl_isS hv ?_
  walk_at "e"
  cases e1 : (tyN d == 3) with
  | false =>
    have z : pLab d = false := by cases d <;> first | rfl | cases e1
    rw [z] at q0
    walk_at "g"
    exact q0
  | true =>
    obtain ⟨z, rfl, rfl⟩ := str_at hv e1
    have zs2 := gd_sm hs z rfl
    have zz : z.length ≤ sizeLine := Nat.le_of_lt (szl zs2)
    have ez : z.length = z.cps.toList.length := by show z.cps.size = _; simp
    have no : ¬ (1 ≤ z.length ∧ z.length ≤ 8 ∧ ∀ c ∈ z.cps.toList, 97 ≤ c ∧ c ≤ 122) → pLab (.str z) = false := fun n => Bool.eq_false_iff.mpr fun y => n (pLab_str.mp y)
    walk_at "e"
    refine lv_lenS zz ?_
    walk_at "e"
    refine ite2 (fun e => ?_) (fun e => ?_)
    · walk_at "g"
      rw [no (fun g => by have := of_decide_eq_true e; omega)] at q0
      exact q0
    · walk_at "e"
      refine lv_lenS zz ?_
      walk_at "e"
      refine ite2 (fun e' => ?_) (fun e' => ?_)
      · walk_at "g"
        rw [no (fun g => by have := of_decide_eq_true e'; omega)] at q0
        exact q0
      · walk_at "e"
        walk_at "e0"
        have l1 : 1 ≤ z.length := by
          have : ¬ ((z.length : Int) < 1) := fun y => e (decide_eq_true y)
          omega
        have l8 : z.length ≤ 8 := by
          have : ¬ ((8 : Int) < z.length) := fun y => e' (decide_eq_true y)
          omega
        have es : z.cps.size = z.cps.toList.length := by simp
        refine re_lc_str c lq_is_labelL_c0 (by decide +kernel) ?_
        walk_at "e"
        refine cturns_ones (w := .int 1) (f := fun i => !lowC (z.cps.toList.getD i 0)) (szl (by rw [es, ← ez]; omega)) (fun _ _ => trivial) (fun y => by walk_at "gs") (fun Y σ H Q q => re_int q) ?_ ?_
        · rintro i y H' hi ⟨ch, hc, rfl⟩ f s Hb C cl fp cb
          refine rts_one ?_
          walk_at "e"
          refine cv_ninCh ?_
          walk_at "e"
          refine ⟨?_, Fr.refl⟩
          have hc2 : z.cps.toList.getD i 0 = ch := by
            rw [List.getD_eq_getElem?_getD, show z.cps.toList[i]? = some ch by simpa using hc]
            rfl
          rw [abc_in, hc2]
          show (!!(decide (ch < 97) || decide (122 < ch))) = !(decide (97 ≤ ch) && decide (ch ≤ 122))
          by_cases h1 : ch < 97
          · rw [decide_eq_true h1, decide_eq_false (show ¬ 97 ≤ ch by omega)]
            rfl
          · by_cases h2 : 122 < ch
            · rw [decide_eq_false h1, decide_eq_true h2, decide_eq_true (show 97 ≤ ch by omega), decide_eq_false (show ¬ ch ≤ 122 by omega)]
              rfl
            · rw [decide_eq_false h1, decide_eq_false h2, decide_eq_true (show 97 ≤ ch by omega), decide_eq_true (show ch ≤ 122 by omega)]
              rfl
        · intro Dn H' hD f hDn
          walk_at "e"
          refine ⟨by show 0 ≤ sizeLine; decide, fun p hp => ?_⟩
          have f2 : Fr NoB H' (upd H' p (.lst [])) := Fr.new hp
          refine cv_ones c (m := ((List.range z.cps.size).filter fun i => !lowC (z.cps.toList.getD i 0)).length) (by have := List.length_filter_le (fun i => !lowC (z.cps.toList.getD i 0)) (List.range z.cps.size); rw [List.length_range] at this; omega) (f2 _ _ (fun z => z) hDn) upd_same ?_
          have q1 := q _ (f.trans f2)
          have e3 : pLab (.str z) = decide (((List.range z.cps.size).filter fun i => !lowC (z.cps.toList.getD i 0)).length = 0) := by
            rw [Bool.eq_iff_iff, decide_eq_true_iff, pLab_str, filt_nil]
            constructor
            · rintro ⟨_, _, g⟩ i hi
              have hi2 : i < z.cps.toList.length := by omega
              have := g (z.cps.toList[i]) (List.getElem_mem hi2)
              rw [List.getD_eq_getElem?_getD, List.getElem?_eq_getElem hi2]
              show (!(decide (97 ≤ z.cps.toList[i]) && decide (z.cps.toList[i] ≤ 122))) = false
              rw [decide_eq_true this.1, decide_eq_true this.2]
              rfl
            · intro g
              refine ⟨l1, l8, fun ch hch => ?_⟩
              obtain ⟨j, hj⟩ := List.mem_iff_getElem?.mp hch
              have hl : j < z.cps.toList.length := by
                rcases Nat.lt_or_ge j z.cps.toList.length with q | q
                · exact q
                · rw [List.getElem?_eq_none q] at hj; cases hj
              have := g j (by omega)
              rw [List.getD_eq_getElem?_getD, hj] at this
              have this : (!(decide (97 ≤ ch) && decide (ch ≤ 122))) = false := this
              simpa using this
          rw [e3] at q1
          exact q1
theorem body_is_nameL (c : Ctx X nq_is_nameL lq_is_nameL 1) (zi : X.mg "isinstance" = none) (zt : X.mg "tuple" = none) (zl : X.mg "len" = none) (dL : DefP X.prog X.w X.K X.mg X.base CX0 "_law_is_label" ["value"] 1 (spP X.K pLab)) (h : spP X.K pName vs H Q E) :
    RB X (defBody sq_is_nameL) { nx := fun _ H' => Q .non H', rt := Q } (start nq_is_nameL vs) H := by
  obtain ⟨B, v, d, rfl, hv, hs, q⟩ := h
  show RB X (defBody sq_is_nameL) _ [some v, none] H
  have q0 := q H Fr.refl
  walk_at "e0"
  refine cl_isT hv ?_
  walk_at "e"
  cases e1 : (tyN d == 5) with
  | false =>
    have z : pName d = false := by cases d <;> first | rfl | cases e1
    rw [z] at q0
    walk_at "g"
    exact q0
  | true =>
    obtain ⟨a, us, ds, rfl, rfl, nB, t, hd⟩ := tup_at hv e1
    have no : ¬ (1 ≤ ds.length ∧ ds.length ≤ 6 ∧ ∀ d ∈ ds, pLab d = true) → pName (.tup ds) = false := fun n => Bool.eq_false_iff.mpr fun y => n (pName_tup.mp y)
    walk_at "e"
    refine lv_lenT (SqT.of t) ?_
    walk_at "e"
    refine ite2 (fun e => ?_) (fun e => ?_)
    · have l1 : 1 ≤ ds.length := by have := of_decide_eq_true e; have := hd.1; omega
      refine re_and ?_
      walk_at "e"
      refine lv_lenT (SqT.of t) ?_
      walk_at "e"
      refine ite2 (fun e' => ?_) (fun e' => ?_)
      · have l6 : ds.length ≤ 6 := by have := of_decide_eq_true e'; have := hd.1; omega
        refine re_one ?_
        refine re_cmp ?_
        refine re_lc_tup c lq_is_nameL_c0 (by decide +kernel) ?_
        walk_at "e"
        refine ⟨a, us, rfl, SqT.of t, cturns_ones (w := .int 1) (f := fun i => !pLab (ds.getD i .non)) (szl (by have := hd.1; omega)) (fun H' f => SqT.of (f _ _ (fun z => z) t)) (fun y => by walk_at "gs") (fun Y σ H Q q => re_int q) ?_ ?_⟩
        · rintro i y H' hi hy f s Hb C cl fp cb
          have hi2 : i < ds.length := by rw [← hd.1]; exact hi
          refine rts_one ?_
          walk_at "e"
          refine re_call cb dL (by decide) (by walk_at "gm") ?_
          walk_at "e"
          exact ⟨B, y, ds.getD i .non, rfl, (hd.2 i y _ hy (getD_of hi2)).fr f.any, gd_in hs (List.mem_of_getElem? (getD_of hi2)), fun H'' f2 => ⟨_, rfl, rfl, f2⟩⟩
        · intro Dn H' hD f hDn
          walk_at "e"
          refine ⟨by show 0 ≤ sizeLine; decide, fun p hp => ?_⟩
          have f2 : Fr NoB H' (upd H' p (.lst [])) := Fr.new hp
          refine cv_ones c (m := ((List.range us.length).filter fun i => !pLab (ds.getD i .non)).length) (by have := List.length_filter_le (fun i => !pLab (ds.getD i .non)) (List.range us.length); rw [List.length_range] at this; have := hd.1; omega) (f2 _ _ (fun z => z) hDn) upd_same ?_
          have q1 := q _ (f.trans f2)
          have e3 : pName (.tup ds) = decide (((List.range us.length).filter fun i => !pLab (ds.getD i .non)).length = 0) := by
            rw [Bool.eq_iff_iff, decide_eq_true_iff, pName_tup, filt_nil, hd.1]
            constructor
            · rintro ⟨_, _, g⟩ i hi
              rw [g _ (List.mem_of_getElem? (getD_of hi))]
              rfl
            · intro g
              refine ⟨l1, l6, fun d hdm => ?_⟩
              obtain ⟨j, hj⟩ := List.mem_iff_getElem?.mp hdm
              have hl : j < ds.length := by
                rcases Nat.lt_or_ge j ds.length with q | q
                · exact q
                · rw [List.getElem?_eq_none q] at hj; cases hj
              have := g j hl
              have e4 := getD_of hl
              rw [hj] at e4
              rw [← Option.some.inj e4] at this
              simpa using this
          rw [e3] at q1
          exact q1
      · rw [no (fun g => e' (decide_eq_true (by have := hd.1; omega)))] at q0
        exact q0
    · rw [no (fun g => e (decide_eq_true (by have := hd.1; omega)))] at q0
      exact q0
theorem body_is_fractionL (c : Ctx X nq_is_fractionL lq_is_fractionL 1) (za : X.mg "abs" = none) (dW : DefP X.prog X.w X.K X.mg X.base CX0 "_law_whole" ["value", "least"] 1 (spGe X.K)) (dS : DefP X.prog X.w X.K X.mg X.base CX0 "_law_size" ["value", "many"] 1 (spSz X.K))
    (dG : DefP X.prog X.w X.K X.mg X.base CX0 "_law_gcd" ["one", "two"] 1 spGcd) (h : spQ X.K pFrac vs H Q E) : RB X (defBody sq_is_fractionL) { nx := fun _ H' => Q .non H', rt := Q } (start nq_is_fractionL vs) H := by
  obtain ⟨B, v, d, rfl, hv, hs, q⟩ := h
  show RB X (defBody sq_is_fractionL) _ [some v] H
  walk_at "e0"
  refine re_call c dS (by decide) (by walk_at "gm") ?_
  walk_at "e"
  refine ⟨B, v, d, 2, rfl, hv, ?_⟩
  walk_at "e"
  cases e1 : szD 2 d with
  | false =>
    have z : pFrac d = false := by
      cases d with
      | tup l => show (fd (.tup l)).isNone = false; rw [fd_len (sz_no (n := 2) e1)]; rfl
      | _ => rfl
    rw [z] at q
    walk_at "g"
    exact q
  | true =>
    obtain ⟨a, us, ds, rfl, rfl, nB, t, hd, l1, l2⟩ := sz_at (n := 2) hv e1
    obtain ⟨v1, v2, rfl⟩ := two_of l1
    obtain ⟨d1, d2, rfl⟩ := two_of l2
    have h1 := hd.2 0 v1 d1 rfl rfl
    have h2 := hd.2 1 v2 d2 rfl rfl
    have g1 := gd_in hs (show d1 ∈ [d1, d2] by simp)
    have g2 := gd_in hs (show d2 ∈ [d1, d2] by simp)
    have q : Q (.bl (fd2 d1 d2).isNone) H := q
    walk_at "e"
    refine re_call c dW (by decide) (by walk_at "gm") ?_
    walk_at "e"
    refine ov_pow ⟨by decide, by decide, by decide⟩ ?_
    walk_at "e"
    refine ⟨B, v1, d1, _, rfl, h1, ?_⟩
    walk_at "e"
    cases i1 : isI d1 with
    | false =>
      have z : geD (-(10 ^ Int.toNat 40)) d1 = false := by cases d1 <;> first | rfl | cases i1
      rw [show (fd2 d1 d2).isNone = false by cases d1 <;> first | rfl | cases i1] at q
      rw [z]
      walk_at "g"
      exact q
    | true =>
      obtain ⟨n, rfl, rfl⟩ := dt_int h1 i1
      have hn : n.natAbs ≤ 10 ^ 40 := by cases g1 with | int h => exact h
      have z : geD (-(10 ^ Int.toNat 40)) (.int n) = true := by
        refine decide_eq_true ?_
        have e : (10 : Int) ^ Int.toNat 40 = ((10 ^ 40 : Nat) : Int) := by decide +kernel
        rw [e]
        omega
      rw [z]
      walk_at "e"
      refine re_call c dW (by decide) (by walk_at "gm") ?_
      walk_at "e"
      refine ⟨B, v2, d2, 1, rfl, h2, ?_⟩
      walk_at "e"
      cases i2 : isI d2 with
      | false =>
        have z : geD 1 d2 = false := by cases d2 <;> first | rfl | cases i2
        rw [show (fd2 (.int n) d2).isNone = false by cases d2 <;> first | rfl | cases i2] at q
        rw [z]
        walk_at "g"
        exact q
      | true =>
        obtain ⟨m, rfl, rfl⟩ := dt_int h2 i2
        have hm : m.natAbs ≤ 10 ^ 40 := by cases g2 with | int h => exact h
        have q : Q (.bl (fp n m).isNone) H := q
        unfold fp at q
        have z : geD 1 (.int m) = decide (1 ≤ m) := rfl
        rw [z]
        refine ite2 (fun e3 => ?_) (fun e3 => ?_)
        · have m1 : ¬ 1 ≤ m := by
            intro y
            rw [decide_eq_true y] at e3
            exact absurd e3 (by decide)
          rw [if_pos (by omega)] at q
          walk_at "g"
          exact q
        · have m1 : 1 ≤ m := by
            have e3 : ¬ (!decide (1 ≤ m)) = true := e3
            simpa using e3
          rw [if_neg (by omega)] at q
          walk_at "e"
          walk_at "e0"
          refine re_call c dG (by decide) (by walk_at "gm") ?_
          walk_at "e"
          have ea : (if n < 0 then -n else n) = ((n.natAbs : Nat) : Int) := by split <;> omega
          rw [ea]
          have em : m = ((m.natAbs : Nat) : Int) := by omega
          refine ⟨n.natAbs, m.natAbs, by rw [← em], hm, ?_⟩
          walk_at "e"
          unfold gi at q
          refine Eq.mp (congrArg (fun b => Q (.bl b) H) ?_) q
          by_cases e4 : ((Nat.gcd n.natAbs m.natAbs : Nat) : Int) = 1
          · rw [if_pos e4, decide_eq_true e4]
            rfl
          · rw [if_neg e4, decide_eq_false e4]
            rfl
theorem body_is_plain (c : Ctx X nq_is_plain lq_is_plain 2) (zi : X.mg "isinstance" = none) (zs : X.mg "str" = none) (dS : DefP X.prog X.w X.K X.mg X.base CX0 "_law_size" ["value", "many"] 1 (spSz X.K)) (dW : DefP X.prog X.w X.K X.mg X.base CX0 "_law_whole" ["value", "least"] 1 (spGe X.K))
    (dN : DefP X.prog X.w X.K X.mg X.base CX0 "_law_is_name" ["value"] 2 (spP X.K pName)) (h : spP X.K pFst vs H Q E) : RB X (defBody sq_is_plain) { nx := fun _ H' => Q .non H', rt := Q } (start nq_is_plain vs) H := by
  obtain ⟨B, v, d, rfl, hv, hs, q⟩ := h
  show RB X (defBody sq_is_plain) _ [some v] H
  have q0 := q H Fr.refl
  walk_at "e0"
  refine re_call c dS (by decide) (by walk_at "gm") ?_
  walk_at "e"
  refine ⟨B, v, d, 2, rfl, hv, ?_⟩
  walk_at "e"
  cases e1 : szD 2 d with
  | false =>
    rw [pFst_n e1] at q0
    walk_at "g"
    exact q0
  | true =>
    obtain ⟨a, us, ds, rfl, rfl, nB, t, hd, l1, l2⟩ := sz_at (n := 2) hv e1
    obtain ⟨v1, v2, rfl⟩ := two_of l1
    obtain ⟨d1, d2, rfl⟩ := two_of l2
    have h1 := hd.2 0 v1 d1 rfl rfl
    have h2 := hd.2 1 v2 d2 rfl rfl
    have g2 := gd_in hs (show d2 ∈ [d1, d2] by simp)
    have q : ∀ H', Fr NoB H H' → Q (.bl ((isS "value" d1 && pCount d2) || (isS "name" d1 && pName d2))) H' := q
    have q0 := q H Fr.refl
    walk_at "e"
    refine cl_isS h1 ?_
    walk_at "e"
    cases e2 : (tyN d1 == 3) with
    | false =>
      rw [isS_n e2, isS_n e2] at q0
      walk_at "g"
      exact q0
    | true =>
      obtain ⟨z, rfl, rfl⟩ := str_at h1 e2
      have ev : isS "value" (.str z) = decide (z = "value") := rfl
      have en : isS "name" (.str z) = decide (z = "name") := rfl
      rw [ev, en] at q q0
      walk_at "e"
      walk_at "e0"
      refine ite2 (fun e3 => ?_) (fun e3 => ?_)
      · rw [e3, Bool.true_and] at q q0
        refine re_one ?_
        refine re_call c dW (by decide) (by walk_at "gm") ?_
        walk_at "e"
        refine ⟨B, v2, d2, 0, rfl, h2, ?_⟩
        rw [geD_0]
        refine ⟨_, rfl, ?_⟩
        refine ite2 (fun e4 => ?_) (fun e4 => ?_)
        · rw [e4, Bool.true_or] at q0
          exact q0
        · rw [Bool.eq_false_iff.mpr e4, Bool.false_or] at q q0
          walk_at "e"
          refine ite2 (fun e5 => ?_) (fun e5 => ?_)
          · rw [e5, Bool.true_and] at q
            refine re_one ?_
            refine re_call c dN (by decide) (by walk_at "gm") ?_
            walk_at "e"
            exact ⟨B, v2, d2, rfl, h2, g2, q⟩
          · rw [Bool.eq_false_iff.mpr e5, Bool.false_and] at q0
            exact q0
      · rw [Bool.eq_false_iff.mpr e3, Bool.false_and, Bool.false_or] at q q0
        refine ⟨false, rfl, ?_⟩
        walk_at "e"
        refine ite2 (fun e5 => ?_) (fun e5 => ?_)
        · rw [e5, Bool.true_and] at q
          refine re_one ?_
          refine re_call c dN (by decide) (by walk_at "gm") ?_
          walk_at "e"
          exact ⟨B, v2, d2, rfl, h2, g2, q⟩
        · rw [Bool.eq_false_iff.mpr e5, Bool.false_and] at q0
          exact q0
end
/-! ### the law's reading of entries -/
def pRowW : D → Bool := pair2 fun a b => pLab a && pFst b
theorem rowOk_eq {z : Str} {d : D} : rowOk z d = (pRowW d && slt z (rowL d)) := by
  cases d with
  | tup l =>
    match l with
    | [] => rfl
    | [_] => rfl
    | [a, e] =>
      show (pLab a && (slt z (labS a) && pFst e)) = ((pLab a && pFst e) && slt z (labS a))
      cases pLab a <;> cases slt z (labS a) <;> cases pFst e <;> rfl
    | _ :: _ :: _ :: _ => rfl
  | _ => rfl
theorem rowsA_bad : ∀ (l : List D) (z : Str) (d : D), d ∈ l → pRowW d = false → rowsA z l = false
  | [], _, _, h, _ => by cases h
  | e :: r, z, d, h, hd => by
    show (rowOk z e && rowsA (rowL e) r) = false
    rcases List.mem_cons.mp h with rfl | h
    · rw [rowOk_eq, hd, Bool.false_and, Bool.false_and]
    · rw [rowsA_bad r _ d h hd, Bool.and_false]
theorem rowsA_ok : ∀ (l : List D) (z : Str), (∀ d ∈ l, pRowW d = true) → (rowsA z l = true ↔ (∀ d, l[0]? = some d → slt z (rowL d) = true) ∧ ∀ (i : Nat) d e, l[i]? = some d → l[i + 1]? = some e → slt (rowL d) (rowL e) = true)
  | [], z, _ => ⟨fun _ => ⟨fun d h => by simp at h, fun i d e h => by simp at h⟩, fun _ => rfl⟩
  | x :: r, z, h => by
    show ((rowOk z x && rowsA (rowL x) r) = true) ↔ _
    rw [rowOk_eq, h x List.mem_cons_self, Bool.true_and, Bool.and_eq_true, rowsA_ok r (rowL x) fun d hd => h d (List.mem_cons_of_mem _ hd)]
    constructor
    · rintro ⟨h1, h2, h3⟩
      refine ⟨fun d hd => by cases hd; exact h1, fun i d e hd he => ?_⟩
      cases i with
      | zero =>
        cases hd
        exact h2 e (by simpa using he)
      | succ i => exact h3 i d e (by simpa using hd) (by simpa using he)
    · rintro ⟨h1, h2⟩
      exact ⟨h1 x rfl, fun d hd => h2 0 x d rfl (by simpa using hd), fun i d e hd he => h2 (i + 1) d e (by simpa using hd) (by simpa using he)⟩
theorem lab_of_row {d : D} (h : pRowW d = true) : ∃ s e, d = .tup [.str s, e] ∧ pLab (.str s) = true ∧ rowL d = s := by
  cases d with
  | tup l =>
    match l, h with
    | [a, e], h =>
      have h : (pLab a && pFst e) = true := h
      rw [Bool.and_eq_true] at h
      obtain ⟨s, rfl⟩ := str_of_lab h.1
      exact ⟨s, e, rfl, h.1, rfl⟩
  | _ => cases h
theorem slt_emp {s : Str} (h : pLab (.str s) = true) : slt "" s = true := by
  obtain ⟨h1, _, _⟩ := pLab_str.mp h
  have e : ("" : Str).cps.toList = [] := by decide +kernel
  show decide (("" : Str).cps.toList < s.cps.toList) = true
  rw [e]
  have h1 : 1 ≤ s.cps.toList.length := by
    have : s.length = s.cps.toList.length := by show s.cps.size = _; simp
    omega
  cases hs : s.cps.toList with
  | nil => rw [hs] at h1; simp at h1
  | cons x r => exact decide_eq_true (List.nil_lt_cons x r)
theorem cutD_m1 {l : List D} : GT.cutD l none (some (-1)) = l.dropLast := by
  unfold GT.cutD
  rw [HT.sIx_none]
  have e : HT.sIx l.length l.length (some (-1)) = l.length - 1 := by
    show (if (-1 : Int) < 0 then ((-1 : Int) + (l.length : Int)).toNat else min (-1 : Int).toNat l.length) = _
    rw [if_pos (by decide)]
    omega
  rw [e, List.drop_zero, Nat.sub_zero, List.dropLast_eq_take]
theorem cutD_p1 {l : List D} : GT.cutD l (some 1) none = l.drop 1 := by
  show (List.drop (HT.sIx l.length 0 (some ((1 : Nat) : Int))) l).take (HT.sIx l.length l.length none - HT.sIx l.length 0 (some ((1 : Nat) : Int))) = _
  rw [HT.sIx_nat, HT.sIx_none]
  cases l with
  | nil => rfl
  | cons x r =>
    rw [Nat.min_eq_left (by simp)]
    exact List.take_of_length_le (by simp)
theorem row_at {X : Cx} {B : Addr → Prop} {H : Hp} {u : V} {d : D} (h : Dt X.K B H u d) (hr : pRowW d = true) : ∃ t s w, u = .ref t ∧ H t = some (.tup [.str s, w]) ∧ rowL d = s := by
  obtain ⟨s, e, rfl, _, hl⟩ := lab_of_row hr
  obtain ⟨t, us, ds, rfl, e2, nB, ht, hd⟩ := tup_at h rfl
  cases e2
  obtain ⟨v1, v2, rfl⟩ := two_of (show us.length = 2 from hd.1)
  have h1 := hd.2 0 v1 (.str s) rfl rfl
  cases h1
  exact ⟨t, s, v2, rfl, ht, hl⟩
section
variable {X : Cx} {vs : List V} {H : Hp} {Q : VK} {E : XK}
theorem body_is_entryL (c : Ctx X nq_is_entryL lq_is_entryL 3) (zi : X.mg "isinstance" = none) (zt : X.mg "tuple" = none) (zs : X.mg "str" = none) (zl : X.mg "len" = none) (zz : X.mg "zip" = none) (dP : DefP X.prog X.w X.K X.mg X.base CX0 "_law_is_plain" ["value"] 3 (spP X.K pFst))
    (dS : DefP X.prog X.w X.K X.mg X.base CX0 "_law_size" ["value", "many"] 1 (spSz X.K)) (dN : DefP X.prog X.w X.K X.mg X.base CX0 "_law_is_node" ["value"] 2 (spQ X.K (pTo 31))) (dL : DefP X.prog X.w X.K X.mg X.base CX0 "_law_is_label" ["value"] 1 (spP X.K pLab))
    (h : spP X.K pEnt vs H Q E) : RB X (defBody sq_is_entryL) { nx := fun _ H' => Q .non H', rt := Q } (start nq_is_entryL vs) H := by
  obtain ⟨B, v, d, rfl, hv, hs, q⟩ := h
  show RB X (defBody sq_is_entryL) _ [some v, none, none, none] H
  have q : ∀ H', Fr NoB H H' → Q (.bl ((tyN d == 0) || (pFst d || pPtr d))) H' := q
  walk_at "e0"
  refine cv_isND hv ?_
  walk_at "e"
  refine ite2 (fun e1 => ?_) (fun e1 => ?_)
  · have q0 := q H Fr.refl
    rw [e1, Bool.true_or] at q0
    walk_at "g"
    exact q0
  rw [Bool.eq_false_iff.mpr e1, Bool.false_or] at q
  walk_at "e"
  refine re_call c dP (by decide) (by walk_at "gm") ?_
  walk_at "e"
  refine ⟨B, v, d, rfl, hv, hs, fun H1 f1 => ?_⟩
  have q : ∀ H', Fr NoB H1 H' → Q (.bl (pFst d || pPtr d)) H' := fun H' f => q H' (f1.trans f)
  have hv := hv.fr f1.any
  clear f1
  walk_at "e"
  refine ite2 (fun e2 => ?_) (fun e2 => ?_)
  · have q0 := q H1 Fr.refl
    rw [e2, Bool.true_or] at q0
    walk_at "g"
    exact q0
  rw [Bool.eq_false_iff.mpr e2, Bool.false_or] at q
  have q0 := q H1 Fr.refl
  walk_at "e"
  walk_at "e0"
  refine re_call c dS (by decide) (by walk_at "gm") ?_
  walk_at "e"
  refine ⟨B, v, d, 3, rfl, hv, ?_⟩
  walk_at "e"
  cases e1 : szD 3 d with
  | false =>
    rw [show pPtr d = false from trio_sz e1] at q0
    walk_at "g"
    exact q0
  | true =>
    obtain ⟨a, us, ds, rfl, rfl, nB, t, hd, l1, l2⟩ := sz_at (n := 3) hv e1
    obtain ⟨v1, v2, v3, rfl⟩ := three_of l1
    obtain ⟨d1, d2, d3, rfl⟩ := three_of l2
    have h1 := hd.2 0 v1 d1 rfl rfl
    have h2 := hd.2 1 v2 d2 rfl rfl
    have h3 := hd.2 2 v3 d3 rfl rfl
    have g3 := gd_in hs (show d3 ∈ [d1, d2, d3] by simp)
    have q : ∀ H', Fr NoB H1 H' → Q (.bl (isS "page" d1 && (pTo 31 d2 && pRows d3))) H' := q
    have q0 := q H1 Fr.refl
    walk_at "e"
    refine cl_isS h1 ?_
    walk_at "e"
    cases e2 : (tyN d1 == 3) with
    | false =>
      rw [isS_n e2, Bool.false_and] at q0
      walk_at "g"
      exact q0
    | true =>
      obtain ⟨z, rfl, rfl⟩ := str_at h1 e2
      have ev : isS "page" (.str z) = decide (z = "page") := rfl
      rw [ev] at q q0
      walk_at "e"
      cases ep : decide (z = "page") with
      | false =>
        rw [ep, Bool.false_and] at q0
        walk_at "g"
        exact q0
      | true =>
        rw [ep, Bool.true_and] at q q0
        walk_at "e"
        refine re_call c dN (by decide) (by walk_at "gm") ?_
        walk_at "e"
        refine ⟨B, v2, d2, rfl, h2, gd_in hs (by simp), ?_⟩
        walk_at "e"
        cases en : pTo 31 d2 with
        | false =>
          rw [en, Bool.false_and] at q0
          walk_at "g"
          exact q0
        | true =>
          rw [en, Bool.true_and] at q q0
          walk_at "e"
          walk_at "e0"
          refine cl_isT h3 ?_
          walk_at "e"
          cases e3 : (tyN d3 == 5) with
          | false =>
            rw [show pRows d3 = false from tupP_n e3] at q0
            walk_at "g"
            exact q0
          | true =>
            obtain ⟨r, ws, es, rfl, rfl, nB2, tr, hr⟩ := tup_at h3 e3
            have q : ∀ H', Fr NoB H1 H' → Q (.bl (decide (es.length ≤ 6) && rowsA "" es)) H' := q
            have q0 := q H1 Fr.refl
            walk_at "e"
            refine lv_lenT (SqT.of tr) ?_
            walk_at "e"
            refine ite2 (fun e => ?_) (fun e => ?_)
            · walk_at "g"
              rw [decide_eq_false (by have := of_decide_eq_true e; have := hr.1; omega), Bool.false_and] at q0
              exact q0
            · have l6 : es.length ≤ 6 := by
                have e3 : ¬ ((6 : Int) < ws.length) := fun z => e (decide_eq_true z)
                have := hr.1
                omega
              have q : ∀ H', Fr NoB H1 H' → Q (.bl (rowsA "" es)) H' := fun H' f => by
                have q1 := q H' f
                rw [decide_eq_true l6, Bool.true_and] at q1
                exact q1
              walk_at "e"
              refine rb_cons ?_
              refine rs_for_tup c (by walk_at "gm") .loc (by walk_at "gm") ?_
              walk_at "e"
              refine ⟨r, ws, rfl, SqT.of tr, fun i σ H' => Fr NoB H1 H' ∧ (∀ j d, j < i → es[j]? = some d → pRowW d = true) ∧ ∃ s1 : Option V, σ = [some (.ref a), s1, none, none], ⟨Fr.refl, fun j d h => by omega, none, rfl⟩, fun _ _ _ _ h => SqT.of (h.1 _ _ (fun z => z) tr), ?_, ?_⟩
              · rintro i y σ H' hi hy ⟨f, hw, s1, rfl⟩
                have hi2 : i < es.length := by rw [← hr.1]; exact hi
                have hc : es[i]? = some es[i] := List.getElem?_eq_getElem hi2
                have hy2 := (hr.2 i y es[i] hy hc).fr f.any
                have hg := gd_in g3 (List.getElem_mem hi2)
                have hmem := List.getElem_mem hi2
                have bad : ∀ H3, Fr NoB H1 H3 → pRowW es[i] = false → Q (.bl false) H3 := fun H3 f3 e => by
                  have q1 := q H3 f3
                  rw [rowsA_bad es _ _ hmem e] at q1
                  exact q1
                generalize es[i] = dd at *
                refine ⟨_, by walk_at "gs", ?_⟩
                walk_at "e0"
                refine re_call c dS (by decide) (by walk_at "gm") ?_
                walk_at "e"
                refine ⟨B, y, dd, 2, rfl, hy2, ?_⟩
                walk_at "e"
                cases e1 : szD 2 dd with
                | false =>
                  walk_at "g"
                  exact bad _ f (pair2_sz e1)
                | true =>
                  obtain ⟨a2, w2, es2, rfl, rfl, nB3, t2, hd2, m1, m2⟩ := sz_at (n := 2) hy2 e1
                  obtain ⟨x1, x2, rfl⟩ := two_of m1
                  obtain ⟨y1, y2, rfl⟩ := two_of m2
                  have er : pRowW (.tup [y1, y2]) = (pLab y1 && pFst y2) := rfl
                  rw [er] at bad
                  walk_at "e"
                  refine re_call c dL (by decide) (by walk_at "gm") ?_
                  walk_at "e"
                  refine ⟨B, x1, y1, rfl, hd2.2 0 x1 y1 rfl rfl, gd_in hg (by simp), fun H2 f2 => ?_⟩
                  have t3 := f2 _ _ (fun z => z) t2
                  walk_at "e"
                  cases el : pLab y1 with
                  | false =>
                    rw [el, Bool.false_and] at bad
                    walk_at "g"
                    exact bad _ (f.trans f2) rfl
                  | true =>
                    rw [el, Bool.true_and] at bad er
                    walk_at "e"
                    refine re_call c dP (by decide) (by walk_at "gm") ?_
                    walk_at "e"
                    refine ⟨B, x2, y2, rfl, (hd2.2 1 x2 y2 rfl rfl).fr f2.any, gd_in hg (by simp), fun H3 f3 => ?_⟩
                    walk_at "e"
                    cases ef : pFst y2 with
                    | false =>
                      walk_at "g"
                      exact bad _ ((f.trans f2).trans f3) ef
                    | true =>
                      walk_at "g"
                      refine ⟨(f.trans f2).trans f3, fun j d hj he => ?_, _, rfl⟩
                      rcases Nat.lt_or_ge j i with z | z
                      · exact hw j d z he
                      · have : j = i := by omega
                        subst this
                        rw [hc] at he
                        cases he
                        rw [er, ef]
              · rintro σ H2 ⟨f, hw, s1, rfl⟩
                have hall : ∀ d ∈ es, pRowW d = true := fun d hdm => by
                  obtain ⟨j, hj⟩ := List.mem_iff_getElem?.mp hdm
                  have hl : j < ws.length := by
                    rcases Nat.lt_or_ge j es.length with q | q
                    · rw [hr.1]; exact q
                    · rw [List.getElem?_eq_none q] at hj; cases hj
                  exact hw j d hl hj
                have tr2 := f _ _ (fun z => z) tr
                have hr2 := hr.fr f.any
                have t2 := f _ _ (fun z => z) t
                walk_at "e0"
                refine re_lc_zipT c lq_is_entryL_c0 (by decide +kernel) (by walk_at "gm") zz ?_
                walk_at "e"
                refine sv_dt (B := NoB) (lo := none) (hi := some (-1)) (fun z => z) tr2 (hr2.mono fun _ z => z.elim) (fun _ z => z.elim) fun p1 u1 H3 f3 _ hp1 hu1 => ?_
                have tr3 := f3 _ _ (fun z => z) tr2
                have t3 := f3 _ _ (fun z => z) t2
                walk_at "e"
                refine sv_dt (B := NoB) (lo := some 1) (hi := none) (fun z => z) tr3 ((hr2.mono fun _ z => z.elim).fr f3) (fun _ z => z.elim) fun p2 u2 H4 f4 _ hp2 hu2 => ?_
                rw [cutD_m1] at hu1
                rw [cutD_p1] at hu2
                have hp1 := f4 _ _ (fun z => z) hp1
                have hu1 := hu1.fr f4
                have n1 : u1.length = es.length - 1 := by rw [hu1.1, List.length_dropLast]
                have n2 : u2.length = es.length - 1 := by rw [hu2.1, List.length_drop]
                walk_at "e"
                refine ⟨p1, p2, u1, u2, rfl, by omega, SqT.of hp1, SqT.of hp2, cturns2_ones (w := .int 1) (f := fun i => !slt (rowL (es.getD i .non)) (rowL (es.getD (i + 1) .non))) (σf := fun u v => [some (.ref a), s1, some u, some v]) (szl (by omega)) (fun H' f' => ⟨SqT.of (f' _ _ (fun z => z) hp1), SqT.of (f' _ _ (fun z => z) hp2)⟩) (fun u v => ⟨_, by walk_at "gs", by walk_at "gs"⟩) (fun Y σ H Q q => re_int q) ?_ ?_⟩
                · rintro i u w H' hi hu hw2 f5 s Hb C cl fp cb
                  have hi1 : i < es.length := by omega
                  have hi2 : i + 1 < es.length := by omega
                  have x1 : es.dropLast[i]? = some (es.getD i .non) := by
                    rw [List.dropLast_eq_take, List.getElem?_take, if_pos (by omega)]
                    exact getD_of hi1
                  have x2 : (es.drop 1)[i]? = some (es.getD (i + 1) .non) := by
                    rw [List.getElem?_drop, Nat.add_comm]
                    exact getD_of hi2
                  obtain ⟨r1, z1, w1, rfl, k1, lb1⟩ := row_at ((hu1.2 i u _ hu x1).fr f5) (hall _ (List.mem_of_getElem? (getD_of hi1)))
                  obtain ⟨r2, z2, w2, rfl, k2, lb2⟩ := row_at ((hu2.2 i w _ hw2 x2).fr f5) (hall _ (List.mem_of_getElem? (getD_of hi2)))
                  refine rts_one ?_
                  walk_at "e"
                  rw [lb1, lb2]
                  exact ⟨rfl, Fr.refl⟩
                · intro Dn H5 hD f5 hDn
                  walk_at "e"
                  refine ⟨by show 0 ≤ sizeLine; decide, fun p hp => ?_⟩
                  have f6 : Fr NoB H5 (upd H5 p (.lst [])) := Fr.new hp
                  refine cv_ones c (m := ((List.range u1.length).filter fun i => !slt (rowL (es.getD i .non)) (rowL (es.getD (i + 1) .non))).length) (by have := List.length_filter_le (fun i => !slt (rowL (es.getD i .non)) (rowL (es.getD (i + 1) .non))) (List.range u1.length); rw [List.length_range] at this; omega) (f6 _ _ (fun z => z) hDn) upd_same ?_
                  have q1 := q _ ((((f.trans f3).trans f4).trans f5).trans f6)
                  have e3 : rowsA "" es = decide (((List.range u1.length).filter fun i => !slt (rowL (es.getD i .non)) (rowL (es.getD (i + 1) .non))).length = 0) := by
                    rw [Bool.eq_iff_iff, decide_eq_true_iff, rowsA_ok es "" hall, filt_nil]
                    constructor
                    · rintro ⟨_, g⟩ i hi
                      rw [g i _ _ (getD_of (show i < es.length by omega)) (getD_of (show i + 1 < es.length by omega))]
                      rfl
                    · intro g
                      refine ⟨fun d hd0 => ?_, fun i d e hd1 he1 => ?_⟩
                      · obtain ⟨s, e, _, hlab, hl⟩ := lab_of_row (hall d (List.mem_of_getElem? hd0))
                        rw [hl]
                        exact slt_emp hlab
                      · have hl : i + 1 < es.length := by
                          rcases Nat.lt_or_ge (i + 1) es.length with q | q
                          · exact q
                          · rw [List.getElem?_eq_none q] at he1; cases he1
                        have := g i (by omega)
                        have e4 := getD_of (show i < es.length by omega)
                        have e5 := getD_of hl
                        rw [hd1] at e4
                        rw [he1] at e5
                        rw [← Option.some.inj e4, ← Option.some.inj e5] at this
                        simpa using this
                  rw [e3] at q1
                  exact q1
end
/-! ### the law's reading of answers, deeds, events -/
theorem szD_0 {d : D} : szD 0 d = isE d := by
  cases d with
  | tup l => cases l with
    | nil => rfl
    | cons x r =>
      show decide (((x :: r).length : Int) = 0) = false
      exact decide_eq_false (by rw [List.length_cons]; omega)
  | _ => rfl
def fouA (k : Str) (r : List D) : Bool :=
  if k = "page" then (match r with | [a, b] => pTo 31 a && pTerm b | _ => false) else if k = "value" then (match r with | [a] => pCount a | _ => false) else (match r with | [] => (["nothing", "long", "far"] : List Str).any (fun z => decide (k = z)) | _ => false)
theorem fou_eq {k : Str} {r : List D} : pFou (.tup (.str k :: r)) = fouA k r := by
  unfold fouA
  match r with
  | [] =>
    show (((["nothing", "long", "far"] : List Str).any (fun z => decide (k = z)) || false) || false) = _
    rw [Bool.or_false, Bool.or_false]
    by_cases h1 : k = "page"
    · subst h1
      rw [if_pos rfl]
      decide +kernel
    · by_cases h2 : k = "value"
      · subst h2
        rw [if_neg (by decide), if_pos rfl]
        decide +kernel
      · rw [if_neg h1, if_neg h2]
  | [a] =>
    show (((["nothing", "long", "far"] : List Str).any (fun z => false) || (decide (k = "value") && pCount a)) || false) = _
    rw [show ((["nothing", "long", "far"] : List Str).any (fun z => false)) = false from rfl, Bool.false_or, Bool.or_false]
    by_cases h1 : k = "page"
    · subst h1
      rw [if_pos rfl, decide_eq_false (by decide), Bool.false_and]
    · by_cases h2 : k = "value"
      · subst h2
        rw [if_neg (by decide), if_pos rfl, decide_eq_true rfl, Bool.true_and]
      · rw [if_neg h1, if_neg h2, decide_eq_false h2, Bool.false_and]
  | [a, b] =>
    show (((["nothing", "long", "far"] : List Str).any (fun z => false) || false) || (decide (k = "page") && (pTo 31 a && pTerm b))) = _
    rw [show ((["nothing", "long", "far"] : List Str).any (fun z => false)) = false from rfl, Bool.false_or, Bool.false_or]
    by_cases h1 : k = "page"
    · subst h1
      rw [if_pos rfl, decide_eq_true rfl, Bool.true_and]
    · by_cases h2 : k = "value"
      · subst h2
        rw [if_neg (by decide), if_pos rfl, decide_eq_false (by decide), Bool.false_and]
      · rw [if_neg h1, if_neg h2, decide_eq_false h1, Bool.false_and]
  | a :: b :: e :: r =>
    show (((["nothing", "long", "far"] : List Str).any (fun z => false) || false) || false) = _
    rw [show ((["nothing", "long", "far"] : List Str).any (fun z => false)) = false from rfl, Bool.false_or, Bool.false_or]
    split
    · rfl
    · split <;> rfl
theorem fou_n {d : D} (h : (tyN d == 5) = false) : pFou d = false := by cases d <;> first | rfl | cases h
theorem fou_s {d0 : D} {r : List D} (h : (tyN d0 == 3) = false) : pFou (.tup (d0 :: r)) = false := by
  have i : ∀ z : Str, isO z (.tup (d0 :: r)) = false := fun z => by
    cases r with
    | nil => exact isS_n h
    | cons x r => rfl
  show (((["nothing", "long", "far"] : List Str).any (fun z => isO z (.tup (d0 :: r))) || pVal (.tup (d0 :: r))) || trio (fun a b t => isS "page" a && (pTo 31 b && pTerm t)) (.tup (d0 :: r))) = false
  have e1 : pVal (.tup (d0 :: r)) = false := by
    match r with
    | [] => rfl
    | [a] => show (isS "value" d0 && pCount a) = false; rw [isS_n h]; rfl
    | _ :: _ :: _ => rfl
  have e2 : trio (fun a b t => isS "page" a && (pTo 31 b && pTerm t)) (.tup (d0 :: r)) = false := by
    match r with
    | [] => rfl
    | [a] => rfl
    | [a, b] => show (isS "page" d0 && (pTo 31 a && pTerm b)) = false; rw [isS_n h]; rfl
    | _ :: _ :: _ :: _ => rfl
  rw [e1, e2]
  simp [i]
theorem inS {k : Str} {zs : List Str} : inV (.str k) (zs.map V.str) = zs.any fun z => decide (k = z) := by
  unfold inV
  rw [List.any_map]
  congr 1
  funext z
  show (z == k) = decide (k = z)
  rw [beq_dec]
  exact decide_eq_decide.mpr ⟨Eq.symm, Eq.symm⟩
theorem flatS (zs : List Str) : (zs.map V.str).all flatV = true := by
  rw [List.all_map]
  exact List.all_eq_true.mpr fun _ _ => rfl
section
variable {X : Cx} {vs : List V} {H : Hp} {Q : VK} {E : XK}
theorem body_is_answerL (c : Ctx X nq_is_answerL lq_is_answerL 3) (zi : X.mg "isinstance" = none) (zt : X.mg "tuple" = none) (zs : X.mg "str" = none) (zl : X.mg "len" = none) (dS : DefP X.prog X.w X.K X.mg X.base CX0 "_law_size" ["value", "many"] 1 (spSz X.K))
    (dW : DefP X.prog X.w X.K X.mg X.base CX0 "_law_whole" ["value", "least"] 1 (spGe X.K)) (dN : DefP X.prog X.w X.K X.mg X.base CX0 "_law_is_node" ["value"] 2 (spQ X.K (pTo 31))) (dI : DefP X.prog X.w X.K X.mg X.base CX0 "_law_is_id" ["value"] 3 (spQ X.K pId))
    (dM : DefP X.prog X.w X.K X.mg X.base CX0 "_law_is_name" ["value"] 2 (spP X.K pName)) (h : spP X.K pAns vs H Q E) : RB X (defBody sq_is_answerL) { nx := fun _ H' => Q .non H', rt := Q } (start nq_is_answerL vs) H := by
  obtain ⟨B, v, d, rfl, hv, hs, q⟩ := h
  show RB X (defBody sq_is_answerL) _ [some v, none, none, none] H
  have q0 := q H Fr.refl
  walk_at "e0"
  refine re_call c dS (by decide) (by walk_at "gm") ?_
  walk_at "e"
  refine ⟨B, v, d, 2, rfl, hv, ?_⟩
  walk_at "e"
  cases e1 : szD 2 d with
  | false =>
    rw [show pAns d = false from pair2_sz e1] at q0
    walk_at "g"
    exact q0
  | true =>
    obtain ⟨a, us, ds, rfl, rfl, nB, t, hd, l1, l2⟩ := sz_at (n := 2) hv e1
    obtain ⟨v1, v2, rfl⟩ := two_of l1
    obtain ⟨d1, d2, rfl⟩ := two_of l2
    have h1 := hd.2 0 v1 d1 rfl rfl
    have h2 := hd.2 1 v2 d2 rfl rfl
    have g1 := gd_in hs (show d1 ∈ [d1, d2] by simp)
    have g2 := gd_in hs (show d2 ∈ [d1, d2] by simp)
    have q : ∀ H', Fr NoB H H' → Q (.bl (pFou d1 && pNames d2)) H' := q
    have q0 := q H Fr.refl
    walk_at "e"
    refine cl_isT h1 ?_
    walk_at "e"
    cases e2 : (tyN d1 == 5) with
    | false =>
      rw [fou_n e2, Bool.false_and] at q0
      walk_at "g"
      exact q0
    | true =>
      obtain ⟨a1, w1, es, rfl, rfl, nB1, t1, hd1⟩ := tup_at h1 e2
      walk_at "e"
      refine lv_lenT (SqT.of t1) ?_
      walk_at "e"
      cases w1 with
      | nil =>
        have : es = [] := List.eq_nil_of_length_eq_zero hd1.1.symm
        subst this
        refine iteD (by decide) ?_
        walk_at "g"
        exact q0
      | cons w0 wr =>
        cases es with
        | nil => cases hd1.1
        | cons x0 xr =>
          have hx0 := hd1.2 0 w0 x0 rfl rfl
          have gx0 := gd_in g1 (show x0 ∈ x0 :: xr by simp)
          have lw : wr.length = xr.length := by simpa using hd1.1
          refine iteDN (by rw [List.length_cons]; omega) ?_
          walk_at "e"
          refine iv_tup (SqT.of t1) at0 ?_
          walk_at "e"
          refine cl_isS hx0 ?_
          walk_at "e"
          cases e3 : (tyN x0 == 3) with
          | false =>
            rw [fou_s e3, Bool.false_and] at q0
            walk_at "g"
            exact q0
          | true =>
            obtain ⟨k, rfl, rfl⟩ := str_at hx0 e3
            walk_at "e"
            walk_at "e0"
            -- the names, behind all
            have fin : ∀ (iw : Bool) (H1 : Hp), Fr NoB H H1 → iw = pFou (.tup (.str k :: xr)) → RB X (List.drop 5 (defBody sq_is_answerL)) { nx := fun _ H' => Q .non H', rt := Q } [some (.ref a), some (.ref a1), some (.bl iw), none] H1 := by
              rintro iw H1 f rfl
              have q : ∀ H', Fr NoB H1 H' → Q (.bl (pFou (.tup (.str k :: xr)) && pNames d2)) H' := fun H' f' => q H' (f.trans f')
              have q0 := q H1 Fr.refl
              have tt := f _ _ (fun z => z) t
              have hh2 := h2.fr f.any
              walk_at "e0"
              cases ew : pFou (.tup (.str k :: xr)) with
              | false =>
                rw [ew, Bool.false_and] at q0
                walk_at "g"
                exact q0
              | true =>
                rw [ew, Bool.true_and] at q q0
                walk_at "e"
                refine cl_isT hh2 ?_
                walk_at "e"
                cases e4 : (tyN d2 == 5) with
                | false =>
                  rw [show pNames d2 = false from tupP_n e4] at q0
                  walk_at "g"
                  exact q0
                | true =>
                  obtain ⟨a2, ws, es, rfl, rfl, nB2, t2, hd2⟩ := tup_at hh2 e4
                  have q : ∀ H', Fr NoB H1 H' → Q (.bl (decide (es.length ≤ 9) && es.all pName)) H' := q
                  have q0 := q H1 Fr.refl
                  walk_at "e"
                  refine lv_lenT (SqT.of t2) ?_
                  walk_at "e"
                  refine ite2 (fun e4 => ?_) (fun e4 => ?_)
                  · walk_at "g"
                    rw [decide_eq_false (by have := of_decide_eq_true e4; have := hd2.1; omega), Bool.false_and] at q0
                    exact q0
                  · have l9 : es.length ≤ 9 := by
                      have e5 : ¬ ((9 : Int) < ws.length) := fun z => e4 (decide_eq_true z)
                      have := hd2.1
                      omega
                    rw [decide_eq_true l9] at q
                    walk_at "e"
                    walk_at "e0"
                    refine re_lc_tup c lq_is_answerL_c0 (by decide +kernel) ?_
                    walk_at "e"
                    refine ⟨a2, ws, rfl, SqT.of t2, cturns_ones (w := .int 1) (f := fun i => !pName (es.getD i .non)) (szl (by have := hd2.1; omega)) (fun H' f => SqT.of (f _ _ (fun z => z) t2)) (fun y => by walk_at "gs") (fun Y σ H Q q => re_int q) ?_ ?_⟩
                    · rintro i y H' hi hy f s Hb C cl fp cb
                      have hi2 : i < es.length := by rw [← hd2.1]; exact hi
                      refine rts_one ?_
                      walk_at "e"
                      refine re_call cb dM (by decide) (by walk_at "gm") ?_
                      walk_at "e"
                      exact ⟨B, y, es.getD i .non, rfl, (hd2.2 i y _ hy (getD_of hi2)).fr f.any, gd_in g2 (List.mem_of_getElem? (getD_of hi2)), fun H'' f2 => ⟨_, rfl, rfl, f2⟩⟩
                    · intro Dn H' hD f hDn
                      walk_at "e"
                      refine ⟨by show 0 ≤ sizeLine; decide, fun p hp => ?_⟩
                      have f2 : Fr NoB H' (upd H' p (.lst [])) := Fr.new hp
                      refine cv_ones c (m := ((List.range ws.length).filter fun i => !pName (es.getD i .non)).length) (by have := List.length_filter_le (fun i => !pName (es.getD i .non)) (List.range ws.length); rw [List.length_range] at this; have := hd2.1; omega) (f2 _ _ (fun z => z) hDn) upd_same ?_
                      have q1 := q _ (f.trans f2)
                      have e3 : es.all pName = decide (((List.range ws.length).filter fun i => !pName (es.getD i .non)).length = 0) := by
                        rw [Bool.eq_iff_iff, decide_eq_true_iff, List.all_eq_true, filt_nil, hd2.1]
                        constructor
                        · intro g i hi
                          rw [g _ (List.mem_of_getElem? (getD_of hi))]
                          rfl
                        · intro g d hdm
                          obtain ⟨j, hj⟩ := List.mem_iff_getElem?.mp hdm
                          have hl : j < es.length := by
                            rcases Nat.lt_or_ge j es.length with q | q
                            · exact q
                            · rw [List.getElem?_eq_none q] at hj; cases hj
                          have := g j hl
                          have e4 := getD_of hl
                          rw [hj] at e4
                          rw [← Option.some.inj e4] at this
                          simpa using this
                      rw [e3, Bool.true_and] at q1
                      exact q1
            -- behind the first reading
            have cont : ∀ (iw : Bool) (H1 : Hp), Fr NoB H H1 → (k ≠ "page" → k ≠ "value" → iw = pFou (.tup (.str k :: xr))) → RB X (List.drop 3 (defBody sq_is_answerL)) { nx := fun _ H' => Q .non H', rt := Q } [some (.ref a), some (.ref a1), some (.bl iw), none] H1 := by
              intro iw H1 f hiw
              have tt1 := f _ _ (fun z => z) t1
              walk_at "e0"
              refine iv_tup (SqT.of tt1) at0 ?_
              walk_at "e"
              refine ite2 (fun e5 => ?_) (fun e5 => ?_)
              · have e5 := of_decide_eq_true e5
                subst e5
                have page : ∀ iw2 : Bool, iw2 = pFou (.tup (.str "value" :: xr)) → RB X (List.drop 4 (defBody sq_is_answerL)) { nx := fun _ H' => Q .non H', rt := Q } [some (.ref a), some (.ref a1), some (.bl iw2), none] H1 := by
                  intro iw2 h2
                  walk_at "e0"
                  refine iv_tup (SqT.of tt1) at0 ?_
                  walk_at "e"
                  refine iteDN (by decide) ?_
                  walk_at "e"
                  exact fin iw2 H1 f h2
                rw [fou_eq] at page
                unfold fouA at page
                rw [if_neg (by decide), if_pos rfl] at page
                walk_at "e0"
                refine lv_lenT (SqT.of tt1) ?_
                walk_at "e"
                match xr, wr, lw with
                | [], [], _ =>
                  refine iteDN (by simp) ?_
                  walk_at "e"
                  exact page _ rfl
                | [y], [u], _ =>
                  refine iteD (by simp) ?_
                  walk_at "e"
                  refine re_call c dW (by decide) (by walk_at "gm") ?_
                  walk_at "e"
                  refine ⟨B, u, y, 0, rfl, (hd1.2 1 u y rfl rfl).fr f.any, ?_⟩
                  rw [geD_0]
                  walk_at "e"
                  exact page _ rfl
                | y :: y2 :: yr, u :: u2 :: ur, _ =>
                  refine iteDN (by simp only [List.length_cons]; omega) ?_
                  walk_at "e"
                  exact page _ rfl
              · have nv : k ≠ "value" := fun z => e5 (decide_eq_true z)
                walk_at "e"
                walk_at "e0"
                refine iv_tup (SqT.of tt1) at0 ?_
                walk_at "e"
                refine ite2 (fun e6 => ?_) (fun e6 => ?_)
                · have e6 := of_decide_eq_true e6
                  subst e6
                  have fin := fun iw2 => fin iw2 H1 f
                  rw [fou_eq] at fin
                  unfold fouA at fin
                  rw [if_pos rfl] at fin
                  walk_at "e0"
                  refine lv_lenT (SqT.of tt1) ?_
                  walk_at "e"
                  match xr, wr, lw with
                  | [], [], _ =>
                    refine iteDN (by simp) ?_
                    walk_at "e"
                    exact fin _ rfl
                  | [y], [u], _ =>
                    refine iteDN (by simp) ?_
                    walk_at "e"
                    exact fin _ rfl
                  | [y, y2], [u, u2], _ =>
                    have fin : ∀ iw2, iw2 = (pTo 31 y && (isE y2 || pId y2)) → _ := fin
                    refine iteD (by simp) ?_
                    walk_at "e"
                    refine re_call c dN (by decide) (by walk_at "gm") ?_
                    walk_at "e"
                    refine ⟨B, u, y, rfl, (hd1.2 1 u y rfl rfl).fr f.any, gd_in g1 (by simp), ?_⟩
                    walk_at "e"
                    cases e7 : pTo 31 y with
                    | false =>
                      rw [e7, Bool.false_and] at fin
                      walk_at "e"
                      exact fin _ rfl
                    | true =>
                      rw [e7, Bool.true_and] at fin
                      walk_at "e"
                      refine re_call c dS (by decide) (by walk_at "gm") ?_
                      walk_at "e"
                      refine ⟨B, u2, y2, 0, rfl, (hd1.2 2 u2 y2 rfl rfl).fr f.any, ?_⟩
                      rw [szD_0]
                      walk_at "e"
                      cases e8 : isE y2 with
                      | true =>
                        rw [e8, Bool.true_or] at fin
                        walk_at "e"
                        exact fin _ rfl
                      | false =>
                        rw [e8, Bool.false_or] at fin
                        walk_at "e"
                        refine re_call c dI (by decide) (by walk_at "gm") ?_
                        walk_at "e"
                        refine ⟨B, u2, y2, rfl, (hd1.2 2 u2 y2 rfl rfl).fr f.any, gd_in g1 (by simp), ?_⟩
                        walk_at "e"
                        exact fin _ rfl
                  | y :: y2 :: y3 :: yr, u :: u2 :: u3 :: ur, _ =>
                    refine iteDN (by simp only [List.length_cons]; omega) ?_
                    walk_at "e"
                    exact fin _ rfl
                · have np : k ≠ "page" := fun z => e6 (decide_eq_true z)
                  walk_at "e"
                  exact fin iw H1 f (hiw np nv)
            walk_at "e0"
            refine lv_lenT (SqT.of t1) ?_
            walk_at "e"
            cases xr with
            | nil =>
              have : wr = [] := List.eq_nil_of_length_eq_zero lw
              subst this
              refine iteD (by simp) ?_
              walk_at "e"
              refine ⟨by show 3 ≤ sizeLine; decide, fun p hp => ?_⟩
              refine cv_inV (xs := (["nothing", "long", "far"] : List Str).map V.str) (.inr (SqT.of upd_same)) rfl (flatS _) ?_
              rw [inS]
              walk_at "e"
              refine cont _ _ (Fr.new hp) fun h1 h2 => ?_
              rw [fou_eq]
              unfold fouA
              rw [if_neg h1, if_neg h2]
            | cons y yr =>
              refine iteDN (by simp only [List.length_cons, lw]; omega) ?_
              walk_at "e"
              refine cont _ _ Fr.refl fun h1 h2 => ?_
              rw [fou_eq]
              unfold fouA
              rw [if_neg h1, if_neg h2]
end
/-! ### the law's table of words -/
abbrev lawTab : List (Str × List Str) := [("start", ["kept"]), ("tick", []), ("send", ["node"]), ("hear", ["id"]), ("put", ["term", "label", "entry"]), ("give", ["term", "label", "end", "node"]), ("pass", ["id", "node"]), ("swear", ["id"]), ("hand", ["term", "node"]), ("tell", ["name", "most", "answer"]), ("ask", ["name", "most"])]
inductive KW : List (Option Expr) → List Expr → List (Str × List Str) → Prop
  | nil : KW [] [] []
  | cons {k : Str} {j : Nat} {p p' : Pos} {es : List Expr} {ws : List Str} {ks : List (Option Expr)} {vs : List Expr} {tab : List (Str × List Str)} (h : DE (.List es p') (.lst (ws.map D.str))) (t : KW ks vs tab) : KW (some (.Constant (.str k) j p) :: ks) (.List es p' :: vs) ((k, ws) :: tab)
def wkv (tab : List (Str × List Str)) (as : List Addr) : List (Key × V) := (tab.zip as).map fun q => (Sum.inr q.1.1, V.ref q.2)
def WdAt (H : Hp) (tab : List (Str × List Str)) (as : List Addr) : Prop := as.length = tab.length ∧ ∀ (i : Nat) k ws a, tab[i]? = some (k, ws) → as[i]? = some a → H a = some (.lst (ws.map V.str))
theorem dts_strs_inv2 {K : PySem.W.Frag} {B : Addr → Prop} {H : Hp} : ∀ {vs : List V} {ws : List Str}, Dts K B H vs (ws.map D.str) → vs = ws.map V.str
  | [], [], _ => rfl
  | [], _ :: _, h => by cases h.1
  | _ :: _, [], h => by cases h.1
  | v :: vs, w :: ws, h => by
    have h0 := h.2 0 v (.str w) rfl rfl
    cases h0
    have t : Dts K B H vs (ws.map D.str) := ⟨by have := h.1; simpa using this, fun i u e a b => h.2 (i + 1) u e (by simpa using a) (by simpa using b)⟩
    rw [dts_strs_inv2 t]
    rfl
theorem tp_words {X : Cx} {σ : L2.St} : ∀ {keys : List (Option Expr)} {values : List Expr} {tab : List (Str × List Str)}, KW keys values tab → ∀ (H : Hp) (Q : List (V × V) → Hp → Prop),
    (∀ as H', Fr NoB H H' → WdAt H' tab as → Q ((tab.zip as).map fun q => (.str q.1.1, .ref q.2)) H') → tPairs (txsK keys values X) σ H Q
  | _, _, _, .nil, H, Q, q => q [] H Fr.refl ⟨rfl, fun i k ws a h => by simp at h⟩
  | _, _, _, .cons (k := k) (ws := ws) (tab := tab) h t, H, Q, q => by
    show RE X _ σ H fun x H1 => RE X _ σ H1 fun y H2 => tPairs (txsK _ _ X) σ H2 fun ps H3 => Q ((x, y) :: ps) H3
    refine re_str (re_de h σ H _ fun v H1 f1 d1 => tp_words t H1 _ fun as H2 f2 hw => ?_)
    generalize hL : D.lst (ws.map D.str) = dd at d1
    cases d1 with
    | lst nB tt l hh =>
      injection hL with hL
      subst hL
      rename_i a vs
      have e := dts_strs_inv2 (K := X.K) (B := Old H) (H := H1) ⟨l, hh⟩
      subst e
      refine q (a :: as) H2 (f1.trans f2) ⟨by rw [List.length_cons, List.length_cons, hw.1], fun i k' ws' a' h1 h2 => ?_⟩
      cases i with
      | zero =>
        cases h1
        cases h2
        exact f2 _ _ (fun z => z) tt
      | succ i => exact hw.2 i k' ws' a' (by simpa using h1) (by simpa using h2)
    | _ => cases hL
theorem putK_new {kvs : List (Key × V)} {k : Key} {v : V} (h : k ∉ kvs.map (·.1)) : putK kvs k v = kvs ++ [(k, v)] := by
  unfold putK
  rw [if_neg]
  intro z
  rw [List.any_eq_true] at z
  obtain ⟨p, hp, e⟩ := z
  exact h (List.mem_map.mpr ⟨p, hp, of_decide_eq_true e⟩)
theorem mergeK_new : ∀ (more kvs : List (Key × V)), ((kvs ++ more).map (·.1)).Nodup → mergeK kvs more = kvs ++ more
  | [], kvs, _ => by rw [List.append_nil]; rfl
  | p :: r, kvs, h => by
    show mergeK (putK kvs p.1 p.2) r = _
    have h2 : ((kvs ++ [p]) ++ r).map (·.1) = (kvs ++ p :: r).map (·.1) := by simp
    rw [putK_new, mergeK_new r (kvs ++ [(p.1, p.2)]) (by rw [h2]; exact h)]
    · simp
    · intro z
      rw [List.map_append, List.map_cons, List.nodup_append] at h
      exact h.2.2 _ z _ List.mem_cons_self rfl
theorem valV_mem : ∀ {kvs : List (Key × V)} {k : Key} {v : V}, (kvs.map (·.1)).Nodup → (k, v) ∈ kvs → valV kvs k = some v
  | [], _, _, _, h => by cases h
  | p :: r, k, v, nd, h => by
    rcases List.mem_cons.mp h with e | h
    · subst e
      exact valV_pos rfl
    · rw [List.map_cons, List.nodup_cons] at nd
      have ne : p.1 ≠ k := fun e => nd.1 (by rw [e]; exact List.mem_map.mpr ⟨_, h, rfl⟩)
      have := valV_mem nd.2 h
      unfold valV at this ⊢
      rw [List.find?_cons, decide_eq_false ne]
      exact this
theorem valV_no : ∀ {kvs : List (Key × V)} {k : Key}, k ∉ kvs.map (·.1) → valV kvs k = none
  | [], _, _ => rfl
  | p :: r, k, h => by
    rw [List.map_cons, List.mem_cons, not_or] at h
    have := valV_no h.2
    unfold valV at this ⊢
    rw [List.find?_cons, decide_eq_false (fun e => h.1 e.symm)]
    exact this
theorem wkv_keys : ∀ {tab : List (Str × List Str)} {as : List Addr}, as.length = tab.length → (wkv tab as).map (·.1) = (tab.map (·.1)).map Sum.inr
  | [], [], _ => rfl
  | [], _ :: _, h => by cases h
  | _ :: _, [], h => by cases h
  | p :: r, a :: as, h => by
    show Sum.inr p.1 :: (wkv r as).map (·.1) = Sum.inr p.1 :: _
    rw [wkv_keys (by simpa using h)]
theorem lawTab_nd : ((lawTab.map (·.1)).map (Sum.inr : Str → Key)).Nodup := by decide +kernel
/-- the words of the deeds, made anew -/
def spWords : Sp := fun vs H Q _ => vs = [] ∧ ∀ p as H', H p = none → Fr NoB H H' → H' p = some (.dK (wkv lawTab as)) → WdAt H' lawTab as → Q (.ref p) H'
theorem wd_get {H : Hp} {as : List Addr} (h : WdAt H lawTab as) {k : Str} {ws : List Str} (hm : (k, ws) ∈ lawTab) : ∃ a, valV (wkv lawTab as) (.inr k) = some (.ref a) ∧ H a = some (.lst (ws.map V.str)) := by
  obtain ⟨i, hi⟩ := List.mem_iff_getElem?.mp hm
  have hl : i < as.length := by
    rw [h.1]
    rcases Nat.lt_or_ge i lawTab.length with z | z
    · exact z
    · rw [List.getElem?_eq_none z] at hi; cases hi
  refine ⟨as[i], valV_mem (by rw [wkv_keys h.1]; exact lawTab_nd) ?_, h.2 i k ws _ hi (List.getElem?_eq_getElem hl)⟩
  refine List.mem_map.mpr ⟨((k, ws), as[i]), ?_, rfl⟩
  refine List.mem_iff_getElem?.mpr ⟨i, ?_⟩
  rw [List.getElem?_zip_eq_some]
  exact ⟨hi, List.getElem?_eq_getElem hl⟩
theorem wd_no {as : List Addr} (h : as.length = lawTab.length) {k : Str} (hk : k ∉ lawTab.map (·.1)) : valV (wkv lawTab as) (.inr k) = none := by
  refine valV_no ?_
  rw [wkv_keys h]
  intro z
  obtain ⟨w, hw, e⟩ := List.mem_map.mp z
  cases e
  exact hk hw
def trW (w : Str) : Str := if w = "end" then "fraction" else w
abbrev LAW : List Str := ["label", "name", "end", "kept", "node", "id", "term", "most", "entry", "answer"]
def spStand (K : PySem.W.Frag) : Sp := fun vs H Q _ => ∃ (B : Addr → Prop) (v : V) (d : D) (w : Str), vs = [.str w, v] ∧ w ∈ LAW ∧ Dt K B H v d ∧ Gd 20 d ∧ ∀ H', Fr NoB H H' → Q (.bl (pPart (trW w) d)) H'
theorem pTo8 {d : D} : pTo 8 d = (geD 0 d && (match d with | .int i => decide (i < 9) | _ => false)) := by
  cases d with
  | int i =>
    show (decide (0 ≤ i) && decide (i ≤ 8)) = (decide (0 ≤ i) && decide (i < 9))
    rw [decide_eq_decide.mpr (show i ≤ 8 ↔ i < 9 by omega)]
  | _ => rfl
section
variable {X : Cx} {vs : List V} {H : Hp} {Q : VK} {E : XK}
theorem body_words (c : Ctx X nq_words lq_words 0) (h : spWords vs H Q E) : RB X (defBody sq_words) { nx := fun _ H' => Q .non H', rt := Q } (start nq_words vs) H := by
  obtain ⟨rfl, q⟩ := h
  show RB X (defBody sq_words) _ [] H
  refine rb_cons (rs_ret ?_)
  refine re_disp (by decide +kernel) (by decide +kernel) (by decide +kernel) (by decide +kernel) fun p hp => ?_
  refine tp_words (tab := lawTab) ?_ _ _ fun as H' f hw => ?_
  · repeat (first | exact KW.nil | refine KW.cons (ws := []) (by walk_at "de") ?_ | refine KW.cons (ws := [_]) (by walk_at "de") ?_ | refine KW.cons (ws := [_, _]) (by walk_at "de") ?_ | refine KW.cons (ws := [_, _, _]) (by walk_at "de") ?_ | refine KW.cons (ws := [_, _, _, _]) (by walk_at "de") ?_)
  · have hp2 := f _ _ (fun z => z) (upd_same (H := H) (a := p) (o := .dK []))
    refine ⟨hp2, wkv lawTab as, ?_, ?_, ?_⟩
    · unfold wkv
      rw [List.map_map]
      rfl
    · unfold wkv
      rw [List.length_map, List.length_zip, hw.1]
      decide
    · rw [mergeK_new _ _ (by rw [List.nil_append, wkv_keys hw.1]; exact lawTab_nd), List.nil_append]
      refine q p as _ hp (((Fr.new hp).trans f).put hp) upd_same ⟨hw.1, fun i k ws a h1 h2 => ?_⟩
      have h3 := hw.2 i k ws a h1 h2
      rw [upd_ne (fun e => by rw [e, hp2] at h3; cases h3)]
      exact h3
theorem body_may_stand (c : Ctx X nq_may_stand lq_may_stand 4) (dW : DefP X.prog X.w X.K X.mg X.base CX0 "_law_whole" ["value", "least"] 1 (spGe X.K)) (dS : DefP X.prog X.w X.K X.mg X.base CX0 "_law_size" ["value", "many"] 1 (spSz X.K))
    (dN : DefP X.prog X.w X.K X.mg X.base CX0 "_law_is_node" ["value"] 2 (spQ X.K (pTo 31))) (dI : DefP X.prog X.w X.K X.mg X.base CX0 "_law_is_id" ["value"] 3 (spQ X.K pId)) (dL : DefP X.prog X.w X.K X.mg X.base CX0 "_law_is_label" ["value"] 1 (spP X.K pLab))
    (dE : DefP X.prog X.w X.K X.mg X.base CX0 "_law_is_entry" ["value"] 4 (spP X.K pEnt)) (dF : DefP X.prog X.w X.K X.mg X.base CX0 "_law_is_fraction" ["value"] 2 (spQ X.K pFrac)) (dM : DefP X.prog X.w X.K X.mg X.base CX0 "_law_is_name" ["value"] 2 (spP X.K pName))
    (dA : DefP X.prog X.w X.K X.mg X.base CX0 "_law_is_answer" ["value"] 4 (spP X.K pAns)) (h : spStand X.K vs H Q E) : RB X (defBody sq_may_stand) { nx := fun _ H' => Q .non H', rt := Q } (start nq_may_stand vs) H := by
  obtain ⟨B, v, d, w, rfl, hw, hv, hs, q⟩ := h
  show RB X (defBody sq_may_stand) _ [some (.str w), some v] H
  walk_at "e0"
  refine ite2 (fun e1 => ?_) (fun e1 => ?_)
  · have e1 := of_decide_eq_true e1
    subst e1
    walk_at "e0"
    refine re_call c dN (by decide) (by walk_at "gm") ?_
    walk_at "e"
    exact ⟨B, v, d, rfl, hv, hs, q H Fr.refl⟩
  have e1 : w ≠ "node" := fun z => e1 (decide_eq_true z)
  walk_at "e"
  walk_at "e0"
  refine ⟨by show 3 ≤ sizeLine; decide, fun p hp => ?_⟩
  have f1 : Fr NoB H (upd H p (.tup [.str "kept", .str "id", .str "term"])) := Fr.new hp
  refine cv_inV (xs := (["kept", "id", "term"] : List Str).map V.str) (.inr (SqT.of upd_same)) rfl (flatS _) ?_
  rw [inS]
  generalize upd H p (.tup [.str "kept", .str "id", .str "term"]) = H1 at f1
  have hv := hv.fr f1.any
  have q : ∀ H', Fr NoB H1 H' → Q (.bl (pPart (trW w) d)) H' := fun H' f => q H' (f1.trans f)
  have q0 := q H1 Fr.refl
  walk_at "e"
  refine ite2 (fun e2 => ?_) (fun e2 => ?_)
  · walk_at "e"
    refine rb_cons (rs_ret ?_)
    refine re_or ?_
    refine re_call c dI (by decide) (by walk_at "gm") ?_
    walk_at "e"
    refine ⟨B, v, d, rfl, hv, hs, ?_⟩
    have e2 : w = "kept" ∨ w = "id" ∨ w = "term" := by simpa using e2
    rcases e2 with rfl | rfl | rfl
    · have z : pPart (trW "kept") d = pKept d := rfl
      rw [z] at q0
      have z2 : pKept d = (pId d || (tyN d == 0)) := by cases d <;> first | rfl | exact (Bool.or_false _).symm
      rw [z2] at q0
      refine ⟨_, rfl, ?_⟩
      refine ite2 (fun e3 => ?_) (fun e3 => ?_)
      · rw [e3, Bool.true_or] at q0
        exact q0
      · rw [Bool.eq_false_iff.mpr e3, Bool.false_or] at q0
        walk_at "e"
        refine iteD rfl ?_
        walk_at "e"
        refine cv_isND hv ?_
        refine ⟨_, rfl, ?_⟩
        cases e4 : (tyN d == 0) with
        | true =>
          rw [e4] at q0
          exact iteT q0
        | false =>
          rw [e4] at q0
          refine iteF ?_
          walk_at "e"
          refine iteDN (by decide) ?_
          exact q0
    · have z : pPart (trW "id") d = pId d := rfl
      rw [z] at q0
      refine ⟨_, rfl, ?_⟩
      refine ite2 (fun e3 => ?_) (fun e3 => ?_)
      · rw [e3] at q0
        exact q0
      · rw [Bool.eq_false_iff.mpr e3] at q0
        walk_at "e"
        refine iteDN (by decide) ?_
        refine ⟨_, rfl, iteF ?_⟩
        walk_at "e"
        refine iteDN (by decide) ?_
        exact q0
    · have z : pPart (trW "term") d = (isE d || pId d) := rfl
      rw [z, Bool.or_comm] at q0
      refine ⟨_, rfl, ?_⟩
      refine ite2 (fun e3 => ?_) (fun e3 => ?_)
      · rw [e3, Bool.true_or] at q0
        exact q0
      · rw [Bool.eq_false_iff.mpr e3, Bool.false_or] at q0
        walk_at "e"
        refine iteDN (by decide) ?_
        refine ⟨_, rfl, iteF ?_⟩
        walk_at "e"
        refine iteD rfl ?_
        refine re_one ?_
        refine re_call c dS (by decide) (by walk_at "gm") ?_
        walk_at "e"
        refine ⟨B, v, d, 0, rfl, hv, ?_⟩
        rw [szD_0]
        exact q0
  have e2 : w ≠ "kept" ∧ w ≠ "id" ∧ w ≠ "term" := by
    have : ¬ (w = "kept" ∨ w = "id" ∨ w = "term") := by simpa using e2
    exact ⟨fun z => this (.inl z), fun z => this (.inr (.inl z)), fun z => this (.inr (.inr z))⟩
  walk_at "e"
  walk_at "e0"
  refine ite2 (fun e3 => ?_) (fun e3 => ?_)
  · have e3 := of_decide_eq_true e3
    subst e3
    walk_at "e0"
    refine re_call c dL (by decide) (by walk_at "gm") ?_
    walk_at "e"
    exact ⟨B, v, d, rfl, hv, hs, q⟩
  have e3 : w ≠ "label" := fun z => e3 (decide_eq_true z)
  walk_at "e"
  walk_at "e0"
  refine ite2 (fun e4 => ?_) (fun e4 => ?_)
  · have e4 := of_decide_eq_true e4
    subst e4
    walk_at "e0"
    refine re_call c dE (by decide) (by walk_at "gm") ?_
    walk_at "e"
    exact ⟨B, v, d, rfl, hv, hs, q⟩
  have e4 : w ≠ "entry" := fun z => e4 (decide_eq_true z)
  walk_at "e"
  walk_at "e0"
  refine ite2 (fun e5 => ?_) (fun e5 => ?_)
  · have e5 := of_decide_eq_true e5
    subst e5
    walk_at "e0"
    refine re_call c dF (by decide) (by walk_at "gm") ?_
    walk_at "e"
    exact ⟨B, v, d, rfl, hv, hs, q0⟩
  have e5 : w ≠ "end" := fun z => e5 (decide_eq_true z)
  walk_at "e"
  walk_at "e0"
  refine ite2 (fun e6 => ?_) (fun e6 => ?_)
  · have e6 := of_decide_eq_true e6
    subst e6
    walk_at "e0"
    refine re_call c dM (by decide) (by walk_at "gm") ?_
    walk_at "e"
    exact ⟨B, v, d, rfl, hv, hs, q⟩
  have e6 : w ≠ "name" := fun z => e6 (decide_eq_true z)
  walk_at "e"
  walk_at "e0"
  refine ite2 (fun e7 => ?_) (fun e7 => ?_)
  · have e7 := of_decide_eq_true e7
    subst e7
    have z : pPart (trW "most") d = pTo 8 d := rfl
    rw [z, pTo8] at q0
    walk_at "e"
    refine re_call c dW (by decide) (by walk_at "gm") ?_
    walk_at "e"
    refine ⟨B, v, d, 0, rfl, hv, ?_⟩
    refine ⟨_, rfl, ?_⟩
    cases e8 : geD 0 d with
    | false =>
      rw [e8, Bool.false_and] at q0
      exact iteF q0
    | true =>
      rw [e8, Bool.true_and] at q0
      cases hv with
      | int =>
        refine iteT ?_
        walk_at "e"
        exact q0
      | _ => cases e8
  · have e7 : w ≠ "most" := fun z => e7 (decide_eq_true z)
    have e8 : w = "answer" := by
      simp only [List.mem_cons, List.not_mem_nil, or_false] at hw
      rcases hw with rfl | rfl | rfl | rfl | rfl | rfl | rfl | rfl | rfl | rfl
      · exact absurd rfl e3
      · exact absurd rfl e6
      · exact absurd rfl e5
      · exact absurd rfl e2.1
      · exact absurd rfl e1
      · exact absurd rfl e2.2.1
      · exact absurd rfl e2.2.2
      · exact absurd rfl e7
      · exact absurd rfl e4
      · rfl
    subst e8
    walk_at "e"
    refine re_call c dA (by decide) (by walk_at "gm") ?_
    walk_at "e"
    exact ⟨B, v, d, rfl, hv, hs, q⟩
end
/-! ### the law's reading of deeds and events -/
theorem tr_tab : ∀ p ∈ lawTab, (p.1, p.2.map trW) ∈ kindTab ∧ ∀ w ∈ p.2, w ∈ LAW := by decide +kernel
theorem tab_tr : ∀ p ∈ kindTab, ∃ q ∈ lawTab, q.1 = p.1 := by decide +kernel
theorem lawKeys : lawTab.map (·.1) = KINDSL := by decide +kernel
theorem deed_law {k : Str} {wl : List Str} (h : (k, wl) ∈ lawTab) (r : List D) : pDeedL (.str k :: r) = partsOk (wl.map trW) r := by
  have h1 := (tr_tab _ h).1
  have hk : k ∈ KINDSL := by
    rw [← lawKeys]
    exact List.mem_map.mpr ⟨_, h, rfl⟩
  obtain ⟨k', ws, e, hm, hp, _⟩ := kinds_yes (d := .str k) (by rw [List.any_eq_true]; exact ⟨k, hk, decide_eq_true rfl⟩) r
  cases e
  have nd : (kindTab.map (·.1)).Nodup := by decide +kernel
  have same : ∀ (l : List (Str × List Str)) (a b : List Str), (l.map (·.1)).Nodup → (k, a) ∈ l → (k, b) ∈ l → a = b := by
    intro l
    induction l with
    | nil => intro a b _ h; cases h
    | cons p l ih =>
      intro a b nd ha hb
      rw [List.map_cons, List.nodup_cons] at nd
      rcases List.mem_cons.mp ha with ea | ha
      · rcases List.mem_cons.mp hb with eb | hb
        · rw [← ea] at eb
          exact (Prod.mk.inj eb).2.symm
        · exact absurd (List.mem_map.mpr ⟨_, hb, by rw [← ea]⟩) nd.1
      · rcases List.mem_cons.mp hb with eb | hb
        · exact absurd (List.mem_map.mpr ⟨_, ha, by rw [← eb]⟩) nd.1
        · exact ih a b nd.2 ha hb
  rw [hp, same _ _ _ nd hm h1]
theorem deed_no {k : Str} (h : k ∉ lawTab.map (·.1)) (r : List D) : pDeedL (.str k :: r) = false := by
  refine kinds_no (d := .str k) ?_ r
  rw [List.any_eq_false]
  intro z hz e
  rw [lawKeys] at h
  have e := of_decide_eq_true (show decide (k = z) = true from e)
  exact h (by rw [e]; exact hz)
theorem deed_s {d : D} (h : (tyN d == 3) = false) (r : List D) : pDeedL (d :: r) = false := by
  refine kinds_no ?_ r
  rw [List.any_eq_false]
  intro z hz e
  rw [isS_n h] at e
  cases e
theorem partsOk_t {wl : List Str} {r : List D} (hl : wl.length = r.length) : partsOk (wl.map trW) r = decide (((List.range wl.length).filter fun i => !pPart (trW (wl.getD i "")) (r.getD i .non)).length = 0) := by
  rw [← partsOk_r (wl.map trW) r (by rw [List.length_map, hl]), Bool.eq_iff_iff, decide_eq_true_iff, filt_nil, List.length_map, List.all_eq_true]
  have e : ∀ i, i < wl.length → (wl.map trW).getD i "" = trW (wl.getD i "") := fun i hi => by
    rw [List.getD_eq_getElem?_getD, List.getD_eq_getElem?_getD, List.getElem?_map, List.getElem?_eq_getElem hi]
    rfl
  constructor
  · intro g i hi
    have := g (pPart ((wl.map trW).getD i "") (r.getD i .non)) (List.mem_map.mpr ⟨i, List.mem_range.mpr hi, rfl⟩)
    rw [e i hi] at this
    have this : pPart (trW (wl.getD i "")) (r.getD i .non) = true := this
    rw [this]
    rfl
  · intro g b hb
    obtain ⟨i, hi, rfl⟩ := List.mem_map.mp hb
    have hi := List.mem_range.mp hi
    have := g i hi
    rw [e i hi]
    simpa using this
section
variable {X : Cx} {vs : List V} {H : Hp} {Q : VK} {E : XK}
theorem body_is_deedL (c : Ctx X nq_is_deedL lq_is_deedL 5) (zi : X.mg "isinstance" = none) (zt : X.mg "tuple" = none) (zs : X.mg "str" = none) (zl : X.mg "len" = none) (zz : X.mg "zip" = none) (dW : DefP X.prog X.w X.K X.mg X.base CX0 "_law_words" [] 1 spWords)
    (dM : DefP X.prog X.w X.K X.mg X.base CX0 "_law_may_stand" ["word", "value"] 5 (spStand X.K)) (h : spP X.K pDeed vs H Q E) : RB X (defBody sq_is_deedL) { nx := fun _ H' => Q .non H', rt := Q } (start nq_is_deedL vs) H := by
  obtain ⟨B, v, d, rfl, hv, hs, q⟩ := h
  show RB X (defBody sq_is_deedL) _ [some v, none, none, none, none] H
  refine rb_cons (rs_set c (by walk_at "gm") .loc (by walk_at "gm") ?_)
  refine re_call0 c dW (by decide) (by walk_at "gm") ⟨rfl, fun wp as H0 hwp0 f0 hwp hwd => ?_⟩
  refine ⟨_, by walk_at "gs", ?_⟩
  have hv := hv.fr f0.any
  have q : ∀ H', Fr NoB H0 H' → Q (.bl (pDeed d)) H' := fun H' f => q H' (f0.trans f)
  have q0 := q H0 Fr.refl
  walk_at "e0"
  refine cl_isT hv ?_
  walk_at "e"
  cases e1 : (tyN d == 5) with
  | false =>
    walk_at "g"
    rw [show pDeed d = false from tupP_n e1] at q0
    exact q0
  | true =>
    obtain ⟨a, us, ds, rfl, rfl, nB, t, hd⟩ := tup_at hv e1
    walk_at "e"
    refine lv_lenT (SqT.of t) ?_
    walk_at "e"
    cases us with
    | nil =>
      have : ds = [] := List.eq_nil_of_length_eq_zero hd.1.symm
      subst this
      refine iteD (by decide) ?_
      walk_at "g"
      exact q0
    | cons u ur =>
      cases ds with
      | nil => cases hd.1
      | cons d0 dr =>
        have q : ∀ H', Fr NoB H0 H' → Q (.bl (pDeedL (d0 :: dr))) H' := q
        have q0 := q H0 Fr.refl
        have h0 := hd.2 0 u d0 rfl rfl
        have g0 := gd_in hs (show d0 ∈ d0 :: dr by simp)
        refine iteDN (by rw [List.length_cons]; omega) ?_
        walk_at "e"
        refine iv_tup (SqT.of t) at0 ?_
        walk_at "e"
        refine cl_isS h0 ?_
        walk_at "e"
        cases e3 : (tyN d0 == 3) with
        | false =>
          rw [deed_s e3] at q0
          walk_at "g"
          exact q0
        | true =>
          obtain ⟨k, rfl, rfl⟩ := str_at h0 e3
          refine iteNT ?_
          refine rw_or1 (rt_dnin c ?_)
          walk_at "e"
          refine iv_tup (SqT.of t) at0 ?_
          walk_at "e"
          by_cases hk : k ∈ lawTab.map (·.1)
          · obtain ⟨⟨k', wl⟩, hm, rfl⟩ := List.mem_map.mp hk
            obtain ⟨wa, hva, hwa⟩ := wd_get hwd hm
            refine ⟨wp, _, rfl, dget_k hwp hva, ?_⟩
            rw [deed_law hm] at q0
            have q : ∀ H', Fr NoB H0 H' → Q (.bl (partsOk (wl.map trW) dr)) H' := fun H' f => by
              have q1 := q H' f
              rw [deed_law hm] at q1
              exact q1
            refine ⟨_, rfl, iteNT ?_⟩
            walk_at "e"
            refine rb_cons (rs_set c (by walk_at "gm") .loc (by walk_at "gm") ?_)
            refine re_dget c ?_
            walk_at "e"
            refine iv_tup (SqT.of t) at0 ?_
            walk_at "e"
            refine ⟨wp, _, rfl, dget_k hwp hva, ?_⟩
            walk_at "e"
            walk_at "e0"
            refine lv_lenT (SqT.of t) ?_
            walk_at "e"
            refine lv_lenL (SqL.of hwa) ?_
            walk_at "e"
            have lur : ur.length = dr.length := by have := hd.1; simpa using this
            refine ite2 (fun e4 => ?_) (fun e4 => ?_)
            · walk_at "g"
              rw [partsOk_l _ _ (fun z => by
                rw [List.length_map] at z
                have e4 : (!decide (((ur.length + 1 : Nat) : Int) = (wl.map V.str).length + 1)) = true := e4
                rw [decide_eq_true (by rw [List.length_map]; omega)] at e4
                cases e4)] at q0
              exact q0
            · have el : wl.length = dr.length := by
                have e4 : ¬ (!decide (((ur.length + 1 : Nat) : Int) = (wl.map V.str).length + 1)) = true := e4
                have e5 : decide (((ur.length + 1 : Nat) : Int) = (wl.map V.str).length + 1) = true := by simpa using e4
                have := of_decide_eq_true e5
                rw [List.length_map] at this
                omega
              walk_at "e"
              walk_at "e0"
              refine re_lc_zipM c lq_is_deedL_c0 (by decide +kernel) (by walk_at "gm") zz ?_
              walk_at "e"
              refine sv_dt (B := NoB) (lo := some 1) (hi := none) (fun z => z) t (hd.mono fun _ z => z.elim) (fun _ z => z.elim) fun l ls H1 f1 _ hl hls => ?_
              rw [cutD_p1] at hls
              have hls : Dts X.K NoB H1 ls dr := hls
              have hwa1 := f1 _ _ (fun z => z) hwa
              have l200 := gd_len hs
              have n1 : (wl.map V.str).length = wl.length := List.length_map _
              walk_at "e"
              refine ⟨wa, l, wl.map V.str, ls, rfl, by rw [n1, el, hls.1], SqL.of hwa1, SqT.of hl, cturns2_ones (w := .int 1) (f := fun i => !pPart (trW (wl.getD i "")) (dr.getD i .non)) (σf := fun u v => [some (.ref a), some (.ref wp), some (.ref wa), some u, some v]) (szl (by rw [n1, el]; rw [List.length_cons] at l200; omega)) (fun H' f => ⟨SqL.of (f _ _ (fun z => z) hwa1), SqT.of (f _ _ (fun z => z) hl)⟩) (fun u v => ⟨_, by walk_at "gs", by walk_at "gs"⟩) (fun Y σ H Q q => re_int q) ?_ ?_⟩
              · rintro i u v H' hi hu hv f s Hb C cl fp cb
                rw [n1] at hi
                have hi2 : i < dr.length := by omega
                have hu2 : u = .str (wl.getD i "") ∧ wl.getD i "" ∈ wl := by
                  rw [List.getElem?_map, List.getElem?_eq_getElem hi] at hu
                  have e2 : wl.getD i "" = wl[i] := by rw [List.getD_eq_getElem?_getD, List.getElem?_eq_getElem hi]; rfl
                  rw [e2]
                  exact ⟨(Option.some.inj hu).symm, List.getElem_mem hi⟩
                obtain ⟨rfl, hmw⟩ := hu2
                refine rts_one ?_
                walk_at "e"
                refine re_call cb dM (by decide) (by walk_at "gm") ?_
                walk_at "e"
                exact ⟨NoB, v, dr.getD i .non, wl.getD i "", rfl, (tr_tab _ hm).2 _ hmw, (hls.2 i v _ hv (getD_of hi2)).fr f.any, gd_in hs (List.mem_cons_of_mem _ (List.mem_of_getElem? (getD_of hi2))), fun H'' f2 => ⟨_, rfl, rfl, f2⟩⟩
              · intro Dn H' hD f hDn
                walk_at "e"
                refine ⟨by show 0 ≤ sizeLine; decide, fun p hp => ?_⟩
                have f2 : Fr NoB H' (upd H' p (.lst [])) := Fr.new hp
                rw [n1] at hDn
                refine cv_ones c (m := ((List.range wl.length).filter fun i => !pPart (trW (wl.getD i "")) (dr.getD i .non)).length) (by have := List.length_filter_le (fun i => !pPart (trW (wl.getD i "")) (dr.getD i .non)) (List.range wl.length); rw [List.length_range] at this; rw [List.length_cons] at l200; omega) (f2 _ _ (fun z => z) hDn) upd_same ?_
                have q1 := q _ ((f1.trans f).trans f2)
                rw [partsOk_t el] at q1
                exact q1
          · refine ⟨wp, none, rfl, dget_k hwp (wd_no hwd.1 hk), ?_⟩
            rw [deed_no hk] at q0
            refine ⟨_, rfl, iteNF ?_⟩
            walk_at "g"
            exact q0
theorem body_fault (c : Ctx X nq_fault lq_fault 6) (dS : DefP X.prog X.w X.K X.mg X.base CX0 "_law_size" ["value", "many"] 1 (spSz X.K)) (dI : DefP X.prog X.w X.K X.mg X.base CX0 "_law_is_id" ["value"] 3 (spQ X.K pId)) (dF : DefP X.prog X.w X.K X.mg X.base CX0 "_law_is_fraction" ["value"] 2 (spQ X.K pFrac))
    (dD : DefP X.prog X.w X.K X.mg X.base CX0 "_law_is_deed" ["value"] 6 (spP X.K pDeed)) (h : spEF X.K vs H Q E) : RB X (defBody sq_fault) { nx := fun _ H' => Q .non H', rt := Q } (start nq_fault vs) H := by
  obtain ⟨B, v, d, rfl, hv, hs, q⟩ := h
  show RB X (defBody sq_fault) _ [some v] H
  have q0 := q H Fr.refl
  walk_at "e0"
  refine re_call c dS (by decide) (by walk_at "gm") ?_
  walk_at "e"
  refine ⟨B, v, d, 3, rfl, hv, ?_⟩
  walk_at "e"
  cases e1 : szD 3 d with
  | false =>
    walk_at "g"
    have z : eF d = some (-1) := by
      cases d with
      | tup l => exact eF_l (sz_no (n := 3) e1)
      | _ => rfl
    rw [z] at q0
    exact q0
  | true =>
    obtain ⟨a, us, ds, rfl, rfl, nB, t, hd, l1, l2⟩ := sz_at (n := 3) hv e1
    obtain ⟨v1, v2, v3, rfl⟩ := three_of l1
    obtain ⟨d1, d2, d3, rfl⟩ := three_of l2
    have q : ∀ H', Fr NoB H H' → Q (oI (eF3 d1 d2 d3)) H' := q
    unfold eF3 at q
    walk_at "e"
    walk_at "e0"
    refine re_call c dI (by decide) (by walk_at "gm") ?_
    walk_at "e"
    refine ⟨B, v1, d1, rfl, hd.2 0 v1 d1 rfl rfl, gd_in hs (by simp), ?_⟩
    walk_at "e"
    cases p1 : pId d1 with
    | false =>
      walk_at "g"
      have q1 := q H Fr.refl
      rw [p1, if_neg Bool.false_ne_true] at q1
      exact q1
    | true =>
      rw [p1, if_pos rfl] at q
      walk_at "e"
      walk_at "e0"
      refine re_call c dF (by decide) (by walk_at "gm") ?_
      walk_at "e"
      refine ⟨B, v2, d2, rfl, hd.2 1 v2 d2 rfl rfl, gd_in hs (by simp), ?_⟩
      walk_at "e"
      cases p2 : pFrac d2 with
      | false =>
        walk_at "g"
        have q1 := q H Fr.refl
        rw [p2, if_neg Bool.false_ne_true] at q1
        exact q1
      | true =>
        rw [p2, if_pos rfl] at q
        walk_at "e"
        walk_at "e0"
        refine re_call c dD (by decide) (by walk_at "gm") ?_
        walk_at "e"
        refine ⟨B, v3, d3, rfl, hd.2 2 v3 d3 rfl rfl, gd_in hs (by simp), fun H1 f1 => ?_⟩
        walk_at "e"
        have q1 := q H1 f1
        cases p3 : pDeed d3 with
        | false =>
          walk_at "g"
          rw [p3, if_neg Bool.false_ne_true] at q1
          exact q1
        | true =>
          rw [p3, if_pos rfl] at q1
          walk_at "g"
          exact q1
end
def spSame (K : PySem.W.Frag) (n : Nat) : Sp := fun vs H Q _ => ∃ (d : D) (u v : V) (B B' : Addr → Prop), vs = [u, v] ∧ Dt K B H u d ∧ Dt K B' H v d ∧ Dep n d ∧ ∀ H', Fr NoB H H' → Q (.bl true) H'
theorem body_same {X : Cx} {n : Nat} (c : Ctx X nq_same lq_same n) (zl : X.mg "len" = none) (zi : X.mg "isinstance" = none) (zt : X.mg "tuple" = none) (zL : X.mg "list" = none) (zz : X.mg "zip" = none) (zb : X.mg "bool" = none) (zI : X.mg "int" = none) (zs : X.mg "str" = none)
    (rec : ∀ m, n = m + 1 → DefP X.prog X.w X.K X.mg X.base CX0 "_law_same" ["told", "due"] (m + 1) (spSame X.K m)) {vs : List V} {H : Hp} {Q : VK} {E : XK} (h : spSame X.K n vs H Q E) :
    RB X (defBody sq_same) { nx := fun _ H' => Q .non H', rt := Q } (start nq_same vs) H := by
  obtain ⟨d, u, v, B, B', rfl, hu, hv, hd, q⟩ := h
  have q0 := q H Fr.refl
  -- behind the kinds: row by row
  have rest : ∀ (a b : Addr) (xs ys : List V) (ds : List D) (m : Nat), n = m + 1 → (∃ Sq : Hp → Addr → List V → Prop, (Sq = (fun H => SqL X.K H) ∨ Sq = fun H => SqT X.K H) ∧ ∀ H', Fr NoB H H' → Sq H' a xs ∧ Sq H' b ys) → Dts X.K B H xs ds → Dts X.K B' H ys ds → (∀ d ∈ ds, Dep m d) →
      ∀ (nx : L2.St → Hp → Prop) (tl : List Stmt), tl = List.drop 1 ((fun s => match s with | Stmt.If _ x _ _ => x | _ => []) ((defBody sq_same).headD (.Pass ⟨0, 0, 0, 0⟩))) →
      RB X tl { nx := nx, rt := Q } [some (.ref a), some (.ref b), some (.bl true), none, none] H := by
    rintro a b xs ys ds m hm ⟨Sq, hSq, sq⟩ hx hy hds nx tl rfl
    have lenQ : ∀ (a : Addr) (xs : List V) (H' : Hp) (Q' : VK), Sq H' a xs → Q' (.int xs.length) H' → ClV X (.builtin "len") [.ref a] H' Q' := fun a xs H' Q' hs hq => by
      rcases hSq with rfl | rfl
      · exact lv_lenL hs hq
      · exact lv_lenT hs hq
    have el : xs.length = ys.length := hx.1.trans hy.1.symm
    walk_at "e0"
    refine lenQ _ _ _ _ (sq H Fr.refl).1 ?_
    walk_at "e"
    refine lenQ _ _ _ _ (sq H Fr.refl).2 ?_
    walk_at "e"
    rw [el]
    simp only [decide_true]
    walk_at "e"
    refine rb_cons ?_
    refine rs_for_zip c (by walk_at "gm") .loc (by walk_at "gm") (by walk_at "gm") .loc (by walk_at "gm") (by walk_at "gm") zz ?_
    walk_at "e"
    refine ⟨a, b, xs, ys, rfl, el, Sq, hSq, (sq H Fr.refl).1, (sq H Fr.refl).2, fun i σ H' => Fr NoB H H' ∧ ∃ s1 s2 : Option V, σ = [some (.ref a), some (.ref b), some (.bl true), s1, s2], ⟨Fr.refl, none, none, rfl⟩, fun i σ H' h => sq H' h.1, ?_, ?_⟩
    · rintro i u v σ H' T hu hv ⟨f, s1, s2, rfl⟩ hT
      refine ⟨_, _, by walk_at "gs", by walk_at "gs", ?_⟩
      walk_at "e0"
      refine re_call c (rec m hm) (by omega) (by walk_at "gm") ?_
      walk_at "e"
      have hi : i < ds.length := by
        rw [← hx.1]
        rcases Nat.lt_or_ge i xs.length with z | z
        · exact z
        · rw [List.getElem?_eq_none z] at hu; cases hu
      have hdi : ds[i]? = some ds[i] := List.getElem?_eq_getElem hi
      have f2 := f.trans (Fr.new (o := .tup [u, v]) hT)
      refine ⟨ds[i], u, v, B, B', rfl, (hx.2 i u _ hu hdi).fr f2.any, (hy.2 i v _ hv hdi).fr f2.any, hds _ (List.getElem_mem hi), fun H'' f3 => ?_⟩
      walk_at "e"
      exact ⟨f2.trans f3, _, _, rfl⟩
    · rintro σ H' ⟨f, s1, s2, rfl⟩
      walk_at "g"
      exact q H' f
  cases hu with
  | non =>
    cases hv
    show RB X (defBody sq_same) _ [some .non, some .non, none, none, none] H
    walk_at "g0"
    exact q0
  | bl =>
    cases hv
    rename_i bb
    show RB X (defBody sq_same) _ [some (.bl bb), some (.bl bb), none, none, none] H
    cases bb
    · walk_at "g0"
      refine iteDN (by decide) ?_
      walk_at "g"
      refine iteD rfl ?_
      walk_at "g"
      refine cv_eq (by rfl) ?_
      rw [decide_eq_true rfl]
      exact q0
    · walk_at "g0"
      refine iteD rfl ?_
      walk_at "g"
      refine cv_eq (by rfl) ?_
      rw [decide_eq_true rfl]
      exact q0
  | int =>
    cases hv
    rename_i ii
    show RB X (defBody sq_same) _ [some (.int ii), some (.int ii), none, none, none] H
    walk_at "g0"
    rw [decide_eq_true rfl]
    exact q0
  | str =>
    cases hv
    rename_i ss
    show RB X (defBody sq_same) _ [some (.str ss), some (.str ss), none, none, none] H
    walk_at "g0"
    rw [decide_eq_true rfl]
    exact q0
  | @lst a xs ds nb ta la ha =>
    cases hv with
    | @lst b ys _ nb' tb lb hb =>
      cases hd with
      | @lst m _ hds =>
        show RB X (defBody sq_same) _ [some (.ref a), some (.ref b), none, none, none] H
        walk_at "e0"
        walk_at "e0"
        refine rest a b xs ys ds m rfl ⟨fun H => SqL X.K H, .inl rfl, fun H' f => ⟨SqL.of (f _ _ (fun z => z) ta), SqL.of (f _ _ (fun z => z) tb)⟩⟩ ⟨la, ha⟩ ⟨lb, hb⟩ hds _ _ rfl
  | @tup a xs ds nb ta la ha =>
    cases hv with
    | @tup b ys _ nb' tb lb hb =>
      cases hd with
      | @tup m _ hds =>
        show RB X (defBody sq_same) _ [some (.ref a), some (.ref b), none, none, none] H
        walk_at "e0"
        walk_at "e0"
        refine rest a b xs ys ds m rfl ⟨fun H => SqT X.K H, .inr rfl, fun H' f => ⟨SqT.of (f _ _ (fun z => z) ta), SqT.of (f _ _ (fun z => z) tb)⟩⟩ ⟨la, ha⟩ ⟨lb, hb⟩ hds _ _ rfl
/-! ### what is told, what is refused -/
abbrev badsL : List Str := ["BadDeed", "BadFraction", "BadLabel", "BadName", "BadOctets", "BadRun", "BadText", "BadView", "Refused"]
structure HdC (K : PySem.W.Frag) (mg : Str → Option Value) (C : Addr) : Prop where
  exm : PySem.W.exmOne K (.ref C) (.ref C) = some true
  kv : PySem.W.kitOne K (.ref C) (.type "ValueError") = some true
  own : ∃ CO : Addr, mg "OwnError" = some (.ref CO) ∧ PySem.W.kitOne K (.ref C) (.ref CO) = some true ∧ PySem.W.exmOne K (.ref C) (.ref CO) = some true
  bad : ∃ Cs : Str → Addr, (∀ n ∈ badsL, mg n = some (.ref (Cs n))) ∧ PySem.W.kitAny K (.ref C) (badsL.map fun n => .ref (Cs n)) = some false
  kit : KitC K C
  xf : XfC K C
  no : PySem.W.findIn K (.ref C) "at" = some none
def tD (o : Option Int) (d : D) : D := match o with
  | none => .tup [.str "told", d]
  | some i => .tup [.str "bad", .int i, .bl true, .bl false]
def spTold (K : PySem.W.Frag) (fu : D → Option Int) : Sp := fun vs H Q _ => ∃ (B : Addr → Prop) (v : V) (d : D), vs = [v] ∧ Dt K B H v d ∧ Gd 20 d ∧ ∀ u H', Fr NoB H H' → Dt K NoB H' u (tD (fu d) d) → Q u H'
def spDue (K : PySem.W.Frag) : Sp := fun vs H Q _ => ∃ (B : Addr → Prop) (v : V) (d : D) (o : Option Int), vs = [v, oI o] ∧ Dt K B H v d ∧ ∀ u H', Fr NoB H H' → Dt K NoB H' u (tD o d) → Q u H'
/-- one argument, by its name -/
def g1 {α : Type} : List α → List α → List α
  | [], [z] => [z]
  | _, _ => []
structure KeyC (X : Cx) (CXs : CXT) (x : Str) (ps ks : List Str) (g : List Value → List Value → List Value) (gV : List V → List V → List V) (n : Nat) (sp : Sp) : Prop where
  ex : ∃ (f : Addr) (fd : FuncData), FnOk X.prog X.w X.K X.mg X.base CXs n f fd ps sp ∧ X.mg x = some (.ref f) ∧ PySem.W.keepIn X.K (.ref f) = true ∧ KBinds X.K fd ps ks g gV
/-- the def that is handed the exception -/
structure BadT (X : Cx) : Prop where
  ex : ∃ (f : Addr) (fd : FuncData), FnP X.K "_law_bad" sq_bad f fd ∧ X.mg "_law_bad" = some (.ref f) ∧ Binds X.K fd ["error"] []
theorem dt_told {K : PySem.W.Frag} {B : Addr → Prop} {H : Hp} {v : V} {d : D} {p : Addr} (h : Dt K B H v d) (hp : H p = none) : Dt K NoB (upd H p (.tup [.str "told", v])) (.ref p) (.tup [.str "told", d]) :=
  Dt.newT hp (fun z => z) (.cons .str (.cons (h.mono fun _ z => z.elim) .nil))
theorem dt_bad {K : PySem.W.Frag} {H : Hp} {p : Addr} {i : Int} {a b : Bool} (hp : H p = some (.tup [.str "bad", .int i, .bl a, .bl b])) : Dt K NoB H (.ref p) (.tup [.str "bad", .int i, .bl a, .bl b]) :=
  .ofT (fun z => z) hp (.cons .str (.cons .int (.cons .bl (.cons .bl .nil))))
section
variable {X Y : Cx} {vs : List V} {H : Hp} {Q : VK} {E : XK} {a dd C : Addr} {oe : Obj} {pn : List (Addr × Obj)} {i : Int}
theorem body_bad (c2 : CtxS (Y.suite a ((a, oe) :: pn)) nq_bad lq_bad) (HC : HdC Y.K Y.mg C) (zi : Y.mg "isinstance" = none) (hz : Zc (.ref C) (some dd) oe) (hf : ∃ vs, oe.data = .fields vs) (hd : H dd = some (.xd [("at", .int i)]))
    (q : ∀ p H', H p = none → Fr NoB H H' → H' p = some (.tup [.str "bad", .int i, .bl true, .bl false]) → Q (.ref p) H') : RB (Y.suite a ((a, oe) :: pn)) (defBody sq_bad) { nx := fun _ H' => Q .non H', rt := Q } (L2.start nq_bad [.ref a]) H := by
  obtain ⟨CO, mO, kO, _⟩ := HC.own
  obtain ⟨Cs, mB, kB⟩ := HC.bad
  show RB _ _ _ [some (.ref a), none] H
  refine rb_cons ?_
  refine rs_setS c2 (by walk_at "gm") (by walk_at "gm") ?_
  refine re_isX c2 (by walk_at "gm") zi ?_
  refine ra_cons ?_
  refine re_nameS c2 (by walk_at "gs") (by walk_at "gm") .loc ?_
  refine ra_cons ?_
  refine re_tup ?_
  repeat (refine ra_cons ?_; refine re_globS c2 (v := .ref (Cs _)) (by walk_at "gm") (mB _ (by walk_at "gm")) rfl ?_)
  refine ra_nil ?_
  refine ⟨by show 9 ≤ sizeLine; decide, fun tp htp => ?_⟩
  refine ra_nil ?_
  have dt : dd ≠ tp := fun e => by rw [e, htp] at hd; cases hd
  refine lv_isXT HC.kit hz hf (fs := [("at", .int i)]) (by rw [upd_ne dt]; exact hd) upd_same (.cons (.own _) (.cons (.own _) (.cons (.own _) (.cons (.own _) (.cons (.own _) (.cons (.own _) (.cons (.own _) (.cons (.own _) (.cons (.own _) .nil))))))))) kB ?_
  refine ⟨_, by walk_at "gs", ?_⟩
  have f1 : Fr NoB H (upd H tp (.tup [.ref (Cs "BadDeed"), .ref (Cs "BadFraction"), .ref (Cs "BadLabel"), .ref (Cs "BadName"), .ref (Cs "BadOctets"), .ref (Cs "BadRun"), .ref (Cs "BadText"), .ref (Cs "BadView"), .ref (Cs "Refused")])) := Fr.new htp
  have hd1 := f1 _ _ (fun z => z) hd
  refine rb_cons ?_
  refine rs_ret ?_
  refine re_tup ?_
  refine ra_cons (re_str ?_)
  refine ra_cons ?_
  refine re_field (fs := [("at", .int i)]) (v := .int i) HC.xf HC.no hz hf ?_
  refine re_nameS c2 (by walk_at "gs") (by walk_at "gm") .loc ?_
  refine ⟨rfl, hd1, rfl, ?_⟩
  refine ra_cons ?_
  refine re_isX c2 (by walk_at "gm") zi ?_
  refine ra_cons ?_
  refine re_nameS c2 (by walk_at "gs") (by walk_at "gm") .loc ?_
  refine ra_cons ?_
  refine re_globS c2 (v := .ref CO) (by walk_at "gm") mO rfl ?_
  refine ra_nil ?_
  refine lv_isX HC.kit hz hf (fs := [("at", .int i)]) hd1 (.own _) kO ?_
  refine ra_cons ?_
  refine re_nameS c2 (by walk_at "gs") (by walk_at "gm") .loc ?_
  refine ra_nil ⟨by show 4 ≤ sizeLine; decide, fun p hp => ?_⟩
  exact q p _ (f1.free hp) (f1.trans (Fr.new hp)) upd_same
theorem body_event_told {CE CR2 : Addr} (c : Ctx X nq_event_told lq_event_told 13) (hs : X.stack = X.env :: X.outer) (hfr : X.env.frame = some X.env.locals) (zi : X.mg "isinstance" = none) (BT : BadT X) (KC : KeyC X (L2.CX X.prog X.w) "check_event" ["value"] ["value"] g1 g1 13 (spCk X.K CE eF))
    (gE : X.mg "BadEvent" = some (.ref CE)) (gO : X.mg "BadRoster" = some (.ref CR2)) (HC : HdC X.K X.mg CE) (no : PySem.W.kitOne X.K (.ref CE) (.ref CR2) = some false) (h : spTold X.K eF vs H Q E) : RB X (defBody sq_event_told) { nx := fun _ H' => Q .non H', rt := Q } (start nq_event_told vs) H := by
  obtain ⟨B, v, d, rfl, hv, hg, q⟩ := h
  show RB X (defBody sq_event_told) _ [some v, none] H
  have cS : CtxS X nq_event_told lq_event_told := ⟨c.n, c.nd, c.look, c.dbg⟩
  obtain ⟨fb, fdb, Fb, gb, bb⟩ := BT.ex
  refine rb_cons ?_
  refine rs_try_as cS hs hfr (by walk_at "gm") (by walk_at "gm") ⟨cS.gl (by walk_at "gm"), by decide +kernel, .inl gE⟩ ?_
  intro pn xe W tk po hW
  obtain ⟨f, fdd, F1, gx, kp, kb⟩ := KC.ex
  have ct := c.tr pn xe po
  refine rb_cons (rs_ret ?_)
  refine re_tup ?_
  refine ra_cons (re_str ?_)
  refine ra_cons ?_
  refine re_callKO ct F1 (by decide) (by walk_at "gm") gx kp kb (passes_call (W := W) (E := fun cls x H1 => cls = .ref CE ∧ ∃ dd i, x = some dd ∧ eF d = some i ∧ H1 dd = some (.xd [("at", .int i)]) ∧ Fr NoB H H1) tk ?_) ?_
  · rintro cls x σ' H1 ⟨rfl, dd, i, rfl, hi, hd, f1⟩
    refine hW _ _ _ _ HC.exm fun a oe pn2 nx bk ct σa ha hσ hl hz hf c2 => ?_
    obtain rfl := hσ 1 rfl
    obtain ⟨x, y, rfl⟩ : ∃ x y, σ' = [x, y] := by
      match σ', hl with
      | [x, y], _ => exact ⟨x, y, rfl⟩
    show RB _ _ _ [x, some (.ref a)] H1
    refine rb_cons (rs_ret ?_)
    refine re_if (rt_not (rt_val ?_))
    refine re_isX c2 (by walk_at "gm") zi ?_
    refine ra_cons ?_
    refine re_nameS c2 (by walk_at "gs") (by walk_at "gm") .loc ?_
    refine ra_cons ?_
    refine re_globS c2 (v := .ref CR2) (by walk_at "gm") gO rfl ?_
    refine ra_nil ?_
    refine lv_isX HC.kit hz hf (fs := [("at", .int i)]) hd (.own _) no ?_
    refine ⟨_, rfl, iteNF ?_⟩
    refine re_callS c2 (c.room.mono (by decide)) Fb gb mq_bad bb (by walk_at "gm") (by walk_at "gm") (by walk_at "gs") fun Y al cY => ?_
    refine body_bad cY (by rw [al.k, al.m]; exact HC) (by rw [al.m]; exact zi) hz hf hd fun p H' hp f2 hp2 => ?_
    exact q _ _ (f1.trans f2) (by rw [hi]; exact dt_bad hp2)
  · refine rk_cons ?_
    refine re_name ct (by walk_at "gs") (by walk_at "gm") .loc ?_
    refine rk_nil ?_
    refine ⟨B, v, d, rfl, hv, hg, fun e H' f => ?_, fun i e H' x f hx => ⟨rfl, x, i, rfl, e, upd_same, f.trans (Fr.new hx)⟩⟩
    refine ra_nil ⟨by show 2 ≤ sizeLine; decide, fun p hp => ?_⟩
    exact q _ _ (f.trans (Fr.new hp)) (by rw [e]; exact dt_told (hv.fr f.any) hp)
theorem body_entry_told {CE CR2 : Addr} (c : Ctx X nq_entry_told lq_entry_told 13) (hs : X.stack = X.env :: X.outer) (hfr : X.env.frame = some X.env.locals) (zi : X.mg "isinstance" = none) (BT : BadT X) (KC : KeyC X (L2.CX X.prog X.w) "check_entry" ["value"] ["value"] g1 g1 9 (spCk X.K CE enF))
    (gE : X.mg "BadEvent" = some (.ref CE)) (gO : X.mg "BadRoster" = some (.ref CR2)) (HC : HdC X.K X.mg CE) (no : PySem.W.kitOne X.K (.ref CE) (.ref CR2) = some false) (h : spTold X.K enF vs H Q E) : RB X (defBody sq_entry_told) { nx := fun _ H' => Q .non H', rt := Q } (start nq_entry_told vs) H := by
  obtain ⟨B, v, d, rfl, hv, hg, q⟩ := h
  show RB X (defBody sq_entry_told) _ [some v, none] H
  have cS : CtxS X nq_entry_told lq_entry_told := ⟨c.n, c.nd, c.look, c.dbg⟩
  obtain ⟨fb, fdb, Fb, gb, bb⟩ := BT.ex
  refine rb_cons ?_
  refine rs_try_as cS hs hfr (by walk_at "gm") (by walk_at "gm") ⟨cS.gl (by walk_at "gm"), by decide +kernel, .inl gE⟩ ?_
  intro pn xe W tk po hW
  obtain ⟨f, fdd, F1, gx, kp, kb⟩ := KC.ex
  have ct := c.tr pn xe po
  refine rb_cons (rs_ret ?_)
  refine re_tup ?_
  refine ra_cons (re_str ?_)
  refine ra_cons ?_
  refine re_callKO ct F1 (by decide) (by walk_at "gm") gx kp kb (passes_call (W := W) (E := fun cls x H1 => cls = .ref CE ∧ ∃ dd i, x = some dd ∧ enF d = some i ∧ H1 dd = some (.xd [("at", .int i)]) ∧ Fr NoB H H1) tk ?_) ?_
  · rintro cls x σ' H1 ⟨rfl, dd, i, rfl, hi, hd, f1⟩
    refine hW _ _ _ _ HC.exm fun a oe pn2 nx bk ct σa ha hσ hl hz hf c2 => ?_
    obtain rfl := hσ 1 rfl
    obtain ⟨x, y, rfl⟩ : ∃ x y, σ' = [x, y] := by
      match σ', hl with
      | [x, y], _ => exact ⟨x, y, rfl⟩
    show RB _ _ _ [x, some (.ref a)] H1
    refine rb_cons (rs_ret ?_)
    refine re_if (rt_not (rt_val ?_))
    refine re_isX c2 (by walk_at "gm") zi ?_
    refine ra_cons ?_
    refine re_nameS c2 (by walk_at "gs") (by walk_at "gm") .loc ?_
    refine ra_cons ?_
    refine re_globS c2 (v := .ref CR2) (by walk_at "gm") gO rfl ?_
    refine ra_nil ?_
    refine lv_isX HC.kit hz hf (fs := [("at", .int i)]) hd (.own _) no ?_
    refine ⟨_, rfl, iteNF ?_⟩
    refine re_callS c2 (c.room.mono (by decide)) Fb gb mq_bad bb (by walk_at "gm") (by walk_at "gm") (by walk_at "gs") fun Y al cY => ?_
    refine body_bad cY (by rw [al.k, al.m]; exact HC) (by rw [al.m]; exact zi) hz hf hd fun p H' hp f2 hp2 => ?_
    exact q _ _ (f1.trans f2) (by rw [hi]; exact dt_bad hp2)
  · refine rk_cons ?_
    refine re_name ct (by walk_at "gs") (by walk_at "gm") .loc ?_
    refine rk_nil ?_
    refine ⟨B, v, d, rfl, hv, hg, fun e H' f => ?_, fun i e H' x f hx => ⟨rfl, x, i, rfl, e, upd_same, f.trans (Fr.new hx)⟩⟩
    refine ra_nil ⟨by show 2 ≤ sizeLine; decide, fun p hp => ?_⟩
    exact q _ _ (f.trans (Fr.new hp)) (by rw [e]; exact dt_told (hv.fr f.any) hp)
theorem body_roster_told {CE CR2 : Addr} (c : Ctx X nq_roster_told lq_roster_told 13) (hs : X.stack = X.env :: X.outer) (hfr : X.env.frame = some X.env.locals) (zi : X.mg "isinstance" = none) (BT : BadT X) (KC : KeyC X (L2.CX X.prog X.w) "check_roster" ["value"] ["value"] g1 g1 3 (spCk X.K CE rF))
    (gE : X.mg "BadRoster" = some (.ref CE)) (gO : X.mg "BadEvent" = some (.ref CR2)) (HC : HdC X.K X.mg CE) (no : PySem.W.kitOne X.K (.ref CE) (.ref CR2) = some false) (h : spTold X.K rF vs H Q E) : RB X (defBody sq_roster_told) { nx := fun _ H' => Q .non H', rt := Q } (start nq_roster_told vs) H := by
  obtain ⟨B, v, d, rfl, hv, hg, q⟩ := h
  show RB X (defBody sq_roster_told) _ [some v, none] H
  have cS : CtxS X nq_roster_told lq_roster_told := ⟨c.n, c.nd, c.look, c.dbg⟩
  obtain ⟨fb, fdb, Fb, gb, bb⟩ := BT.ex
  refine rb_cons ?_
  refine rs_try_as cS hs hfr (by walk_at "gm") (by walk_at "gm") ⟨cS.gl (by walk_at "gm"), by decide +kernel, .inl gE⟩ ?_
  intro pn xe W tk po hW
  obtain ⟨f, fdd, F1, gx, kp, kb⟩ := KC.ex
  have ct := c.tr pn xe po
  refine rb_cons (rs_ret ?_)
  refine re_tup ?_
  refine ra_cons (re_str ?_)
  refine ra_cons ?_
  refine re_callKO ct F1 (by decide) (by walk_at "gm") gx kp kb (passes_call (W := W) (E := fun cls x H1 => cls = .ref CE ∧ ∃ dd i, x = some dd ∧ rF d = some i ∧ H1 dd = some (.xd [("at", .int i)]) ∧ Fr NoB H H1) tk ?_) ?_
  · rintro cls x σ' H1 ⟨rfl, dd, i, rfl, hi, hd, f1⟩
    refine hW _ _ _ _ HC.exm fun a oe pn2 nx bk ct σa ha hσ hl hz hf c2 => ?_
    obtain rfl := hσ 1 rfl
    obtain ⟨x, y, rfl⟩ : ∃ x y, σ' = [x, y] := by
      match σ', hl with
      | [x, y], _ => exact ⟨x, y, rfl⟩
    show RB _ _ _ [x, some (.ref a)] H1
    refine rb_cons (rs_ret ?_)
    refine re_if (rt_not (rt_val ?_))
    refine re_isX c2 (by walk_at "gm") zi ?_
    refine ra_cons ?_
    refine re_nameS c2 (by walk_at "gs") (by walk_at "gm") .loc ?_
    refine ra_cons ?_
    refine re_globS c2 (v := .ref CR2) (by walk_at "gm") gO rfl ?_
    refine ra_nil ?_
    refine lv_isX HC.kit hz hf (fs := [("at", .int i)]) hd (.own _) no ?_
    refine ⟨_, rfl, iteNF ?_⟩
    refine re_callS c2 (c.room.mono (by decide)) Fb gb mq_bad bb (by walk_at "gm") (by walk_at "gm") (by walk_at "gs") fun Y al cY => ?_
    refine body_bad cY (by rw [al.k, al.m]; exact HC) (by rw [al.m]; exact zi) hz hf hd fun p H' hp f2 hp2 => ?_
    exact q _ _ (f1.trans f2) (by rw [hi]; exact dt_bad hp2)
  · refine rk_cons ?_
    refine re_name ct (by walk_at "gs") (by walk_at "gm") .loc ?_
    refine rk_nil ?_
    refine ⟨B, v, d, rfl, hv, hg, fun e H' f => ?_, fun i e H' x f hx => ⟨rfl, x, i, rfl, e, upd_same, f.trans (Fr.new hx)⟩⟩
    refine ra_nil ⟨by show 2 ≤ sizeLine; decide, fun p hp => ?_⟩
    exact q _ _ (f.trans (Fr.new hp)) (by rw [e]; exact dt_told (hv.fr f.any) hp)
def spBase (K : PySem.W.Frag) : Sp := fun vs H Q _ => ∃ (B : Addr → Prop) (v : V) (d : D) (i : Int), vs = [v] ∧ Dt K B H v d ∧ Gd 20 d ∧ rF d = some i ∧ ∀ u H', Fr NoB H H' → Dt K NoB H' u (.tup [.str "bad", .bl true, .bl false, .bl true]) → Q u H'
theorem body_base_told {CE CR2 : Addr} (c : Ctx X nq_base_told lq_base_told 3) (hs : X.stack = X.env :: X.outer) (hfr : X.env.frame = some X.env.locals) (zi : X.mg "isinstance" = none) (zv : X.mg "ValueError" = none) (dC : DefP X.prog X.w X.K X.mg X.base (L2.CX X.prog X.w) "check_roster" ["value"] 3 (spCk X.K CE rF))
    (gE : X.mg "BadRoster" = some (.ref CE)) (gO : X.mg "BadEvent" = some (.ref CR2)) (HC : HdC X.K X.mg CE) (no : PySem.W.kitOne X.K (.ref CE) (.ref CR2) = some false) (yes : PySem.W.kitOne X.K (.ref CE) (.ref CE) = some true) (h : spBase X.K vs H Q E) : RB X (defBody sq_base_told) { nx := fun _ H' => Q .non H', rt := Q } (start nq_base_told vs) H := by
  obtain ⟨B, v, d, i0, rfl, hv, hg, hr, q⟩ := h
  obtain ⟨CO, mO, kO, xO⟩ := HC.own
  show RB X (defBody sq_base_told) _ [some v, none] H
  have cS : CtxS X nq_base_told lq_base_told := ⟨c.n, c.nd, c.look, c.dbg⟩
  refine rb_cons ?_
  refine rs_try_as cS hs hfr (by walk_at "gm") (by walk_at "gm") ⟨cS.gl (by walk_at "gm"), by decide +kernel, .inl mO⟩ ?_
  intro pn xe W tk po hW
  have ct := c.tr pn xe po
  refine rb_cons (rs_ret ?_)
  refine re_tup ?_
  refine ra_cons (re_str ?_)
  refine ra_cons ?_
  refine re_callX ct dC (by decide) (by walk_at "gm") (passes_call (W := W) (E := fun cls x H1 => cls = .ref CE ∧ ∃ dd i, x = some dd ∧ rF d = some i ∧ H1 dd = some (.xd [("at", .int i)]) ∧ Fr NoB H H1) tk ?_) ?_
  · rintro cls x σ' H1 ⟨rfl, dd, i, rfl, hi, hd, f1⟩
    refine hW _ _ _ _ xO fun a oe pn2 nx bk ct σa ha hσ hl hz hf c2 => ?_
    obtain rfl := hσ 1 rfl
    obtain ⟨x, y, rfl⟩ : ∃ x y, σ' = [x, y] := by
      match σ', hl with
      | [x, y], _ => exact ⟨x, y, rfl⟩
    show RB _ _ _ [x, some (.ref a)] H1
    refine rb_cons (rs_ret ?_)
    refine re_tup ?_
    refine ra_cons (re_str ?_)
    refine ra_cons ?_
    refine re_isX c2 (by walk_at "gm") zi ?_
    refine ra_cons ?_
    refine re_nameS c2 (by walk_at "gs") (by walk_at "gm") .loc ?_
    refine ra_cons ?_
    refine re_globS c2 (v := .ref CE) (by walk_at "gm") gE rfl ?_
    refine ra_nil ?_
    refine lv_isX HC.kit hz hf (fs := [("at", .int i)]) hd (.own _) yes ?_
    refine ra_cons ?_
    refine re_isX c2 (by walk_at "gm") zi ?_
    refine ra_cons ?_
    refine re_nameS c2 (by walk_at "gs") (by walk_at "gm") .loc ?_
    refine ra_cons ?_
    refine re_globS c2 (v := .ref CR2) (by walk_at "gm") gO rfl ?_
    refine ra_nil ?_
    refine lv_isX HC.kit hz hf (fs := [("at", .int i)]) hd (.own _) no ?_
    refine ra_cons ?_
    refine re_isX c2 (by walk_at "gm") zi ?_
    refine ra_cons ?_
    refine re_nameS c2 (by walk_at "gs") (by walk_at "gm") .loc ?_
    refine ra_cons ?_
    refine re_bltnS c2 (v := .ty "ValueError") (by walk_at "gm") zv (by decide +kernel) rfl ?_
    refine ra_nil ?_
    refine lv_isX HC.kit hz hf (fs := [("at", .int i)]) hd (.ty _) HC.kv ?_
    refine ra_nil ⟨by show 4 ≤ sizeLine; decide, fun p hp => ?_⟩
    exact q _ _ (f1.trans (Fr.new hp)) (.ofT (fun z => z) upd_same (.cons .str (.cons .bl (.cons .bl (.cons .bl .nil)))))
  · refine ra_cons ?_
    refine re_name ct (by walk_at "gs") (by walk_at "gm") .loc ?_
    refine ra_nil ?_
    exact ⟨B, v, d, rfl, hv, hg, (fun e => absurd (hr.symm.trans e) (fun z => nomatch z)), fun i e H' x f hx => ⟨rfl, x, i, rfl, e, upd_same, f.trans (Fr.new hx)⟩⟩
theorem body_due (c : Ctx X nq_due lq_due 0) (h : spDue X.K vs H Q E) : RB X (defBody sq_due) { nx := fun _ H' => Q .non H', rt := Q } (start nq_due vs) H := by
  obtain ⟨B, v, d, o, rfl, hv, q⟩ := h
  cases o with
  | none =>
    show RB X (defBody sq_due) _ [some v, some .non] H
    walk_at "g0"
    exact ⟨by show 2 ≤ sizeLine; decide, fun p hp => q _ _ (Fr.new hp) (dt_told hv hp)⟩
  | some i =>
    show RB X (defBody sq_due) _ [some v, some (.int i)] H
    walk_at "g0"
    exact ⟨by show 4 ≤ sizeLine; decide, fun p hp => q _ _ (Fr.new hp) (dt_bad upd_same)⟩
theorem dep_tD {o : Option Int} {d : D} (h : Gd 20 d) : Dep 21 (tD o d) := by
  cases o with
  | none =>
    refine .tup fun e he => ?_
    simp only [List.mem_cons, List.not_mem_nil, or_false] at he
    rcases he with rfl | rfl
    · exact .str
    · exact gd_dep h
  | some i =>
    refine .tup fun e he => ?_
    simp only [List.mem_cons, List.not_mem_nil, or_false] at he
    rcases he with rfl | rfl | rfl | rfl
    · exact .str
    · exact .int
    · exact .bl
    · exact .bl
def spAsk (K : PySem.W.Frag) : Sp := fun vs H Q _ => ∃ (B : Addr → Prop) (v : V) (d : D), vs = [v] ∧ Dt K B H v d ∧ Gd 20 d ∧ ∀ H', Fr NoB H H' → Q (.bl true) H'
theorem body_asked (c : Ctx X nq_asked lq_asked 22) (dT : DefP X.prog X.w X.K X.mg X.base CX0 "_law_event_told" ["value"] 14 (spTold X.K eF)) (dD : DefP X.prog X.w X.K X.mg X.base CX0 "_law_due" ["value", "fault"] 1 (spDue X.K)) (dF : DefP X.prog X.w X.K X.mg X.base CX0 "_law_fault" ["value"] 7 (spEF X.K))
    (dS : DefP X.prog X.w X.K X.mg X.base CX0 "_law_same" ["told", "due"] 22 (spSame X.K 21)) (h : spAsk X.K vs H Q E) : RB X (defBody sq_asked) { nx := fun _ H' => Q .non H', rt := Q } (start nq_asked vs) H := by
  obtain ⟨B, v, d, rfl, hv, hg, q⟩ := h
  show RB X (defBody sq_asked) _ [some v] H
  walk_at "e0"
  refine re_call c dS (by decide) (by walk_at "gm") ?_
  walk_at "e"
  refine re_call c dT (by decide) (by walk_at "gm") ?_
  walk_at "e"
  refine ⟨B, v, d, rfl, hv, hg, fun u1 H1 f1 h1 => ?_⟩
  walk_at "e"
  refine re_call c dD (by decide) (by walk_at "gm") ?_
  walk_at "e"
  refine re_call c dF (by decide) (by walk_at "gm") ?_
  walk_at "e"
  refine ⟨B, v, d, rfl, hv.fr f1.any, hg, fun H2 f2 => ?_⟩
  walk_at "e"
  refine ⟨B, v, d, eF d, rfl, hv.fr (f1.trans f2).any, fun u3 H3 f3 h3 => ?_⟩
  walk_at "e"
  exact ⟨tD (eF d) d, u1, u3, NoB, NoB, rfl, h1.fr (f2.trans f3), h3, dep_tD hg, fun H4 f4 => q H4 (((f1.trans f2).trans f3).trans f4)⟩
end
theorem fr_box {H : Hp} {b : Addr} {o : HO} : Fr (· = b) H (upd H b o) := fun a u n e => by
  rw [upd_ne n]
  exact e
theorem mem_at {α : Type} {xs : List α} {d : Int} (h0 : 0 ≤ d) (h1 : d < (xs.length : Int)) : ∃ v, atI xs d = some v ∧ v ∈ xs := by
  have h2 : d.toNat < xs.length := by omega
  refine ⟨xs[d.toNat], ?_, List.getElem_mem h2⟩
  unfold atI ixN
  rw [if_pos h0, if_pos h1]
  show xs[d.toNat]? = _
  rw [List.getElem?_eq_getElem h2]
def spBox (K : PySem.W.Frag) : Sp := fun vs H Q _ => ∃ (a : Addr) (ns : List Int) (k : Int), vs = [.ref a, .int k] ∧ SqL K H a (ns.map V.int) ∧ ns.length ≤ 63 ∧ 0 ≤ k ∧ k < 1000 ∧
  ∀ p H', H p = none → Fr NoB H H' → BoxAt H' p → Q (.ref p) H'
theorem body_box {X : Cx} (c : Ctx X nq_box lq_box 0) (zl : X.mg "len" = none) (zi : X.mg "int" = none) (za : X.mg "abs" = none) {vs : List V} {H : Hp} {Q : VK} {E : XK} (h : spBox X.K vs H Q E) :
    RB X (defBody sq_box) { nx := fun _ H' => Q .non H', rt := Q } (start nq_box vs) H := by
  obtain ⟨a, ns, k, rfl, hS, h63, k0, k1, q⟩ := h
  have lm : (ns.map V.int).length = ns.length := List.length_map _
  have item : ∀ i : Int, 0 ≤ i → i < (ns.length : Int) → ∃ v, atI (ns.map V.int) i = some (.int v) := fun i h0 h1 => by
    obtain ⟨v, h2, h3⟩ := mem_at (xs := ns.map V.int) h0 (by rw [lm]; exact h1)
    obtain ⟨w, _, e⟩ := List.mem_map.mp h3
    exact ⟨w, by rw [h2, e]⟩
  have fin : ∀ g z : Int, 0 ≤ g → ∀ p, H p = none → Q (.ref p) (upd H p (.lst [.int g, .int (z % 2147483563 + 1)])) := fun g z hg p hp =>
    q p _ hp (Fr.new hp) ⟨g, _, upd_same, hg, by omega, by omega⟩
  -- behind the choice of the cell
  have rest : ∀ cell : Int, 0 ≤ cell → RB X (List.drop 2 (defBody sq_box)) { nx := fun _ H' => Q .non H', rt := Q } [some (.ref a), some (.int k), some (.int cell), none] H := fun cell hc => by
    walk_at "g0"
    refine ov_pow ⟨by decide, by decide, by decide⟩ ?_
    walk_at "g"
    refine ite2 (fun e => ?_) (fun e => ?_)
    · walk_at "g"
      exact ⟨by show 2 ≤ sizeLine; decide, fun p hp => fin _ _ hc p hp⟩
    · walk_at "g"
      exact ⟨by show 2 ≤ sizeLine; decide, fun p hp => fin _ _ (by decide) p hp⟩
  show RB X (defBody sq_box) _ [some (.ref a), some (.int k), none, none] H
  walk_at "g0"
  refine lv_lenL hS ?_
  walk_at "g"
  refine ite2 (fun e => ?_) (fun e => ?_)
  · obtain ⟨v, hv⟩ := item k k0 (by rw [lm] at e; exact of_decide_eq_true e)
    walk_at "g"
    refine iv_list hS hv ?_
    walk_at "e"
    exact rest _ (by split <;> omega)
  · walk_at "g"
    refine lv_lenL hS ?_
    walk_at "g"
    refine ite2 (fun e => ?_) (fun e => ?_)
    · rw [lm] at e
      have hn : (0 : Int) < ns.length := of_decide_eq_true e
      obtain ⟨v, hv⟩ := item (k % ns.length) (Int.emod_nonneg _ (by omega)) (Int.emod_lt_of_pos _ hn)
      walk_at "g"
      refine lv_lenL hS ?_
      rw [lm]
      walk_at "g"
      refine iv_list hS hv ?_
      walk_at "e"
      exact rest _ (by omega)
    · walk_at "e"
      exact rest _ (by omega)
theorem sz30 {n : Nat} (h : n ≤ 100000) : n ≤ sizeLine := Nat.le_trans h (by decide)
theorem pow110 : (2 : Int) ^ 110 = 1298074214633706907132624082305024 := by decide +kernel
theorem body_take {X : Cx} (c : Ctx X nq_take lq_take 0) (zi : X.mg "int" = none) {vs : List V} {H : Hp} {Q : VK} {E : XK} (h : spTake vs H Q E) : RB X (defBody sq_take) { nx := fun _ H' => Q .non H', rt := Q } (start nq_take vs) H := by
  obtain ⟨b, n, rfl, hB, h0, h1, q⟩ := h
  obtain ⟨g, r, hb, g0, r0, r1⟩ := id hB
  show RB X (defBody sq_take) _ [some (.ref b), some (.int n), none, none] H
  walk_at "g0"
  refine ite2 (fun e => ?_) (fun e => ?_)
  · walk_at "g"
    refine ov_fdivX (b := 110) (by omega) (by
      have e2 : ((2 ^ 110 : Nat) : Int) = (2 : Int) ^ 110 := by decide +kernel
      have : ((n.natAbs : Nat) : Int) < ((2 ^ 110 : Nat) : Int) := by rw [e2]; omega
      exact Int.ofNat_lt.mp this) (by decide) (by decide) ?_
    rw [Int.fdiv_eq_ediv_of_nonneg g (by omega)]
    walk_at "g"
    refine ⟨b, [.int g, .int r], 0, 0, rfl, rfl, hb, rfl, ?_⟩
    walk_at "g"
    exact q _ _ (Int.emod_nonneg _ (by omega)) (Int.emod_lt_of_pos _ h0) fr_box ⟨g / n, r, upd_same, Int.ediv_nonneg g0 (by omega), r0, r1⟩
  · walk_at "g"
    refine ⟨b, [.int g, .int r], 1, 1, rfl, rfl, hb, rfl, ?_⟩
    walk_at "g"
    refine iv_list (SqL.of upd_same) (by exact rfl) ?_
    walk_at "g"
    refine ov_fdiv (wide_div (b := 32) (by decide) (by decide) (by decide) (by decide)) ?_
    walk_at "g"
    have m1 : ∀ z : Int, 0 ≤ z % 2147483399 + 1 ∧ z % 2147483399 + 1 < 2 ^ 32 := fun z => by omega
    exact q _ _ (Int.emod_nonneg _ (by omega)) (Int.emod_lt_of_pos _ h0) fr_box ⟨g, _, upd_same, g0, (m1 _).1, (m1 _).2⟩
theorem body_pick {X : Cx} (c : Ctx X nq_pick lq_pick 1) (zl : X.mg "len" = none) (dT : DefP X.prog X.w X.K X.mg X.base CX0 "_law_take" ["box", "many"] 1 spTake) {vs : List V} {H : Hp} {Q : VK} {E : XK} (h : spPick X.K vs H Q E) :
    RB X (defBody sq_pick) { nx := fun _ H' => Q .non H', rt := Q } (start nq_pick vs) H := by
  obtain ⟨b, hB, h⟩ := h
  have big : (2 : Int) ^ 31 < 2 ^ 110 := by decide +kernel
  rcases h with ⟨p, xs, rfl, hp, hpb, h0, h1, q⟩ | ⟨z, rfl, h0, h1, q⟩
  · show RB X (defBody sq_pick) _ [some (.ref b), some (.ref p)] H
    walk_at "g0"
    refine re_call c dT (by decide) (by walk_at "gm") ?_
    walk_at "g"
    refine lv_lenL (SqL.of hp) ?_
    walk_at "g"
    refine ⟨b, _, rfl, hB, by omega, by omega, fun d H' d0 d1 f hB' => ?_⟩
    obtain ⟨v, hv, hm⟩ := mem_at (xs := xs) d0 d1
    obtain ⟨i, hi⟩ := List.mem_iff_getElem?.mp hm
    exact iv_list (SqL.of (f _ _ hpb hp)) hv (q i v H' hi f hB')
  · show RB X (defBody sq_pick) _ [some (.ref b), some (.str z)] H
    have zz : z.length ≤ sizeLine := Nat.le_trans h1 (by decide)
    have ez : z.length = z.cps.toList.length := by show z.cps.size = _; simp
    walk_at "g0"
    refine re_call c dT (by decide) (by walk_at "gm") ?_
    walk_at "g"
    refine lv_lenS zz ?_
    walk_at "g"
    refine ⟨b, _, rfl, hB, by omega, by omega, fun d H' d0 d1 f hB' => ?_⟩
    obtain ⟨v, hv, hm⟩ := mem_at (xs := z.cps.toList) d0 (by omega)
    exact iv_str zz hv (q v H' hm f hB')
/-! ### what is drawn -/
abbrev P30 : Int := 10 ^ 30
def isLabD (d : D) : Prop := ∃ z, d = .str z ∧ pLab (.str z) = true
theorem lab_ok {z : Str} (h : pLab (.str z) = true) : z.length ≤ 8 ∧ PyData.strOk z = true := by
  obtain ⟨_, h2, h3⟩ := pLab_str.mp h
  refine ⟨h2, ?_⟩
  show z.cps.all (· < 0x110000) = true
  rw [Array.all_eq_true']
  intro c hc
  have := h3 c (by simpa using hc)
  exact decide_eq_true (by omega)
theorem gd_lab {n : Nat} {d : D} (h : isLabD d) : Gd n d := by
  obtain ⟨z, rfl, h⟩ := h
  obtain ⟨h1, h2⟩ := lab_ok h
  exact .str (by omega) h2
theorem nl_lab {d : D} (h : isLabD d) : NoL d := by
  obtain ⟨z, rfl, _⟩ := h
  exact .str
def isIdD (d : D) : Prop := ∃ n l m : Int, d = .tup [.int n, .int l, .int m] ∧ (0 ≤ n ∧ n ≤ 31) ∧ (0 ≤ l ∧ l ≤ 10 ^ 30) ∧ (0 ≤ m ∧ m ≤ 10 ^ 30)
theorem gd_i {n : Nat} {i : Int} (h1 : -(10 ^ 30) ≤ i) (h2 : i ≤ 10 ^ 30) : Gd n (.int i) := gd_IR (lo := -(10 ^ 30)) (hi := 10 ^ 30) ⟨i, rfl, h1, h2⟩ (by decide +kernel) (by decide +kernel)
theorem three_all {P : D → Prop} {a b c : D} (h1 : P a) (h2 : P b) (h3 : P c) : ∀ d ∈ [a, b, c], P d := fun d hd => by
  simp only [List.mem_cons, List.not_mem_nil, or_false] at hd
  rcases hd with rfl | rfl | rfl <;> assumption
theorem two_all {P : D → Prop} {a b : D} (h1 : P a) (h2 : P b) : ∀ d ∈ [a, b], P d := fun d hd => by
  simp only [List.mem_cons, List.not_mem_nil, or_false] at hd
  rcases hd with rfl | rfl <;> assumption
theorem gd_id {n : Nat} {d : D} (h : isIdD d) : Gd (n + 1) d := by
  obtain ⟨a, l, m, rfl, h1, h2, h3⟩ := h
  have p : (0 : Int) ≤ 10 ^ 30 := by decide +kernel
  have p2 : (31 : Int) ≤ 10 ^ 30 := by decide +kernel
  exact .tup (by simp) (three_all (gd_i (by omega) (by omega)) (gd_i (by omega) (by omega)) (gd_i (by omega) (by omega)))
theorem nl_id {d : D} (h : isIdD d) : NoL d := by
  obtain ⟨a, l, m, rfl, _⟩ := h
  exact .tup (three_all .int .int .int)
def isNamD (d : D) : Prop := ∃ ds, d = .tup ds ∧ 1 ≤ ds.length ∧ ds.length ≤ 6 ∧ ∀ e ∈ ds, isLabD e
theorem gd_nam {n : Nat} {d : D} (h : isNamD d) : Gd (n + 1) d := by
  obtain ⟨ds, rfl, _, h2, h3⟩ := h
  exact .tup (by omega) fun e he => gd_lab (h3 e he)
theorem nl_nam {d : D} (h : isNamD d) : NoL d := by
  obtain ⟨ds, rfl, _, h2, h3⟩ := h
  exact .tup fun e he => nl_lab (h3 e he)
section
variable {X : Cx} {vs : List V} {H : Hp} {Q : VK} {E : XK}
theorem body_id (c : Ctx X nq_id lq_id 2) (dT : DefP X.prog X.w X.K X.mg X.base CX0 "_law_take" ["box", "many"] 1 spTake) (dP : DefP X.prog X.w X.K X.mg X.base CX0 "_law_pick" ["box", "some"] 2 (spPick X.K)) (h : spDr isIdD X.K vs H Q E) :
    RB X (defBody sq_id) { nx := fun _ H' => Q .non H', rt := Q } (start nq_id vs) H := by
  obtain ⟨b, rfl, hB, q⟩ := h
  show RB X (defBody sq_id) _ [some (.ref b), none] H
  have st : ST X.K (· = b) b [] H := ST.one hB
  refine rb_cons (rs_set c (by walk_at "gm") .loc (by walk_at "gm") ?_)
  refine ev_use (R := IR 0 (10 ^ 30)) st (by walk_at "evP"; walk_at "evs" <;> walk_at "evI") fun v1 d1 H1 f1 b1 r1 k1 => ?_
  obtain ⟨l, rfl, l0, l1⟩ := r1
  cases k1
  have st1 := st.fr f1 b1
  refine ⟨_, by walk_at "gs", ?_⟩
  refine rb_cons (rs_ret ?_)
  refine re_tup (ra_cons ?_)
  refine ev_use (R := IR 0 31) st1 (by walk_at "evP"; walk_at "evs" <;> walk_at "evI") fun v2 d2 H2 f2 b2 r2 k2 => ?_
  obtain ⟨n, rfl, n0, n1⟩ := r2
  cases k2
  have st2 := st1.fr f2 b2
  refine ra_cons (re_name c (by walk_at "gs") (by walk_at "gm") .loc ?_)
  refine ra_cons ?_
  refine ev_use (R := IR 0 (10 ^ 30)) st2 (by walk_at "evP"; walk_at "evs" <;> walk_at "evI") fun v3 d3 H3 f3 b3 r3 k3 => ?_
  obtain ⟨m, rfl, m0, m1⟩ := r3
  cases k3
  refine ra_nil ⟨by show 3 ≤ sizeLine; decide, fun p hp => ?_⟩
  have hid : isIdD (.tup [.int n, .int l, .int m]) := ⟨n, l, m, rfl, ⟨n0, n1⟩, ⟨l0, l1⟩, ⟨m0, m1⟩⟩
  exact q _ _ _ hid (nl_id hid) (Dt.newT hp (b3.ne hp) (.cons .int (.cons .int (.cons .int .nil)))) (((f1.trans f2).trans f3).trans (Fr.new hp)) (b3.put (b3.ne hp))
end
theorem joined_signs (cs : List Nat) : Txt.join "" (cs.map fun c => (⟨#[c]⟩ : Str)) = ⟨cs.toArray⟩ := by
  have e := TL.tl_join "" (cs.map fun c => (⟨#[c]⟩ : Str))
  have h : ∀ l : List (List Nat), TL.joinL (TL.tl "") l = l.flatten := fun l => by
    have e0 : TL.tl ("" : Str) = [] := by decide +kernel
    rw [e0]
    induction l with
    | nil => rfl
    | cons p r ih =>
      cases r with
      | nil => simp [TL.joinL]
      | cons q r =>
        show p ++ ([] ++ TL.joinL [] (q :: r)) = _
        rw [ih, List.nil_append]
        rfl
  rw [h, List.map_map] at e
  have e2 : ∀ l : List Nat, (List.map (TL.tl ∘ fun c => (⟨#[c]⟩ : Str)) l).flatten = l := fun l => by
    have e3 : (TL.tl ∘ fun c => (⟨#[c]⟩ : Str)) = fun c => [c] := by funext c; rfl
    rw [e3]
    induction l with
    | nil => rfl
    | cons c r ih => simpa using ih
  rw [e2] at e
  refine TL.ext_tl ?_
  rw [TL.join_eq]
  exact e
def fc (n d : Int) : Int := if d < 0 then -(gi n d) else gi n d
def fN (n d : Int) : Int := n.fdiv (fc n d)
def fM (n d : Int) : Int := d.fdiv (fc n d)
theorem gi_pos {n d : Int} (h : d ≠ 0) : 0 < gi n d := by
  unfold gi
  have := Nat.gcd_pos_of_pos_right n.natAbs (Int.natAbs_pos.mpr h)
  omega
theorem fc_dvd_left {n d : Int} : fc n d ∣ n := by
  have h : gi n d ∣ n := Int.natAbs_dvd_natAbs.mp (by unfold gi; rw [Int.natAbs_natCast]; exact Nat.gcd_dvd_left _ _)
  unfold fc
  split
  · exact (Int.neg_dvd).mpr h
  · exact h
theorem fc_dvd_right {n d : Int} : fc n d ∣ d := by
  have h : gi n d ∣ d := Int.natAbs_dvd_natAbs.mp (by unfold gi; rw [Int.natAbs_natCast]; exact Nat.gcd_dvd_right _ _)
  unfold fc
  split
  · exact (Int.neg_dvd).mpr h
  · exact h
theorem fc_abs {n d : Int} : (fc n d).natAbs = Nat.gcd n.natAbs d.natAbs := by
  unfold fc gi
  split
  · rw [Int.natAbs_neg, Int.natAbs_natCast]
  · rw [Int.natAbs_natCast]
theorem frac_ok {n d : Int} (d0 : d ≠ 0) : fd (.tup [.int (fN n d), .int (fM n d)]) = none ∧ (fN n d).natAbs ≤ n.natAbs ∧ (fM n d).natAbs ≤ d.natAbs := by
  have c0 : fc n d ≠ 0 := by
    have := gi_pos (n := n) d0
    unfold fc
    split <;> omega
  obtain ⟨a, ha⟩ := fc_dvd_left (n := n) (d := d)
  obtain ⟨e, he⟩ := fc_dvd_right (n := n) (d := d)
  have hN : fN n d = a := by
    unfold fN
    have := Int.mul_fdiv_cancel_left a c0
    rwa [← ha] at this
  have hM : fM n d = e := by
    unfold fM
    have := Int.mul_fdiv_cancel_left e c0
    rwa [← he] at this
  have na : n.natAbs = (fc n d).natAbs * a.natAbs := by rw [← Int.natAbs_mul, ← ha]
  have de : d.natAbs = (fc n d).natAbs * e.natAbs := by rw [← Int.natAbs_mul, ← he]
  have cp : 0 < (fc n d).natAbs := Int.natAbs_pos.mpr c0
  have g1 : Nat.gcd a.natAbs e.natAbs = 1 := by
    have h1 : (fc n d).natAbs = (fc n d).natAbs * Nat.gcd a.natAbs e.natAbs := by
      have h2 := Nat.gcd_mul_left (fc n d).natAbs a.natAbs e.natAbs
      rw [← na, ← de, ← fc_abs] at h2
      exact h2
    have h3 : (fc n d).natAbs * Nat.gcd a.natAbs e.natAbs = (fc n d).natAbs * 1 := by rw [Nat.mul_one]; exact h1.symm
    exact Nat.eq_of_mul_eq_mul_left cp h3
  have ep : ¬ e < 1 := by
    intro z
    have z2 : e ≤ 0 := by omega
    have c1 : (d < 0 → fc n d < 0) ∧ (0 < d → 0 < fc n d) := by
      have := gi_pos (n := n) d0
      unfold fc
      constructor
      · intro h
        rw [if_pos h]
        omega
      · intro h
        rw [if_neg (by omega)]
        omega
    rcases Int.lt_or_gt_of_ne d0 with h | h
    · have h1 := Int.mul_nonneg_of_nonpos_of_nonpos (Int.le_of_lt (c1.1 h)) z2
      rw [← he] at h1
      omega
    · have h1 := Int.mul_nonpos_of_nonneg_of_nonpos (Int.le_of_lt (c1.2 h)) z2
      rw [← he] at h1
      omega
  rw [hN, hM]
  refine ⟨?_, ?_, ?_⟩
  · show fp a e = none
    unfold fp gi
    rw [if_neg ep, g1]
    rfl
  · rw [na]
    exact Nat.le_mul_of_pos_left _ cp
  · rw [de]
    exact Nat.le_mul_of_pos_left _ cp
theorem dts_strsD {K : PySem.W.Frag} {B : Addr → Prop} {H : Hp} : ∀ {vs : List V} {ds : List D}, Dts K B H vs ds → (∀ d ∈ ds, ∃ z, d = .str z) → ∃ zs : List Str, vs = zs.map V.str ∧ ds = zs.map D.str
  | [], [], _, _ => ⟨[], rfl, rfl⟩
  | [], _ :: _, h, _ => by cases h.1
  | _ :: _, [], h, _ => by cases h.1
  | v :: vs, d :: ds, h, hz => by
    obtain ⟨z, rfl⟩ := hz d List.mem_cons_self
    have h0 := h.2 0 v (.str z) rfl rfl
    cases h0
    obtain ⟨zs, rfl, rfl⟩ := dts_strsD (vs := vs) (ds := ds) ⟨by have := h.1; simpa using this, fun i u e a b => h.2 (i + 1) u e (by simpa using a) (by simpa using b)⟩ fun e he => hz e (List.mem_cons_of_mem _ he)
    exact ⟨z :: zs, rfl, rfl⟩
def isSgD (d : D) : Prop := ∃ ch, d = .str ⟨#[ch]⟩ ∧ 97 ≤ ch ∧ ch ≤ 122
theorem signs_of : ∀ {zs : List Str}, (∀ d ∈ zs.map D.str, isSgD d) → ∃ cs : List Nat, zs = cs.map (fun c => (⟨#[c]⟩ : Str)) ∧ ∀ c ∈ cs, 97 ≤ c ∧ c ≤ 122
  | [], _ => ⟨[], rfl, fun c h => by cases h⟩
  | z :: zs, h => by
    obtain ⟨ch, e, hc⟩ := h (.str z) (by simp)
    injection e with e
    obtain ⟨cs, rfl, hcs⟩ := signs_of (zs := zs) fun d hd => h d (by
      rw [List.map_cons]
      exact List.mem_cons_of_mem _ hd)
    refine ⟨ch :: cs, by rw [e]; rfl, fun c hm => ?_⟩
    rcases List.mem_cons.mp hm with rfl | hm
    · exact hc
    · exact hcs c hm
def isFrD (d : D) : Prop := ∃ n m : Int, d = .tup [.int n, .int m] ∧ (-(10 ^ 30) ≤ n ∧ n ≤ 10 ^ 30) ∧ (0 ≤ m ∧ m ≤ 10 ^ 30)
theorem gd_fr {n : Nat} {d : D} (h : isFrD d) : Gd (n + 1) d := by
  obtain ⟨a, m, rfl, h1, h2⟩ := h
  have p : (0 : Int) ≤ 10 ^ 30 := by decide +kernel
  exact .tup (by simp) (two_all (gd_i h1.1 h1.2) (gd_i (by omega) h2.2))
theorem nl_fr {d : D} (h : isFrD d) : NoL d := by
  obtain ⟨a, m, rfl, _⟩ := h
  exact .tup (two_all .int .int)
section
variable {X : Cx} {vs : List V} {H : Hp} {Q : VK} {E : XK}
theorem body_fraction (c : Ctx X nq_fraction lq_fraction 2) (za : X.mg "abs" = none) (dT : DefP X.prog X.w X.K X.mg X.base CX0 "_law_take" ["box", "many"] 1 spTake) (dG : DefP X.prog X.w X.K X.mg X.base CX0 "_law_gcd" ["one", "two"] 1 spGcd) (h : spDr isFrD X.K vs H Q E) :
    RB X (defBody sq_fraction) { nx := fun _ H' => Q .non H', rt := Q } (start nq_fraction vs) H := by
  obtain ⟨b, rfl, hB, q⟩ := h
  show RB X (defBody sq_fraction) _ [some (.ref b), none, none, none, none] H
  have c30 : ((10 ^ 30 : Nat) : Int) = (10 : Int) ^ 30 := by decide +kernel
  have c40 : (10 : Nat) ^ 30 ≤ 10 ^ 40 := by decide +kernel
  have c2 : (10 : Nat) ^ 30 < 2 ^ 110 := by decide +kernel
  -- behind the two numbers
  have go : ∀ (n d : Int) (kd : Option V) (H1 : Hp), Fr (· = b) H H1 → BoxAt H1 b → -(10 ^ 30) ≤ n → n ≤ 10 ^ 30 → 1 ≤ d → d ≤ 10 ^ 30 → RB X (List.drop 4 (defBody sq_fraction)) { nx := fun _ H' => Q .non H', rt := Q } [some (.ref b), kd, some (.int n), some (.int d), none] H1 := by
    intro n d kd H1 f1 b1 n0 n1 d0 d1
    walk_at "e0"
    refine re_call c dG (by decide) (by walk_at "gm") ?_
    walk_at "e"
    rw [show (if n < 0 then -n else n) = ((n.natAbs : Nat) : Int) by split <;> omega]
    have ed : d = ((d.natAbs : Nat) : Int) := by omega
    have ld : d.natAbs ≤ 10 ^ 30 := by
      have : ((d.natAbs : Nat) : Int) ≤ ((10 ^ 30 : Nat) : Int) := by rw [c30]; omega
      exact Int.ofNat_le.mp this
    refine ⟨n.natAbs, d.natAbs, by rw [← ed], by omega, ?_⟩
    refine ⟨_, by walk_at "gs", ?_⟩
    have gp : 0 < Nat.gcd n.natAbs d.natAbs := Nat.gcd_pos_of_pos_right _ (by omega)
    have gl : Nat.gcd n.natAbs d.natAbs ≤ d.natAbs := Nat.gcd_le_right _ (by omega)
    have fc0 : fc n d = ((Nat.gcd n.natAbs d.natAbs : Nat) : Int) := by
      unfold fc gi
      rw [if_neg (by omega)]
    obtain ⟨_, b3, b4⟩ := frac_ok (n := n) (d := d) (by omega)
    unfold fN at b3
    unfold fM at b4
    rw [fc0] at b3 b4
    have gw : (((Nat.gcd n.natAbs d.natAbs : Nat) : Int)).natAbs < 2 ^ 110 := by
      rw [Int.natAbs_natCast]
      omega
    walk_at "e0"
    refine ov_fdivX (b := 110) (by omega) gw (by decide) (by decide) ?_
    walk_at "e"
    refine ov_fdivX (b := 110) (by omega) gw (by decide) (by decide) ?_
    walk_at "e"
    refine ⟨by show 2 ≤ sizeLine; decide, fun p hp => ?_⟩
    have ln : n.natAbs ≤ 10 ^ 30 := by
      have : ((n.natAbs : Nat) : Int) ≤ ((10 ^ 30 : Nat) : Int) := by rw [c30]; omega
      exact Int.ofNat_le.mp this
    have b5 : ((((d.fdiv ((Nat.gcd n.natAbs d.natAbs : Nat) : Int)).natAbs : Nat)) : Int) ≤ ((10 ^ 30 : Nat) : Int) := by
      have := Int.ofNat_le.mpr (Nat.le_trans b4 ld)
      exact this
    have b6 : ((((n.fdiv ((Nat.gcd n.natAbs d.natAbs : Nat) : Int)).natAbs : Nat)) : Int) ≤ ((10 ^ 30 : Nat) : Int) := by
      have := Int.ofNat_le.mpr (Nat.le_trans b3 ln)
      exact this
    rw [c30] at b5 b6
    have b7 : 0 ≤ d.fdiv ((Nat.gcd n.natAbs d.natAbs : Nat) : Int) := by
      rw [Int.fdiv_eq_ediv_of_nonneg d (by omega)]
      exact Int.ediv_nonneg (by omega) (by omega)
    have hfr : isFrD (.tup [.int (n.fdiv ((Nat.gcd n.natAbs d.natAbs : Nat) : Int)), .int (d.fdiv ((Nat.gcd n.natAbs d.natAbs : Nat) : Int))]) := ⟨_, _, rfl, by omega, by omega⟩
    exact q _ _ _ hfr (nl_fr hfr) (Dt.newT hp (b1.ne hp) (.cons .int (.cons .int .nil))) (f1.trans (Fr.new hp)) (b1.put (b1.ne hp))
  have st : ST X.K (· = b) b [] H := ST.one hB
  refine rb_cons (rs_set c (by walk_at "gm") .loc (by walk_at "gm") ?_)
  refine ev_use (R := IR 0 3) st (by walk_at "evI") fun v0 d0 H0 f0 b0 r0 k0 => ?_
  obtain ⟨kk, rfl, kk0, kk1⟩ := r0
  cases k0
  have st := st.fr f0 b0
  refine ⟨_, by walk_at "gs", ?_⟩
  refine rb_cons ?_
  refine rs_par2 c (by walk_at "gm") (by walk_at "gm") (by walk_at "gm") (by walk_at "gm") (by decide) ?_
  refine ra_cons ?_
  refine ev_use (R := IR (-20) 20) st (by walk_at "evI") fun v1 d1 H1 f1 b1 r1 k1 => ?_
  obtain ⟨n, rfl, n0, n1⟩ := r1
  cases k1
  have st := st.fr f1 b1
  walk_at "e"
  refine ⟨_, _, _, _, rfl, by walk_at "gs", by walk_at "gs", ?_⟩
  have w1 : (20 : Int) ≤ 10 ^ 30 := by decide +kernel
  have w2 : (1 : Int) ≤ 10 ^ 30 := by decide +kernel
  have f01 := f0.trans f1
  -- behind the first choice
  have go2 : ∀ (n d : Int) (H1 : Hp), Fr (· = b) H H1 → BoxAt H1 b → -(10 ^ 30) ≤ n → n ≤ 10 ^ 30 → 1 ≤ d → d ≤ 10 ^ 30 → RB X (List.drop 3 (defBody sq_fraction)) { nx := fun _ H' => Q .non H', rt := Q } [some (.ref b), some (.int kk), some (.int n), some (.int d), none] H1 := by
    intro n d H1 f1 b1 n0 n1 d0 d1
    have st : ST X.K (· = b) b [] H1 := ST.one b1
    walk_at "e0"
    refine ite2 (fun e => ?_) (fun e => ?_)
    · refine rb_cons ?_
      refine rs_par2 c (by walk_at "gm") (by walk_at "gm") (by walk_at "gm") (by walk_at "gm") (by decide) ?_
      refine ra_cons ?_
      refine ev_use (R := IR (-(10 ^ 30)) (10 ^ 30)) st (Ev.mono (ev_subIC (by walk_at "evT") (by walk_at "de") (Int.le_refl _) (Int.le_refl _)) (ir_mono (by decide +kernel) (by decide +kernel))) fun v2 d2 H2 f2 b2 r2 k2 => ?_
      obtain ⟨n', rfl, n0', n1'⟩ := r2
      cases k2
      have st := st.fr f2 b2
      refine ra_cons ?_
      refine ev_use (R := IR 1 (10 ^ 30)) st (by walk_at "evI") fun v3 d3 H3 f3 b3 r3 k3 => ?_
      obtain ⟨m', rfl, m0', m1'⟩ := r3
      cases k3
      refine ra_nil ⟨_, _, _, _, rfl, by walk_at "gs", by walk_at "gs", ?_⟩
      walk_at "e"
      exact go n' m' _ _ ((f1.trans f2).trans f3) b3 n0' n1' m0' m1'
    · walk_at "e"
      exact go n d _ _ f1 b1 n0 n1 d0 d1
  walk_at "e0"
  refine ite2 (fun e => ?_) (fun e => ?_)
  · refine rb_cons ?_
    refine rs_par2 c (by walk_at "gm") (by walk_at "gm") (by walk_at "gm") (by walk_at "gm") (by decide) ?_
    refine ra_cons ?_
    refine ev_use (R := IR (-(10 ^ 30)) (10 ^ 30)) st (Ev.mono (ev_subIC (by walk_at "evT") (by walk_at "de") (Int.le_refl _) (Int.le_refl _)) (ir_mono (by decide +kernel) (by decide +kernel))) fun v2 d2 H2 f2 b2 r2 k2 => ?_
    obtain ⟨n', rfl, n0', n1'⟩ := r2
    cases k2
    have st := st.fr f2 b2
    refine ra_cons ?_
    refine ev_use (R := IR 1 (10 ^ 30)) st (by walk_at "evI") fun v3 d3 H3 f3 b3 r3 k3 => ?_
    obtain ⟨m', rfl, m0', m1'⟩ := r3
    cases k3
    refine ra_nil ⟨_, _, _, _, rfl, by walk_at "gs", by walk_at "gs", ?_⟩
    walk_at "e"
    exact go2 n' m' _ ((f01.trans f2).trans f3) b3 n0' n1' m0' m1'
  · walk_at "e"
    exact go2 n 1 _ f01 b1 (by omega) (by omega) (by omega) w2
theorem body_label (c : Ctx X nq_label lq_label 2) (zr : X.mg "range" = none) (dT : DefP X.prog X.w X.K X.mg X.base CX0 "_law_take" ["box", "many"] 1 spTake) (dP : DefP X.prog X.w X.K X.mg X.base CX0 "_law_pick" ["box", "some"] 2 (spPick X.K)) (h : spDr isLabD X.K vs H Q E) :
    RB X (defBody sq_label) { nx := fun _ H' => Q .non H', rt := Q } (start nq_label vs) H := by
  obtain ⟨b, rfl, hB, q⟩ := h
  show RB X (defBody sq_label) _ [some (.ref b), none, none] H
  have st : ST X.K (· = b) b [] H := ST.one hB
  refine rb_cons (rs_set c (by walk_at "gm") .cell (by walk_at "gm") ?_)
  walk_at "e"
  refine rb_cons (rs_ret ?_)
  refine re_join ?_
  walk_at "e"
  refine re_lc_range c lq_label_c0 (by decide +kernel) (by walk_at "gm") zr ?_
  refine ev_use (R := IR 1 8) st (by walk_at "evP"; walk_at "evs" <;> walk_at "evI") fun v1 d1 H1 f1 b1 r1 k1 => ?_
  obtain ⟨m, rfl, m0, m1⟩ := r1
  cases k1
  refine ⟨m, rfl, by omega, by omega, ?_⟩
  refine cturns_dr (R := isSgD) (b := b) (by omega) b1 (fun _ _ => trivial) (fun y => by walk_at "gs") ?_ ?_
  · rintro i y H2 hi rfl bx f2 s Hb C cl fp cb
    refine re_call cb dP (by decide) (by walk_at "gm") ?_
    walk_at "e"
    refine ⟨b, bx, .inr ⟨_, rfl, by decide +kernel, by decide +kernel, fun ch H3 hc f3 b3 => ?_⟩⟩
    have low : ∀ ch ∈ ("abcdefghijklmnopqrstuvwxyz" : Str).cps.toList, 97 ≤ ch ∧ ch ≤ 122 := by decide +kernel
    exact ⟨_, ⟨⟨ch, rfl, low ch hc⟩, .str⟩, .str, f3, b3⟩
  · intro Dn us ds H2 hD f2 b2 hDn hd hn hr
    obtain ⟨zs, rfl, rfl⟩ := dts_strsD hd fun d hdm => by
      obtain ⟨ch, e, _⟩ := (hr d hdm).1
      exact ⟨_, e⟩
    obtain ⟨cs, rfl, hcs⟩ := signs_of fun d hdm => (hr d hdm).1
    have lc : cs.length = m.toNat := by rw [← hn, List.length_map, List.length_map]
    refine ⟨Dn, _, rfl, .inl (SqL.of hDn), ?_, ?_⟩
    · have e1 : (List.map (fun x : Str => x.length) (List.map (fun c => (⟨#[c]⟩ : Str)) cs)).sum = cs.length := by
        rw [List.map_map]
        clear hn hr hd hDn hcs lc
        induction cs with
        | nil => rfl
        | cons c r ih =>
          rw [List.map_cons, List.sum_cons, ih, List.length_cons]
          show 1 + r.length = r.length + 1
          omega
      rw [e1, List.length_map]
      have e2 : ("" : Str).length = 0 := by decide +kernel
      show cs.length + cs.length * ("" : Str).length ≤ 16777216
      rw [e2]
      omega
    · rw [joined_signs]
      have hl : isLabD (.str ⟨cs.toArray⟩) := ⟨_, rfl, pLab_str.mpr ⟨by show 1 ≤ cs.toArray.size; simp; omega, by show cs.toArray.size ≤ 8; simp; omega, fun ch hch => hcs ch (by simpa using hch)⟩⟩
      exact q _ (.str ⟨cs.toArray⟩) H2 hl (nl_lab hl) .str (f1.trans f2) b2
theorem body_name (c : Ctx X nq_name lq_name 3) (zr : X.mg "range" = none) (zt : X.mg "tuple" = none) (dT : DefP X.prog X.w X.K X.mg X.base CX0 "_law_take" ["box", "many"] 1 spTake) (dP : DefP X.prog X.w X.K X.mg X.base CX0 "_law_pick" ["box", "some"] 2 (spPick X.K)) (dL : DefP X.prog X.w X.K X.mg X.base CX0 "_law_label" ["box"] 3 (spDr isLabD X.K)) (h : spDr isNamD X.K vs H Q E) :
    RB X (defBody sq_name) { nx := fun _ H' => Q .non H', rt := Q } (start nq_name vs) H := by
  obtain ⟨b, rfl, hB, q⟩ := h
  show RB X (defBody sq_name) _ [some (.ref b), none] H
  have st : ST X.K (· = b) b [] H := ST.one hB
  walk_at "e0"
  refine re_lc_range c lq_name_c0 (by decide +kernel) (by walk_at "gm") zr ?_
  refine ev_use (R := IR 1 6) st (by walk_at "evP"; walk_at "evs" <;> walk_at "evI") fun v1 d1 H1 f1 b1 r1 k1 => ?_
  obtain ⟨m, rfl, m0, m1⟩ := r1
  cases k1
  refine ⟨m, rfl, by omega, by omega, ?_⟩
  refine cturns_dr (R := isLabD) (b := b) (by omega) b1 (fun _ _ => trivial) (fun y => by walk_at "gs") ?_ ?_
  · rintro i y H2 hi rfl bx f2 s Hb C cl fp cb
    refine re_call cb dL (by decide) (by walk_at "gm") ?_
    walk_at "e"
    exact ⟨b, rfl, bx, fun v d H3 r nl hd f3 b3 => ⟨d, ⟨r, nl⟩, hd, f3, b3⟩⟩
  · intro Dn us ds H2 hD f2 b2 hDn hd hn hr
    walk_at "e"
    refine lv_tupL (SqL.of hDn) fun l hl => ?_
    have hnm : isNamD (.tup ds) := ⟨ds, rfl, by omega, by omega, fun e he => (hr e he).1⟩
    exact q _ (.tup ds) _ hnm (nl_nam hnm) (Dt.newT hl (b2.ne hl) (hd.mono fun a e => .inl e)) ((f1.trans f2).trans (Fr.new hl)) (b2.fr (Fr.new hl))
end
local macro_rules | `(tactic| walk_at "gm") => `(tactic| with_reducible (repeat (first | exact List.mem_cons_self | apply List.mem_cons_of_mem)))
local macro_rules | `(tactic| walk_at "gs") => `(tactic| with_reducible (repeat (first | exact Slot.here | exact Put.here | apply Slot.there | apply Put.there)))
local macro_rules | `(tactic| walk_at "gCall") => `(tactic| first
  | (show RE _ (.Call (.Name "len" _) _ _ _) _ _ _; refine re_c_len (by assumption) (by walk_at "gm") (by assumption) ?_)
  | (show RE _ (.Call (.Name "isinstance" _) _ _ _) _ _ _; refine re_c_isinstance (by assumption) (by walk_at "gm") (by assumption) ?_)
  | (show RE _ (.Call (.Name "int" _) _ _ _) _ _ _; refine re_c_int (by assumption) (by walk_at "gm") (by assumption) ?_)
  | (show RE _ (.Call (.Name "abs" _) _ _ _) _ _ _; refine re_c_abs (by assumption) (by walk_at "gm") (by assumption) ?_)
  | (show RE _ (.Call (.Name "min" _) _ _ _) _ _ _; refine re_c_min (by assumption) (by walk_at "gm") (by assumption) ?_)
  | (show RE _ (.Call (.Name "max" _) _ _ _) _ _ _; refine re_c_max (by assumption) (by walk_at "gm") (by assumption) ?_)
  | (show RE _ (.Call (.Name "tuple" _) _ _ _) _ _ _; refine re_c_tuple (by assumption) (by walk_at "gm") (by assumption) ?_)
  | (show RE _ (.Call (.Name "list" _) _ _ _) _ _ _; refine re_c_list (by assumption) (by walk_at "gm") (by assumption) ?_))
local macro_rules | `(tactic| walk_at "gName") => `(tactic| first
  | refine re_name (by assumption) (by walk_at "gs") (by walk_at "gm") (by constructor) ?_
  | (show RE _ (.Name "int" _) _ _ _; refine re_ty_int (by assumption) (by walk_at "gm") (by assumption) ?_)
  | (show RE _ (.Name "bool" _) _ _ _; refine re_ty_bool (by assumption) (by walk_at "gm") (by assumption) ?_)
  | (show RE _ (.Name "str" _) _ _ _; refine re_ty_str (by assumption) (by walk_at "gm") (by assumption) ?_)
  | (show RE _ (.Name "tuple" _) _ _ _; refine re_ty_tuple (by assumption) (by walk_at "gm") (by assumption) ?_)
  | (show RE _ (.Name "list" _) _ _ _; refine re_ty_list (by assumption) (by walk_at "gm") (by assumption) ?_)
  | (show RE _ (.Name "ValueError" _) _ _ _; refine re_ty_ValueError (by assumption) (by walk_at "gm") (by assumption) ?_))
local macro_rules | `(tactic| walk_at "gRE") => `(tactic| first
  | (show RE _ (.Name _ _) _ _ _; walk_at "gName")
  | (show RE _ (.Constant _ _ _) _ _ _; first | refine re_int ?_ | refine re_str ?_ | refine re_non ?_ | refine re_bl ?_)
  | (show RE _ (.BinOp _ _ _ _) _ _ _; refine re_bin ?_)
  | (show RE _ (.Compare _ [_] [_] _) _ _ _; refine re_cmp ?_)
  | (show RE _ (.Compare _ [_, _] [_, _] _) _ _ _; refine re_chain ?_)
  | (show RE _ (.Subscript _ (.Slice _ _ _ _) _) _ _ _; refine re_slice ?_)
  | (show RE _ (.Subscript _ _ _) _ _ _; refine re_ix ?_)
  | (show RE _ (.Call (.Name _ _) _ _ _) _ _ _; walk_at "gCall")
  | (show RE _ (.Tuple _ _ _) _ _ _; refine re_tup ?_)
  | (show RE _ (.List _ _) _ _ _; refine re_lst ?_)
  | (show RE _ (.IfExp _ _ _ _) _ _ _; refine re_if ?_)
  | (show RE _ (.BoolOp _ _ _) _ _ _; first | refine re_one ?_ | refine re_and ?_ | refine re_or ?_)
  | (show RE _ (.UnaryOp _ _ _) _ _ _; first | refine re_not ?_ | refine re_neg ?_))
local macro_rules | `(tactic| walk_at "gRT") => `(tactic| first
  | (show RT _ (.Compare _ [_] [_] _) _ _ _; refine rt_cmp ?_)
  | (show RT _ (.Compare _ [_, _] [_, _] _) _ _ _; refine rt_chain ?_)
  | (show RT _ (.BoolOp _ _ _) _ _ _; refine rt_bool ?_)
  | (show RT _ (.UnaryOp .Not _ _) _ _ _; refine rt_not ?_)
  | (show RT _ (.Call _ _ _ _) _ _ _; refine rt_val ?_)
  | (show RT _ (.Name _ _) _ _ _; refine rt_val ?_))
local macro_rules | `(tactic| walk_at "gRS") => `(tactic| first
  | (show RS _ (.Return (some _) _) _ _ _; refine rs_ret ?_)
  | (show RS _ (.If _ _ _ _) _ _ _; refine rs_if ?_)
  | (show RS _ (.Assign [.Subscript _ _ _] _ _) _ _ _; refine rs_sub ?_)
  | (show RS _ (.Assign [.Name _ _] (.ListComp _ _ _ _) _) _ _ _; fail)
  | (show RS _ (.Assign [.Name _ _] _ _) _ _ _; refine rs_set (by assumption) (by walk_at "gm") (by constructor) (by walk_at "gm") ?_)
  | (show RS _ (.Expr _ _) _ _ _; refine rs_expr ?_)
  | (show RS _ (.Pass _) _ _ _; refine rs_pass ?_)
  | (show RS _ (.Break _) _ _ _; refine rs_break ?_)
  | (show RS _ (.Continue _) _ _ _; refine rs_continue ?_))
local macro_rules | `(tactic| walk_at "gV") => `(tactic| first
  | (show OpV _ _ _ _ _ _; first | refine ov_add ?_ | refine ov_sub ?_ | refine ov_mulR (by decide) ?_ | refine ov_mulL (by decide) ?_ | refine ov_mod (by first | decide | assumption) ?_)
  | (show CpV _ _ _ _ _ _; first | refine cv_lt ?_ | refine cv_le ?_ | refine cv_gt ?_ | refine cv_ge ?_ | refine cv_eqI ?_ | refine cv_neI ?_ | refine cv_eqS ?_ | refine cv_neS ?_ | refine cv_isN_n ?_ | refine cv_isN_s ?_ | refine cv_isN_i ?_ | refine cv_isN_b ?_ | refine cv_isN_r ?_ | refine cv_notN_n ?_ | refine cv_notN_s ?_ | refine cv_notN_i ?_ | refine cv_notN_b ?_ | refine cv_notN_r ?_ | refine cv_ltS ?_ | refine cv_gtS ?_ | refine cv_leS ?_ | refine cv_geS ?_ | refine cv_isB_b ?_ | refine cv_isB_i ?_ | refine cv_isB_s ?_ | refine cv_isB_n ?_)
  | (show IxV _ _ _ _ _; first | refine iv_list (by assumption) (by with_unfolding_all exact rfl) ?_ | refine iv_list (SqL.of (by assumption)) (by with_unfolding_all exact rfl) ?_ | refine iv_tup (SqT.of (by assumption)) (by with_unfolding_all exact rfl) ?_)
  | (show ClV _ _ _ _ _; first | refine lv_isT_n (b := false) (by decide +kernel) ?_ | refine lv_isT_n (b := true) (by decide +kernel) ?_ | refine lv_isT_b (b := false) (by decide +kernel) ?_ | refine lv_isT_b (b := true) (by decide +kernel) ?_ | refine lv_isT_i (b := false) (by decide +kernel) ?_ | refine lv_isT_i (b := true) (by decide +kernel) ?_ | refine lv_isT_s (b := false) (by decide +kernel) ?_ | refine lv_isT_s (b := true) (by decide +kernel) ?_ | refine lv_isT_l (b := false) (by assumption) (by decide +kernel) ?_ | refine lv_isT_l (b := true) (by assumption) (by decide +kernel) ?_ | refine lv_isT_t (b := false) (by assumption) (by decide +kernel) ?_ | refine lv_isT_t (b := true) (by assumption) (by decide +kernel) ?_ | refine lv_int ?_ | refine lv_abs ?_ | refine lv_max (Ctx.calm (by assumption)) ?_ | refine lv_min (Ctx.calm (by assumption)) ?_))
local macro_rules | `(tactic| walk_at "e1") => `(tactic| with_reducible first
  | (show RE _ _ _ _ _; walk_at "gRE")
  | (show RA _ _ _ _ _; first | refine ra_cons ?_ | refine ra_nil ?_)
  | (show RT _ _ _ _ _; walk_at "gRT")
  | (show RW _ _ _ _ _; first | refine rw_and1 ?_ | refine rw_or1 ?_ | refine rw_and ?_ | refine rw_or ?_)
  | (show RS _ _ _ _ _; walk_at "gRS")
  | refine rb_nil ?_
  | (show RO _ _ _ _ _; first | refine ro_none ?_ | refine ro_some ?_)
  | (show if true = true then _ else _; refine iteT ?_)
  | (show if false = true then _ else _; refine iteF ?_)
  | (show if (!true) = true then _ else _; refine iteNT ?_)
  | (show if (!false) = true then _ else _; refine iteNF ?_)
  | walk_at "gV"
  | refine ⟨_, rfl, ?_⟩
  | refine ⟨_, by walk_at "gs", ?_⟩)
local macro_rules | `(tactic| walk_at "e") => `(tactic| repeat walk_at "e1")
local macro_rules | `(tactic| walk_at "g1") => `(tactic| first | walk_at "e1" | with_reducible refine rb_cons ?_)
local macro_rules | `(tactic| walk_at "g") => `(tactic| repeat walk_at "g1")
local macro_rules | `(tactic| walk_at "g0") => `(tactic| (refine rb_cons ?_; walk_at "g"))
local macro_rules | `(tactic| walk_at "e0") => `(tactic| (refine rb_cons ?_; walk_at "e"))
local macro_rules | `(tactic| walk_at "de") => `(tactic| repeat (first | exact DEs.nil | apply DEs.cons | exact DE.non | exact DE.bl | exact DE.int | exact DE.str | exact DE.neg | apply DE.tupS | apply DE.lstS | apply DE.sub | apply DE.add | apply DE.mul | apply DE.pow | exact ⟨by decide, by decide, by decide⟩ | (show List.length _ ≤ 1000; decide) | decide))
local macro_rules | `(tactic| walk_at "gd") => `(tactic| repeat (first | exact gdl_nil | refine gdl_cons ?_ ?_ | exact Gd.non | exact Gd.bl | exact Gd.int (by decide +kernel) | exact Gd.str (by decide +kernel) (by decide +kernel) | refine Gd.tup (by simp) ?_ | refine Gd.lst (by simp) ?_))
local macro_rules | `(tactic| walk_at "evI") => `(tactic| first
  | exact ev_de (by walk_at "de") ⟨_, rfl, by decide +kernel, by decide +kernel⟩
  | exact Ev.mono (ev_take (by assumption) (by assumption) (by decide) (by walk_at "gm") (by walk_at "gs") (by walk_at "gm") (by constructor) (by walk_at "de") (by decide +kernel) (by decide +kernel)) (ir_mono (by decide +kernel) (by decide +kernel))
  | exact Ev.mono (ev_addCI (by walk_at "de") (ev_take (by assumption) (by assumption) (by decide) (by walk_at "gm") (by walk_at "gs") (by walk_at "gm") (by constructor) (by walk_at "de") (by decide +kernel) (by decide +kernel)) (Int.le_refl _) (Int.le_refl _)) (ir_mono (by decide +kernel) (by decide +kernel))
  | exact Ev.mono (ev_subIC (ev_take (by assumption) (by assumption) (by decide) (by walk_at "gm") (by walk_at "gs") (by walk_at "gm") (by constructor) (by walk_at "de") (by decide +kernel) (by decide +kernel)) (by walk_at "de") (Int.le_refl _) (Int.le_refl _)) (ir_mono (by decide +kernel) (by decide +kernel)))
local macro_rules | `(tactic| walk_at "evP") => `(tactic| (refine ev_pick (by assumption) (by assumption) (by decide) (by walk_at "gm") (by walk_at "gs") (by walk_at "gm") (by constructor) (ev_items ?_)))
local macro_rules | `(tactic| walk_at "evs") => `(tactic| repeat' (first | exact evs_nil | refine evs_cons ?_ ?_))
local macro_rules | `(tactic| walk_at "ev1") => `(tactic| first
  | exact ev_de (by walk_at "de") (by walk_at "gd")
  | exact ev_name (by assumption) (by walk_at "gs") (by walk_at "gm") (by walk_at "gm") (by constructor) (gd_up (by assumption) _ (by decide))
  | refine Ev.tg (ev_tup (l := 200) ?_)
  | refine Ev.lg (ev_lst (l := 200) ?_)
  | exact evs_nil | refine evs_cons ?_ ?_)
local macro_rules | `(tactic| walk_at "ev") => `(tactic| repeat' walk_at "ev1")
local macro_rules | `(tactic| walk_at "ie") => `(tactic| repeat (first | walk_at "e1" | refine ov_pow (by exact ⟨by decide, by decide, by decide⟩) ?_ | refine ov_mulL (by decide) ?_))
local macro_rules | `(tactic| walk_at "evT") => `(tactic| exact ev_takeX (by assumption) (by assumption) (by decide) (by walk_at "gm") (by walk_at "gs") (by walk_at "gm") (by constructor) (fun H Q q => by walk_at "ie"; exact q) (by decide +kernel) (by decide +kernel))
local macro_rules | `(tactic| walk_at "nl") => `(tactic| repeat (first | exact nol_nil | refine nol_cons ?_ ?_ | exact NoL.non | exact NoL.bl | exact NoL.int | exact NoL.str | refine NoL.tup ?_))
local macro_rules | `(tactic| walk_at "evB") => `(tactic| first
  | exact ev_de (by walk_at "de") ⟨_, rfl, by decide +kernel, by decide +kernel⟩
  | exact Ev.mono (by walk_at "evT") (ir_mono (by decide +kernel) (by decide +kernel))
  | exact Ev.mono (ev_addCI (by walk_at "de") (by walk_at "evT") (Int.le_refl _) (Int.le_refl _)) (ir_mono (by decide +kernel) (by decide +kernel)))
local macro_rules | `(tactic| walk_at "evN") => `(tactic| first
  | (show Ev _ _ _ _ _ _ (.Call (.Name "_law_take" _) _ _ _); exact Ev.mono (by walk_at "evT") (gn_IR (by decide +kernel) (by decide +kernel)))
  | (show Ev _ _ _ _ _ _ (.Name _ _); exact ev_name (by assumption) (by walk_at "gs") (by walk_at "gm") (by walk_at "gm") (by constructor) (by first | assumption | exact gn_up (by assumption) (by decide)))
  | (show Ev _ _ _ _ _ _ (.Call (.Name "_law_id" _) _ _ _); exact Ev.mono (ev_drN (by assumption) (by assumption) (by decide) (by walk_at "gm") (by walk_at "gs") (by walk_at "gm") (by constructor) fun d hd => gd_id hd) fun d r => r.2)
  | (show Ev _ _ _ _ _ _ (.Call (.Name "_law_name" _) _ _ _); exact Ev.mono (ev_drN (by assumption) (by assumption) (by decide) (by walk_at "gm") (by walk_at "gs") (by walk_at "gm") (by constructor) fun d hd => gd_nam hd) fun d r => r.2)
  | (show Ev _ _ _ _ _ _ (.Call (.Name "_law_label" _) _ _ _); exact Ev.mono (ev_drN (by assumption) (by assumption) (by decide) (by walk_at "gm") (by walk_at "gs") (by walk_at "gm") (by constructor) fun d hd => gd_lab hd) fun d r => r.2)
  | (show Ev _ _ _ _ _ _ (.Call _ _ _ _); exact Ev.mono (ev_drN (by assumption) (by assumption) (by decide) (by walk_at "gm") (by walk_at "gs") (by walk_at "gm") (by constructor) fun d hd => hd) fun d r => gn_up r.2 (by decide))
  | exact ev_de (by walk_at "de") ⟨by walk_at "gd", by walk_at "nl"⟩)
local macro_rules | `(tactic| walk_at "en1") => `(tactic| first
  | exact evs_nil
  | refine evs_cons ?_ ?_
  | (show Ev _ _ _ _ _ _ (.Call (.Name "_law_pick" _) _ _ _); refine ev_pick (by assumption) (by assumption) (by decide) (by walk_at "gm") (by walk_at "gs") (by walk_at "gm") (by constructor) (ev_items ?_))
  | (show Ev _ _ _ _ _ _ (.Call _ _ _ _); walk_at "evN")
  | (show Ev _ _ _ _ _ _ (.Name _ _); walk_at "evN")
  | (show Ev _ _ _ _ _ _ (.Constant _ _ _); exact ev_de (by walk_at "de") ⟨by walk_at "gd", by walk_at "nl"⟩)
  | (show Ev _ _ _ _ _ _ (.UnaryOp _ _ _); exact ev_de (by walk_at "de") ⟨by walk_at "gd", by walk_at "nl"⟩)
  | (show Ev _ _ _ _ _ _ (.BinOp _ .Pow _ _); exact ev_de (by walk_at "de") ⟨by walk_at "gd", by walk_at "nl"⟩)
  | (show Ev _ _ _ _ _ _ (.BinOp (.BinOp _ .Pow _ _) .Sub _ _); exact ev_de (by walk_at "de") ⟨by walk_at "gd", by walk_at "nl"⟩)
  | refine Ev.tn (ev_tupN ?_))
local macro_rules | `(tactic| walk_at "en") => `(tactic| repeat' walk_at "en1")
local macro_rules | `(tactic| walk_at "em1") => `(tactic| first
  | exact evs_nil
  | refine evs_cons ?_ ?_
  | (show Ev _ _ _ _ _ _ (.Name _ _); exact ev_name (by assumption) (by walk_at "gs") (by walk_at "gm") (by walk_at "gm") (by constructor) (by first | assumption | exact gd_up (by assumption) _ (by decide) | exact tg_up (by assumption) (by decide) (by decide) | exact lg_up (by assumption) (by decide) (by decide)))
  | (show Ev _ _ _ _ _ _ (.BinOp (.Name _ _) .Add (.Constant _ _ _) _); exact ev_ws (by assumption) (by walk_at "gs") (by walk_at "gm") (by constructor) (by assumption))
  | (show Ev _ _ _ _ _ (TG _ _) (.Subscript _ (.Slice _ _ _ _) _); refine ev_cut ?_ (fun H Q q => by walk_at "e"; exact q _) (fun H Q q => by walk_at "e"; exact q _))
  | (show Ev _ _ _ _ _ _ (.Subscript _ (.Slice _ _ _ _) _); refine Ev.tg (ev_cut (l := 60) ?_ (fun H Q q => by walk_at "e"; exact q _) (fun H Q q => by walk_at "e"; exact q _)))
  | (show Ev _ _ _ _ _ _ (.Call (.Name "list" _) _ _ _); refine Ev.lg (ev_list (l := 60) (by assumption) (by walk_at "gm") (by assumption) ?_))
  | (show Ev _ _ _ _ _ _ (.Subscript _ _ _); exact ev_ix0 (by assumption) (by walk_at "gs") (by walk_at "gm") (by walk_at "gm") (by constructor) (by assumption))
  | (show Ev _ _ _ _ _ _ (.Call (.Name "_law_id" _) _ _ _); exact Ev.mono (ev_drN (by assumption) (by assumption) (by decide) (by walk_at "gm") (by walk_at "gs") (by walk_at "gm") (by constructor) fun d hd => gd_id hd) fun d r => r.2.1)
  | (show Ev _ _ _ _ _ _ (.Call (.Name "_law_fraction" _) _ _ _); exact Ev.mono (ev_drN (by assumption) (by assumption) (by decide) (by walk_at "gm") (by walk_at "gs") (by walk_at "gm") (by constructor) fun d hd => gd_fr hd) fun d r => r.2.1)
  | (show Ev _ _ _ _ _ _ (.Call (.Name "_law_entry" _) _ _ _); exact Ev.mono (ev_drN (by assumption) (by assumption) (by decide) (by walk_at "gm") (by walk_at "gs") (by walk_at "gm") (by constructor) fun d hd => hd) fun d r => gd_up r.2.1 _ (by decide))
  | (show Ev _ _ _ _ _ _ (.Call (.Name "str" _) _ _ _); exact ev_str (by assumption) (by assumption) (by walk_at "gm") (by walk_at "gs") (by walk_at "gm") (by constructor) (by assumption))
  | (show Ev _ _ _ _ _ _ (.Call (.Name "_law_many_rows" _) _ _ _); exact Ev.mono (ev_nr (by assumption) (by assumption) (by decide) (by walk_at "gm") (by decide) (by decide)) fun d r => gd_up (gd_TG r.1 (by decide)) _ (by decide))
  | (show Ev _ _ _ _ _ _ (.Call (.Name "_law_many_rows" _) _ _ _); exact Ev.mono (ev_nr (by assumption) (by assumption) (by decide) (by walk_at "gm") (by decide) (by decide)) fun d r => tg_up r.1 (by decide) (by decide))
  | refine ev_lst ?_
  | refine ev_tup ?_
  | (show Ev _ _ _ _ _ _ (.Constant _ _ _); exact ev_de (by walk_at "de") (by walk_at "gd"))
  | (show Ev _ _ _ _ _ _ (.UnaryOp _ _ _); exact ev_de (by walk_at "de") (by walk_at "gd"))
  | (show Ev _ _ _ _ _ _ (.BinOp _ .Pow _ _); exact ev_de (by walk_at "de") (by walk_at "gd"))
  | (show Ev _ _ _ _ _ _ (.BinOp (.BinOp _ .Pow _ _) .Sub _ _); exact ev_de (by walk_at "de") (by walk_at "gd"))
  | refine Ev.tg (ev_tup (l := 60) ?_)
  | refine Ev.lg (ev_lst (l := 60) ?_)
  | refine ev_cat (l1 := 30) (l2 := 30) ?_ ?_
  | refine ev_cat (l1 := 10) (l2 := 10) ?_ ?_
  | refine ev_catL (l1 := 30) (l2 := 30) ?_ ?_
  | refine Ev.tg (ev_cat (l := 60) (l1 := 30) (l2 := 30) ?_ ?_)
  | refine Ev.tg (ev_rep (l := 60) (ev_one ?_) (by walk_at "de") (by decide) (by decide)))
local macro_rules | `(tactic| walk_at "em") => `(tactic| repeat' walk_at "em1")
local macro_rules | `(tactic| walk_at "ee1") => `(tactic| first
  | exact eve_nil
  | apply eve_cons
  | (show Ev _ _ _ _ _ _ (.Name _ _); exact eve_name (by assumption) (by walk_at "gs") (by walk_at "gm") (by walk_at "gm") (by constructor))
  | (show Ev _ _ _ _ _ _ (.Constant _ _ _); exact eve_de (by walk_at "de"))
  | (show Ev _ _ _ _ _ _ (.UnaryOp _ _ _); exact eve_de (by walk_at "de"))
  | (show Ev _ _ _ _ _ _ (.Call (.Name "str" _) _ _ _); exact eve_str (by assumption) (by assumption) (by walk_at "gm") (by walk_at "gs") (by walk_at "gm") (by constructor) (by omega))
  | (show Ev _ _ _ _ _ _ (.BinOp (.Name _ _) _ (.Constant _ _ _) _); exact eve_int (fun H Q q => by walk_at "e"; exact q))
  | apply eve_tup
  | apply eve_lst
  | (with_unfolding_all rfl)
  | decide)
local macro_rules | `(tactic| walk_at "ee") => `(tactic| repeat' walk_at "ee1")
section
variable {X : Cx} {vs : List V} {H : Hp} {Q : VK} {E : XK}
theorem body_plain (c : Ctx X nq_plain lq_plain 4) (dT : DefP X.prog X.w X.K X.mg X.base CX0 "_law_take" ["box", "many"] 1 spTake) (dP : DefP X.prog X.w X.K X.mg X.base CX0 "_law_pick" ["box", "some"] 2 (spPick X.K)) (dN : DefP X.prog X.w X.K X.mg X.base CX0 "_law_name" ["box"] 4 (spDr isNamD X.K)) (h : spDr (Gd 3) X.K vs H Q E) :
    RB X (defBody sq_plain) { nx := fun _ H' => Q .non H', rt := Q } (start nq_plain vs) H := by
  obtain ⟨b, rfl, hB, q⟩ := h
  show RB X (defBody sq_plain) _ [some (.ref b)] H
  have st : ST X.K (· = b) b [] H := ST.one hB
  refine rb_cons (rs_if (rt_cmp ?_))
  refine ev_use (R := IR 0 1) st (by walk_at "evI") fun v0 d0 H0 f0 b0 r0 k0 => ?_
  obtain ⟨i, rfl, i0, i1⟩ := r0
  cases k0
  have st := st.fr f0 b0
  walk_at "e"
  refine ite2 (fun e => ?_) (fun e => ?_)
  · refine rb_cons (rs_ret ?_)
    refine ev_use (R := GN 3) st (Ev.tn (ev_tupN (evs_cons (by walk_at "evN") (evs_cons (by walk_at "evN") evs_nil)))) fun v d H1 f1 b1 r k => ?_
    exact q v d H1 r.1 r.2 k (f0.trans f1) b1
  · walk_at "e"
    refine rb_cons (rs_ret ?_)
    refine ev_use (R := GN 3) st (Ev.tn (ev_tupN (evs_cons (by walk_at "evN") (evs_cons (by walk_at "evP"; walk_at "evs" <;> walk_at "evN") evs_nil)))) fun v d H1 f1 b1 r k => ?_
    exact q v d H1 r.1 r.2 k (f0.trans f1) b1
end
section
variable {X : Cx} {vs : List V} {H : Hp} {Q : VK} {E : XK}
theorem body_entry (c : Ctx X nq_entry lq_entry 6) (dT : DefP X.prog X.w X.K X.mg X.base CX0 "_law_take" ["box", "many"] 1 spTake) (dP : DefP X.prog X.w X.K X.mg X.base CX0 "_law_plain" ["box"] 5 (spDr (Gd 3) X.K)) (dR : DefP X.prog X.w X.K X.mg X.base CX0 "_law_rows" ["box"] 6 (spDr (Gd 5) X.K)) (h : spDr (Gd 6) X.K vs H Q E) :
    RB X (defBody sq_entry) { nx := fun _ H' => Q .non H', rt := Q } (start nq_entry vs) H := by
  obtain ⟨b, rfl, hB, q⟩ := h
  show RB X (defBody sq_entry) _ [some (.ref b), none] H
  have st : ST X.K (· = b) b [] H := ST.one hB
  refine rb_cons (rs_set c (by walk_at "gm") .loc (by walk_at "gm") ?_)
  refine ev_use (R := IR 0 3) st (by walk_at "evI") fun v0 d0 H0 f0 b0 r0 k0 => ?_
  obtain ⟨i, rfl, i0, i1⟩ := r0
  cases k0
  have st := st.fr f0 b0
  refine ⟨_, by walk_at "gs", ?_⟩
  walk_at "e0"
  refine ite2 (fun e => ?_) (fun e => ?_)
  · walk_at "e0"
    exact q _ _ _ .non .non .non f0 b0
  · walk_at "e"
    refine rb_cons (rs_ret (re_if ?_))
    walk_at "e"
    refine ite2 (fun e => ?_) (fun e => ?_)
    · refine ev_use (R := GN 6) st (by walk_at "evN") fun v d H1 f1 b1 r k => ?_
      exact q v d H1 r.1 r.2 k (f0.trans f1) b1
    · refine ev_use (R := GN 6) st (by walk_at "en") fun v d H1 f1 b1 r k => ?_
      exact q v d H1 r.1 r.2 k (f0.trans f1) b1
theorem body_answer (c : Ctx X nq_answer lq_answer 4) (zr : X.mg "range" = none) (zt : X.mg "tuple" = none) (dT : DefP X.prog X.w X.K X.mg X.base CX0 "_law_take" ["box", "many"] 1 spTake) (dP : DefP X.prog X.w X.K X.mg X.base CX0 "_law_pick" ["box", "some"] 2 (spPick X.K)) (dI : DefP X.prog X.w X.K X.mg X.base CX0 "_law_id" ["box"] 3 (spDr isIdD X.K)) (dN : DefP X.prog X.w X.K X.mg X.base CX0 "_law_name" ["box"] 4 (spDr isNamD X.K)) (h : spDr (Gd 4) X.K vs H Q E) :
    RB X (defBody sq_answer) { nx := fun _ H' => Q .non H', rt := Q } (start nq_answer vs) H := by
  obtain ⟨b, rfl, hB, q⟩ := h
  show RB X (defBody sq_answer) _ [some (.ref b), none, none] H
  have st : ST X.K (· = b) b [] H := ST.one hB
  refine rb_cons (rs_set c (by walk_at "gm") .loc (by walk_at "gm") ?_)
  refine ev_use (R := GN 3) st (by walk_at "en") fun v0 d0 H0 f0 b0 r0 k0 => ?_
  have st := st.fr f0 b0
  refine ⟨_, by walk_at "gs", ?_⟩
  refine rb_cons (rs_ret (re_tup (ra_cons (re_name c (by walk_at "gs") (by walk_at "gm") .loc (ra_cons ?_)))))
  walk_at "e"
  refine re_lc_range c lq_answer_c0 (by decide +kernel) (by walk_at "gm") zr ?_
  refine ev_use (R := IR 0 9) st (by walk_at "evP"; walk_at "evs" <;> walk_at "evI") fun v1 d1 H1 f1 b1 r1 k1 => ?_
  obtain ⟨m, rfl, m0, m1⟩ := r1
  cases k1
  refine ⟨m, rfl, by omega, by omega, ?_⟩
  refine cturns_dr (R := isNamD) (b := b) (by omega) b1 (fun _ _ => trivial) (fun y => by walk_at "gs") ?_ ?_
  · rintro i y H2 hi rfl bx f2 s Hb C cl fp cb
    refine re_call cb dN (by decide) (by walk_at "gm") ?_
    walk_at "e"
    exact ⟨b, rfl, bx, fun v d H3 r nl hd f3 b3 => ⟨d, ⟨r, nl⟩, hd, f3, b3⟩⟩
  · intro Dn us ds H2 hD f2 b2 hDn hd hn hr
    walk_at "e"
    refine lv_tupL (SqL.of hDn) fun l hl => ?_
    refine ra_nil ⟨by show 2 ≤ sizeLine; decide, fun p hp => ?_⟩
    have g1 : Gd 2 (.tup ds) := .tup (by omega) fun e he => gd_nam (hr e he).1
    have n1 : NoL (.tup ds) := .tup fun e he => (hr e he).2
    have st2 := (st.fr (f1.trans f2) b2).new (o := .tup us) hl
    have k2 := (k0.fr (f1.trans f2)).fr (Fr.new (B := (· = b)) (o := .tup us) hl)
    have kt : Dt X.K (· = b) (upd H2 l (.tup us)) (.ref l) (.tup ds) := Dt.newT hl (b2.ne hl) (hd.mono fun a e => .inl e)
    exact q _ (.tup [d0, .tup ds]) _ (.tup (by simp) (two_all r0.1 (gd_up g1 3 (by decide)))) (.tup (two_all r0.2 n1)) (Dt.newT hp (st2.box.ne hp) (.cons k2 (.cons kt .nil))) (((f0.trans (f1.trans f2)).trans (Fr.new hl)).trans (Fr.new hp)) (st2.box.put (st2.box.ne hp))
end
section
variable {X : Cx} {vs : List V} {H : Hp} {Q : VK} {E : XK}
/-- what a def draws for a word -/
def spDrW (R : D → Prop) (K : PySem.W.Frag) : Sp := fun vs H Q _ => ∃ (b : Addr) (w : Str), vs = [.ref b, .str w] ∧ BoxAt H b ∧ ∀ v d H', R d → NoL d → Dt K (· = b) H' v d → Fr (· = b) H H' → BoxAt H' b → Q v H'
theorem body_part (c : Ctx X nq_part lq_part 7) (dT : DefP X.prog X.w X.K X.mg X.base CX0 "_law_take" ["box", "many"] 1 spTake) (dP : DefP X.prog X.w X.K X.mg X.base CX0 "_law_pick" ["box", "some"] 2 (spPick X.K)) (dI : DefP X.prog X.w X.K X.mg X.base CX0 "_law_id" ["box"] 3 (spDr isIdD X.K))
    (dL : DefP X.prog X.w X.K X.mg X.base CX0 "_law_label" ["box"] 3 (spDr isLabD X.K)) (dE : DefP X.prog X.w X.K X.mg X.base CX0 "_law_entry" ["box"] 7 (spDr (Gd 6) X.K)) (dF : DefP X.prog X.w X.K X.mg X.base CX0 "_law_fraction" ["box"] 3 (spDr isFrD X.K))
    (dN : DefP X.prog X.w X.K X.mg X.base CX0 "_law_name" ["box"] 4 (spDr isNamD X.K)) (dA : DefP X.prog X.w X.K X.mg X.base CX0 "_law_answer" ["box"] 5 (spDr (Gd 4) X.K)) (h : spDrW (Gd 7) X.K vs H Q E) :
    RB X (defBody sq_part) { nx := fun _ H' => Q .non H', rt := Q } (start nq_part vs) H := by
  obtain ⟨b, w, rfl, hB, q⟩ := h
  show RB X (defBody sq_part) _ [some (.ref b), some (.str w), none] H
  walk_at "e0"
  refine ⟨by show 3 ≤ sizeLine; decide, fun p hp => ?_⟩
  have f1 : Fr (· = b) H (upd H p (.tup [.str "kept", .str "id", .str "term"])) := Fr.new hp
  have hB1 := hB.put (o := .tup [.str "kept", .str "id", .str "term"]) (hB.ne hp)
  refine cv_inV (xs := (["kept", "id", "term"] : List Str).map V.str) (.inr (SqT.of upd_same)) rfl (flatS _) ?_
  generalize upd H p (.tup [.str "kept", .str "id", .str "term"]) = H1 at f1 hB1
  have q : ∀ v d H', Gd 7 d → NoL d → Dt X.K (· = b) H' v d → Fr (· = b) H1 H' → BoxAt H' b → Q v H' := fun v d H' g n k f bb => q v d H' g n k (f1.trans f) bb
  clear f1 hp hB
  have st : ST X.K (· = b) b [] H1 := ST.one hB1
  have fin : ∀ {e : Expr} {σ : L2.St}, Ev X (· = b) b [] σ (GN 7) e → RE X e σ H1 Q := fun {e σ} he => ev_use st he fun v d H2 f bb r k => q v d H2 r.1 r.2 k f bb
  walk_at "e"
  refine ite2 (fun e2 => ?_) (fun e2 => ?_)
  · refine rb_cons (rs_set c (by walk_at "gm") .loc (by walk_at "gm") ?_)
    have sp : ∀ {d : D}, LR (GN 6) 1 d → LR (GN 6) 1 d := fun h => h
    refine ev_use (R := LR (GN 6) 1) st (ev_if (ev_lr (by walk_at "en")) (ev_if (ev_lr (by walk_at "en")) (ev_lr evs_nil) ?_) ?_) fun v0 d0 H0 f0 b0 r0 k0 => ?_
    · intro H Q st q
      walk_at "e"
      exact q _
    · intro H Q st q
      walk_at "e"
      exact q _
    refine ⟨_, by walk_at "gs", ?_⟩
    have st := (st.fr f0 b0).add k0
    refine rb_cons (rs_ret ?_)
    refine ev_use (R := GN 6) st (by refine ev_pick (by assumption) (by assumption) (by decide) (by walk_at "gm") (by walk_at "gs") (by walk_at "gm") (by constructor) (ev_catP (ev_name c (by walk_at "gs") List.mem_cons_self (by walk_at "gm") .loc r0) ?_); walk_at "en") fun v d H2 f2 b2 r2 k2 => ?_
    exact q v d H2 (gd_up r2.1 7 (by decide)) r2.2 k2 (f0.trans f2) b2
  walk_at "e"
  walk_at "e0"
  refine ite2 (fun e3 => ?_) (fun e3 => ?_)
  · refine rb_cons (rs_ret (fin (by walk_at "evN")))
  walk_at "e"
  walk_at "e0"
  refine ite2 (fun e3 => ?_) (fun e3 => ?_)
  · refine rb_cons (rs_ret (fin (by walk_at "evN")))
  walk_at "e"
  walk_at "e0"
  refine ite2 (fun e3 => ?_) (fun e3 => ?_)
  · refine rb_cons (rs_ret (fin (by walk_at "evN")))
  walk_at "e"
  walk_at "e0"
  refine ite2 (fun e3 => ?_) (fun e3 => ?_)
  · refine rb_cons (rs_ret (fin (Ev.mono (ev_drN (n := 7) c dF (by decide) (by walk_at "gm") (by walk_at "gs") (by walk_at "gm") .loc fun d hd => gd_fr hd) fun d r => r.2)))
  walk_at "e"
  walk_at "e0"
  refine ite2 (fun e3 => ?_) (fun e3 => ?_)
  · refine rb_cons (rs_ret (fin (by walk_at "evN")))
  walk_at "e"
  walk_at "e0"
  refine ite2 (fun e3 => ?_) (fun e3 => ?_)
  · exact fin (by walk_at "evN")
  · exact fin (by walk_at "evN")
end
theorem strs_ne_box {H : Hp} {a b : Addr} {ws : List Str} (h : H a = some (.lst (ws.map V.str))) (hb : BoxAt H b) : a ≠ b := by
  rintro rfl
  obtain ⟨i, j, e, _⟩ := hb
  rw [e] at h
  injection h with h
  injection h with h
  cases ws with
  | nil => cases h
  | cons w r =>
    injection h with h
    cases h
def isDdD (w : Str) (d : D) : Prop := ∃ ds, d = .tup (.str w :: ds) ∧ ds.length ≤ 4 ∧ ∀ e ∈ ds, GN 7 e
theorem tab_len : ∀ p ∈ lawTab, p.2.length ≤ 4 ∧ p.1.length ≤ 8 ∧ PyData.strOk p.1 = true := by decide +kernel
theorem tg_dd {w : Str} {d : D} (hw : w ∈ lawTab.map (·.1)) (h : isDdD w d) : TG 7 5 d ∧ NoL d := by
  obtain ⟨ds, rfl, h1, h2⟩ := h
  obtain ⟨p, hp, rfl⟩ := List.mem_map.mp hw
  obtain ⟨_, h3, h4⟩ := tab_len p hp
  refine ⟨⟨_, rfl, by rw [List.length_cons]; omega, fun e he => ?_⟩, .tup fun e he => ?_⟩
  · rcases List.mem_cons.mp he with rfl | he
    · exact .str (by omega) h4
    · exact (h2 e he).1
  · rcases List.mem_cons.mp he with rfl | he
    · exact .str
    · exact (h2 e he).2
def spDeed (K : PySem.W.Frag) : Sp := fun vs H Q _ => ∃ (b : Addr) (w : Str), vs = [.ref b, .str w] ∧ w ∈ lawTab.map (·.1) ∧ BoxAt H b ∧ ∀ v d H', isDdD w d → Dt K (· = b) H' v d → Fr (· = b) H H' → BoxAt H' b → Q v H'
section
variable {X : Cx} {vs : List V} {H : Hp} {Q : VK} {E : XK}
theorem body_deed (c : Ctx X nq_deed lq_deed 8) (zt : X.mg "tuple" = none) (dW : DefP X.prog X.w X.K X.mg X.base CX0 "_law_words" [] 1 spWords) (dP : DefP X.prog X.w X.K X.mg X.base CX0 "_law_part" ["box", "word"] 8 (spDrW (Gd 7) X.K)) (h : spDeed X.K vs H Q E) :
    RB X (defBody sq_deed) { nx := fun _ H' => Q .non H', rt := Q } (start nq_deed vs) H := by
  obtain ⟨b, w, rfl, hw, hB, q⟩ := h
  show RB X (defBody sq_deed) _ [some (.ref b), some (.str w), none] H
  walk_at "e0"
  refine ⟨by show 1 ≤ sizeLine; decide, fun p hp => ?_⟩
  have np := hB.ne hp
  have fp : Fr (· = b) H (upd H p (.lst [.str w])) := Fr.new hp
  have hB1 := hB.put (o := .lst [.str w]) np
  have tp : upd H p (.lst [.str w]) p = some (.lst [.str w]) := upd_same
  generalize upd H p (.lst [.str w]) = H1 at fp hB1 tp
  refine re_lc_list c lq_deed_c0 (by decide +kernel) ?_
  refine re_dget c ?_
  refine re_call0 c dW (by decide) (by walk_at "gm") ⟨rfl, fun wp as H0 hwp0 f0 hwp hwd => ?_⟩
  walk_at "e"
  obtain ⟨⟨w', ws⟩, hm, rfl⟩ := List.mem_map.mp hw
  obtain ⟨wa, hva, hwa⟩ := wd_get hwd hm
  refine ⟨wp, _, rfl, dget_k hwp hva, ?_⟩
  refine ⟨wa, ws.map V.str, rfl, SqL.of hwa, ?_⟩
  have hB0 := hB1.fr f0
  have tp := f0 _ _ (fun z => z) tp
  have nwa := strs_ne_box hwa hB0
  have lw : ws.length ≤ 4 := (tab_len _ hm).1
  refine cturns_dr (R := Gd 7) (b := b) (by rw [List.length_map]; omega) hB0 (fun H' f => SqL.of (f _ _ nwa hwa)) (fun y => by walk_at "gs") ?_ ?_
  · rintro i y H2 hi hy bx f2 s Hb C cl fp cb
    obtain ⟨part, hpart, rfl⟩ : ∃ part, ws[i]? = some part ∧ y = .str part := by
      rw [List.getElem?_map] at hy
      cases hx : ws[i]? with
      | none => rw [hx] at hy; cases hy
      | some part =>
        rw [hx] at hy
        exact ⟨part, rfl, (Option.some.inj hy).symm⟩
    refine re_call cb dP (by decide) (by walk_at "gm") ?_
    walk_at "e"
    exact ⟨b, part, rfl, bx, fun v d H3 r nl hd f3 b3 => ⟨d, ⟨r, nl⟩, hd, f3, b3⟩⟩
  · intro Dn us ds H2 hD f2 b2 hDn hd hn hr
    walk_at "e"
    have tp2 := f2 _ _ np tp
    refine ov_cat tp2 hDn (by rw [hd.1, hn, List.length_map]; exact Nat.le_trans (show 1 + ws.length ≤ 1000 by omega) (by decide)) fun r hr2 => ?_
    walk_at "e"
    have b3 := b2.put (o := .lst ([V.str w'] ++ us)) (b2.ne hr2)
    refine lv_tupL (SqL.of upd_same) fun l hl => ?_
    have f : Fr (· = b) H _ := (((fp.trans f0.any).trans f2).trans (Fr.new (o := .lst ([V.str w'] ++ us)) hr2)).trans (Fr.new (o := .tup ([V.str w'] ++ us)) hl)
    have hds : Dts X.K (· = b) (upd H2 r (.lst ([V.str w'] ++ us))) ([V.str w'] ++ us) (.str w' :: ds) := .cons .str ((hd.fr (Fr.new hr2)).mono fun a e => .inl e)
    exact q _ _ _ ⟨ds, rfl, by rw [hn, List.length_map]; exact lw, fun e he => hr e he⟩ (Dt.newT hl (b3.ne hl) hds) f (b3.put (b3.ne hl))
end
section
variable {X : Cx} {vs : List V} {H : Hp} {Q : VK} {E : XK}
theorem body_rows (c : Ctx X nq_rows lq_rows 5) (zr : X.mg "range" = none) (zt : X.mg "tuple" = none) (zs : X.mg "set" = none) (zo : X.mg "sorted" = none) (dT : DefP X.prog X.w X.K X.mg X.base CX0 "_law_take" ["box", "many"] 1 spTake)
    (dL : DefP X.prog X.w X.K X.mg X.base CX0 "_law_label" ["box"] 3 (spDr isLabD X.K)) (dP : DefP X.prog X.w X.K X.mg X.base CX0 "_law_plain" ["box"] 5 (spDr (Gd 3) X.K)) (h : spDr (Gd 5) X.K vs H Q E) :
    RB X (defBody sq_rows) { nx := fun _ H' => Q .non H', rt := Q } (start nq_rows vs) H := by
  obtain ⟨b, rfl, hB, q⟩ := h
  show RB X (defBody sq_rows) _ [some (.ref b), none, none, none] H
  have st : ST X.K (· = b) b [] H := ST.one hB
  refine rb_cons (rs_set c (by walk_at "gm") .loc (by walk_at "gm") ?_)
  refine re_c_sorted c (by walk_at "gm") zo (ra_cons ?_)
  refine re_c_set c (by walk_at "gm") zs (ra_cons ?_)
  refine re_lc_range c lq_rows_c0 (by decide +kernel) (by walk_at "gm") zr ?_
  refine ev_use (R := IR 0 6) st (by walk_at "evI") fun v1 d1 H1 f1 b1 r1 k1 => ?_
  obtain ⟨m, rfl, m0, m1⟩ := r1
  cases k1
  refine ⟨m, rfl, by omega, by omega, ?_⟩
  refine cturns_dr (R := isLabD) (b := b) (by omega) b1 (fun _ _ => trivial) (fun y => by walk_at "gs") ?_ ?_
  · rintro i y H2 hi rfl bx f2 s Hb C cl fp cb
    refine re_call cb dL (by decide) (by walk_at "gm") ?_
    walk_at "e"
    exact ⟨b, rfl, bx, fun v d H3 r nl hd f3 b3 => ⟨d, ⟨r, nl⟩, hd, f3, b3⟩⟩
  · intro Dn us ds H2 hD f2 b2 hDn hd hn hr
    obtain ⟨zs, rfl, rfl⟩ := dts_strsD hd fun d hdm => by
      obtain ⟨z, e, _⟩ := (hr d hdm).1
      exact ⟨_, e⟩
    have lz : zs.length ≤ 6 := by
      rw [List.length_map] at hn
      omega
    walk_at "e"
    refine lv_setX (R := fun z => pLab (.str z) = true) c (SqL.of hDn) (by omega) (fun z hz => ?_) fun a ha => ?_
    · obtain ⟨z', e, h⟩ := (hr (.str z) (List.mem_map_of_mem hz)).1
      cases e
      exact h
    have b3 := b2.put (o := SetXO X.prog X.w a (fun z => pLab (.str z) = true) zs.length) (b2.ne ha)
    have f3 := (f1.trans f2).trans (Fr.new (B := (· = b)) (o := SetXO X.prog X.w a (fun z => pLab (.str z) = true) zs.length) ha)
    refine ra_nil (lv_sortedX c upd_same (by omega) fun ys p ly hy hp => ?_)
    have b4 := b3.put (o := .lst (ys.map V.str)) (b3.ne hp)
    have f4 := f3.trans (Fr.new (B := (· = b)) (o := .lst (ys.map V.str)) hp)
    have np := b3.ne hp
    have tp : upd (upd H2 a (SetXO X.prog X.w a (fun z => pLab (.str z) = true) zs.length)) p (.lst (ys.map V.str)) p = some (.lst (ys.map V.str)) := upd_same
    generalize upd (upd H2 a (SetXO X.prog X.w a (fun z => pLab (.str z) = true) zs.length)) p (.lst (ys.map V.str)) = H3 at b4 f4 tp
    refine ⟨_, by walk_at "gs", ?_⟩
    walk_at "e0"
    refine re_lc_list c lq_rows_c1 (by decide +kernel) ?_
    walk_at "e"
    refine ⟨p, ys.map V.str, rfl, SqL.of tp, ?_⟩
    refine cturns_dr (R := Gd 4) (b := b) (by rw [List.length_map]; omega) b4 (fun H' f => SqL.of (f _ _ np tp)) (fun y => by walk_at "gs") ?_ ?_
    · rintro i y H4 hi hyy bx f5 s Hb C cl fp cb
      obtain ⟨z, hz, rfl⟩ : ∃ z, z ∈ ys ∧ y = .str z := by
        obtain ⟨z, h1, h2⟩ := List.mem_map.mp (List.mem_of_getElem? hyy)
        exact ⟨z, h1, h2.symm⟩
      have gz : GN 0 (.str z) := ⟨gd_lab ⟨z, rfl, hy z hz⟩, .str⟩
      have st4 : ST X.K (· = b) b [(.str z, .str z)] H4 := (ST.one bx).add .str
      refine ev_use (R := GN 4) st4 (by walk_at "en") fun v d H5 f6 b6 r6 k6 => ⟨d, r6, k6, f6, b6⟩
    · intro D2 ws es H4 hD2 f5 b5 hD2n hes hne hre
      walk_at "e"
      refine lv_tupL (SqL.of hD2n) fun l hl => ?_
      have ge : GN 5 (.tup es) := ⟨.tup (by rw [hne, List.length_map]; omega) fun e he => (hre e he).1, .tup fun e he => (hre e he).2⟩
      exact q _ (.tup es) _ ge.1 ge.2 (Dt.newT hl (b5.ne hl) (hes.mono fun a e => .inl e)) ((f4.trans f5).trans (Fr.new hl)) (b5.put (b5.ne hl))
end
def spMn0 (K : PySem.W.Frag) : Sp := fun vs H Q _ => ∃ b : Addr, vs = [] ∧ BoxAt H b ∧ MnQ K b H Q
def spMnB (K : PySem.W.Frag) : Sp := fun vs H Q _ => ∃ b : Addr, vs = [.ref b] ∧ BoxAt H b ∧ MnQ K b H Q
def spIds (K : PySem.W.Frag) : Sp := fun vs H Q _ => ∃ (b : Addr) (v : V) (d : D), vs = [v] ∧ BoxAt H b ∧ isIdD d ∧ Dt K (· = b) H v d ∧ MnQ K b H Q
section
variable {X : Cx} {vs : List V} {H : Hp} {Q : VK} {E : XK}
theorem body_fractions (c : Ctx X nq_fractions lq_fractions 0) (h : spMn0 X.K vs H Q E) : RB X (defBody sq_fractions) { nx := fun _ H' => Q .non H', rt := Q } (start nq_fractions vs) H := by
  obtain ⟨b, rfl, hB, q⟩ := h
  show RB X (defBody sq_fractions) _ [] H
  have st : ST X.K (· = b) b [] H := ST.one hB
  refine rb_cons (rs_ret ?_)
  exact ev_use (R := LG 8 60) st (by walk_at "em") fun v d H1 f1 b1 r k => q v d H1 r k f1 b1
theorem body_labels (c : Ctx X nq_labels lq_labels 0) (h : spMn0 X.K vs H Q E) : RB X (defBody sq_labels) { nx := fun _ H' => Q .non H', rt := Q } (start nq_labels vs) H := by
  obtain ⟨b, rfl, hB, q⟩ := h
  show RB X (defBody sq_labels) _ [] H
  have st : ST X.K (· = b) b [] H := ST.one hB
  refine rb_cons (rs_ret ?_)
  exact ev_use (R := LG 8 60) st (by walk_at "em") fun v d H1 f1 b1 r k => q v d H1 r k f1 b1
theorem body_names (c : Ctx X nq_names lq_names 3) (dL : DefP X.prog X.w X.K X.mg X.base CX0 "_law_label" ["box"] 3 (spDr isLabD X.K)) (h : spMnB X.K vs H Q E) : RB X (defBody sq_names) { nx := fun _ H' => Q .non H', rt := Q } (start nq_names vs) H := by
  obtain ⟨b, rfl, hB, q⟩ := h
  show RB X (defBody sq_names) _ [some (.ref b), none, none] H
  have st : ST X.K (· = b) b [] H := ST.one hB
  refine rb_cons (rs_set c (by walk_at "gm") .loc (by walk_at "gm") ?_)
  refine ev_use (R := GN 0) st (by walk_at "evN") fun v1 d1 H1 f1 b1 r1 k1 => ?_
  have g1 := r1.1
  have st := (st.fr f1 b1).add k1
  refine ⟨_, by walk_at "gs", ?_⟩
  refine rb_cons (rs_set c (by walk_at "gm") .loc (by walk_at "gm") ?_)
  refine ev_use (R := LG 7 30) st (by walk_at "em") fun v2 d2 H2 f2 b2 r2 k2 => ?_
  have st := (st.fr f2 b2).add k2
  refine ⟨_, by walk_at "gs", ?_⟩
  refine rb_cons (rs_ret ?_)
  exact ev_use (R := LG 8 60) st (by walk_at "em") fun v d H3 f3 b3 r k => q v d H3 r k ((f1.trans f2).trans f3) b3
theorem tg_id {d : D} (h : isIdD d) : TG 0 3 d := by
  obtain ⟨n, l, m, rfl, h1, h2, h3⟩ := h
  refine ⟨_, rfl, Nat.le_refl _, ?_⟩
  have p : (31 : Int) ≤ 10 ^ 30 := by decide +kernel
  have p0 : (0 : Int) ≤ 10 ^ 30 := by decide +kernel
  exact three_all (gd_i (by omega) (by omega)) (gd_i (by omega) h2.2) (gd_i (by omega) h3.2)
theorem body_ids (c : Ctx X nq_ids lq_ids 0) (zs : X.mg "str" = none) (h : spIds X.K vs H Q E) : RB X (defBody sq_ids) { nx := fun _ H' => Q .non H', rt := Q } (start nq_ids vs) H := by
  obtain ⟨b, v0, d0, rfl, hB, hid, k0, q⟩ := h
  show RB X (defBody sq_ids) _ [some v0, none, none, none, none] H
  have tg0 := tg_id hid
  have gd0 : Gd 1 d0 := gd_id hid
  obtain ⟨n, l, m, e0, hn, hl, hm⟩ := id hid
  have gs : Gd 0 (.int n) ∧ Gd 0 (.int l) ∧ Gd 0 (.int m) := by
    obtain ⟨ds, e1, _, g⟩ := tg0
    rw [e0] at e1
    injection e1 with e1
    subst e1
    exact ⟨g _ (by simp), g _ (by simp), g _ (by simp)⟩
  obtain ⟨g1, g2, g3⟩ := gs
  have hv : ∃ t, v0 = .ref t ∧ H t = some (.tup [.int n, .int l, .int m]) := by
    rw [e0] at k0
    cases k0 with
    | @tup t us _ nb tp ll hh =>
      match us, ll with
      | [u1, u2, u3], _ =>
        have a1 := hh 0 _ _ rfl rfl
        have a2 := hh 1 _ _ rfl rfl
        have a3 := hh 2 _ _ rfl rfl
        cases a1
        cases a2
        cases a3
        exact ⟨t, rfl, tp⟩
  obtain ⟨t, rfl, tp⟩ := hv
  have st : ST X.K (· = b) b [(.int m, .int m), (.int l, .int l), (.int n, .int n), (.ref t, d0)] H := ((((ST.one hB).add k0).add .int).add .int).add .int
  refine rb_cons (rs_tup3 c (by walk_at "gm") .loc (by walk_at "gm") (by walk_at "gm") .loc (by walk_at "gm") (by walk_at "gm") .loc (by walk_at "gm") ?_ (by with_unfolding_all rfl))
  walk_at "e"
  refine ⟨t, _, _, _, rfl, SqT.of tp, _, _, _, by walk_at "gs", by walk_at "gs", by walk_at "gs", ?_⟩
  refine rb_cons (rs_set c (by walk_at "gm") .loc (by walk_at "gm") ?_)
  refine ev_use (R := LG 7 30) st (by walk_at "em") fun v2 d2 H2 f2 b2 r2 k2 => ?_
  have st := (st.fr f2 b2).add k2
  refine ⟨_, by walk_at "gs", ?_⟩
  refine rb_cons (rs_ret ?_)
  exact ev_use (R := LG 8 60) st (by walk_at "em") fun v d H3 f3 b3 r k => q v d H3 r k (f2.trans f3) b3
end
section
variable {X : Cx} {vs : List V} {H : Hp} {Q : VK} {E : XK}
theorem body_many_rows (c : Ctx X nq_many_rows lq_many_rows 0) (zr : X.mg "range" = none) (zt : X.mg "tuple" = none) (h : spNr 0 7 (TG 3 7) X.K vs H Q E) : RB X (defBody sq_many_rows) { nx := fun _ H' => Q .non H', rt := Q } (start nq_many_rows vs) H := by
  obtain ⟨b, m, rfl, m0, m1, hB, q⟩ := h
  show RB X (defBody sq_many_rows) _ [some (.int m), none] H
  have low : ∀ c ∈ ("abcdefg" : Str).cps.toList, PyData.strOk ⟨#[c]⟩ = true := by decide +kernel
  walk_at "e0"
  refine re_lc_range c lq_many_rows_c0 (by decide +kernel) (by walk_at "gm") zr ?_
  walk_at "e"
  refine ⟨by omega, by omega, ?_⟩
  refine cturns_dr (R := Gd 3) (b := b) (by omega) hB (fun _ _ => trivial) (fun y => by walk_at "gs") ?_ ?_
  · rintro i y H2 hi rfl bx f2 s Hb C cl fp cb
    obtain ⟨ch, ha, hm⟩ := mem_at (xs := ("abcdefg" : Str).cps.toList) (d := (i : Int)) (by omega) (by show (i : Int) < 7; omega)
    walk_at "e"
    refine iv_str (by decide) ha ?_
    walk_at "e"
    refine ⟨by show 2 ≤ sizeLine; decide, fun p hp => ?_⟩
    walk_at "e"
    have bp := bx.put (o := .tup [.str "value", .int i]) (bx.ne hp)
    refine ⟨by show 2 ≤ sizeLine; decide, fun r hr => ?_⟩
    have ki : Dt X.K (· = b) (upd H2 p (.tup [.str "value", .int i])) (.ref p) (.tup [.str "value", .int i]) := Dt.newT hp (bx.ne hp) (.cons .str (.cons .int .nil))
    have gi : GN 0 (.int (i : Int)) := gn_IR (lo := 0) (hi := 7) (by decide +kernel) (by decide +kernel) _ ⟨_, rfl, by omega, by omega⟩
    have gv : GN 0 (.str "value") := ⟨.str (by decide) (by decide +kernel), .str⟩
    have gc : GN 1 (.str ⟨#[ch]⟩) := ⟨.str (by show 1 ≤ _; decide) (low ch hm), .str⟩
    refine ⟨.tup [.str ⟨#[ch]⟩, .tup [.str "value", .int i]], ⟨.tup (by simp) (two_all (gd_up gc.1 2 (by decide)) (.tup (by simp) (two_all (gd_up gv.1 1 (by decide)) (gd_up gi.1 1 (by decide))))), .tup (two_all .str (.tup (two_all .str .int)))⟩, Dt.newT hr (bp.ne hr) (.cons .str (.cons ki .nil)), (Fr.new hp).trans (Fr.new hr), bp.put (bp.ne hr)⟩
  · intro D2 ws es H4 hD2 f5 b5 hD2n hes hne hre
    walk_at "e"
    refine lv_tupL (SqL.of hD2n) fun l hl => ?_
    exact q _ (.tup es) _ ⟨es, rfl, by rw [hne]; omega, fun e he => (hre e he).1⟩ (.tup fun e he => (hre e he).2) (Dt.newT hl (b5.ne hl) (hes.mono fun a e => .inl e)) (f5.trans (Fr.new hl)) (b5.put (b5.ne hl))
end
theorem lenA (a b : Str) : (a ++ b).length = a.length + b.length := by
  show (a ++ b).cps.size = a.cps.size + b.cps.size
  have := congrArg List.length (TL.tl_append a b)
  simpa [TL.tl] using this
theorem cut7 (z : Str) : (cutS z none (some 7)).length ≤ 7 ∧ ∀ c ∈ (cutS z none (some 7)).cps.toList, c ∈ z.cps.toList := by
  refine ⟨?_, fun c hc => ?_⟩
  · show (((z.cps.toList.drop (HT.sIx z.length 0 none)).take (HT.sIx z.length z.length (some ((7 : Nat) : Int)) - HT.sIx z.length 0 none)).toArray).size ≤ 7
    rw [HT.sIx_nat, HT.sIx_none, List.size_toArray, List.length_take]
    omega
  · refine List.mem_of_mem_drop (List.mem_of_mem_take (i := HT.sIx z.length z.length (some (7 : Int)) - HT.sIx z.length 0 none) (l := z.cps.toList.drop (HT.sIx z.length 0 none)) ?_)
    simpa [cutS] using hc
theorem lab7 {a z : Str} (ha : a.length = 1) (hc : ∀ c ∈ a.cps.toList, 97 ≤ c ∧ c ≤ 122) (h : pLab (.str z) = true) : pLab (.str (a ++ cutS z none (some 7))) = true := by
  obtain ⟨_, _, h3⟩ := pLab_str.mp h
  obtain ⟨l7, m7⟩ := cut7 z
  refine pLab_str.mpr ⟨by rw [lenA]; omega, by rw [lenA]; omega, fun c hm => ?_⟩
  have e : (a ++ cutS z none (some 7)).cps.toList = a.cps.toList ++ (cutS z none (some 7)).cps.toList := TL.tl_append a _
  rw [e] at hm
  rcases List.mem_append.mp hm with hm | hm
  · exact hc c hm
  · exact h3 c (m7 c hm)
section
variable {X : Cx} {N : List Str} {L : List (Str × KN)} {k : Nat} {σ : L2.St} {b : Addr} {Bx : Addr → Prop} {Γ : List (V × D)} {a : Str}
theorem ev_lab7 (c : Ctx X N L k) {p0 p1 p2 p3 p4 p5 p6 : Pos} {j0 j1 : Nat} (F : DefP X.prog X.w X.K X.mg X.base CX0 "_law_label" ["box"] 3 (spDr isLabD X.K)) (hn : 3 ≤ k) (hg : (("_law_label" : Str), KN.glob) ∈ L) (s : Slot N σ "box" (.ref b)) (hb : (("box" : Str), KN.loc) ∈ L)
    (ha : a.length = 1) (hc : ∀ c ∈ a.cps.toList, 97 ≤ c ∧ c ≤ 122)
    (he : starEach (.Name "box" p1 :: []) X.env = (false, eval (.Name "box" p1) X.env) :: starEach [] X.env := by with_unfolding_all rfl) (hpl : (backTo p3 (starEach [] X.env)).any (·.1) = false := by with_unfolding_all rfl) :
    Ev X Bx b Γ σ isLabD (.BinOp (.Constant (.str a) j0 p0) .Add (.Subscript (.Call (.Name "_law_label" p2) [.Name "box" p1] [] p3) (.Slice none (some (.Constant (.int 7) j1 p4)) none p5) p6) pos) := fun H Q st q => by
  refine re_bin (re_str (re_slice (ev_dr (j := .glob) c F hn hg s hb .loc he hpl H _ st fun v d H1 f1 b1 r1 k1 => ro_none (ro_some (re_int ⟨_, rfl, ?_⟩)))))
  obtain ⟨z, rfl, hz⟩ := r1
  cases k1
  obtain ⟨_, lz, _⟩ := pLab_str.mp hz
  have l7 := (cut7 z).1
  refine sv_str (Nat.le_trans lz (by decide)) (ov_adds (by rw [ha]; exact Nat.le_trans (show 1 + (cutS z none (some 7)).length ≤ 1000 by omega) (by decide)) ?_)
  exact q _ (.str _) H1 f1 b1 ⟨_, rfl, lab7 ha hc hz⟩ .str
end
theorem two_of_perm {zs ys : List Str} (h : zs.Perm ys) (hl : ys.length = 2) : ∃ u v, zs = [u, v] ∧ u ∈ ys ∧ v ∈ ys := by
  have e := h.length_eq
  match zs, e with
  | [u, v], _ => exact ⟨u, v, rfl, h.mem_iff.mp (by simp), h.mem_iff.mp (by simp)⟩
  | [], e => simp at e; omega
  | [_], e => simp at e; omega
  | _ :: _ :: _ :: _, e => simp at e; omega
section
variable {X : Cx} {vs : List V} {H : Hp} {Q : VK} {E : XK}
theorem body_entries (c : Ctx X nq_entries lq_entries 5) (zo : X.mg "sorted" = none) (dT : DefP X.prog X.w X.K X.mg X.base CX0 "_law_take" ["box", "many"] 1 spTake) (dL : DefP X.prog X.w X.K X.mg X.base CX0 "_law_label" ["box"] 3 (spDr isLabD X.K))
    (dP : DefP X.prog X.w X.K X.mg X.base CX0 "_law_plain" ["box"] 5 (spDr (Gd 3) X.K)) (dM : DefP X.prog X.w X.K X.mg X.base CX0 "_law_many_rows" ["many"] 1 (spNr 0 7 (TG 3 7) X.K)) (h : spMnB X.K vs H Q E) :
    RB X (defBody sq_entries) { nx := fun _ H' => Q .non H', rt := Q } (start nq_entries vs) H := by
  obtain ⟨b, rfl, hB, q⟩ := h
  show RB X (defBody sq_entries) _ [some (.ref b), none, none, none, none, none, none] H
  have st : ST X.K (· = b) b [] H := ST.one hB
  refine rb_cons (rs_lst2 c (by walk_at "gm") .loc (by walk_at "gm") (by walk_at "gm") .loc (by walk_at "gm") ?_ (by with_unfolding_all rfl))
  refine re_c_sorted c (by walk_at "gm") zo (ra_cons ?_)
  refine re_lst ((evs_cons (R := isLabD) (ev_lab7 c dL (by decide) (by walk_at "gm") (by walk_at "gs") (by walk_at "gm") (by decide) (by decide +kernel)) (evs_cons (ev_lab7 c dL (by decide) (by walk_at "gm") (by walk_at "gs") (by walk_at "gm") (by decide) (by decide +kernel)) evs_nil)) H _ st fun vs ds H1 f1 b1 hl1 r1 d1 => ⟨by rw [d1.1, hl1]; show 2 ≤ sizeLine; decide, fun t ht => ?_⟩)
  obtain ⟨ys, rfl, rfl⟩ := dts_strsD d1 fun d hdm => by
    obtain ⟨z, e, _⟩ := r1 d hdm
    exact ⟨z, e⟩
  have l2 : ys.length = 2 := by rw [List.length_map] at hl1; exact hl1
  refine ra_nil (lv_sortedS (SqL.of upd_same) (by omega) fun zs s pz hs => ?_)
  obtain ⟨u, v, rfl, mu, mv⟩ := two_of_perm pz l2
  have lab : ∀ z ∈ ys, GN 0 (.str z) := fun z hz => ⟨gd_lab (r1 (.str z) (List.mem_map_of_mem hz)), .str⟩
  have gu := lab u mu
  have gv := lab v mv
  have f1 := (f1.trans (Fr.new (o := .lst (ys.map V.str)) ht)).trans (Fr.new (o := .lst ([u, v].map V.str)) hs)
  have b1 := (b1.put (o := .lst (ys.map V.str)) (b1.ne ht))
  have b1 := b1.put (o := .lst ([u, v].map V.str)) (b1.ne hs)
  have tt : upd (upd H1 t (.lst (ys.map V.str))) s (.lst ([u, v].map V.str)) s = some (.lst [.str u, .str v]) := upd_same
  generalize upd (upd H1 t (.lst (ys.map V.str))) s (.lst ([u, v].map V.str)) = H2 at f1 b1 tt
  refine ⟨s, _, _, rfl, SqL.of tt, _, _, by walk_at "gs", by walk_at "gs", ?_⟩
  clear hl1 r1 d1 ht hs pz l2 mu mv lab
  have st : ST X.K (· = b) b [] H2 := ST.one b1
  refine rb_cons ?_
  refine rs_par2 c (by walk_at "gm") (by walk_at "gm") (by walk_at "gm") (by walk_at "gm") (by decide) ?_
  refine ra_cons ?_
  refine ev_use (R := IR 0 31) st (by walk_at "evI") fun w3 d3 H3 f3 b3 r3 k3 => ?_
  have g3 : GN 0 d3 := gn_IR (by decide +kernel) (by decide +kernel) _ r3
  have st := (st.fr f3 b3).add k3
  refine ra_cons ?_
  refine ev_use (R := GN 3) st (by walk_at "evN") fun w4 d4 H4 f4 b4 g4 k4 => ?_
  have st := (st.fr f4 b4).add k4
  have st := (st.add (v := .str v) (d := .str v) .str).add (v := .str u) (d := .str u) .str
  refine ra_nil ⟨_, _, _, _, rfl, by walk_at "gs", by walk_at "gs", ?_⟩
  have h3 := g3.1
  have h4 := g4.1
  have hu := gu.1
  have hv := gv.1
  refine rb_cons (rs_set c (by walk_at "gm") .loc (by walk_at "gm") ?_)
  refine ev_use (R := LG 8 17) st (by walk_at "em") fun w5 d5 H5 f5 b5 g5 k5 => ?_
  refine ⟨_, by walk_at "gs", ?_⟩
  have st5 := (st.fr f5 b5).add k5
  refine rb_cons (rs_set c (by walk_at "gm") .loc (by walk_at "gm") ?_)
  refine ev_use (R := LG 8 30) st5 (by refine ev_catL (l1 := 17) (l2 := 13) ?_ ?_ <;> walk_at "em") fun w6 d6 H6 f6 b6 g6 k6 => ?_
  refine ⟨_, by walk_at "gs", ?_⟩
  have st := (st.fr f5 b5).fr f6 b6
  have st6 := st.add k6
  refine rb_cons (rs_set c (by walk_at "gm") .loc (by walk_at "gm") ?_)
  refine re_bin (re_name c (by walk_at "gs") (by walk_at "gm") .loc ?_)
  refine ev_use (R := LG 8 7) st6 (by walk_at "em") fun w7 d7 H7 f7 b7 g7 k7 => ?_
  have st := st.fr f7 b7
  obtain ⟨p6, us6, ds6, rfl, rfl, np6, tp6, hd6, l6, r6⟩ := lg_at g6 (k6.fr f7)
  obtain ⟨p7, us7, ds7, rfl, rfl, np7, tp7, hd7, l7, r7⟩ := lg_at g7 k7
  refine ov_cat tp6 tp7 (by rw [hd6.1, hd7.1]; exact Nat.le_trans (show ds6.length + ds7.length ≤ 1000 by omega) (by decide)) fun p hp => ?_
  refine ⟨_, by walk_at "gs", ?_⟩
  have np : p ≠ b := b7.ne hp
  have fa : Fr (· = b) H H7 := (((((f1.trans f3).trans f4).trans f5).trans f6).trans f7)
  have st8 : ST X.K (fun a => a = b ∨ a = p) b [(.str u, .str u), (.str v, .str v), (w4, d4), (w3, d3)] (upd H7 p (.lst (us6 ++ us7))) := by
    have hpb := b7.put (o := .lst (us6 ++ us7)) np
    have lst : ∀ a, (a = b ∨ a = p) → a = b ∨ ∃ xs, upd H7 p (.lst (us6 ++ us7)) a = some (.lst xs) := fun a ha => ha.elim .inl fun e => (by subst e; exact .inr ⟨_, upd_same⟩)
    refine ⟨hpb, .inl rfl, lst, fun x hx => ?_⟩
    have hx2 := (st.dat x hx).fr (Fr.new (B := (· = b)) (o := .lst (us6 ++ us7)) hp)
    have hn : NoL x.2 := by
      rcases List.mem_cons.mp hx with rfl | hx
      · exact .str
      rcases List.mem_cons.mp hx with rfl | hx
      · exact .str
      rcases List.mem_cons.mp hx with rfl | hx
      · exact g4.2
      · rw [List.mem_singleton.mp hx]
        exact g3.2
    exact dt_beside hx2 hn lst
  have hd8 : Dts X.K (fun a => a = b ∨ a = p) (upd H7 p (.lst (us6 ++ us7))) (us6 ++ us7) (ds6 ++ ds7) := (dts_new (dts_app hd6 hd7) hp).fr (Fr.new hp)
  refine rb_cons (rs_for_app (R := Gd 7) (n := 9) (a0 := 37) (g := 8) (p := p) (x := "rows") (sm := "some") c (fun r => [some (.ref b), some (.str u), some (.str v), some w3, some w4, some (.ref p), r]) (by walk_at "gm") (by walk_at "gm") (by walk_at "gm") (fun r y => by walk_at "gs") (fun r => by walk_at "gs") st8 (.inr rfl) np upd_same hd8 (by rw [List.length_append]; omega) (mem_app r6 r7)
    (by refine ev_lr ?_; walk_at "em") (fun y d hy => by walk_at "em") (by decide) fun r us9 ds9 H9 st9 hp9 hd9 l9 r9 f9 => ?_)
  refine rb_cons (rs_for_app (R := Gd 7) (n := 7) (a0 := 46) (g := 8) (p := p) (x := "rows") (sm := "some") c (fun r => [some (.ref b), some (.str u), some (.str v), some w3, some w4, some (.ref p), r]) (by walk_at "gm") (by walk_at "gm") (by walk_at "gm") (fun r y => by walk_at "gs") (fun r => by walk_at "gs") st9 (.inr rfl) np hp9 hd9 l9 r9
    (by refine ev_lr ?_; walk_at "em") (fun y d hy => by walk_at "em") (by decide) fun r us10 ds10 H10 st10 hp10 hd10 l10 r10 f10 => ?_)
  walk_at "e0"
  have fz : Fr (fun a => a = b ∨ a = p) H7 H10 := ((Fr.new hp).trans f9).trans f10
  exact q _ (.lst ds10) _ ⟨ds10, rfl, by omega, r10⟩ (.lst np hp10 hd10.1 fun i v d a c => (hd10.2 i v d a c).mono fun a e => .inl e) (fr_fresh (f := fa) hp fz) st10.box
end
theorem t1_nam {n : Nat} {d : D} (h : isNamD d) : T1 n d := by
  obtain ⟨ds, rfl, h1, _, h3⟩ := h
  exact ⟨ds, rfl, by omega, fun e he => gd_lab (h3 e he)⟩
section
variable {X : Cx} {vs : List V} {H : Hp} {Q : VK} {E : XK}
theorem body_answers (c : Ctx X nq_answers lq_answers 4) (zl : X.mg "len" = none) (dT : DefP X.prog X.w X.K X.mg X.base CX0 "_law_take" ["box", "many"] 1 spTake) (dN : DefP X.prog X.w X.K X.mg X.base CX0 "_law_name" ["box"] 4 (spDr isNamD X.K)) (dI : DefP X.prog X.w X.K X.mg X.base CX0 "_law_id" ["box"] 3 (spDr isIdD X.K)) (h : spMnB X.K vs H Q E) :
    RB X (defBody sq_answers) { nx := fun _ H' => Q .non H', rt := Q } (start nq_answers vs) H := by
  obtain ⟨b, rfl, hB, q⟩ := h
  show RB X (defBody sq_answers) _ [some (.ref b), none, none, none, none, none, none] H
  have st : ST X.K (· = b) b [] H := ST.one hB
  refine rb_cons (rs_par3 c (by walk_at "gm") (by walk_at "gm") (by walk_at "gm") (by walk_at "gm") (by walk_at "gm") (by walk_at "gm") (by decide) (by decide) (by decide) ?_)
  refine ra_cons ?_
  refine ev_use st (ev_drN (n := 1) c dN (by decide) (by walk_at "gm") (by walk_at "gs") (by walk_at "gm") .loc fun d hd => gd_nam hd) fun w1 d1 H1 f1 b1 r1 k1 => ?_
  have st := (st.fr f1 b1).add k1
  refine ra_cons ?_
  refine ev_use (R := IR 0 31) st (by walk_at "evI") fun w2 d2 H2 f2 b2 r2 k2 => ?_
  have g2 : GN 0 d2 := gn_IR (by decide +kernel) (by decide +kernel) _ r2
  have st := (st.fr f2 b2).add k2
  refine ra_cons ?_
  refine ev_use st (ev_drN (n := 1) c dI (by decide) (by walk_at "gm") (by walk_at "gs") (by walk_at "gm") .loc fun d hd => gd_id hd) fun w3 d3 H3 f3 b3 r3 k3 => ?_
  have st := (st.fr f3 b3).add k3
  refine ra_nil ⟨_, _, _, _, _, _, rfl, by walk_at "gs", by walk_at "gs", by walk_at "gs", ?_⟩
  have h1 := r1.2.1
  have t1 : T1 7 d1 := t1_nam r1.1
  have t8 : T1 6 d1 := t1_nam r1.1
  have h2 := g2.1
  have h3 := r3.2.1
  refine rb_cons (rs_set c (by walk_at "gm") .loc (by walk_at "gm") ?_)
  refine re_lst (ra_nil ⟨by show 0 ≤ sizeLine; decide, fun p hp => ?_⟩)
  refine ⟨_, by walk_at "gs", ?_⟩
  have np : p ≠ b := b3.ne hp
  have fa : Fr (· = b) H H3 := (f1.trans f2).trans f3
  have st8 : ST X.K (fun a => a = b ∨ a = p) b [(w3, d3), (w2, d2), (w1, d1)] (upd H3 p (.lst [])) := by
    have hpb := b3.put (o := .lst []) np
    have lst : ∀ a, (a = b ∨ a = p) → a = b ∨ ∃ xs, upd H3 p (.lst []) a = some (.lst xs) := fun a ha => ha.elim .inl fun e => (by subst e; exact .inr ⟨_, upd_same⟩)
    refine ⟨hpb, .inl rfl, lst, fun x hx => ?_⟩
    have hx2 := (st.dat x hx).fr (Fr.new (B := (· = b)) (o := .lst []) hp)
    have hn : NoL x.2 := by
      rcases List.mem_cons.mp hx with rfl | hx
      · exact r3.2.2
      rcases List.mem_cons.mp hx with rfl | hx
      · exact g2.2
      · rw [List.mem_singleton.mp hx]
        exact r1.2.2
    exact dt_beside hx2 hn lst
  have hd8 : Dts X.K (fun a => a = b ∨ a = p) (upd H3 p (.lst [])) [] [] := .nil
  refine rb_cons (rs_for_app (R := TG 6 10) (n := 15) (a0 := 0) (g := 8) (p := p) (x := "what") (sm := "some") c (fun r => [some (.ref b), some w1, some w2, some w3, some (.ref p), r, none]) (by walk_at "gm") (by walk_at "gm") (by walk_at "gm") (fun r y => by walk_at "gs") (fun r => by walk_at "gs") st8 (.inr rfl) np upd_same hd8 (Nat.le_refl _) gdl_nil
    (by refine ev_lr ?_; walk_at "em") (fun y d hy => ?_) (by decide) fun r us9 ds9 H9 st9 hp9 hd9 l9 r9 f9 => ?_)
  · have gy : Gd 7 d := gd_TG hy (by decide)
    refine Ev.tg (ev_tup (l := 60) (evs_cons (by walk_at "em") (evs_cons (ev_if (by walk_at "em") (by walk_at "em") ?_) evs_nil)))
    intro H Q st q
    obtain ⟨t, us, ds, rfl, _, _, tt, _, _, _⟩ := tg_at hy (st.dat (y, d) List.mem_cons_self)
    walk_at "e"
    refine lv_lenT (SqT.of tt) ?_
    walk_at "e"
    exact q _
  refine rb_cons (rs_for_app (R := Gd 7) (n := 13) (a0 := 15) (g := 8) (p := p) (x := "what") (sm := "some") c (fun r => [some (.ref b), some w1, some w2, some w3, some (.ref p), r, none]) (by walk_at "gm") (by walk_at "gm") (by walk_at "gm") (fun r y => by walk_at "gs") (fun r => by walk_at "gs") st9 (.inr rfl) np hp9 hd9 l9 r9
    (by refine ev_lr ?_; walk_at "em") (fun y d hy => by walk_at "em") (by decide) fun r us10 ds10 H10 st10 hp10 hd10 l10 r10 f10 => ?_)
  refine rb_cons (rs_for_app (R := Gd 7) (n := 11) (a0 := 28) (g := 8) (p := p) (x := "names") (sm := "some") (r0 := none) c (fun s => [some (.ref b), some w1, some w2, some w3, some (.ref p), r, s]) (by walk_at "gm") (by walk_at "gm") (by walk_at "gm") (fun r y => by walk_at "gs") (fun r => by walk_at "gs") st10 (.inr rfl) np hp10 hd10 l10 r10
    (by refine ev_lr ?_; walk_at "em") (fun y d hy => by walk_at "em") (by decide) fun s us11 ds11 H11 st11 hp11 hd11 l11 r11 f11 => ?_)
  refine rb_cons (rs_ret (re_bin (re_name c (by walk_at "gs") (by walk_at "gm") .loc ?_)))
  refine ev_use (R := LG 8 7) st11 (by walk_at "em") fun w12 d12 H12 f12 b12 g12 k12 => ?_
  obtain ⟨p12, us12, ds12, rfl, rfl, np12, tp12, hd12, l12, r12⟩ := lg_at g12 k12
  have hp12 := f12 _ _ np hp11
  have hd13 := hd11.fr (frB st11 f12)
  refine ov_cat hp12 tp12 (by rw [hd13.1, hd12.1]; exact Nat.le_trans (show ds11.length + ds12.length ≤ 1000 by omega) (by decide)) fun z hz => ?_
  have fz : Fr (fun a => a = b ∨ a = p) H3 H12 := ((((Fr.new hp).trans f9).trans f10).trans f11).trans (frB st11 f12)
  have fw := (fr_fresh (f := fa) hp fz).trans (Fr.new (o := .lst (us11 ++ us12)) hz)
  have hdz : Dts X.K (· = b) H12 (us11 ++ us12) (ds11 ++ ds12) := (dts_app hd13 hd12).mono fun a e => .inl e
  exact q _ (.lst (ds11 ++ ds12)) _ ⟨_, rfl, by rw [List.length_append]; omega, mem_app r11 r12⟩ (Dt.newL hz (b12.ne hz) hdz) fw (b12.put (b12.ne hz))
end
def spMenu (K : PySem.W.Frag) : Sp := fun vs H Q _ => ∃ (b : Addr) (w : Str) (v : V) (d : D), vs = [.ref b, .str w, v] ∧ BoxAt H b ∧ isIdD d ∧ Dt K (· = b) H v d ∧ MnQ K b H Q
section
variable {X : Cx} {vs : List V} {H : Hp} {Q : VK} {E : XK}
theorem body_menu (c : Ctx X nq_menu lq_menu 6) (dI : DefP X.prog X.w X.K X.mg X.base CX0 "_law_ids" ["own"] 1 (spIds X.K)) (dL : DefP X.prog X.w X.K X.mg X.base CX0 "_law_labels" [] 1 (spMn0 X.K)) (dE : DefP X.prog X.w X.K X.mg X.base CX0 "_law_entries" ["box"] 6 (spMnB X.K))
    (dF : DefP X.prog X.w X.K X.mg X.base CX0 "_law_fractions" [] 1 (spMn0 X.K)) (dN : DefP X.prog X.w X.K X.mg X.base CX0 "_law_names" ["box"] 4 (spMnB X.K)) (dA : DefP X.prog X.w X.K X.mg X.base CX0 "_law_answers" ["box"] 5 (spMnB X.K)) (h : spMenu X.K vs H Q E) :
    RB X (defBody sq_menu) { nx := fun _ H' => Q .non H', rt := Q } (start nq_menu vs) H := by
  obtain ⟨b, w, v, d, rfl, hB, hid, k0, q⟩ := h
  show RB X (defBody sq_menu) _ [some (.ref b), some (.str w), some v] H
  walk_at "e0"
  refine ⟨by show 3 ≤ sizeLine; decide, fun p hp => ?_⟩
  have f1 : Fr (· = b) H (upd H p (.tup [.str "kept", .str "id", .str "term"])) := Fr.new hp
  have hB1 := hB.put (o := .tup [.str "kept", .str "id", .str "term"]) (hB.ne hp)
  refine cv_inV (xs := (["kept", "id", "term"] : List Str).map V.str) (.inr (SqT.of upd_same)) rfl (flatS _) ?_
  have k0 := k0.fr f1
  generalize upd H p (.tup [.str "kept", .str "id", .str "term"]) = H1 at f1 hB1 k0
  have q : MnQ X.K b H1 Q := fun u e H' r k f bb => q u e H' r k (f1.trans f) bb
  clear f1 hp hB
  have st : ST X.K (· = b) b [] H1 := ST.one hB1
  have fin : ∀ {e : Expr} {σ : L2.St}, Ev X (· = b) b [] σ (LG 8 60) e → RE X e σ H1 Q := fun {e σ} he => ev_use st he fun v d H2 f bb r k => q v d H2 r k f bb
  walk_at "e"
  refine ite2 (fun e2 => ?_) (fun e2 => ?_)
  · walk_at "e"
    refine rb_cons (rs_ret ?_)
    refine re_call c dI (by decide) (by walk_at "gm") ?_
    walk_at "e"
    exact ⟨b, v, d, rfl, hB1, hid, k0, q⟩
  walk_at "e"
  walk_at "e0"
  refine ite2 (fun e3 => ?_) (fun e3 => ?_)
  · exact rb_cons (rs_ret (fin (by walk_at "em")))
  walk_at "e"
  walk_at "e0"
  refine ite2 (fun e3 => ?_) (fun e3 => ?_)
  · exact rb_cons (rs_ret (re_call0 c dL (by decide) (by walk_at "gm") ⟨b, rfl, hB1, q⟩))
  walk_at "e"
  walk_at "e0"
  refine ite2 (fun e3 => ?_) (fun e3 => ?_)
  · refine rb_cons (rs_ret (re_call c dE (by decide) (by walk_at "gm") ?_))
    walk_at "e"
    exact ⟨b, rfl, hB1, q⟩
  walk_at "e"
  walk_at "e0"
  refine ite2 (fun e3 => ?_) (fun e3 => ?_)
  · exact rb_cons (rs_ret (re_call0 c dF (by decide) (by walk_at "gm") ⟨b, rfl, hB1, q⟩))
  walk_at "e"
  walk_at "e0"
  refine ite2 (fun e3 => ?_) (fun e3 => ?_)
  · refine rb_cons (rs_ret (re_call c dN (by decide) (by walk_at "gm") ?_))
    walk_at "e"
    exact ⟨b, rfl, hB1, q⟩
  walk_at "e"
  refine rb_cons (rs_ret (re_if ?_))
  walk_at "e"
  refine ite2 (fun e3 => ?_) (fun e3 => ?_)
  · exact fin (by walk_at "em")
  · refine re_call c dA (by decide) (by walk_at "gm") ?_
    walk_at "e"
    exact ⟨b, rfl, hB1, q⟩
end
abbrev DA (X : Cx) : Prop := DefP X.prog X.w X.K X.mg X.base CX0 "_law_asked" ["value"] 23 (spAsk X.K)
section
variable {X : Cx} {N : List Str} {L : List (Str × KN)} {k n : Nat} {σ : L2.St} {H : Hp} {b : Addr} {Bx : Addr → Prop} {Γ : List (V × D)} {e e1 e2 : Expr} {pos p0 p1 : Pos}
theorem rt_asked (c : Ctx X N L k) {Q : Bool → Hp → Prop} (dA : DA X) (hk : 23 ≤ k) (hg : (("_law_asked" : Str), KN.glob) ∈ L) (st : ST X.K Bx b Γ H) (hE : Ev X Bx b Γ σ (Gd 20) e) (q : ∀ H', Fr (· = b) H H' → BoxAt H' b → Q false H')
    (he : starEach [e] X.env = (false, eval e X.env) :: starEach [] X.env := by with_unfolding_all rfl) (hpl : (backTo p1 (starEach [] X.env)).any (·.1) = false := by with_unfolding_all rfl)
    (hv : ∀ whole, isTrue (.Call (.Name "_law_asked" p0) [e] [] p1) X.env whole = (do let v ← whole; standAt p1; holding [v] (truthy v)) := by intro _; with_unfolding_all rfl) :
    RT X (.UnaryOp .Not (.Call (.Name "_law_asked" p0) [e] [] p1) pos) σ H Q := by
  refine rt_not (rt_val (re_call c dA hk hg (ra_cons (hE H _ st fun v d H1 f1 b1 g k1 => ra_nil ?_) he) he hpl) hv)
  exact ⟨Bx, v, d, rfl, k1, g, fun H2 f2 => ⟨true, rfl, q H2 (f1.trans f2.any) (b1.fr f2)⟩⟩
end
theorem key_facts : ∀ k ∈ (lawTab.map (·.1) : List Str), ((k ++ "s").length ≤ 200 ∧ PyData.strOk (k ++ "s") = true) ∧ k.length + ("s" : Str).length ≤ 1000 ∧ k.length ≤ 200 ∧ PyData.strOk k = true := by decide +kernel
theorem tg_fr {d : D} (h : isFrD d) : TG 0 2 d := by
  obtain ⟨a, m, rfl, h1, h2⟩ := h
  have p : (0 : Int) ≤ 10 ^ 30 := by decide +kernel
  exact ⟨_, rfl, Nat.le_refl _, two_all (gd_i h1.1 h1.2) (gd_i (by omega) h2.2)⟩
/-- true told, the box alone moved -/
def spYes (b : Addr) (H : Hp) (Q : VK) : Prop := ∀ H', Fr (· = b) H H' → BoxAt H' b → Q (.bl true) H'
def spSwept : Sp := fun vs H Q _ => ∃ (b : Addr) (w : Str), vs = [.ref b, .str w] ∧ w ∈ lawTab.map (·.1) ∧ BoxAt H b ∧ spYes b H Q
section
variable {X : Cx} {vs : List V} {H : Hp} {Q : VK} {E : XK}
theorem body_swept (c : Ctx X nq_swept lq_swept 23) (zL : X.mg "list" = none) (ze : X.mg "enumerate" = none) (dI : DefP X.prog X.w X.K X.mg X.base CX0 "_law_id" ["box"] 3 (spDr isIdD X.K)) (dF : DefP X.prog X.w X.K X.mg X.base CX0 "_law_fraction" ["box"] 3 (spDr isFrD X.K))
    (dD : DefP X.prog X.w X.K X.mg X.base CX0 "_law_deed" ["box", "word"] 9 (spDeed X.K)) (dW : DefP X.prog X.w X.K X.mg X.base CX0 "_law_words" [] 1 spWords) (dM : DefP X.prog X.w X.K X.mg X.base CX0 "_law_menu" ["box", "word", "own"] 7 (spMenu X.K)) (dA : DA X) (h : spSwept vs H Q E) :
    RB X (defBody sq_swept) { nx := fun _ H' => Q .non H', rt := Q } (start nq_swept vs) H := by
  obtain ⟨b, w, rfl, hw, hB, q⟩ := h
  show RB X (defBody sq_swept) _ [some (.ref b), some (.str w), none, none, none, none, none, none, none] H
  obtain ⟨⟨k1, k2⟩, k3, k4, k5⟩ := key_facts w hw
  have gws : Gd 0 (.str (w ++ "s")) ∧ w.length + ("s" : Str).length ≤ 1000 := ⟨.str k1 k2, k3⟩
  have gw : Gd 0 (.str w) := .str k4 k5
  have st : ST X.K (· = b) b [] H := ST.one hB
  refine rb_cons (rs_set c (by walk_at "gm") .loc (by walk_at "gm") ?_)
  refine re_tup (ra_cons ?_)
  refine ev_use st (ev_drN (n := 1) c dI (by decide) (by walk_at "gm") (by walk_at "gs") (by walk_at "gm") .loc fun d hd => gd_id hd) fun v1 d1 H1 f1 b1 r1 m1 => ?_
  have st := (st.fr f1 b1).add m1
  refine ra_cons ?_
  refine ev_use st (ev_drN (n := 1) c dF (by decide) (by walk_at "gm") (by walk_at "gs") (by walk_at "gm") .loc fun d hd => gd_fr hd) fun v2 d2 H2 f2 b2 r2 m2 => ?_
  have st := (st.fr f2 b2).add m2
  refine ra_cons (re_call c dD (by decide) (by walk_at "gm") ?_)
  walk_at "e"
  refine ⟨b, w, rfl, hw, st.box, fun v3 d3 H3 r3 m3 f3 b3 => ?_⟩
  have st := (st.fr f3 b3).add m3
  refine ra_nil ⟨by show 3 ≤ sizeLine; decide, fun p hp => ?_⟩
  have t1 := tg_id r1.1
  have t2 := tg_fr r2.1
  obtain ⟨t3, n3⟩ := tg_dd hw r3
  have g1 : Gd 1 d1 := gd_TG t1 (by decide)
  have g2 : Gd 1 d2 := gd_TG t2 (by decide)
  have g3 : Gd 8 d3 := gd_TG t3 (by decide)
  have ke : Dt X.K (· = b) (upd H3 p (.tup [v1, v2, v3])) (.ref p) (.tup [d1, d2, d3]) := Dt.newT hp (st.box.ne hp) (.cons (st.dat (v1, d1) (by simp)) (.cons (st.dat (v2, d2) (by simp)) (.cons m3 .nil)))
  have st := (st.new (o := .tup [v1, v2, v3]) hp).add ke
  have te : TG 8 3 (.tup [d1, d2, d3]) := ⟨_, rfl, Nat.le_refl _, three_all (gd_up g1 8 (by decide)) (gd_up g2 8 (by decide)) g3⟩
  have ge : Gd 9 (.tup [d1, d2, d3]) := gd_TG te (by decide)
  refine ⟨_, by walk_at "gs", ?_⟩
  refine rb_cons (rs_tup3 c (by walk_at "gm") .loc (by walk_at "gm") (by walk_at "gm") .loc (by walk_at "gm") (by walk_at "gm") .loc (by walk_at "gm") ?_ (by with_unfolding_all rfl))
  walk_at "e"
  refine ⟨p, _, _, _, rfl, SqT.of upd_same, _, _, _, by walk_at "gs", by walk_at "gs", by walk_at "gs", ?_⟩
  have fa : Fr (· = b) H (upd H3 p (.tup [v1, v2, v3])) := ((f1.trans f2).trans f3).trans (Fr.new hp)
  have q : spYes b (upd H3 p (.tup [v1, v2, v3])) Q := fun H' f bb => q H' (fa.trans f) bb
  generalize upd H3 p (.tup [v1, v2, v3]) = H4 at st q ke
  clear fa hp m1 f1 b1 m2 f2 b2 m3 f3 b3
  have st := st.add (v := .str w) (d := .str w) .str
  refine rb_cons (rs_for_ev (R := Gd 19) (n := 12) (x := "value") (r0 := none) c (fun r => [some (.ref b), some (.str w), some (.ref p), some v1, some v2, some v3, r, none, none]) (by walk_at "gm") (by walk_at "gm") (fun r y => by walk_at "gs") st (fun Q q => by refine ev_use st (ev_lr ?_) q; walk_at "em") (fun y d H' K hy st K1 => ?_) fun r H' f bb => ?_)
  · refine rb_cons (rs_if (rt_asked c dA (by decide) (by walk_at "gm") st (by walk_at "em") fun H2 f2 b2 => iteF (rb_nil (rb_nil (K1 _ H2 f2 b2)))))
  have q : spYes b H' Q := fun H'' f2 bb => q H'' (f.trans f2) bb
  have st := st.fr f bb
  refine rb_cons (rs_for_ev (R := Gd 18) (n := 14) (x := "value") (r0 := r) c (fun r => [some (.ref b), some (.str w), some (.ref p), some v1, some v2, some v3, r, none, none]) (by walk_at "gm") (by walk_at "gm") (fun r y => by walk_at "gs") st (fun Q q => by refine ev_use st (ev_lr ?_) q; walk_at "em") (fun y d H' K hy st K1 => ?_) fun r H' f bb => ?_)
  · refine rb_cons (rs_if (rt_bool (rw_or (rt_asked c dA (by decide) (by walk_at "gm") st (by walk_at "em") fun H2 f2 b2 => iteF (rw_or1 (rt_asked c dA (by decide) (by walk_at "gm") (st.fr f2 b2) (by walk_at "em") fun H3 f3 b3 => iteF (rb_nil (rb_nil (K1 _ H3 (f2.trans f3) b3)))))))))
  have q : spYes b H' Q := fun H'' f2 bb => q H'' (f.trans f2) bb
  have st := st.fr f bb
  obtain ⟨⟨w', ws⟩, hm, rfl⟩ := List.mem_map.mp hw
  refine rb_cons (rs_for_enumL c (by walk_at "gm") .loc (by walk_at "gm") (by walk_at "gm") .loc (by walk_at "gm") (by walk_at "gm") ze ?_)
  refine re_dget c ?_
  refine re_call0 c dW (by decide) (by walk_at "gm") ⟨rfl, fun wp as H0 hwp0 f0 hwp hwd => ?_⟩
  walk_at "e"
  obtain ⟨wa, hva, hwa⟩ := wd_get hwd hm
  refine ⟨wp, _, rfl, dget_k hwp hva, ?_⟩
  have b0 := bb.fr f0
  have st0 := st.fr f0.any b0
  have nwa := strs_ne_box hwa b0
  refine ⟨wa, ws.map V.str, rfl, SqL.of hwa, fun i σ' H2 => (∃ r s t, σ' = [some (.ref b), some (.str w'), some (.ref p), some v1, some v2, some v3, r, s, t]) ∧ Fr (· = b) H0 H2 ∧ BoxAt H2 b, ⟨⟨r, none, none, rfl⟩, Fr.refl, b0⟩, ?_, ?_, ?_⟩
  · rintro i σ' H2 _ ⟨_, f2, _⟩
    exact SqL.of (f2 _ _ nwa hwa)
  · rintro i y z σ' H2 T hi hy hz ⟨⟨r2, s2, t2, rfl⟩, f2, b2⟩ hT
    obtain rfl : V.int (i : Nat) = y := Option.some.inj hy
    obtain ⟨part, rfl⟩ : ∃ part, z = .str part := by
      obtain ⟨u, _, e⟩ := List.mem_map.mp (List.mem_of_getElem? hz)
      exact ⟨u, e.symm⟩
    have st2 := (st0.fr f2 b2).new (o := .tup [.int (i : Nat), .str part]) hT
    have fT : Fr (· = b) H2 (upd H2 T (.tup [.int (i : Nat), .str part])) := Fr.new hT
    refine ⟨_, _, by walk_at "gs", by walk_at "gs", ?_⟩
    refine rb_cons (rs_for_ev (R := Gd 8) (n := 60) (x := "value") (r0 := r2) c (fun r => [some (.ref b), some (.str w'), some (.ref p), some v1, some v2, some v3, r, some (.int (i : Nat)), some (.str part)]) (by walk_at "gm") (by walk_at "gm") (fun r y => by walk_at "gs") st2 (fun Q qq => ?_) (fun y d H' K hy st K1 => ?_) fun r H' f bb => ?_)
    · refine re_call c dM (by decide) (by walk_at "gm") ?_
      walk_at "e"
      exact ⟨b, part, v1, d1, rfl, st2.box, r1.1, st2.dat (v1, d1) (by simp), fun u e H' r k f bb => qq u e H' f bb r k⟩
    · exact rb_cons (rs_if (rt_asked c dA (by decide) (by walk_at "gm") st (by walk_at "em") fun H2 f2 b2 => iteF (rb_nil (rb_nil (K1 _ H2 f2 b2)))))
    · exact rb_nil ⟨⟨r, _, _, rfl⟩, (f2.trans fT).trans f, bb⟩
  · rintro σ' H2 ⟨⟨r2, s2, t2, rfl⟩, f2, b2⟩
    walk_at "e0"
    exact q H2 (f0.any.trans f2) b2
end
def spEnds : Sp := fun vs H Q _ => ∃ b : Addr, vs = [.ref b] ∧ BoxAt H b ∧ spYes b H Q
section
variable {X : Cx} {vs : List V} {H : Hp} {Q : VK} {E : XK}
theorem body_ends (c : Ctx X nq_ends lq_ends 23) (zo : X.mg "sorted" = none) (dP : DefP X.prog X.w X.K X.mg X.base CX0 "_law_pick" ["box", "some"] 2 (spPick X.K)) (dW : DefP X.prog X.w X.K X.mg X.base CX0 "_law_words" [] 1 spWords) (dD : DefP X.prog X.w X.K X.mg X.base CX0 "_law_deed" ["box", "word"] 9 (spDeed X.K))
    (dI : DefP X.prog X.w X.K X.mg X.base CX0 "_law_id" ["box"] 3 (spDr isIdD X.K)) (dF : DefP X.prog X.w X.K X.mg X.base CX0 "_law_fraction" ["box"] 3 (spDr isFrD X.K)) (dE : DefP X.prog X.w X.K X.mg X.base CX0 "_law_entry" ["box"] 7 (spDr (Gd 6) X.K))
    (dMI : DefP X.prog X.w X.K X.mg X.base CX0 "_law_ids" ["own"] 1 (spIds X.K)) (dMF : DefP X.prog X.w X.K X.mg X.base CX0 "_law_fractions" [] 1 (spMn0 X.K)) (dME : DefP X.prog X.w X.K X.mg X.base CX0 "_law_entries" ["box"] 6 (spMnB X.K)) (dA : DA X)
    (dS : DefP X.prog X.w X.K X.mg X.base CX0 "_law_same" ["told", "due"] 22 (spSame X.K 21)) (dT : DefP X.prog X.w X.K X.mg X.base CX0 "_law_entry_told" ["value"] 14 (spTold X.K enF)) (dU : DefP X.prog X.w X.K X.mg X.base CX0 "_law_due" ["value", "fault"] 1 (spDue X.K)) (dQ : DefP X.prog X.w X.K X.mg X.base CX0 "_law_is_entry" ["value"] 4 (spP X.K pEnt)) (h : spEnds vs H Q E) :
    RB X (defBody sq_ends) { nx := fun _ H' => Q .non H', rt := Q } (start nq_ends vs) H := by
  obtain ⟨b, rfl, hB, q⟩ := h
  show RB X (defBody sq_ends) _ [some (.ref b), none, none] H
  refine rb_cons (rs_set c (by walk_at "gm") .loc (by walk_at "gm") ?_)
  refine re_call c dD (by decide) (by walk_at "gm") ?_
  walk_at "e"
  refine re_call c dP (by decide) (by walk_at "gm") ?_
  walk_at "e"
  refine re_c_sorted c (by walk_at "gm") zo (ra_cons ?_)
  refine re_call0 c dW (by decide) (by walk_at "gm") ⟨rfl, fun wp as H0 hwp0 f0 hwp hwd => ?_⟩
  refine ra_nil (lv_sortedD c hwp (wkv_keys hwd.1) (by rw [List.length_map]; decide) fun ys l py _ hl => ?_)
  have b0 := hB.fr f0
  have b1 := b0.put (o := .lst (ys.map V.str)) (b0.ne hl)
  have f1 : Fr (· = b) H (upd H0 l (.lst (ys.map V.str))) := f0.any.trans (Fr.new hl)
  have ly : (ys.map V.str).length = 11 := by
    rw [List.length_map, py.length_eq]
    decide
  walk_at "e"
  refine ⟨b, b1, .inl ⟨l, _, rfl, upd_same, b0.ne hl, by omega, by omega, fun i v H2 hi f2 b2 => ?_⟩⟩
  obtain ⟨w, hw, rfl⟩ : ∃ w, w ∈ ys ∧ v = .str w := by
    obtain ⟨u, h1, h2⟩ := List.mem_map.mp (List.mem_of_getElem? hi)
    exact ⟨u, h1, h2.symm⟩
  have hw := py.mem_iff.mp hw
  walk_at "e"
  refine ⟨b, w, rfl, hw, b2, fun v3 d3 H3 r3 m3 f3 b3 => ?_⟩
  obtain ⟨t3, n3⟩ := tg_dd hw r3
  have g3 : Gd 8 d3 := gd_TG t3 (by decide)
  have q : spYes b H3 Q := fun H' f bb => q H' (((f1.trans f2).trans f3).trans f) bb
  have st : ST X.K (· = b) b [(v3, d3)] H3 := (ST.one b3).add m3
  refine ⟨_, by walk_at "gs", ?_⟩
  refine rb_cons (rs_for_ev (R := Gd 8) (n := 60) (x := "value") (r0 := none) c (fun r => [some (.ref b), some v3, r]) (by walk_at "gm") (by walk_at "gm") (fun r y => by walk_at "gs") st (fun Q qq => ?_) (fun y d H' K hy st K1 => ?_) fun r H' f bb => ?_)
  · refine re_call c dMI (by decide) (by walk_at "gm") (ra_cons ?_)
    refine ev_use st (ev_drN (n := 1) c dI (by decide) (by walk_at "gm") (by walk_at "gs") (by walk_at "gm") .loc fun d hd => gd_id hd) fun v d H' f bb r k => ra_nil ?_
    exact ⟨b, v, d, rfl, bb, r.1, k, fun u e H2 r2 k2 f2 b2 => qq u e H2 (f.trans f2) b2 r2 k2⟩
  · refine rb_cons (rs_if (rt_bool (rw_or (rt_asked c dA (by decide) (by walk_at "gm") st (by walk_at "em") fun H2 f2 b2 => iteF (rw_or1 (rt_asked c dA (by decide) (by walk_at "gm") (st.fr f2 b2) (by walk_at "em") fun H3 f3 b3 => iteF (rb_nil (rb_nil (K1 _ H3 (f2.trans f3) b3)))))))))
  have q : spYes b H' Q := fun H'' f2 bb => q H'' (f.trans f2) bb
  have st := st.fr f bb
  refine rb_cons (rs_for_ev (R := Gd 8) (n := 60) (x := "value") (r0 := r) c (fun r => [some (.ref b), some v3, r]) (by walk_at "gm") (by walk_at "gm") (fun r y => by walk_at "gs") st (fun Q qq => ?_) (fun y d H' K hy st K1 => ?_) fun r H' f bb => ?_)
  · exact re_call0 c dMF (by decide) (by walk_at "gm") ⟨b, rfl, st.box, fun u e H2 r2 k2 f2 b2 => qq u e H2 f2 b2 r2 k2⟩
  · refine rb_cons (rs_if (rt_bool (rw_or (rt_asked c dA (by decide) (by walk_at "gm") st (by walk_at "em") fun H2 f2 b2 => iteF (rw_or1 (rt_asked c dA (by decide) (by walk_at "gm") (st.fr f2 b2) (by walk_at "em") fun H3 f3 b3 => iteF (rb_nil (rb_nil (K1 _ H3 (f2.trans f3) b3)))))))))
  have q : spYes b H' Q := fun H'' f2 bb => q H'' (f.trans f2) bb
  have st := st.fr f bb
  have hEnt : ∀ {σ : L2.St} {p0 p1 pos : Pos}, Slot nq_ends σ "box" (.ref b) → Ev X (· = b) b [(v3, d3)] σ (LG 8 60) (.Call (.Name "_law_entries" p0) [.Name "box" p1] [] pos) := fun {σ p0 p1 pos} s H Q st q => by
    refine re_call c dME (by decide) (by walk_at "gm") (ra_cons (re_name c s (by walk_at "gm") .loc (ra_nil ?_)))
    exact ⟨b, rfl, st.box, fun u e H2 r2 k2 f2 b2 => q u e H2 f2 b2 r2 k2⟩
  refine rb_cons (rs_for_ev (R := Gd 8) (n := 62) (x := "value") (r0 := r) c (fun r => [some (.ref b), some v3, r]) (by walk_at "gm") (by walk_at "gm") (fun r y => by walk_at "gs") st (fun Q qq => ?_) (fun y d H' K hy st K1 => ?_) fun r H' f bb => ?_)
  · exact ev_use (R := LG 8 62) st (ev_catL (l1 := 60) (l2 := 2) (hEnt (by walk_at "gs")) (by walk_at "em")) qq
  · have ky := st.dat (y, d) List.mem_cons_self
    have g20 : Gd 20 d := gd_up hy 20 (by decide)
    refine rb_cons (rs_if (rt_not (rt_val ?_)))
    refine re_call c dS (by decide) (by walk_at "gm") (ra_cons ?_)
    refine re_call c dT (by decide) (by walk_at "gm") ?_
    walk_at "e"
    refine ⟨_, y, d, rfl, ky, g20, fun u1 H1 f1 h1 => ?_⟩
    refine ra_cons ?_
    refine re_call c dU (by decide) (by walk_at "gm") ?_
    walk_at "e"
    refine re_call c dQ (by decide) (by walk_at "gm") ?_
    walk_at "e"
    refine ⟨_, y, d, rfl, ky.fr f1.any, g20, fun H2 f2 => ⟨_, rfl, ?_⟩⟩
    have b2 := (st.box.fr f1).fr f2
    refine ite2 (fun e3 => ?_) (fun e3 => ?_)
    · have en : enF d = none := if_pos e3
      rw [en] at h1
      walk_at "e"
      refine ⟨_, y, d, none, rfl, ky.fr (f1.trans f2).any, fun u3 H3 f3 h3 => ?_⟩
      refine ra_nil ⟨_, u1, u3, NoB, NoB, rfl, h1.fr (f2.trans f3), h3, dep_tD g20, fun H4 f4 => ⟨true, rfl, iteNT (rb_nil (rb_nil (K1 _ H4 (((f1.trans f2).trans f3).trans f4).any (b2.fr (f3.trans f4)))))⟩⟩
    · have en : enF d = some 2 := if_neg e3
      rw [en] at h1
      walk_at "e"
      refine ⟨_, y, d, some 2, rfl, ky.fr (f1.trans f2).any, fun u3 H3 f3 h3 => ?_⟩
      refine ra_nil ⟨_, u1, u3, NoB, NoB, rfl, h1.fr (f2.trans f3), h3, dep_tD g20, fun H4 f4 => ⟨true, rfl, iteNT (rb_nil (rb_nil (K1 _ H4 (((f1.trans f2).trans f3).trans f4).any (b2.fr (f3.trans f4)))))⟩⟩
  walk_at "e0"
  exact q H' f bb
end
def isRtD (d : D) : Prop := ∃ a e : Int, d = .tup [.int a, .int e] ∧ 1 ≤ a ∧ a ≤ e ∧ e ≤ 1000
theorem gd_rt {n : Nat} {d : D} (h : isRtD d) : Gd (n + 1) d := by
  obtain ⟨a, e, rfl, h1, h2, h3⟩ := h
  have p : (1000 : Int) ≤ 10 ^ 30 := by decide +kernel
  have p0 : (0 : Int) ≤ 10 ^ 30 := by decide +kernel
  exact .tup (by simp) (two_all (gd_i (by omega) (by omega)) (gd_i (by omega) (by omega)))
theorem nl_rt {d : D} (h : isRtD d) : NoL d := by
  obtain ⟨a, e, rfl, _⟩ := h
  exact .tup (two_all .int .int)
theorem bnd_rt {d : D} (h : isRtD d) : pBnd d = true := by
  obtain ⟨a, e, rfl, h1, h2, h3⟩ := h
  show bnd2 (.int a) (.int e) = true
  show (decide (1 ≤ a) && (decide (a ≤ e) && decide (e ≤ 1000))) = true
  rw [decide_eq_true h1, decide_eq_true h2, decide_eq_true h3]
  rfl
section
variable {X : Cx} {vs : List V} {H : Hp} {Q : VK} {E : XK}
theorem body_rate (c : Ctx X nq_rate lq_rate 2) (dT : DefP X.prog X.w X.K X.mg X.base CX0 "_law_take" ["box", "many"] 1 spTake) (dP : DefP X.prog X.w X.K X.mg X.base CX0 "_law_pick" ["box", "some"] 2 (spPick X.K)) (h : spDr isRtD X.K vs H Q E) :
    RB X (defBody sq_rate) { nx := fun _ H' => Q .non H', rt := Q } (start nq_rate vs) H := by
  obtain ⟨b, rfl, hB, q⟩ := h
  show RB X (defBody sq_rate) _ [some (.ref b), none] H
  have st : ST X.K (· = b) b [] H := ST.one hB
  refine rb_cons (rs_set c (by walk_at "gm") .loc (by walk_at "gm") ?_)
  refine ev_use (R := IR 1 1000) st (by walk_at "evP"; walk_at "evs" <;> walk_at "evI") fun v1 d1 H1 f1 b1 r1 k1 => ?_
  obtain ⟨a, rfl, a0, a1⟩ := r1
  cases k1
  have st := (st.fr f1 b1).add (v := .int a) (d := .int a) .int
  refine ⟨_, by walk_at "gs", ?_⟩
  refine rb_cons (rs_ret (re_tup (ra_cons (re_name c (by walk_at "gs") (by walk_at "gm") .loc (ra_cons ?_)))))
  have r0 : IR a 1000 (.int a) := ⟨a, rfl, Int.le_refl _, a1⟩
  have r9 : IR a 1000 (.int 1000) := ⟨1000, rfl, a1, Int.le_refl _⟩
  refine ev_use (R := IR a 1000) st ?_ fun v2 d2 H2 f2 b2 r2 k2 => ra_nil ?_
  · walk_at "evP"
    refine evs_cons (ev_name c (by walk_at "gs") (by walk_at "gm") (by walk_at "gm") .loc r0) (evs_cons (ev_de DE.int r9) (evs_cons ?_ evs_nil))
    intro H Q st q
    refine re_bin (re_name c (by walk_at "gs") (by walk_at "gm") .loc ?_)
    refine ev_use st (ev_takeX (mm := 1001 - a) c dT (by decide) (by walk_at "gm") (by walk_at "gs") (by walk_at "gm") .loc (fun H Q q => ?_) (by omega) (Int.lt_of_le_of_lt (show 1001 - a ≤ 1000 by omega) (by decide +kernel))) fun v d H3 f3 b3 r3 k3 => ?_
    · walk_at "e"
      exact q
    · obtain ⟨i, rfl, i0, i1⟩ := r3
      cases k3
      exact ov_add (q _ (.int (a + i)) H3 f3 b3 ⟨_, rfl, by omega, by omega⟩ .int)
  obtain ⟨e, rfl, e0, e1⟩ := r2
  cases k2
  refine ⟨by show 2 ≤ sizeLine; decide, fun p hp => ?_⟩
  have hr : isRtD (.tup [.int a, .int e]) := ⟨a, e, rfl, a0, e0, e1⟩
  exact q _ _ _ hr (nl_rt hr) (Dt.newT hp (b2.ne hp) (.cons .int (.cons .int .nil))) ((f1.trans f2).trans (Fr.new hp)) (b2.put (b2.ne hp))
end
theorem ff_first {α : Type} {p : Nat → α → Bool} : ∀ (l : List α) (i j : Nat) (x : α), l[j]? = some x → p (i + j) x = true → (∀ k y, k < j → l[k]? = some y → p (i + k) y = false) → ff p i l = some (i + j)
  | [], i, j, x, h, _, _ => by simp at h
  | y :: r, i, 0, x, h, hp, _ => by
    obtain rfl : y = x := by simpa using h
    show (if p i y = true then some i else _) = _
    rw [if_pos (by simpa using hp)]
    rfl
  | y :: r, i, j + 1, x, h, hp, hb => by
    have h0 := hb 0 y (by omega) rfl
    show (if p i y = true then some i else ff p (i + 1) r) = _
    rw [if_neg (by rw [show i = i + 0 from rfl, h0]; decide), ff_first r (i + 1) j x (by simpa using h) (by rw [show i + 1 + j = i + (j + 1) by omega]; exact hp) fun k z hk hz => by
      rw [show i + 1 + k = i + (k + 1) by omega]
      exact hb (k + 1) z (by omega) (by simpa using hz)]
    rw [show i + 1 + j = i + (j + 1) by omega]
theorem rF_none {ds : List D} (hl : ds.length ≤ 32) (hr : ∀ d ∈ ds, isRtD d) : rF (.tup ds) = none := by
  show oN (ff badR 0 ds) = none
  rw [(ff_none ds 0).mpr fun j x h => ?_]
  · rfl
  · have hj : j < ds.length := (List.getElem?_eq_some_iff.mp h).1
    show (decide (0 + j = 32) || !pBnd x) = false
    rw [bnd_rt (hr x (List.mem_of_getElem? h)), decide_eq_false (by omega)]
    rfl
theorem rF_some {ds : List D} {j : Nat} {x : D} (h : ds[j]? = some x) (hb : j = 32 ∨ pBnd x = false) (hj : j ≤ 32) (hr : ∀ k y, k < j → ds[k]? = some y → isRtD y) : rF (.tup ds) = some (j : Int) := by
  show oN (ff badR 0 ds) = some _
  rw [ff_first ds 0 j x h ?_ fun k y hk hy => ?_]
  · show some ((0 + j : Nat) : Int) = _
    rw [Nat.zero_add]
  · show (decide (0 + j = 32) || !pBnd x) = true
    rcases hb with z | z
    · rw [decide_eq_true (by omega)]
      rfl
    · rw [z, Bool.not_false, Bool.or_true]
  · show (decide (0 + k = 32) || !pBnd y) = false
    rw [bnd_rt (hr k y hk hy), decide_eq_false (by omega)]
    rfl
theorem cutD_to {ds : List D} {k : Nat} : GT.cutD ds none (some (k : Int)) = ds.take k := by
  show (ds.drop (HT.sIx ds.length 0 none)).take (HT.sIx ds.length ds.length (some (k : Int)) - HT.sIx ds.length 0 none) = _
  rw [HT.sIx_nat, HT.sIx_none, List.drop_zero, Nat.sub_zero]
  rcases Nat.le_total k ds.length with h | h
  · rw [Nat.min_eq_left h]
  · rw [Nat.min_eq_right h, List.take_length, List.take_of_length_le h]
theorem cutD_from {ds : List D} {k : Nat} (h : k ≤ ds.length) : GT.cutD ds (some (k : Int)) none = ds.drop k := by
  show (ds.drop (HT.sIx ds.length 0 (some (k : Int)))).take (HT.sIx ds.length ds.length none - HT.sIx ds.length 0 (some (k : Int))) = _
  rw [HT.sIx_nat, HT.sIx_none, Nat.min_eq_left h]
  exact List.take_of_length_le (by rw [List.length_drop]; omega)
abbrev DRT (X : Cx) : Prop := DefP X.prog X.w X.K X.mg X.base CX0 "_law_roster_told" ["value"] 14 (spTold X.K rF)
abbrev DDU (X : Cx) : Prop := DefP X.prog X.w X.K X.mg X.base CX0 "_law_due" ["value", "fault"] 1 (spDue X.K)
abbrev DSA (X : Cx) : Prop := DefP X.prog X.w X.K X.mg X.base CX0 "_law_same" ["told", "due"] 22 (spSame X.K 21)
section
variable {X : Cx} {N : List Str} {L : List (Str × KN)} {k n : Nat} {σ : L2.St} {H : Hp} {b : Addr} {Bx : Addr → Prop} {Γ : List (V × D)} {eA eB eC : Expr} {pos p0 p1 p2 p3 p4 p5 : Pos} {d d' : D} {o : Option Int}
/-- with nothing moved -/
def EvP (X : Cx) (Bx : Addr → Prop) (b : Addr) (Γ : List (V × D)) (σ : L2.St) (d : D) (e : Expr) : Prop := ∀ (H : Hp) (Q : VK), ST X.K Bx b Γ H → (∀ v H', Fr NoB H H' → Dt X.K Bx H' v d → Q v H') → RE X e σ H Q
theorem EvP.e {e : Expr} (h : EvP X Bx b Γ σ d e) : EvE X Bx b Γ σ d e := fun H Q st q => h H Q st fun v H' f k => q v d H' f.any (st.box.fr f) rfl k
theorem evp_name (c : Ctx X N L k) {x : Str} {v : V} {j : KN} (s : Slot N σ x v) (hm : (v, d) ∈ Γ) (h : (x, j) ∈ L) (mm : Mine j) : EvP X Bx b Γ σ d (.Name x pos) := fun H Q st q => re_name c s h mm (q v H Fr.refl (st.dat _ hm))
theorem evp_de {e : Expr} (h : DE e d) : EvP X Bx b Γ σ d e := fun H Q st q => re_de h σ H Q fun v H' f hd => q v H' f (hd.mono fun a ha => st.old a ha)
theorem evp_tuple (c : Ctx X N L k) (hg : (("tuple" : Str), KN.glob) ∈ L) (hm : X.mg "tuple" = none) {e : Expr} {ds : List D} (h : EvP X Bx b Γ σ (.lst ds) e) (he : starEach (e :: []) X.env = (false, eval e X.env) :: starEach [] X.env := by with_unfolding_all rfl) (hpl : (backTo pos (starEach [] X.env)).any (·.1) = false := by with_unfolding_all rfl) :
    EvP X Bx b Γ σ (.tup ds) (.Call (.Name "tuple" p0) [e] [] pos) := fun H Q st q => by
  refine re_c_tuple c hg hm (ra_cons (h H _ st fun v1 H1 f1 k1 => ra_nil ?_) he) he hpl
  have st1 := st.fr f1.any (st.box.fr f1)
  obtain ⟨p, us, rfl, np, tp, hp⟩ := lst_at k1
  exact lv_tupL (SqL.of tp) fun r hr => q _ _ (f1.trans (Fr.new hr)) (Dt.newT hr (fun z => st1.old _ z hr) hp)
theorem rt_told (c : Ctx X N L k) {Q : Bool → Hp → Prop} (dS : DSA X) (dT : DRT X) (dU : DDU X) (hk : 22 ≤ k) (g1 : (("_law_same" : Str), KN.glob) ∈ L) (g2 : (("_law_roster_told" : Str), KN.glob) ∈ L) (g3 : (("_law_due" : Str), KN.glob) ∈ L) (st : ST X.K Bx b Γ H)
    (hA : EvE X Bx b Γ σ d eA) (hB : EvP X Bx b Γ σ d' eB) (hC : ∀ (H : Hp) (Q : VK), Q (oI o) H → RE X eC σ H Q) (hr : rF d = o) (hd : tD o d = tD o d') (hg : Gd 20 d) (q : ∀ H', Fr (· = b) H H' → BoxAt H' b → Q false H')
    (h1 : starEach [eA] X.env = (false, eval eA X.env) :: starEach [] X.env := by with_unfolding_all rfl) (h2 : starEach [eB, eC] X.env = (false, eval eB X.env) :: starEach [eC] X.env := by with_unfolding_all rfl) (h3 : starEach [eC] X.env = (false, eval eC X.env) :: starEach [] X.env := by with_unfolding_all rfl)
    (h4 : starEach [.Call (.Name "_law_roster_told" p1) [eA] [] p2, .Call (.Name "_law_due" p3) [eB, eC] [] p4] X.env = (false, eval (.Call (.Name "_law_roster_told" p1) [eA] [] p2) X.env) :: starEach [.Call (.Name "_law_due" p3) [eB, eC] [] p4] X.env := by with_unfolding_all rfl)
    (h5 : starEach [.Call (.Name "_law_due" p3) [eB, eC] [] p4] X.env = (false, eval (.Call (.Name "_law_due" p3) [eB, eC] [] p4) X.env) :: starEach [] X.env := by with_unfolding_all rfl)
    (q1 : (backTo p2 (starEach [] X.env)).any (·.1) = false := by with_unfolding_all rfl) (q2 : (backTo p4 (starEach [eC] X.env)).any (·.1) = false := by with_unfolding_all rfl) (q3 : (backTo p5 (starEach [.Call (.Name "_law_due" p3) [eB, eC] [] p4] X.env)).any (·.1) = false := by with_unfolding_all rfl)
    (hv : ∀ whole, isTrue (.Call (.Name "_law_same" p0) [.Call (.Name "_law_roster_told" p1) [eA] [] p2, .Call (.Name "_law_due" p3) [eB, eC] [] p4] [] p5) X.env whole = (do let v ← whole; standAt p5; holding [v] (truthy v)) := by intro _; with_unfolding_all rfl) :
    RT X (.UnaryOp .Not (.Call (.Name "_law_same" p0) [.Call (.Name "_law_roster_told" p1) [eA] [] p2, .Call (.Name "_law_due" p3) [eB, eC] [] p4] [] p5) pos) σ H Q := by
  refine rt_not (rt_val (re_call c dS hk g1 (ra_cons (re_call c dT (by omega) g2 (ra_cons (hA H _ st fun v1 d1 H1 f1 b1 r1 k1 => ra_nil ?_) h1) h1 q1) h4) h4 q3) hv)
  subst r1
  refine ⟨Bx, v1, d1, rfl, k1, hg, fun u1 H2 f2 m2 => ?_⟩
  have st2 := (st.fr f1 b1).fr f2.any (b1.fr f2)
  refine ra_cons (re_call c dU (by omega) g3 (ra_cons (hB H2 _ st2 fun v3 H3 f3 k3 => ra_cons (hC H3 _ (ra_nil ?_)) h3) h2) h2 q2) h5
  refine ⟨Bx, v3, d', o, rfl, k3, fun u4 H4 f4 m4 => ra_nil ?_⟩
  rw [hr] at m2
  rw [← hd] at m4
  exact ⟨tD o d1, u1, u4, NoB, NoB, rfl, m2.fr (f3.trans f4), m4, dep_tD hg, fun H5 f5 => ⟨true, rfl, q H5 (f1.trans (((f2.trans f3).trans f4).trans f5).any) ((((b1.fr f2).fr f3).fr f4).fr f5)⟩⟩
end
def spRos : Sp := fun vs H Q _ => ∃ b : Addr, vs = [.ref b] ∧ BoxAt H b ∧ spYes b H Q
def NT (d : D) : Prop := Gd 5 d ∧ (tyN d == 5) = false
def BP (d : D) : Prop := Gd 3 d ∧ pBnd d = false
theorem gd_rts {n : Nat} {ds : List D} (h : ∀ d ∈ ds, isRtD d) (hl : ds.length ≤ 200) : Gd (n + 2) (.tup ds) := .tup hl fun d hd => gd_rt (h d hd)
theorem gdl_rts {n : Nat} {ds : List D} (h : ∀ d ∈ ds, isRtD d) (hl : ds.length ≤ 200) : Gd (n + 2) (.lst ds) := .lst hl fun d hd => gd_rt (h d hd)
theorem pBnd_two {x y : D} : pBnd (.tup [x, y]) = bnd2 x y := rfl
theorem txt1000 : ∀ n : Fin 1001, (Str.ofString (toString (n.val : Int))).length ≤ 200 ∧ PyData.strOk (Str.ofString (toString (n.val : Int))) = true := by decide +kernel
theorem gd_txt {n : Nat} {a : Int} (h0 : 0 ≤ a) (h1 : a ≤ 1000) : Gd n (.str (toString a)) := by
  obtain ⟨m, rfl⟩ : ∃ m : Nat, a = m := ⟨a.toNat, by omega⟩
  have h := txt1000 ⟨m, by omega⟩
  exact .str h.1 h.2
theorem ev_bp {X : Cx} {Bx : Addr → Prop} {b : Addr} {Γ : List (V × D)} {σ : L2.St} {d : D} {e : Expr} (h : EvE X Bx b Γ σ d e) (g : BP d) : Ev X Bx b Γ σ BP e := h.mono fun x z => by
  subst z
  exact g
theorem spoilt_rF {ds : List D} {pd : D} {pn ln : Nat} (hr : ∀ d ∈ ds, isRtD d) (hp : pBnd pd = false) (h1 : pn < ds.length) (hl : ds.length ≤ 32) : rF (.tup ((ds.take pn ++ [pd] ++ ds.drop (pn + 1)).set (pn + ln) pd)) = some (pn : Int) := by
  have ll : (ds.take pn).length = pn := by rw [List.length_take]; omega
  have hx : (ds.take pn ++ [pd] ++ ds.drop (pn + 1))[pn]? = some pd := by
    rw [List.append_assoc, List.getElem?_append_right (by omega), ll, Nat.sub_self]
    rfl
  have hlt : pn < (ds.take pn ++ [pd] ++ ds.drop (pn + 1)).length := (List.getElem?_eq_some_iff.mp hx).1
  refine rF_some (x := pd) ?_ (.inr hp) (by omega) fun k y hk hy => ?_
  · rw [List.getElem?_set]
    by_cases z : pn + ln = pn
    · rw [if_pos z, if_pos (by omega)]
    · rw [if_neg z]
      exact hx
  · rw [List.getElem?_set, if_neg (by omega), List.append_assoc, List.getElem?_append_left (by omega), List.getElem?_take, if_pos hk] at hy
    exact hr y (List.mem_of_getElem? hy)
theorem gd_spoilt {ds : List D} {pd : D} {pn ln : Nat} (hr : ∀ d ∈ ds, isRtD d) (hp : Gd 3 pd) (h1 : pn < ds.length) (hl : ds.length ≤ 32) : Gd 20 (.tup ((ds.take pn ++ [pd] ++ ds.drop (pn + 1)).set (pn + ln) pd)) := by
  refine .tup ?_ fun x hx => ?_
  · rw [List.length_set, List.length_append, List.length_append, List.length_take, List.length_drop]
    show min pn ds.length + 1 + (ds.length - (pn + 1)) ≤ 200
    omega
  · have g : ∀ x ∈ ds, Gd 19 x := fun x hx => gd_up (gd_rt (n := 0) (hr x hx)) 19 (by decide)
    have gp : Gd 19 pd := gd_up hp 19 (by decide)
    rcases List.mem_or_eq_of_mem_set hx with hx | rfl
    · rcases List.mem_append.mp hx with hx | hx
      · rcases List.mem_append.mp hx with hx | hx
        · exact g x (List.mem_of_mem_take hx)
        · rw [List.mem_singleton.mp hx]
          exact gp
      · exact g x (List.mem_of_mem_drop hx)
    · exact gp
theorem last_rF {ds : List D} {pd : D} (hr : ∀ d ∈ ds, isRtD d) (hp : pBnd pd = false) : rF (.tup (ds.take 31 ++ [pd])) = some (if (31 : Int) < (ds.length : Nat) then 31 else ((ds.length : Nat) : Int)) := by
  have ll : (ds.take 31).length = min 31 ds.length := List.length_take
  rw [rF_some (j := (ds.take 31).length) (x := pd) (by rw [List.getElem?_append_right (Nat.le_refl _), Nat.sub_self]; rfl) (.inr hp) (by omega) fun k y hk hy => hr y (by
    rw [List.getElem?_append_left hk] at hy
    exact List.mem_of_mem_take (List.mem_of_getElem? hy))]
  rw [ll]
  congr 1
  split <;> omega
section
variable {X : Cx} {vs : List V} {H : Hp} {Q : VK} {E : XK}
theorem body_rosters (c : Ctx X nq_rosters lq_rosters 22) (zr : X.mg "range" = none) (zt : X.mg "tuple" = none) (zl : X.mg "len" = none) (zL : X.mg "list" = none) (zs : X.mg "str" = none) (zm : X.mg "min" = none) (dT : DefP X.prog X.w X.K X.mg X.base CX0 "_law_take" ["box", "many"] 1 spTake)
    (dP : DefP X.prog X.w X.K X.mg X.base CX0 "_law_pick" ["box", "some"] 2 (spPick X.K)) (dR : DefP X.prog X.w X.K X.mg X.base CX0 "_law_rate" ["box"] 3 (spDr isRtD X.K)) (dS : DSA X) (dO : DRT X) (dU : DDU X) (dB : DefP X.prog X.w X.K X.mg X.base CX0 "_law_base_told" ["value"] 4 (spBase X.K)) (h : spRos vs H Q E) :
    RB X (defBody sq_rosters) { nx := fun _ H' => Q .non H', rt := Q } (start nq_rosters vs) H := by
  obtain ⟨b, rfl, hB, q⟩ := h
  show RB X (defBody sq_rosters) _ [some (.ref b), none, none, none, none, none, none, none, none, none, none, none] H
  have st0 : ST X.K (· = b) b [] H := ST.one hB
  refine rb_cons (rs_lc_range c lq_rosters_c0 (by decide +kernel) (by walk_at "gm") zr (by walk_at "gm") (by walk_at "gm") ?_)
  refine ev_use (R := IR 0 32) st0 (by walk_at "evP"; walk_at "evs" <;> walk_at "evI") fun v1 d1 H1 f1 b1 r1 k1 => ?_
  obtain ⟨m, rfl, m0, m1⟩ := r1
  cases k1
  refine ⟨m, rfl, by omega, by omega, ?_⟩
  refine cturns_dr (R := isRtD) (b := b) (by omega) b1 (fun _ _ => trivial) (fun y => by walk_at "gs") ?_ ?_
  · rintro i y H2 hi rfl bx f2 s Hb C cl fp cb
    refine re_call cb dR (by decide) (by walk_at "gm") ?_
    walk_at "e"
    exact ⟨b, rfl, bx, fun v d H3 r nl hd f3 b3 => ⟨d, ⟨r, nl⟩, hd, f3, b3⟩⟩
  intro P us ds H2 hP f2 b2 hPn hds hn hr
  refine ⟨_, by walk_at "gs", ?_⟩
  have np : P ≠ b := b1.ne hP
  have kp : Dt X.K (· = b) H2 (.ref P) (.lst ds) := .lst np hPn hds.1 fun i v d a c => (hds.2 i v d a c).mono fun a e => .inl e
  have st : ST X.K (· = b) b [(.ref P, .lst ds)] H2 := (ST.one b2).add kp
  have q : spYes b H2 Q := fun H' f bb => q H' ((f1.trans f2).trans f) bb
  have hr : ∀ d ∈ ds, isRtD d := fun d hd => (hr d hd).1
  have l32 : ds.length ≤ 32 := by omega
  have lus : us.length = ds.length := hds.1
  clear hds f1 b1 f2 b2 hB st0 hP kp hn
  -- the roster itself
  refine rb_cons (rs_if (rt_told c dS dO dU (by decide) (by walk_at "gm") (by walk_at "gm") (by walk_at "gm") st (evp_tuple c (by walk_at "gm") zt (evp_name c (by walk_at "gs") (by walk_at "gm") (by walk_at "gm") .loc)).e (evp_tuple c (by walk_at "gm") zt (evp_name c (by walk_at "gs") (by walk_at "gm") (by walk_at "gm") .loc))
    (fun H Q q => by walk_at "e"; exact q) (rF_none l32 hr) rfl (gd_rts hr (by omega)) fun H3 f3 b3 => iteF (rb_nil ?_)))
  have st := st.fr f3 b3
  have q : spYes b H3 Q := fun H' f bb => q H' (f3.trans f) bb
  have tp := f3 _ _ np hPn
  clear f3 b3 hPn
  -- its number
  walk_at "e0"
  refine lv_lenL (SqL.of tp) ?_
  rw [lus]
  refine ⟨_, by walk_at "gs", ?_⟩
  -- too long a one
  walk_at "e0"
  refine re_lc_range c lq_rosters_c1 (by decide +kernel) (by walk_at "gm") zr ?_
  refine re_bin (re_bin (re_int (re_name c (by walk_at "gs") (by walk_at "gm") .loc (ov_sub ?_))))
  refine ev_use (R := IR 0 2) st (by walk_at "evI") fun v4 d4 H4 f4 b4 r4 k4 => ?_
  obtain ⟨x4, rfl, x0, x1⟩ := r4
  cases k4
  refine ov_add ⟨_, rfl, by omega, by omega, ?_⟩
  refine cturns_dr (R := isRtD) (b := b) (by omega) b4 (fun _ _ => trivial) (fun y => by walk_at "gs") ?_ ?_
  · rintro i y H2 hi rfl bx f2 s Hb C cl fp cb
    refine re_call cb dR (by decide) (by walk_at "gm") ?_
    walk_at "e"
    exact ⟨b, rfl, bx, fun v d H3 r nl hd f3 b3 => ⟨d, ⟨r, nl⟩, hd, f3, b3⟩⟩
  intro Z ws es H5 hZ f5 b5 hZn hes hn5 hr5
  have l5 : 33 ≤ ds.length + es.length ∧ ds.length + es.length ≤ 35 := by omega
  have hr5 : ∀ d ∈ ds ++ es, isRtD d := mem_app hr fun d hd => (hr5 d hd).1
  have tp5 := (f4.trans f5) _ _ np tp
  have hes : Dts X.K (· = b) H5 ws es := hes.mono fun a e => .inl e
  have hd5 : Dts X.K (· = b) H5 us ds := by
    obtain ⟨p', us', e1, _, t1, h1⟩ := lst_at ((st.fr (f4.trans f5) b5).dat (.ref P, .lst ds) (by simp))
    cases e1
    rw [tp5] at t1
    cases t1
    exact h1
  refine ov_cat tp5 hZn (by rw [lus, hes.1]; exact Nat.le_trans (show ds.length + es.length ≤ 1000 by omega) (by decide)) fun l6 hl6 => ?_
  walk_at "e"
  have b6 := b5.put (o := .lst (us ++ ws)) (b5.ne hl6)
  refine lv_tupL (SqL.of upd_same) fun l7 hl7 => ?_
  have k7 : Dt X.K (· = b) (upd (upd H5 l6 (.lst (us ++ ws))) l7 (.tup (us ++ ws))) (.ref l7) (.tup (ds ++ es)) := Dt.newT hl7 (b6.ne hl7) ((dts_app hd5 hes).fr (Fr.new hl6))
  have f7 : Fr (· = b) H3 (upd (upd H5 l6 (.lst (us ++ ws))) l7 (.tup (us ++ ws))) := ((f4.trans f5).trans (Fr.new hl6)).trans (Fr.new hl7)
  have st := (st.fr f7 (b6.put (b6.ne hl7))).add k7
  have q : spYes b (upd (upd H5 l6 (.lst (us ++ ws))) l7 (.tup (us ++ ws))) Q := fun H' f bb => q H' (f7.trans f) bb
  have tp := f7 _ _ np tp
  generalize upd (upd H5 l6 (.lst (us ++ ws))) l7 (.tup (us ++ ws)) = H8 at st q tp
  clear k7 f7 b6 hl6 hl7 hd5 hes tp5 hn5 f4 b4 f5 b5 hZ hZn
  refine ⟨_, by walk_at "gs", ?_⟩
  have rl : rF (.tup (ds ++ es)) = some ((32 : Nat) : Int) := by
    have hx : 32 < (ds ++ es).length := by rw [List.length_append]; omega
    exact rF_some (List.getElem?_eq_getElem hx) (.inl rfl) (Nat.le_refl _) fun k y _ hy => hr5 y (List.mem_of_getElem? hy)
  have gl : Gd 20 (.tup (ds ++ es)) := gd_rts hr5 (by rw [List.length_append]; omega)
  refine rb_cons (rs_if (rt_bool (rw_or (rt_told c dS dO dU (by decide) (by walk_at "gm") (by walk_at "gm") (by walk_at "gm") st (evp_name c (by walk_at "gs") (by walk_at "gm") (by walk_at "gm") .loc).e (evp_name c (by walk_at "gs") (by walk_at "gm") (by walk_at "gm") .loc)
    (fun H Q q => by walk_at "e"; exact q) rl rfl gl fun H9 f9 b9 => iteF (rw_or1 (rt_not (rt_val (re_call c dS (by decide) (by walk_at "gm") (ra_cons ?_)))))))))
  have st := st.fr f9 b9
  refine re_call c dB (by decide) (by walk_at "gm") ?_
  walk_at "e"
  refine ⟨_, _, .tup (ds ++ es), _, rfl, st.dat (_, .tup (ds ++ es)) (by simp), gl, rl, fun u10 H10 f10 m10 => ?_⟩
  walk_at "e"
  refine ⟨by show 4 ≤ sizeLine; decide, fun p hp => ?_⟩
  walk_at "e"
  have ht : Dt X.K NoB (upd H10 p (.tup [.str "bad", .bl true, .bl false, .bl true])) (.ref p) (.tup [.str "bad", .bl true, .bl false, .bl true]) := Dt.newT hp (fun z => z) (.cons .str (.cons .bl (.cons .bl (.cons .bl .nil))))
  have q : spYes b H9 Q := fun H' f bb => q H' (f9.trans f) bb
  have tp := f9 _ _ np tp
  have st := st.fr (f10.trans (Fr.new (B := NoB) (o := .tup [.str "bad", .bl true, .bl false, .bl true]) hp)).any ((st.box.fr f10).put ((st.box.fr f10).ne hp))
  have q : spYes b (upd H10 p (.tup [.str "bad", .bl true, .bl false, .bl true])) Q := fun H' f bb => q H' ((f10.trans (Fr.new (B := NoB) (o := .tup [.str "bad", .bl true, .bl false, .bl true]) hp)).any.trans f) bb
  have tp := (f10.trans (Fr.new (B := NoB) (o := .tup [.str "bad", .bl true, .bl false, .bl true]) hp)) _ _ (fun z => z) tp
  have m10 := m10.fr (Fr.new (B := NoB) (o := .tup [.str "bad", .bl true, .bl false, .bl true]) hp)
  generalize upd H10 p (.tup [.str "bad", .bl true, .bl false, .bl true]) = H11 at st q tp ht m10
  refine ⟨_, u10, _, NoB, NoB, rfl, m10, ht, .tup fun d hd => ?_, fun H12 f12 => ⟨true, rfl, iteNT (rb_nil ?_)⟩⟩
  · simp only [List.mem_cons, List.not_mem_nil, or_false] at hd
    rcases hd with rfl | rfl | rfl | rfl
    · exact .str
    · exact .bl
    · exact .bl
    · exact .bl
  have st := st.fr f12.any (st.box.fr f12)
  have q : spYes b H12 Q := fun H' f bb => q H' (f12.any.trans f) bb
  clear m10 ht f12 f10 hp f9 b9 tp
  -- no rosters
  refine rb_cons (rs_for_ev (R := NT) (n := 6) (x := "value") (r0 := none) c (fun r => [some (.ref b), some (.ref P), some (.int (ds.length : Nat)), some (.ref l7), r, none, none, none, none, none, none, none]) (by walk_at "gm") (by walk_at "gm") (fun r y => by walk_at "gs") st (fun Q qq => ?_) (fun y d H' K hy st K1 => ?_) fun rv H13 f13 b13 => ?_)
  · have pn : ∀ {σ : L2.St} {pos : Pos}, GT.Slot nq_rosters σ "pairs" (.ref P) → EvE X (· = b) b [(.ref l7, .tup (ds ++ es)), (.ref P, .lst ds)] σ (.lst ds) (.Name "pairs" pos) := fun s => eve_name c s (by walk_at "gm") (by walk_at "gm") .loc
    refine ev_use st (ev_lr (evs_cons (ev_de (by walk_at "de") ⟨by walk_at "gd", rfl⟩) (evs_cons (ev_de (by walk_at "de") ⟨by walk_at "gd", rfl⟩) (evs_cons (Ev.mono (eve_list c (by walk_at "gm") zL (pn (by walk_at "gs"))) fun d e => ?_) (evs_cons (ev_de (by walk_at "de") ⟨by walk_at "gd", rfl⟩) (evs_cons (ev_de (by walk_at "de") ⟨by walk_at "gd", rfl⟩) (evs_cons (Ev.mono (eve_lst (eve_cons (eve_tuple c (by walk_at "gm") zt (pn (by walk_at "gs"))) eve_nil)) fun d e => ?_) evs_nil))))))) qq
    · subst e
      exact ⟨gdl_rts hr (by omega), rfl⟩
    · subst e
      exact ⟨.lst (by simp) fun d hd => by rw [List.mem_singleton.mp hd]; exact gd_rts hr (by omega), rfl⟩
  · exact rb_cons (rs_if (rt_told c dS dO dU (by decide) (by walk_at "gm") (by walk_at "gm") (by walk_at "gm") st (evp_name c (by walk_at "gs") List.mem_cons_self (by walk_at "gm") .loc).e (evp_name c (by walk_at "gs") List.mem_cons_self (by walk_at "gm") .loc)
      (o := some (-1)) (fun H Q q => by walk_at "e"; exact q) (rF_n hy.2) rfl (gd_up hy.1 20 (by decide)) fun H2 f2 b2 => iteF (rb_nil (rb_nil (K1 _ H2 f2 b2)))))
  have st := st.fr f13 b13
  have q : spYes b H13 Q := fun H' f bb => q H' (f13.trans f) bb
  -- a rate
  refine rb_cons (rs_tup2 c (by walk_at "gm") .loc (by walk_at "gm") (by walk_at "gm") .loc (by walk_at "gm") ?_ (by with_unfolding_all rfl))
  refine re_call c dR (by decide) (by walk_at "gm") ?_
  walk_at "e"
  refine ⟨b, rfl, b13, fun v14 d14 H14 r14 n14 k14 f14 b14 => ?_⟩
  obtain ⟨a, e, rfl, a0, ae, e1⟩ := r14
  obtain ⟨t14, rfl, tt⟩ : ∃ t, v14 = .ref t ∧ H14 t = some (.tup [.int a, .int e]) := by
    cases k14 with
    | @tup t us _ nb tp ll hh =>
      match us, ll with
      | [u1, u2], _ =>
        have a1 := hh 0 _ _ rfl rfl
        have a2 := hh 1 _ _ rfl rfl
        cases a1
        cases a2
        exact ⟨t, rfl, tp⟩
  refine ⟨t14, _, _, rfl, SqT.of tt, _, _, by walk_at "gs", by walk_at "gs", ?_⟩
  have st : ST X.K (· = b) b [(.int e, .int e), (.int a, .int a), (.ref l7, .tup (ds ++ es)), (.ref P, .lst ds)] H14 := ((st.fr f14 b14).add .int).add .int
  have q : spYes b H14 Q := fun H' f bb => q H' (f14.trans f) bb
  clear tt k14 n14 f14 b14 f13 b13
  refine rb_cons (rs_for_evA (α := Option V × Option V × Option V × Option V) (R := BP) (n := 17) (x := "pair") (r0 := (none, none, none, none)) c (fun r => [some (.ref b), some (.ref P), some (.int (ds.length : Nat)), some (.ref l7), rv, some (.int a), some (.int e), r.1, r.2.1, r.2.2.1, r.2.2.2, none]) (fun r y => (some y, r.2)) (by walk_at "gm") (by walk_at "gm") ?_ st ?_ ?_ ?_)
  · rintro ⟨p0, pl, lt, sp⟩ y
    show Put _ [_, _, _, _, _, _, _, p0, pl, lt, sp, none] _ _ [_, _, _, _, _, _, _, some y, pl, lt, sp, none]
    walk_at "gs"
  · intro Q qq
    have p9 : (2000 : Int) ≤ 10 ^ 30 := by decide +kernel
    have p8 : -(10 ^ 30 : Int) ≤ 0 := by decide +kernel
    have ga : ∀ n, Gd n (.int a) := fun n => gd_i (Int.le_trans p8 (by omega)) (Int.le_trans (by omega) p9)
    have ge : ∀ n, Gd n (.int e) := fun n => gd_i (Int.le_trans p8 (by omega)) (Int.le_trans (by omega) p9)
    have ga1 : ∀ n, Gd n (.int (a - 1)) := fun n => gd_i (Int.le_trans p8 (by omega)) (Int.le_trans (by omega) p9)
    have ge1 : ∀ n, Gd n (.int (e + 1)) := fun n => gd_i (Int.le_trans p8 (by omega)) (Int.le_trans (by omega) p9)
    refine ev_use st (ev_lr ?_) qq
    repeat' (first
      | exact evs_nil
      | refine evs_cons ?_ ?_
      | exact ev_bp (by walk_at "ee") ⟨by repeat' first | exact ga _ | exact ge _ | exact ga1 _ | exact ge1 _ | exact gd_txt (by omega) (by omega) | exact gdl_nil | refine gdl_cons ?_ ?_ | exact Gd.non | exact Gd.bl | exact Gd.int (by decide +kernel) | exact Gd.str (by decide +kernel) (by decide +kernel) | refine Gd.tup (by simp) ?_ | refine Gd.lst (by simp) ?_, by first | rfl | (rw [pBnd_two]; simp only [bnd2, Bool.and_eq_false_iff, decide_eq_false_iff_not]; omega)⟩)
  · rintro ⟨p0, pl, lt, sp⟩ y d H' K hy st K1
    show RB X _ _ [some (.ref b), some (.ref P), some (.int (ds.length : Nat)), some (.ref l7), rv, some (.int a), some (.int e), some y, pl, lt, sp, none] H'
    have pnE : ∀ {Γ : List (V × D)} {σ : L2.St} {pos : Pos}, GT.Slot nq_rosters σ "pairs" (.ref P) → (V.ref P, D.lst ds) ∈ Γ → EvE X (· = b) b Γ σ (.lst ds) (.Name "pairs" pos) := fun s hm => eve_name c s hm (by walk_at "gm") .loc
    have g4 : Gd 3 d := hy.1
    have c31 : GT.cutD ds none (some 31) = ds.take 31 := cutD_to (k := 31)
    have gT : Gd 20 (.tup (GT.cutD ds none (some 31) ++ [d])) := by
      rw [c31]
      refine .tup (by rw [List.length_append, List.length_take]; show min 31 ds.length + 1 ≤ 200; omega) fun x hx => ?_
      rcases List.mem_append.mp hx with hx | hx
      · exact gd_up (gd_rt (n := 0) (hr x (List.mem_of_mem_take hx))) 19 (by decide)
      · rw [List.mem_singleton.mp hx]
        exact gd_up g4 19 (by decide)
    refine rb_cons (rs_if ?_)
    walk_at "e"
    refine ite2 (fun z1 => ?_) (fun z1 => ?_)
    · have z1 : (0 : Int) < (ds.length : Nat) := of_decide_eq_true z1
      have mb : ((ds.length : Nat) : Int) < 2 ^ 110 := Int.lt_of_le_of_lt (show ((ds.length : Nat) : Int) ≤ 32 by omega) (by decide +kernel)
      refine rb_cons (rs_set c (by walk_at "gm") .loc (by walk_at "gm") ?_)
      refine ev_use st (ev_takeX (mm := (ds.length : Nat)) c dT (by decide) (by walk_at "gm") (by walk_at "gs") (by walk_at "gm") .cell (fun H Q q => by walk_at "e"; exact q) z1 mb) fun v1 d1 H1 f1 b1 r1 k1 => ?_
      obtain ⟨pi, rfl, pi0, pi1⟩ := r1
      obtain ⟨pn, rfl⟩ : ∃ n : Nat, pi = n := ⟨pi.toNat, by omega⟩
      cases k1
      have st := st.fr f1 b1
      refine ⟨_, by walk_at "gs", ?_⟩
      refine rb_cons (rs_set c (by walk_at "gm") .loc (by walk_at "gm") ?_)
      refine ev_use st (ev_takeX (mm := (ds.length : Nat) - (pn : Nat)) c dT (by decide) (by walk_at "gm") (by walk_at "gs") (by walk_at "gm") .cell (fun H Q q => by walk_at "e"; exact q) (by omega) (Int.lt_of_le_of_lt (show ((ds.length : Nat) : Int) - (pn : Nat) ≤ 32 by omega) (by decide +kernel))) fun v2 d2 H2 f2 b2 r2 k2 => ?_
      obtain ⟨li, rfl, li0, li1⟩ := r2
      obtain ⟨ln, rfl⟩ : ∃ n : Nat, li = n := ⟨li.toNat, by omega⟩
      cases k2
      have st := st.fr f2 b2
      refine ⟨_, by walk_at "gs", ?_⟩
      have hpl : pn < ds.length := by omega
      refine rb_cons (rs_set c (by walk_at "gm") .loc (by walk_at "gm") ?_)
      refine re_bin ?_
      refine ev_use st (eve_cat (eve_cut (a := none) (c := some (pn : Int)) (pnE (by walk_at "gs") (by walk_at "gm")) (fun H Q q => by walk_at "e"; exact q) (fun H Q q => by walk_at "e"; exact q)) (eve_lst (eve_cons (eve_name c (by walk_at "gs") List.mem_cons_self (by walk_at "gm") .loc) eve_nil)) (by
        rw [cutD_to, List.length_take]
        show min pn ds.length + 1 ≤ 1000
        omega)) fun v3 d3 H3 f3 b3 r3 k3 => ?_
      subst r3
      have st := st.fr f3 b3
      refine ev_use st (eve_cut (a := some ((pn : Int) + 1)) (c := none) (pnE (by walk_at "gs") (by walk_at "gm")) (fun H Q q => by walk_at "e"; exact q) (fun H Q q => by walk_at "e"; exact q)) fun v4 d4 H4 f4 b4 r4 k4 => ?_
      subst r4
      have st := st.fr f4 b4
      rw [cutD_to] at k3
      rw [show ((pn : Int) + 1) = ((pn + 1 : Nat) : Int) from rfl, cutD_from (by omega)] at k4
      obtain ⟨q3, us3, rfl, _, t3, h3⟩ := lst_at (k3.fr f4)
      obtain ⟨q4, us4, rfl, _, t4, h4⟩ := lst_at k4
      have lS : us3.length + us4.length = ds.length := by
        rw [h3.1, h4.1, List.length_append, List.length_take, List.length_drop]
        show min pn ds.length + 1 + (ds.length - (pn + 1)) = ds.length
        omega
      refine ov_cat t3 t4 (by rw [lS]; exact Nat.le_trans (show ds.length ≤ 1000 by omega) (by decide)) fun p5 hp5 => ?_
      have np5 : p5 ≠ b := b4.ne hp5
      refine ⟨_, by walk_at "gs", ?_⟩
      have fs : Fr (· = b) H4 (upd (upd H4 p5 (.lst (us3 ++ us4))) p5 (.lst ((us3 ++ us4).set (pn + ln) y))) := fun x o nx ex => by
        have : x ≠ p5 := fun z => by rw [z, hp5] at ex; cases ex
        rw [upd_ne this, upd_ne this]
        exact ex
      have hS : Dts X.K (· = b) H4 ((us3 ++ us4).set (pn + ln) y) ((ds.take pn ++ [d] ++ ds.drop (pn + 1)).set (pn + ln) d) := dts_set (dts_app h3 h4) (st.dat (y, d) List.mem_cons_self)
      have kS : Dt X.K (· = b) (upd (upd H4 p5 (.lst (us3 ++ us4))) p5 (.lst ((us3 ++ us4).set (pn + ln) y))) (.ref p5) (.lst ((ds.take pn ++ [d] ++ ds.drop (pn + 1)).set (pn + ln) d)) := .lst np5 upd_same hS.1 fun i v d a c => (hS.2 i v d a c).fr fs
      refine rb_cons (rs_sub (re_name c (by walk_at "gs") (by walk_at "gm") .loc (re_name c (by walk_at "gs") (by walk_at "gm") .loc ?_)))
      walk_at "e"
      refine ⟨p5, us3 ++ us4, _, pn + ln, rfl, rfl, upd_same, ?_, ?_⟩
      · unfold ixN
        rw [List.length_append, lS, if_pos (by omega), if_pos (by omega)]
        congr 1
      have st := (st.fr fs ((b4.put np5).put np5)).add kS
      have gS : Gd 20 (.tup ((ds.take pn ++ [d] ++ ds.drop (pn + 1)).set (pn + ln) d)) := gd_spoilt hr g4 hpl l32
      refine rb_cons (rs_if (rt_told c dS dO dU (by decide) (by walk_at "gm") (by walk_at "gm") (by walk_at "gm") st (evp_tuple c (by walk_at "gm") zt (evp_name c (by walk_at "gs") List.mem_cons_self (by walk_at "gm") .loc)).e (evp_tuple c (by walk_at "gm") zt (evp_name c (by walk_at "gs") List.mem_cons_self (by walk_at "gm") .loc))
        (o := some (pn : Int)) (fun H Q q => by walk_at "e"; exact q) (spoilt_rF hr hy.2 hpl l32) rfl gS fun H6 f6 b6 => iteF (rb_nil (rb_nil ?_))))
      have st := st.fr f6 b6
      refine rb_cons (rs_if (rt_told c dS dO dU (by decide) (by walk_at "gm") (by walk_at "gm") (by walk_at "gm") st (eve_tuple c (by walk_at "gm") zt (eve_cat (eve_cut (a := none) (c := some 31) (pnE (by walk_at "gs") (by walk_at "gm")) (fun H Q q => by walk_at "e"; exact q) (fun H Q q => by walk_at "e"; exact q)) (eve_lst (eve_cons (d := d) (eve_name c (by walk_at "gs") (by walk_at "gm") (by walk_at "gm") .loc) eve_nil)) (by
        rw [c31, List.length_take]
        show min 31 ds.length + 1 ≤ 1000
        omega))) (evp_de (d := .tup []) (by walk_at "de")) (o := some (if (31 : Int) < (ds.length : Nat) then 31 else ((ds.length : Nat) : Int))) (fun H Q q => by
        walk_at "e"
        exact q) (by rw [c31]; exact last_rF hr hy.2) rfl gT fun H7 f7 b7 => iteF (rb_nil (rb_nil (K1 (some y, some (.int (pn : Nat)), some (.int (ln : Nat)), some (.ref p5)) H7 ((((((f1.trans f2).trans f3).trans f4).trans fs).trans f6).trans f7) b7)))))
    · refine rb_nil ?_
      refine rb_cons (rs_if (rt_told c dS dO dU (by decide) (by walk_at "gm") (by walk_at "gm") (by walk_at "gm") st (eve_tuple c (by walk_at "gm") zt (eve_cat (eve_cut (a := none) (c := some 31) (pnE (by walk_at "gs") (by walk_at "gm")) (fun H Q q => by walk_at "e"; exact q) (fun H Q q => by walk_at "e"; exact q)) (eve_lst (eve_cons (d := d) (eve_name c (by walk_at "gs") (by walk_at "gm") (by walk_at "gm") .loc) eve_nil)) (by
        rw [c31, List.length_take]
        show min 31 ds.length + 1 ≤ 1000
        omega))) (evp_de (d := .tup []) (by walk_at "de")) (o := some (if (31 : Int) < (ds.length : Nat) then 31 else ((ds.length : Nat) : Int))) (fun H Q q => by
        walk_at "e"
        exact q) (by rw [c31]; exact last_rF hr hy.2) rfl gT fun H7 f7 b7 => iteF (rb_nil (rb_nil (K1 (some y, pl, lt, sp) H7 (f7) b7)))))
  · rintro ⟨p0, pl, lt, sp⟩ H' f bb
    show RB X _ _ [some (.ref b), some (.ref P), some (.int (ds.length : Nat)), some (.ref l7), rv, some (.int a), some (.int e), p0, pl, lt, sp, none] H'
    walk_at "e0"
    exact q H' f bb
end
theorem box_other {H H' : Hp} {b e : Addr} (h : BoxAt H b) (f : Fr (· = e) H H') (n : b ≠ e) : BoxAt H' b := by
  obtain ⟨i, j, h1, h2⟩ := h
  exact ⟨i, j, f _ _ n h1, h2⟩
theorem keep_new {H H1 H2 H3 : Hp} {b : Addr} (f : Fr NoB H H1) (hb : H1 b = none) (g : Fr NoB H1 H2) (k : Fr (· = b) H2 H3) : Fr NoB H H3 := fun a u _ e => by
  have e1 := f a u (fun z => z) e
  exact k a u (fun z => by rw [z, hb] at e1; cases e1) (g a u (fun z => z) e1)
def spLaw (K : PySem.W.Frag) : Sp := fun vs H Q _ => ∃ (a : Addr) (ns : List Int), vs = [.ref a] ∧ SqL K H a (ns.map V.int) ∧ ns.length ≤ 63 ∧ ∀ H', Q (.bl true) H'
structure LawD (X : Cx) : Prop where
  bx : DefP X.prog X.w X.K X.mg X.base CX0 "_law_box" ["script", "k"] 1 (spBox X.K)
  tk : DefP X.prog X.w X.K X.mg X.base CX0 "_law_take" ["box", "many"] 1 spTake
  wd : DefP X.prog X.w X.K X.mg X.base CX0 "_law_words" [] 1 spWords
  id : DefP X.prog X.w X.K X.mg X.base CX0 "_law_id" ["box"] 3 (spDr isIdD X.K)
  fr : DefP X.prog X.w X.K X.mg X.base CX0 "_law_fraction" ["box"] 3 (spDr isFrD X.K)
  dd : DefP X.prog X.w X.K X.mg X.base CX0 "_law_deed" ["box", "word"] 9 (spDeed X.K)
  ak : DA X
  sw : DefP X.prog X.w X.K X.mg X.base CX0 "_law_swept" ["box", "word"] 24 spSwept
  en : DefP X.prog X.w X.K X.mg X.base CX0 "_law_ends" ["box"] 24 spEnds
  ro : DefP X.prog X.w X.K X.mg X.base CX0 "_law_rosters" ["box"] 23 spRos
  zs : X.mg "sorted" = none
  zr : X.mg "range" = none
  zi : X.mg "int" = none
section
variable {X : Cx} {N : List Str} {L : List (Str × KN)} {k : Nat} {σ : L2.St} {b : Addr} {Γ : List (V × D)} {w : Str} {pos : Pos}
theorem ev_deed (c : Ctx X N L k) {p0 p1 p2 : Pos} (F : DefP X.prog X.w X.K X.mg X.base CX0 "_law_deed" ["box", "word"] 9 (spDeed X.K)) (hn : 9 ≤ k) (hg : (("_law_deed" : Str), KN.glob) ∈ L) (s : Slot N σ "box" (.ref b)) (hb : (("box" : Str), KN.loc) ∈ L) (s2 : Slot N σ "word" (.str w)) (hw2 : (("word" : Str), KN.loc) ∈ L) (hw : w ∈ lawTab.map (·.1))
    (he : starEach [.Name "box" p1, .Name "word" p2] X.env = (false, eval (.Name "box" p1) X.env) :: starEach [.Name "word" p2] X.env := by with_unfolding_all rfl) (he2 : starEach [.Name "word" p2] X.env = (false, eval (.Name "word" p2) X.env) :: starEach [] X.env := by with_unfolding_all rfl) (hpl : (backTo pos (starEach [.Name "word" p2] X.env)).any (·.1) = false := by with_unfolding_all rfl) :
    Ev X (· = b) b Γ σ (Gd 8) (.Call (.Name "_law_deed" p0) [.Name "box" p1, .Name "word" p2] [] pos) := fun H Q st q => by
  refine re_call c F hn hg (ra_cons (re_name c s hb .loc (ra_cons (re_name c s2 hw2 .loc (ra_nil ?_)) he2)) he) he hpl
  exact ⟨b, w, rfl, hw, st.box, fun v d H' r k f bb => q v d H' f bb (gd_TG (tg_dd hw r).1 (by decide)) k⟩
end
section
variable {X : Cx} {vs : List V} {H : Hp} {Q : VK} {E : XK}
theorem body_law (c : Ctx X nq_law lq_law 24) (F : LawD X) (h : spLaw X.K vs H Q E) : RB X (defBody sq_law) { nx := fun _ H' => Q .non H', rt := Q } (start nq_law vs) H := by
  obtain ⟨a, ns, rfl, hS, h63, q⟩ := h
  have zi := F.zi
  have dT := F.tk
  have dI := F.id
  have dF := F.fr
  show RB X (defBody sq_law) _ [some (.ref a), none, none, none, none, none] H
  refine rb_cons (rs_set c (by walk_at "gm") .loc (by walk_at "gm") ?_)
  refine re_c_sorted c (by walk_at "gm") F.zs (ra_cons ?_)
  refine re_call0 c F.wd (by decide) (by walk_at "gm") ⟨rfl, fun wp as H0 hwp0 f0 hwp hwd => ?_⟩
  refine ra_nil (lv_sortedD c hwp (wkv_keys hwd.1) (by rw [List.length_map]; decide) fun ys l py _ hl => ?_)
  have f1 : Fr NoB H (upd H0 l (.lst (ys.map V.str))) := f0.trans (Fr.new hl)
  have tl : upd H0 l (.lst (ys.map V.str)) l = some (.lst (ys.map V.str)) := upd_same
  have ly : ys.length = 11 := by
    rw [py.length_eq]
    decide
  have key : ∀ w ∈ ys, w ∈ lawTab.map (·.1) := fun w hw => py.mem_iff.mp hw
  generalize upd H0 l (.lst (ys.map V.str)) = H1 at f1 tl
  clear hl hwp hwd hwp0 f0 py
  refine ⟨_, by walk_at "gs", ?_⟩
  refine rb_cons (rs_set c (by walk_at "gm") .loc (by walk_at "gm") ?_)
  refine re_call c F.bx (by decide) (by walk_at "gm") ?_
  walk_at "e"
  refine ⟨a, ns, 0, rfl, f1.seqL (fun z => z) hS, h63, by decide, by decide, fun b H2 hb f2 hB2 => ?_⟩
  refine ⟨_, by walk_at "gs", ?_⟩
  refine rb_cons (rs_set c (by walk_at "gm") .loc (by walk_at "gm") ?_)
  refine ev_use (R := IR 0 10) (ST.one hB2) (by walk_at "evI") fun v3 d3 H3 f3 b3 r3 k3 => ?_
  obtain ⟨fi, rfl, fi0, fi1⟩ := r3
  cases k3
  have fa : Fr NoB H H3 := keep_new f1 hb f2 f3
  have nlb : l ≠ b := fun z => by rw [z, hb] at tl; cases tl
  have tl : H3 l = some (.lst (ys.map V.str)) := f3 _ _ nlb (f2 _ _ (fun z => z) tl)
  have hbH : H b = none := f1.free hb
  have nab : ∀ {H4 H5 : Hp}, Fr NoB H H4 → Fr (· = b) H4 H5 → Fr NoB H H5 := fun f g x u _ e => g x u (fun z => by rw [z, hbH] at e; cases e) (f x u (fun z => z) e)
  refine ⟨_, by walk_at "gs", ?_⟩
  refine rb_cons ?_
  refine rs_for_range c (by walk_at "gm") .loc (by walk_at "gm") (by walk_at "gm") F.zr ?_
  walk_at "e"
  refine ⟨by decide, by decide, fun i σ H' => Fr NoB H H' ∧ H' l = some (.lst (ys.map V.str)) ∧ BoxAt H' b ∧ ∃ t, σ = [some (.ref a), some (.ref l), some (.ref b), some (.int fi), t, none], ⟨fa, tl, b3, _, rfl⟩, fun _ _ _ _ _ => trivial, ?_, ?_⟩
  · rintro i y σ H4 hi rfl ⟨f4, t4, b4, t, rfl⟩
    have hi : i < 3 := hi
    refine ⟨_, by walk_at "gs", ?_⟩
    refine rb_cons (rs_if (rt_not (rt_val ?_)))
    refine re_call c F.sw (by decide) (by walk_at "gm") (ra_cons ?_)
    refine re_call c F.bx (by decide) (by walk_at "gm") ?_
    walk_at "e"
    refine ⟨a, ns, (i : Int) + 1, rfl, f4.seqL (fun z => z) hS, h63, by omega, by omega, fun b5 H5 hb5 f5 hB5 => ?_⟩
    walk_at "e"
    obtain ⟨v, hv, hm⟩ := mem_at (xs := ys.map V.str) (d := (fi + 4 * (i : Int)) % 11) (by omega) (by rw [List.length_map, ly]; omega)
    obtain ⟨w, hw, rfl⟩ := List.mem_map.mp hm
    have t5 := f5 _ _ (fun z => z) t4
    have n5 : l ≠ b5 := fun z => by rw [z, hb5] at t4; cases t4
    have nb5 : b ≠ b5 := fun z => by
      obtain ⟨x, y, e, _⟩ := b4
      rw [z, hb5] at e
      cases e
    refine iv_list (SqL.of t5) hv ?_
    walk_at "e"
    refine ⟨b5, w, rfl, key w hw, hB5, fun H6 f6 b6 => ⟨true, rfl, iteNT (rb_nil (rb_nil ?_))⟩⟩
    exact ⟨keep_new f4 hb5 f5 f6, f6 _ _ n5 t5, box_other (b4.fr f5) f6 nb5, _, rfl⟩
  · rintro σ H4 ⟨f4, t4, b4, t, rfl⟩
    refine rb_cons (rs_for_list c (by walk_at "gm") .loc (by walk_at "gm") (re_name c (by walk_at "gs") (by walk_at "gm") .loc ?_))
    refine ⟨l, ys.map V.str, rfl, SqL.of t4, fun i σ H' => Fr NoB H H' ∧ H' l = some (.lst (ys.map V.str)) ∧ BoxAt H' b ∧ ∃ t s, σ = [some (.ref a), some (.ref l), some (.ref b), some (.int fi), t, s], ⟨f4, t4, b4, _, _, rfl⟩, fun i σ H' _ p => SqL.of p.2.1, ?_, ?_⟩
    · rintro i y σ H5 hi hy ⟨f5, t5, b5, t, s, rfl⟩
      obtain ⟨w, hw, rfl⟩ := List.mem_map.mp (List.mem_of_getElem? hy)
      refine ⟨_, by walk_at "gs", ?_⟩
      have st : ST X.K (· = b) b [] H5 := ST.one b5
      refine rb_cons (rs_if (rt_asked c F.ak (by decide) (by walk_at "gm") st (Ev.tg (ev_tup (l := 60) (n := 19) (evs_cons (by walk_at "em") (evs_cons (by walk_at "em") (evs_cons (Ev.up (ev_deed c F.dd (by decide) (by walk_at "gm") (by walk_at "gs") (by walk_at "gm") (by walk_at "gs") (by walk_at "gm") (key w hw)) (by decide)) evs_nil))))) fun H6 f6 b6 => iteF (rb_nil (rb_nil ?_))))
      exact ⟨nab f5 f6, f6 _ _ nlb t5, b6, _, _, rfl⟩
    · rintro σ H5 ⟨f5, t5, b5, t, s, rfl⟩
      refine rb_cons (rs_ret (re_and ?_))
      refine re_call c F.en (by decide) (by walk_at "gm") (ra_cons ?_)
      refine re_call c F.bx (by decide) (by walk_at "gm") ?_
      walk_at "e"
      refine ⟨a, ns, 4, rfl, f5.seqL (fun z => z) hS, h63, by decide, by decide, fun b6 H6 hb6 f6 hB6 => ?_⟩
      have nb6 : b ≠ b6 := fun z => by
        obtain ⟨x, y, e, _⟩ := b5
        rw [z, hb6] at e
        cases e
      refine ra_nil ⟨b6, rfl, hB6, fun H7 f7 b7 => ⟨true, rfl, iteT ?_⟩⟩
      have fh := keep_new f5 hb6 f6 f7
      have bb := box_other (b5.fr f6) f7 nb6
      refine re_and ?_
      refine re_call c F.ro (by decide) (by walk_at "gm") (ra_cons ?_)
      refine re_call c F.bx (by decide) (by walk_at "gm") ?_
      walk_at "e"
      refine ⟨a, ns, 5, rfl, fh.seqL (fun z => z) hS, h63, by decide, by decide, fun b8 H8 hb8 f8 hB8 => ?_⟩
      have nb8 : b ≠ b8 := fun z => by
        obtain ⟨x, y, e, _⟩ := bb
        rw [z, hb8] at e
        cases e
      refine ra_nil ⟨b8, rfl, hB8, fun H9 f9 b9 => ⟨true, rfl, iteT ?_⟩⟩
      have bc := box_other (bb.fr f8) f9 nb8
      refine re_one ?_
      refine re_call c F.ro (by decide) (by walk_at "gm") ?_
      walk_at "e"
      exact ⟨b, rfl, bc, fun H10 f10 b10 => q H10⟩
end
/-! ### the tables of the top -/
abbrev ckTab : List (Str × Str) := [("kept", "is_kept"), ("node", "is_node"), ("id", "is_id"), ("term", "is_term"), ("most", "is_most"), ("entry", "is_entry"), ("answer", "is_answer")]
def partB (K : PySem.W.Frag) (x : Str × List Str) : Bool := He.eqO (PySem.W.nsIn K (He.ga K "PARTS") x.1) (some (some (.ref (atK K (He.ga K "PARTS") x.1)))) && tupAB K (atK K (He.ga K "PARTS") x.1) (x.2.map V.str)
def partsB (K : PySem.W.Frag) : Bool := kindTab.all (partB K)
def ckB (K : PySem.W.Frag) (x : Str × Str) : Bool := He.eqO (PySem.W.nsIn K (He.ga K "CHECKS") x.1) (some (some (.ref (atK K (He.ga K "CHECKS") x.1)))) && decide (atK K (He.ga K "CHECKS") x.1 = He.ga K x.2)
def checksB (K : PySem.W.Frag) : Bool := ckTab.all (ckB K)
theorem Ctx.le {X : Cx} {N : List Str} {L : List (Str × KN)} {k m : Nat} (c : Ctx X N L k) (h : m ≤ k) : Ctx X N L m := ⟨c.n, c.nd, c.look, c.dbg, c.calm, c.room.mono h, c.po, c.kind⟩
/-! ### the facts of the top -/
def dD (x : Str) (st : Stmt) : He.DefD := ⟨(x, none), x, x, defArgs st, defBody st, defScope st, [], []⟩
abbrev sIniBadEvent : Stmt := inCls (top 7) 0
def dIniBadEvent : He.DefD := ⟨("BadEvent", some "__init__"), "__init__", "BadEvent.__init__", defArgs sIniBadEvent, defBody sIniBadEvent, defScope sIniBadEvent, [], []⟩
abbrev sIniBadRoster : Stmt := inCls (top 9) 0
def dIniBadRoster : He.DefD := ⟨("BadRoster", some "__init__"), "__init__", "BadRoster.__init__", defArgs sIniBadRoster, defBody sIniBadRoster, defScope sIniBadRoster, [], []⟩
abbrev fns : List He.DefD := [dD "label_fault" sq_label_fault, dD "is_label" sq_is_label, dD "name_fault" sq_name_fault, dD "is_whole" sq_is_whole, dD "fraction_fault" sq_fraction_fault, dD "is_name" sq_is_name, dD "is_fraction" sq_is_fraction, dD "is_node" sq_is_node, dD "is_most" sq_is_most, dD "is_count" sq_is_count, dD "is_id" sq_is_id, dD "is_kept" sq_is_kept, dD "is_term" sq_is_term, dD "is_value" sq_is_value, dD "is_first_entry" sq_is_first_entry, dD "are_first_entries" sq_are_first_entries, dD "is_pointer" sq_is_pointer, dD "is_entry" sq_is_entry, dD "is_found" sq_is_found, dD "is_answer" sq_is_answer, dD "is_part" sq_is_part, dD "are_parts" sq_are_parts, dD "is_deed" sq_is_deed, dD "event_fault" sq_event_fault, dD "check_event" sq_check_event, dD "check_entry" sq_check_entry, dD "is_bounds" sq_is_bounds, dD "check_roster" sq_check_roster, dD "_law_whole" sq_whole, dD "_law_size" sq_size, dD "_law_is_node" sq_is_nodeL, dD "_law_is_id" sq_is_idL, dD "_law_gcd" sq_gcd, dD "_law_is_label" sq_is_labelL, dD "_law_is_name" sq_is_nameL, dD "_law_is_fraction" sq_is_fractionL, dD "_law_is_plain" sq_is_plain, dD "_law_is_entry" sq_is_entryL, dD "_law_is_answer" sq_is_answerL, dD "_law_words" sq_words, dD "_law_may_stand" sq_may_stand, dD "_law_is_deed" sq_is_deedL, dD "_law_fault" sq_fault, dD "_law_event_told" sq_event_told, dD "_law_entry_told" sq_entry_told, dD "_law_roster_told" sq_roster_told, dD "_law_base_told" sq_base_told, dD "_law_due" sq_due, dD "_law_same" sq_same, dD "_law_asked" sq_asked, dD "_law_box" sq_box, dD "_law_take" sq_take, dD "_law_pick" sq_pick, dD "_law_id" sq_id, dD "_law_fraction" sq_fraction, dD "_law_label" sq_label, dD "_law_name" sq_name, dD "_law_plain" sq_plain, dD "_law_rows" sq_rows, dD "_law_entry" sq_entry, dD "_law_answer" sq_answer, dD "_law_part" sq_part, dD "_law_deed" sq_deed, dD "_law_fractions" sq_fractions, dD "_law_labels" sq_labels, dD "_law_names" sq_names, dD "_law_ids" sq_ids, dD "_law_many_rows" sq_many_rows, dD "_law_entries" sq_entries, dD "_law_answers" sq_answers, dD "_law_menu" sq_menu, dD "_law_swept" sq_swept, dD "_law_ends" sq_ends, dD "_law_rate" sq_rate, dD "_law_rosters" sq_rosters, dD "_law_bad" sq_bad, dD "law" sq_law]
abbrev fnA : List He.DefD := dIniBadEvent :: dIniBadRoster :: fns
abbrev frA : List Str := ["ValueError", "abs", "all", "bool", "enumerate", "int", "isinstance", "len", "list", "min", "range", "set", "sorted", "str", "tuple", "zip"]
abbrev clA : List Str := ["OwnError", "BadEvent", "BadRoster", "BadDeed", "BadFraction", "BadLabel", "BadName", "BadOctets", "BadRun", "BadText", "BadView", "Refused", "CHECKS", "PARTS", "KINDS"]
abbrev gcA : List He.Fa := [He.Fa.int "LABEL_LETTERS" (8), He.Fa.int "NAME_LABELS" (6), He.Fa.int "LAST_NODE" (31), He.Fa.int "MOST_NAMES" (8), He.Fa.int "FIRST_ENTRIES" (6), He.Fa.int "ROSTER_PAIRS" (32), He.Fa.int "SLOWEST" (1000)]
abbrev faA : List He.Fa := (fns.map fun d => He.Fa.glo d.name) ++ (frA.map He.Fa.free ++ (clA.map He.Fa.glo ++ gcA))
def tbA : List He.Tab := [((fun K : PySem.W.Frag => He.ga K "CHECKS"), ["kept", "node", "id", "term", "most", "count", "entry", "answer"]), ((fun K : PySem.W.Frag => He.ga K "PARTS"), ["start", "tick", "send", "hear", "put", "give", "pass", "swear", "hand", "tell", "ask"])]
def ex0 (K : PySem.W.Frag) : Bool := (errB K "BadEvent" "at" && (errB K "BadRoster" "at" && He.eqO (PySem.W.nsIn K mainGlobals "gcd") (some (some (.builtin "math.gcd")))))
def exA (K : PySem.W.Frag) : Bool := ex0 K && (partsB K && (checksB K && (tupAB K (He.ga K "KINDS") (KINDSL.map V.str) && (kitCB K (He.ga K "BadEvent") && (decide (PySem.W.exmOne K (.ref (He.ga K "BadEvent")) (.ref (He.ga K "BadEvent")) = some true) && (decide (PySem.W.kitOne K (.ref (He.ga K "BadEvent")) (.type "ValueError") = some true) && (decide (PySem.W.kitOne K (.ref (He.ga K "BadEvent")) (.ref (He.ga K "OwnError")) = some true) && (decide (PySem.W.exmOne K (.ref (He.ga K "BadEvent")) (.ref (He.ga K "OwnError")) = some true) && (decide (PySem.W.kitAny K (.ref (He.ga K "BadEvent")) (badsL.map fun n => .ref (He.ga K n)) = some false) && (decide (PySem.W.kitOne K (.ref (He.ga K "BadEvent")) (.ref (He.ga K "BadRoster")) = some false) && (decide (PySem.W.kitOne K (.ref (He.ga K "BadEvent")) (.ref (He.ga K "BadEvent")) = some true) && (kitCB K (He.ga K "BadRoster") && (decide (PySem.W.exmOne K (.ref (He.ga K "BadRoster")) (.ref (He.ga K "BadRoster")) = some true) && (decide (PySem.W.kitOne K (.ref (He.ga K "BadRoster")) (.type "ValueError") = some true) && (decide (PySem.W.kitOne K (.ref (He.ga K "BadRoster")) (.ref (He.ga K "OwnError")) = some true) && (decide (PySem.W.exmOne K (.ref (He.ga K "BadRoster")) (.ref (He.ga K "OwnError")) = some true) && (decide (PySem.W.kitAny K (.ref (He.ga K "BadRoster")) (badsL.map fun n => .ref (He.ga K n)) = some false) && (decide (PySem.W.kitOne K (.ref (He.ga K "BadRoster")) (.ref (He.ga K "BadEvent")) = some false) && (decide (PySem.W.kitOne K (.ref (He.ga K "BadRoster")) (.ref (He.ga K "BadRoster")) = some true))))))))))))))))))))
structure FA (K : PySem.W.Frag) (mg : Str → Option Value) (w : World) : Prop where
  fn : ∀ x st, dD x st ∈ fns → ∃ fd, FnP K x st (He.ga K x) fd ∧ mg x = some (.ref (He.ga K x))
  free : ∀ x ∈ frA, mg x = none
  gi_LABEL_LETTERS : ∃ t, mg "LABEL_LETTERS" = some (.int (8) t)
  gi_NAME_LABELS : ∃ t, mg "NAME_LABELS" = some (.int (6) t)
  gi_LAST_NODE : ∃ t, mg "LAST_NODE" = some (.int (31) t)
  gi_MOST_NAMES : ∃ t, mg "MOST_NAMES" = some (.int (8) t)
  gi_FIRST_ENTRIES : ∃ t, mg "FIRST_ENTRIES" = some (.int (6) t)
  gi_ROSTER_PAIRS : ∃ t, mg "ROSTER_PAIRS" = some (.int (32) t)
  gi_SLOWEST : ∃ t, mg "SLOWEST" = some (.int (1000) t)
  err_BadEvent : ErrK K (He.ga K "BadEvent") (He.ma K (He.ga K "BadEvent") "__init__") "at"
  g_BadEvent : mg "BadEvent" = some (.ref (He.ga K "BadEvent"))
  ini_BadEvent : ∃ fd, FunD K "__init__" "BadEvent.__init__" (defArgs sIniBadEvent) (defBody sIniBadEvent) (defScope sIniBadEvent) [] [] (He.ma K (He.ga K "BadEvent") "__init__") fd
  err_BadRoster : ErrK K (He.ga K "BadRoster") (He.ma K (He.ga K "BadRoster") "__init__") "at"
  g_BadRoster : mg "BadRoster" = some (.ref (He.ga K "BadRoster"))
  ini_BadRoster : ∃ fd, FunD K "__init__" "BadRoster.__init__" (defArgs sIniBadRoster) (defBody sIniBadRoster) (defScope sIniBadRoster) [] [] (He.ma K (He.ga K "BadRoster") "__init__") fd
  blt_gcd : mg "gcd" = some (.builtin "math.gcd")
  parts : partsB K = true
  checks : checksB K = true
  kinds : tupAB K (He.ga K "KINDS") (KINDSL.map V.str) = true
  kit_BadEvent : kitCB K (He.ga K "BadEvent") = true
  exm_BadEvent : decide (PySem.W.exmOne K (.ref (He.ga K "BadEvent")) (.ref (He.ga K "BadEvent")) = some true) = true
  kv_BadEvent : decide (PySem.W.kitOne K (.ref (He.ga K "BadEvent")) (.type "ValueError") = some true) = true
  own_BadEvent : decide (PySem.W.kitOne K (.ref (He.ga K "BadEvent")) (.ref (He.ga K "OwnError")) = some true) = true
  exo_BadEvent : decide (PySem.W.exmOne K (.ref (He.ga K "BadEvent")) (.ref (He.ga K "OwnError")) = some true) = true
  bad_BadEvent : decide (PySem.W.kitAny K (.ref (He.ga K "BadEvent")) (badsL.map fun n => .ref (He.ga K n)) = some false) = true
  no_BadEvent : decide (PySem.W.kitOne K (.ref (He.ga K "BadEvent")) (.ref (He.ga K "BadRoster")) = some false) = true
  yes_BadEvent : decide (PySem.W.kitOne K (.ref (He.ga K "BadEvent")) (.ref (He.ga K "BadEvent")) = some true) = true
  kit_BadRoster : kitCB K (He.ga K "BadRoster") = true
  exm_BadRoster : decide (PySem.W.exmOne K (.ref (He.ga K "BadRoster")) (.ref (He.ga K "BadRoster")) = some true) = true
  kv_BadRoster : decide (PySem.W.kitOne K (.ref (He.ga K "BadRoster")) (.type "ValueError") = some true) = true
  own_BadRoster : decide (PySem.W.kitOne K (.ref (He.ga K "BadRoster")) (.ref (He.ga K "OwnError")) = some true) = true
  exo_BadRoster : decide (PySem.W.exmOne K (.ref (He.ga K "BadRoster")) (.ref (He.ga K "OwnError")) = some true) = true
  bad_BadRoster : decide (PySem.W.kitAny K (.ref (He.ga K "BadRoster")) (badsL.map fun n => .ref (He.ga K n)) = some false) = true
  no_BadRoster : decide (PySem.W.kitOne K (.ref (He.ga K "BadRoster")) (.ref (He.ga K "BadEvent")) = some false) = true
  yes_BadRoster : decide (PySem.W.kitOne K (.ref (He.ga K "BadRoster")) (.ref (He.ga K "BadRoster")) = some true) = true
  tab_CHECKS : ∃ es n, KDict K w (He.ga K "CHECKS") es n
  g_CHECKS : mg "CHECKS" = some (.ref (He.ga K "CHECKS"))
  tab_PARTS : ∃ es n, KDict K w (He.ga K "PARTS") es n
  g_PARTS : mg "PARTS" = some (.ref (He.ga K "PARTS"))
  g_OwnError : mg "OwnError" = some (.ref (He.ga K "OwnError"))
  g_KINDS : mg "KINDS" = some (.ref (He.ga K "KINDS"))
  g_BadDeed : mg "BadDeed" = some (.ref (He.ga K "BadDeed"))
  g_BadFraction : mg "BadFraction" = some (.ref (He.ga K "BadFraction"))
  g_BadLabel : mg "BadLabel" = some (.ref (He.ga K "BadLabel"))
  g_BadName : mg "BadName" = some (.ref (He.ga K "BadName"))
  g_BadOctets : mg "BadOctets" = some (.ref (He.ga K "BadOctets"))
  g_BadRun : mg "BadRun" = some (.ref (He.ga K "BadRun"))
  g_BadText : mg "BadText" = some (.ref (He.ga K "BadText"))
  g_BadView : mg "BadView" = some (.ref (He.ga K "BadView"))
  g_Refused : mg "Refused" = some (.ref (He.ga K "Refused"))
theorem fA_of {w : World} {h : Heap} {K : PySem.W.Frag} {mg : Str → Option Value} {tf : List He.Defn} (X : K.In h) (G : h.Ns mainGlobals mg) (c : He.SaysX faA fnA tbA tf exA w h K) : FA K mg w := by
  have hg : ∀ x, He.Fa.glo x ∈ faA → mg x = some (.ref (He.ga K x)) := fun x hx => He.glo_ok X G (c.t.d.facts hx)
  have hf : ∀ x ∈ frA, mg x = none := fun x hx => He.free_ok X G (c.t.d.facts (List.mem_append_right _ (List.mem_append_left _ (List.mem_map.mpr ⟨x, hx, rfl⟩))))
  have hc : ∀ x ∈ clA, mg x = some (.ref (He.ga K x)) := fun x hx => hg x (List.mem_append_right _ (List.mem_append_right _ (List.mem_append_left _ (List.mem_map.mpr ⟨x, hx, rfl⟩))))
  have hi : ∀ x i, He.Fa.int x i ∈ gcA → ∃ t, mg x = some (.int i t) := fun x i hx => He.int_ok X G (c.t.d.facts (List.mem_append_right _ (List.mem_append_right _ (List.mem_append_right _ hx))))
  have hy0 : exA K = true := c.more
  unfold exA at hy0
  obtain ⟨hx0, hy1⟩ := He.ba hy0
  obtain ⟨y0, hy2⟩ := He.ba hy1
  obtain ⟨y1, hy3⟩ := He.ba hy2
  obtain ⟨y2, hy4⟩ := He.ba hy3
  obtain ⟨y3, hy5⟩ := He.ba hy4
  obtain ⟨y4, hy6⟩ := He.ba hy5
  obtain ⟨y5, hy7⟩ := He.ba hy6
  obtain ⟨y6, hy8⟩ := He.ba hy7
  obtain ⟨y7, hy9⟩ := He.ba hy8
  obtain ⟨y8, hy10⟩ := He.ba hy9
  obtain ⟨y9, hy11⟩ := He.ba hy10
  obtain ⟨y10, hy12⟩ := He.ba hy11
  obtain ⟨y11, hy13⟩ := He.ba hy12
  obtain ⟨y12, hy14⟩ := He.ba hy13
  obtain ⟨y13, hy15⟩ := He.ba hy14
  obtain ⟨y14, hy16⟩ := He.ba hy15
  obtain ⟨y15, hy17⟩ := He.ba hy16
  obtain ⟨y16, hy18⟩ := He.ba hy17
  obtain ⟨y17, hy19⟩ := He.ba hy18
  have y18 := hy19
  unfold ex0 at hx0
  obtain ⟨b0, hx1⟩ := He.ba hx0
  obtain ⟨b1, hx2⟩ := He.ba hx1
  have b2 := hx2
  have er_BadEvent := errB_ok b0
  have er_BadRoster := errB_ok b1
  refine ⟨fun x st hx => ?_, hf, hi _ _ (by walk_at "gm"), hi _ _ (by walk_at "gm"), hi _ _ (by walk_at "gm"), hi _ _ (by walk_at "gm"), hi _ _ (by walk_at "gm"), hi _ _ (by walk_at "gm"), hi _ _ (by walk_at "gm"), er_BadEvent, hc _ (by walk_at "gm"), c.t.d.defs (d := dIniBadEvent) (by walk_at "gm"), er_BadRoster, hc _ (by walk_at "gm"), c.t.d.defs (d := dIniBadRoster) (by walk_at "gm"), PySem.W.mg_of X G (He.eqO_ok b2), y0, y1, y2, y3, y4, y5, y6, y7, y8, y9, y10, y11, y12, y13, y14, y15, y16, y17, y18, c.t.tab 0, hc _ (by walk_at "gm"), c.t.tab 1, hc _ (by walk_at "gm"), hc _ (by walk_at "gm"), hc _ (by walk_at "gm"), hc _ (by walk_at "gm"), hc _ (by walk_at "gm"), hc _ (by walk_at "gm"), hc _ (by walk_at "gm"), hc _ (by walk_at "gm"), hc _ (by walk_at "gm"), hc _ (by walk_at "gm"), hc _ (by walk_at "gm"), hc _ (by walk_at "gm")⟩
  obtain ⟨fd, F⟩ := c.t.d.defs (d := dD x st) (List.mem_cons_of_mem _ (List.mem_cons_of_mem _ (hx)))
  exact ⟨fd, F, hg x (List.mem_append_left _ (List.mem_map.mpr ⟨_, hx, rfl⟩))⟩
theorem mIniBadEvent : Nms sIniBadEvent ["self", "at"] ["self", "at"] [("self", .loc), ("at", .loc)] := ⟨⟨rfl, rfl, rfl, by decide +kernel, rfl, by decide +kernel, by decide +kernel⟩, by decide +kernel, by decide +kernel, by decide +kernel⟩
theorem errC_BadEvent {P : Program} {w : World} {K : PySem.W.Frag} {mg : Str → Option Value} {base : Heap} (F : FA K mg w) : ErrC P w K mg base "BadEvent" "at" (He.ga K "BadEvent") := by
  obtain ⟨fd, Fi⟩ := F.ini_BadEvent
  refine ⟨F.err_BadEvent.oex, F.g_BadEvent, F.err_BadEvent.no, F.err_BadEvent.xf, _, fd, ["self", "at"], F.err_BadEvent.iC, F.err_BadEvent.tI, ?_, FunD.bindsN Fi fun _ _ _ _ _ _ us hl => match us, hl with | [_, _], _ => rfl⟩
  refine Fi.ok mIniBadEvent.S (fun vs H Q E h => ?_) (fun cdv A outer s H vs Q E hr h => ?_)
  · obtain ⟨a, C, v, rfl, _⟩ := h
    rfl
  · have c : Ctx (cxOf CX0 P w K mg base ["self", "at"] "BadEvent.__init__" (defScope sIniBadEvent) (He.ma K (He.ga K "BadEvent") "__init__") cdv A outer s H E).nox ["self", "at"] [("self", .loc), ("at", .loc)] 0 := ⟨rfl, mIniBadEvent.S.nd, knIs_of mIniBadEvent rfl (fun _ => rfl), mIniBadEvent.db, rfl, hr, PassesOwn.never, mIniBadEvent.S.kind⟩
    have rb : RB (cxOf CX0 P w K mg base ["self", "at"] "BadEvent.__init__" (defScope sIniBadEvent) (He.ma K (He.ga K "BadEvent") "__init__") cdv A outer s H E).nox (defBody sIniBadEvent) { nx := fun _ H' => Q .non H', rt := Q } (start ["self", "at"] vs) H := by
      obtain ⟨a, C, v, rfl, o, n, hh, q⟩ := h
      show RB _ (defBody sIniBadEvent) _ [some (.ref a), some v] H
      refine rb_cons (rs_ost ?_)
      walk_at "e"
      exact ⟨a, C, rfl, o, n, hh, fun dx h1 h2 => rb_nil (q dx h1 h2)⟩
    obtain ⟨t, ht, q⟩ := rb.ex
    exact ⟨t, ht.nox, q⟩
theorem mIniBadRoster : Nms sIniBadRoster ["self", "at"] ["self", "at"] [("self", .loc), ("at", .loc)] := ⟨⟨rfl, rfl, rfl, by decide +kernel, rfl, by decide +kernel, by decide +kernel⟩, by decide +kernel, by decide +kernel, by decide +kernel⟩
theorem errC_BadRoster {P : Program} {w : World} {K : PySem.W.Frag} {mg : Str → Option Value} {base : Heap} (F : FA K mg w) : ErrC P w K mg base "BadRoster" "at" (He.ga K "BadRoster") := by
  obtain ⟨fd, Fi⟩ := F.ini_BadRoster
  refine ⟨F.err_BadRoster.oex, F.g_BadRoster, F.err_BadRoster.no, F.err_BadRoster.xf, _, fd, ["self", "at"], F.err_BadRoster.iC, F.err_BadRoster.tI, ?_, FunD.bindsN Fi fun _ _ _ _ _ _ us hl => match us, hl with | [_, _], _ => rfl⟩
  refine Fi.ok mIniBadRoster.S (fun vs H Q E h => ?_) (fun cdv A outer s H vs Q E hr h => ?_)
  · obtain ⟨a, C, v, rfl, _⟩ := h
    rfl
  · have c : Ctx (cxOf CX0 P w K mg base ["self", "at"] "BadRoster.__init__" (defScope sIniBadRoster) (He.ma K (He.ga K "BadRoster") "__init__") cdv A outer s H E).nox ["self", "at"] [("self", .loc), ("at", .loc)] 0 := ⟨rfl, mIniBadRoster.S.nd, knIs_of mIniBadRoster rfl (fun _ => rfl), mIniBadRoster.db, rfl, hr, PassesOwn.never, mIniBadRoster.S.kind⟩
    have rb : RB (cxOf CX0 P w K mg base ["self", "at"] "BadRoster.__init__" (defScope sIniBadRoster) (He.ma K (He.ga K "BadRoster") "__init__") cdv A outer s H E).nox (defBody sIniBadRoster) { nx := fun _ H' => Q .non H', rt := Q } (start ["self", "at"] vs) H := by
      obtain ⟨a, C, v, rfl, o, n, hh, q⟩ := h
      show RB _ (defBody sIniBadRoster) _ [some (.ref a), some v] H
      refine rb_cons (rs_ost ?_)
      walk_at "e"
      exact ⟨a, C, rfl, o, n, hh, fun dx h1 h2 => rb_nil (q dx h1 h2)⟩
    obtain ⟨t, ht, q⟩ := rb.ex
    exact ⟨t, ht.nox, q⟩
theorem kiT {X : Cx} (F : FA X.K X.mg X.w) : KiT X := ⟨⟨He.ga X.K "KINDS", F.g_KINDS, fun H => tupAB_ok F.kinds H⟩⟩
theorem paT {X : Cx} (F : FA X.K X.mg X.w) : PaT X := by
  obtain ⟨es, n, D⟩ := F.tab_PARTS
  refine ⟨⟨He.ga X.K "PARTS", F.g_PARTS, fun k ws hm => ?_⟩⟩
  have h : partB X.K (k, ws) = true := List.all_eq_true.mp F.parts _ hm
  unfold partB at h
  obtain ⟨h1, h2⟩ := He.ba h
  exact ⟨_, kdct_of D h1, fun H => tupAB_ok h2 H⟩
theorem badT {X : Cx} (F : FA X.K X.mg X.w) : BadT X := by
  obtain ⟨fd, f, g⟩ := F.fn "_law_bad" sq_bad (by walk_at "gm")
  exact ⟨⟨_, fd, f, g, FunD.bindsN f fun _ _ _ _ _ _ us hl => match us, hl with | [_], _ => rfl⟩⟩
theorem hd_BadEvent {K : PySem.W.Frag} {mg : Str → Option Value} {w : World} (F : FA K mg w) : HdC K mg (He.ga K "BadEvent") := by
  refine ⟨of_decide_eq_true F.exm_BadEvent, of_decide_eq_true F.kv_BadEvent, ⟨_, F.g_OwnError, of_decide_eq_true F.own_BadEvent, of_decide_eq_true F.exo_BadEvent⟩, ⟨He.ga K, fun n hn => ?_, of_decide_eq_true F.bad_BadEvent⟩, kitCB_ok F.kit_BadEvent, F.err_BadEvent.xf, F.err_BadEvent.no⟩
  simp only [List.mem_cons, List.not_mem_nil, or_false] at hn
  rcases hn with rfl | rfl | rfl | rfl | rfl | rfl | rfl | rfl | rfl
  · exact F.g_BadDeed
  · exact F.g_BadFraction
  · exact F.g_BadLabel
  · exact F.g_BadName
  · exact F.g_BadOctets
  · exact F.g_BadRun
  · exact F.g_BadText
  · exact F.g_BadView
  · exact F.g_Refused
theorem hd_BadRoster {K : PySem.W.Frag} {mg : Str → Option Value} {w : World} (F : FA K mg w) : HdC K mg (He.ga K "BadRoster") := by
  refine ⟨of_decide_eq_true F.exm_BadRoster, of_decide_eq_true F.kv_BadRoster, ⟨_, F.g_OwnError, of_decide_eq_true F.own_BadRoster, of_decide_eq_true F.exo_BadRoster⟩, ⟨He.ga K, fun n hn => ?_, of_decide_eq_true F.bad_BadRoster⟩, kitCB_ok F.kit_BadRoster, F.err_BadRoster.xf, F.err_BadRoster.no⟩
  simp only [List.mem_cons, List.not_mem_nil, or_false] at hn
  rcases hn with rfl | rfl | rfl | rfl | rfl | rfl | rfl | rfl | rfl
  · exact F.g_BadDeed
  · exact F.g_BadFraction
  · exact F.g_BadLabel
  · exact F.g_BadName
  · exact F.g_BadOctets
  · exact F.g_BadRun
  · exact F.g_BadText
  · exact F.g_BadView
  · exact F.g_Refused
section
variable {P : Program} {w : World} {K : PySem.W.Frag} {mg : Str → Option Value} {base : Heap} {x : Str} {st : Stmt} {N ps : List Str} {L : List (Str × KN)} {k : Nat} {sp : Sp} {f : Addr} {fd : FuncData}
theorem fnOk_of (F : FnP K x st f fd) (M : Nms st N ps L) (len : ∀ vs H Q E, sp vs H Q E → vs.length = ps.length)
    (body : ∀ (X : Cx), Ctx X N L k → At5 X P w K mg base → ∀ (vs : List V) (H : Hp) (Q : VK) (E : XK), sp vs H Q E → RB X (defBody st) { nx := fun _ H' => Q .non H', rt := Q } (start N vs) H) : FnOk P w K mg base CX0 (k + 1) f fd ps sp := by
  refine F.ok M.S len (fun cdv A outer s H vs Q E hr h => ?_)
  have c : Ctx (cxOf CX0 P w K mg base N x (defScope st) f cdv A outer s H E).nox N L k := ⟨rfl, M.S.nd, knIs_of M rfl (fun _ => rfl), M.db, rfl, hr, PassesOwn.never, M.S.kind⟩
  obtain ⟨t, ht, q⟩ := (body _ c ⟨rfl, rfl, rfl, rfl, rfl⟩ vs H Q E h).ex
  exact ⟨t, ht.nox, q⟩
theorem fnC_of (F : FnP K x st (He.fAd K (x, none)) fd) : FnC K x st (He.fAd K (x, none)) (He.cT K (x, none)).1 fd := by
  obtain ⟨oc, od, dV, kV, doc, pm, an, cdv, ct, osl, e, lk, hcd, _, _⟩ := F.ex
  obtain ⟨c, rfl⟩ := He.codeIn_ref hcd
  have e2 : (He.cT K (x, none)).1 = c := He.codeOf_eq lk (by rw [e] <;> rfl)
  rw [e2]
  exact ⟨⟨oc, od, dV, kV, doc, pm, an, ct, osl, e, lk, hcd⟩, F.kp⟩
theorem fnOkX_of (F : FnP K x st f fd) (M : Nms st N ps L) (len : ∀ vs H Q E, sp vs H Q E → vs.length = ps.length)
    (body : ∀ (X : Cx), Ctx X N L k → At5 X P w K mg base → ∀ (vs : List V) (H : Hp) (Q : VK) (E : XK), Takes X (fun cls d _ H' => E cls d H') → sp vs H Q E → RB X (defBody st) { nx := fun _ H' => Q .non H', rt := Q } (start N vs) H) : FnOk P w K mg base (L2.CX P w) (k + 1) f fd ps sp := by
  refine F.ok M.S len (fun cdv A outer s H vs Q E hr h => ?_)
  have c : Ctx (cxOf (L2.CX P w) P w K mg base N x (defScope st) f cdv A outer s H E) N L k := ⟨rfl, M.S.nd, knIs_of M rfl (fun _ => rfl), M.db, rfl, hr, passes_of rfl, M.S.kind⟩
  exact (body _ c ⟨rfl, rfl, rfl, rfl, rfl⟩ vs H Q E (takes_of rfl rfl rfl rfl) h).ex
end
section
variable {Pg : Program} {w : World} {K : PySem.W.Frag} {mg : Str → Option Value} {base : Heap}
theorem d_label_fault (F : FA K mg w) : DefP Pg w K mg base CX0 "label_fault" ["value"] 1 (spLF K) := by
  obtain ⟨fd, f, g⟩ := F.fn "label_fault" sq_label_fault (by walk_at "gm")
  refine defP_of f g mq_label_fault (FunD.bindsN f fun _ _ _ _ _ _ us hl => match us, hl with | [_], _ => rfl) (fun vs H Q E h => by first | (obtain ⟨rfl, _⟩ := h; rfl) | (obtain ⟨_, rfl, _⟩ := h; rfl) | (obtain ⟨_, _, rfl, _⟩ := h; rfl) | (obtain ⟨_, _, _, rfl, _⟩ := h; rfl) | (obtain ⟨_, _, _, _, rfl, _⟩ := h; rfl) | (obtain ⟨_, _, _, _, _, rfl, _⟩ := h; rfl) | (obtain ⟨_, _, _, _, _, _, rfl, _⟩ := h; rfl) | (obtain ⟨_, _, ⟨_, _, rfl, _⟩ | ⟨_, rfl, _⟩⟩ := h <;> rfl) | (obtain ⟨rfl, _⟩ := h; rfl)) fun X c al vs H Q E h => ?_
  obtain ⟨rfl, rfl, rfl, rfl, rfl⟩ := al
  exact body_label_fault c (F.free _ (by walk_at "gm")) (F.free _ (by walk_at "gm")) (F.free _ (by walk_at "gm")) F.gi_LABEL_LETTERS h
theorem d_is_label (F : FA K mg w) : DefP Pg w K mg base CX0 "is_label" ["value"] 2 (spIL K) := by
  obtain ⟨fd, f, g⟩ := F.fn "is_label" sq_is_label (by walk_at "gm")
  refine defP_of f g mq_is_label (FunD.bindsN f fun _ _ _ _ _ _ us hl => match us, hl with | [_], _ => rfl) (fun vs H Q E h => by first | (obtain ⟨rfl, _⟩ := h; rfl) | (obtain ⟨_, rfl, _⟩ := h; rfl) | (obtain ⟨_, _, rfl, _⟩ := h; rfl) | (obtain ⟨_, _, _, rfl, _⟩ := h; rfl) | (obtain ⟨_, _, _, _, rfl, _⟩ := h; rfl) | (obtain ⟨_, _, _, _, _, rfl, _⟩ := h; rfl) | (obtain ⟨_, _, _, _, _, _, rfl, _⟩ := h; rfl) | (obtain ⟨_, _, ⟨_, _, rfl, _⟩ | ⟨_, rfl, _⟩⟩ := h <;> rfl) | (obtain ⟨rfl, _⟩ := h; rfl)) fun X c al vs H Q E h => ?_
  obtain ⟨rfl, rfl, rfl, rfl, rfl⟩ := al
  exact body_is_label c (d_label_fault F) h
theorem d_name_fault (F : FA K mg w) : DefP Pg w K mg base CX0 "name_fault" ["value"] 3 (spNF K) := by
  obtain ⟨fd, f, g⟩ := F.fn "name_fault" sq_name_fault (by walk_at "gm")
  refine defP_of f g mq_name_fault (FunD.bindsN f fun _ _ _ _ _ _ us hl => match us, hl with | [_], _ => rfl) (fun vs H Q E h => by first | (obtain ⟨rfl, _⟩ := h; rfl) | (obtain ⟨_, rfl, _⟩ := h; rfl) | (obtain ⟨_, _, rfl, _⟩ := h; rfl) | (obtain ⟨_, _, _, rfl, _⟩ := h; rfl) | (obtain ⟨_, _, _, _, rfl, _⟩ := h; rfl) | (obtain ⟨_, _, _, _, _, rfl, _⟩ := h; rfl) | (obtain ⟨_, _, _, _, _, _, rfl, _⟩ := h; rfl) | (obtain ⟨_, _, ⟨_, _, rfl, _⟩ | ⟨_, rfl, _⟩⟩ := h <;> rfl) | (obtain ⟨rfl, _⟩ := h; rfl)) fun X c al vs H Q E h => ?_
  obtain ⟨rfl, rfl, rfl, rfl, rfl⟩ := al
  exact body_name_fault c (F.free _ (by walk_at "gm")) (F.free _ (by walk_at "gm")) (F.free _ (by walk_at "gm")) (F.free _ (by walk_at "gm")) F.gi_NAME_LABELS (d_is_label F) h
theorem d_is_whole (F : FA K mg w) : DefP Pg w K mg base CX0 "is_whole" ["value"] 1 (spIW K) := by
  obtain ⟨fd, f, g⟩ := F.fn "is_whole" sq_is_whole (by walk_at "gm")
  refine defP_of f g mq_is_whole (FunD.bindsN f fun _ _ _ _ _ _ us hl => match us, hl with | [_], _ => rfl) (fun vs H Q E h => by first | (obtain ⟨rfl, _⟩ := h; rfl) | (obtain ⟨_, rfl, _⟩ := h; rfl) | (obtain ⟨_, _, rfl, _⟩ := h; rfl) | (obtain ⟨_, _, _, rfl, _⟩ := h; rfl) | (obtain ⟨_, _, _, _, rfl, _⟩ := h; rfl) | (obtain ⟨_, _, _, _, _, rfl, _⟩ := h; rfl) | (obtain ⟨_, _, _, _, _, _, rfl, _⟩ := h; rfl) | (obtain ⟨_, _, ⟨_, _, rfl, _⟩ | ⟨_, rfl, _⟩⟩ := h <;> rfl) | (obtain ⟨rfl, _⟩ := h; rfl)) fun X c al vs H Q E h => ?_
  obtain ⟨rfl, rfl, rfl, rfl, rfl⟩ := al
  exact body_is_whole c (F.free _ (by walk_at "gm")) (F.free _ (by walk_at "gm")) (F.free _ (by walk_at "gm")) h
theorem d_fraction_fault (F : FA K mg w) : DefP Pg w K mg base CX0 "fraction_fault" ["value"] 2 (spFF K) := by
  obtain ⟨fd, f, g⟩ := F.fn "fraction_fault" sq_fraction_fault (by walk_at "gm")
  refine defP_of f g mq_fraction_fault (FunD.bindsN f fun _ _ _ _ _ _ us hl => match us, hl with | [_], _ => rfl) (fun vs H Q E h => by first | (obtain ⟨rfl, _⟩ := h; rfl) | (obtain ⟨_, rfl, _⟩ := h; rfl) | (obtain ⟨_, _, rfl, _⟩ := h; rfl) | (obtain ⟨_, _, _, rfl, _⟩ := h; rfl) | (obtain ⟨_, _, _, _, rfl, _⟩ := h; rfl) | (obtain ⟨_, _, _, _, _, rfl, _⟩ := h; rfl) | (obtain ⟨_, _, _, _, _, _, rfl, _⟩ := h; rfl) | (obtain ⟨_, _, ⟨_, _, rfl, _⟩ | ⟨_, rfl, _⟩⟩ := h <;> rfl) | (obtain ⟨rfl, _⟩ := h; rfl)) fun X c al vs H Q E h => ?_
  obtain ⟨rfl, rfl, rfl, rfl, rfl⟩ := al
  exact body_fraction_fault c (F.free _ (by walk_at "gm")) (F.free _ (by walk_at "gm")) (F.free _ (by walk_at "gm")) F.blt_gcd (d_is_whole F) h
theorem d_is_name (F : FA K mg w) : DefP Pg w K mg base CX0 "is_name" ["value"] 4 (spP K pName) := by
  obtain ⟨fd, f, g⟩ := F.fn "is_name" sq_is_name (by walk_at "gm")
  refine defP_of f g mq_is_name (FunD.bindsN f fun _ _ _ _ _ _ us hl => match us, hl with | [_], _ => rfl) (fun vs H Q E h => by first | (obtain ⟨rfl, _⟩ := h; rfl) | (obtain ⟨_, rfl, _⟩ := h; rfl) | (obtain ⟨_, _, rfl, _⟩ := h; rfl) | (obtain ⟨_, _, _, rfl, _⟩ := h; rfl) | (obtain ⟨_, _, _, _, rfl, _⟩ := h; rfl) | (obtain ⟨_, _, _, _, _, rfl, _⟩ := h; rfl) | (obtain ⟨_, _, _, _, _, _, rfl, _⟩ := h; rfl) | (obtain ⟨_, _, ⟨_, _, rfl, _⟩ | ⟨_, rfl, _⟩⟩ := h <;> rfl) | (obtain ⟨rfl, _⟩ := h; rfl)) fun X c al vs H Q E h => ?_
  obtain ⟨rfl, rfl, rfl, rfl, rfl⟩ := al
  exact body_is_name c (d_name_fault F) h
theorem d_is_fraction (F : FA K mg w) : DefP Pg w K mg base CX0 "is_fraction" ["value"] 3 (spQ K pFrac) := by
  obtain ⟨fd, f, g⟩ := F.fn "is_fraction" sq_is_fraction (by walk_at "gm")
  refine defP_of f g mq_is_fraction (FunD.bindsN f fun _ _ _ _ _ _ us hl => match us, hl with | [_], _ => rfl) (fun vs H Q E h => by first | (obtain ⟨rfl, _⟩ := h; rfl) | (obtain ⟨_, rfl, _⟩ := h; rfl) | (obtain ⟨_, _, rfl, _⟩ := h; rfl) | (obtain ⟨_, _, _, rfl, _⟩ := h; rfl) | (obtain ⟨_, _, _, _, rfl, _⟩ := h; rfl) | (obtain ⟨_, _, _, _, _, rfl, _⟩ := h; rfl) | (obtain ⟨_, _, _, _, _, _, rfl, _⟩ := h; rfl) | (obtain ⟨_, _, ⟨_, _, rfl, _⟩ | ⟨_, rfl, _⟩⟩ := h <;> rfl) | (obtain ⟨rfl, _⟩ := h; rfl)) fun X c al vs H Q E h => ?_
  obtain ⟨rfl, rfl, rfl, rfl, rfl⟩ := al
  exact body_is_fraction c (d_fraction_fault F) h
theorem d_is_node (F : FA K mg w) : DefP Pg w K mg base CX0 "is_node" ["value"] 2 (spQ K (pTo 31)) := by
  obtain ⟨fd, f, g⟩ := F.fn "is_node" sq_is_node (by walk_at "gm")
  refine defP_of f g mq_is_node (FunD.bindsN f fun _ _ _ _ _ _ us hl => match us, hl with | [_], _ => rfl) (fun vs H Q E h => by first | (obtain ⟨rfl, _⟩ := h; rfl) | (obtain ⟨_, rfl, _⟩ := h; rfl) | (obtain ⟨_, _, rfl, _⟩ := h; rfl) | (obtain ⟨_, _, _, rfl, _⟩ := h; rfl) | (obtain ⟨_, _, _, _, rfl, _⟩ := h; rfl) | (obtain ⟨_, _, _, _, _, rfl, _⟩ := h; rfl) | (obtain ⟨_, _, _, _, _, _, rfl, _⟩ := h; rfl) | (obtain ⟨_, _, ⟨_, _, rfl, _⟩ | ⟨_, rfl, _⟩⟩ := h <;> rfl) | (obtain ⟨rfl, _⟩ := h; rfl)) fun X c al vs H Q E h => ?_
  obtain ⟨rfl, rfl, rfl, rfl, rfl⟩ := al
  exact body_is_node c F.gi_LAST_NODE (d_is_whole F) h
theorem d_is_most (F : FA K mg w) : DefP Pg w K mg base CX0 "is_most" ["value"] 2 (spQ K (pTo 8)) := by
  obtain ⟨fd, f, g⟩ := F.fn "is_most" sq_is_most (by walk_at "gm")
  refine defP_of f g mq_is_most (FunD.bindsN f fun _ _ _ _ _ _ us hl => match us, hl with | [_], _ => rfl) (fun vs H Q E h => by first | (obtain ⟨rfl, _⟩ := h; rfl) | (obtain ⟨_, rfl, _⟩ := h; rfl) | (obtain ⟨_, _, rfl, _⟩ := h; rfl) | (obtain ⟨_, _, _, rfl, _⟩ := h; rfl) | (obtain ⟨_, _, _, _, rfl, _⟩ := h; rfl) | (obtain ⟨_, _, _, _, _, rfl, _⟩ := h; rfl) | (obtain ⟨_, _, _, _, _, _, rfl, _⟩ := h; rfl) | (obtain ⟨_, _, ⟨_, _, rfl, _⟩ | ⟨_, rfl, _⟩⟩ := h <;> rfl) | (obtain ⟨rfl, _⟩ := h; rfl)) fun X c al vs H Q E h => ?_
  obtain ⟨rfl, rfl, rfl, rfl, rfl⟩ := al
  exact body_is_most c F.gi_MOST_NAMES (d_is_whole F) h
theorem d_is_count (F : FA K mg w) : DefP Pg w K mg base CX0 "is_count" ["value"] 2 (spQ K pCount) := by
  obtain ⟨fd, f, g⟩ := F.fn "is_count" sq_is_count (by walk_at "gm")
  refine defP_of f g mq_is_count (FunD.bindsN f fun _ _ _ _ _ _ us hl => match us, hl with | [_], _ => rfl) (fun vs H Q E h => by first | (obtain ⟨rfl, _⟩ := h; rfl) | (obtain ⟨_, rfl, _⟩ := h; rfl) | (obtain ⟨_, _, rfl, _⟩ := h; rfl) | (obtain ⟨_, _, _, rfl, _⟩ := h; rfl) | (obtain ⟨_, _, _, _, rfl, _⟩ := h; rfl) | (obtain ⟨_, _, _, _, _, rfl, _⟩ := h; rfl) | (obtain ⟨_, _, _, _, _, _, rfl, _⟩ := h; rfl) | (obtain ⟨_, _, ⟨_, _, rfl, _⟩ | ⟨_, rfl, _⟩⟩ := h <;> rfl) | (obtain ⟨rfl, _⟩ := h; rfl)) fun X c al vs H Q E h => ?_
  obtain ⟨rfl, rfl, rfl, rfl, rfl⟩ := al
  exact body_is_count c (d_is_whole F) h
theorem d_is_id (F : FA K mg w) : DefP Pg w K mg base CX0 "is_id" ["value"] 3 (spQ K pId) := by
  obtain ⟨fd, f, g⟩ := F.fn "is_id" sq_is_id (by walk_at "gm")
  refine defP_of f g mq_is_id (FunD.bindsN f fun _ _ _ _ _ _ us hl => match us, hl with | [_], _ => rfl) (fun vs H Q E h => by first | (obtain ⟨rfl, _⟩ := h; rfl) | (obtain ⟨_, rfl, _⟩ := h; rfl) | (obtain ⟨_, _, rfl, _⟩ := h; rfl) | (obtain ⟨_, _, _, rfl, _⟩ := h; rfl) | (obtain ⟨_, _, _, _, rfl, _⟩ := h; rfl) | (obtain ⟨_, _, _, _, _, rfl, _⟩ := h; rfl) | (obtain ⟨_, _, _, _, _, _, rfl, _⟩ := h; rfl) | (obtain ⟨_, _, ⟨_, _, rfl, _⟩ | ⟨_, rfl, _⟩⟩ := h <;> rfl) | (obtain ⟨rfl, _⟩ := h; rfl)) fun X c al vs H Q E h => ?_
  obtain ⟨rfl, rfl, rfl, rfl, rfl⟩ := al
  exact body_is_id c (F.free _ (by walk_at "gm")) (F.free _ (by walk_at "gm")) (F.free _ (by walk_at "gm")) (d_is_node F) (d_is_count F) h
theorem d_is_kept (F : FA K mg w) : DefP Pg w K mg base CX0 "is_kept" ["value"] 4 (spQ K pKept) := by
  obtain ⟨fd, f, g⟩ := F.fn "is_kept" sq_is_kept (by walk_at "gm")
  refine defP_of f g mq_is_kept (FunD.bindsN f fun _ _ _ _ _ _ us hl => match us, hl with | [_], _ => rfl) (fun vs H Q E h => by first | (obtain ⟨rfl, _⟩ := h; rfl) | (obtain ⟨_, rfl, _⟩ := h; rfl) | (obtain ⟨_, _, rfl, _⟩ := h; rfl) | (obtain ⟨_, _, _, rfl, _⟩ := h; rfl) | (obtain ⟨_, _, _, _, rfl, _⟩ := h; rfl) | (obtain ⟨_, _, _, _, _, rfl, _⟩ := h; rfl) | (obtain ⟨_, _, _, _, _, _, rfl, _⟩ := h; rfl) | (obtain ⟨_, _, ⟨_, _, rfl, _⟩ | ⟨_, rfl, _⟩⟩ := h <;> rfl) | (obtain ⟨rfl, _⟩ := h; rfl)) fun X c al vs H Q E h => ?_
  obtain ⟨rfl, rfl, rfl, rfl, rfl⟩ := al
  exact body_is_kept c (d_is_id F) h
theorem d_is_term (F : FA K mg w) : DefP Pg w K mg base CX0 "is_term" ["value"] 4 (spP K pTerm) := by
  obtain ⟨fd, f, g⟩ := F.fn "is_term" sq_is_term (by walk_at "gm")
  refine defP_of f g mq_is_term (FunD.bindsN f fun _ _ _ _ _ _ us hl => match us, hl with | [_], _ => rfl) (fun vs H Q E h => by first | (obtain ⟨rfl, _⟩ := h; rfl) | (obtain ⟨_, rfl, _⟩ := h; rfl) | (obtain ⟨_, _, rfl, _⟩ := h; rfl) | (obtain ⟨_, _, _, rfl, _⟩ := h; rfl) | (obtain ⟨_, _, _, _, rfl, _⟩ := h; rfl) | (obtain ⟨_, _, _, _, _, rfl, _⟩ := h; rfl) | (obtain ⟨_, _, _, _, _, _, rfl, _⟩ := h; rfl) | (obtain ⟨_, _, ⟨_, _, rfl, _⟩ | ⟨_, rfl, _⟩⟩ := h <;> rfl) | (obtain ⟨rfl, _⟩ := h; rfl)) fun X c al vs H Q E h => ?_
  obtain ⟨rfl, rfl, rfl, rfl, rfl⟩ := al
  exact body_is_term c (d_is_id F) h
theorem d_is_value (F : FA K mg w) : DefP Pg w K mg base CX0 "is_value" ["value"] 3 (spQ K pVal) := by
  obtain ⟨fd, f, g⟩ := F.fn "is_value" sq_is_value (by walk_at "gm")
  refine defP_of f g mq_is_value (FunD.bindsN f fun _ _ _ _ _ _ us hl => match us, hl with | [_], _ => rfl) (fun vs H Q E h => by first | (obtain ⟨rfl, _⟩ := h; rfl) | (obtain ⟨_, rfl, _⟩ := h; rfl) | (obtain ⟨_, _, rfl, _⟩ := h; rfl) | (obtain ⟨_, _, _, rfl, _⟩ := h; rfl) | (obtain ⟨_, _, _, _, rfl, _⟩ := h; rfl) | (obtain ⟨_, _, _, _, _, rfl, _⟩ := h; rfl) | (obtain ⟨_, _, _, _, _, _, rfl, _⟩ := h; rfl) | (obtain ⟨_, _, ⟨_, _, rfl, _⟩ | ⟨_, rfl, _⟩⟩ := h <;> rfl) | (obtain ⟨rfl, _⟩ := h; rfl)) fun X c al vs H Q E h => ?_
  obtain ⟨rfl, rfl, rfl, rfl, rfl⟩ := al
  exact body_is_value c (F.free _ (by walk_at "gm")) (F.free _ (by walk_at "gm")) (F.free _ (by walk_at "gm")) (d_is_count F) h
theorem d_is_first_entry (F : FA K mg w) : DefP Pg w K mg base CX0 "is_first_entry" ["value"] 5 (spP K pFst) := by
  obtain ⟨fd, f, g⟩ := F.fn "is_first_entry" sq_is_first_entry (by walk_at "gm")
  refine defP_of f g mq_is_first_entry (FunD.bindsN f fun _ _ _ _ _ _ us hl => match us, hl with | [_], _ => rfl) (fun vs H Q E h => by first | (obtain ⟨rfl, _⟩ := h; rfl) | (obtain ⟨_, rfl, _⟩ := h; rfl) | (obtain ⟨_, _, rfl, _⟩ := h; rfl) | (obtain ⟨_, _, _, rfl, _⟩ := h; rfl) | (obtain ⟨_, _, _, _, rfl, _⟩ := h; rfl) | (obtain ⟨_, _, _, _, _, rfl, _⟩ := h; rfl) | (obtain ⟨_, _, _, _, _, _, rfl, _⟩ := h; rfl) | (obtain ⟨_, _, ⟨_, _, rfl, _⟩ | ⟨_, rfl, _⟩⟩ := h <;> rfl) | (obtain ⟨rfl, _⟩ := h; rfl)) fun X c al vs H Q E h => ?_
  obtain ⟨rfl, rfl, rfl, rfl, rfl⟩ := al
  exact body_is_first_entry c (F.free _ (by walk_at "gm")) (F.free _ (by walk_at "gm")) (F.free _ (by walk_at "gm")) (d_is_value F) (d_is_name F) h
theorem d_are_first_entries (F : FA K mg w) : DefP Pg w K mg base CX0 "are_first_entries" ["value"] 6 (spP K pRows) := by
  obtain ⟨fd, f, g⟩ := F.fn "are_first_entries" sq_are_first_entries (by walk_at "gm")
  refine defP_of f g mq_are_first_entries (FunD.bindsN f fun _ _ _ _ _ _ us hl => match us, hl with | [_], _ => rfl) (fun vs H Q E h => by first | (obtain ⟨rfl, _⟩ := h; rfl) | (obtain ⟨_, rfl, _⟩ := h; rfl) | (obtain ⟨_, _, rfl, _⟩ := h; rfl) | (obtain ⟨_, _, _, rfl, _⟩ := h; rfl) | (obtain ⟨_, _, _, _, rfl, _⟩ := h; rfl) | (obtain ⟨_, _, _, _, _, rfl, _⟩ := h; rfl) | (obtain ⟨_, _, _, _, _, _, rfl, _⟩ := h; rfl) | (obtain ⟨_, _, ⟨_, _, rfl, _⟩ | ⟨_, rfl, _⟩⟩ := h <;> rfl) | (obtain ⟨rfl, _⟩ := h; rfl)) fun X c al vs H Q E h => ?_
  obtain ⟨rfl, rfl, rfl, rfl, rfl⟩ := al
  exact body_are_first_entries c (F.free _ (by walk_at "gm")) (F.free _ (by walk_at "gm")) (F.free _ (by walk_at "gm")) F.gi_FIRST_ENTRIES (d_is_label F) (d_is_first_entry F) h
theorem d_is_pointer (F : FA K mg w) : DefP Pg w K mg base CX0 "is_pointer" ["value"] 7 (spP K pPtr) := by
  obtain ⟨fd, f, g⟩ := F.fn "is_pointer" sq_is_pointer (by walk_at "gm")
  refine defP_of f g mq_is_pointer (FunD.bindsN f fun _ _ _ _ _ _ us hl => match us, hl with | [_], _ => rfl) (fun vs H Q E h => by first | (obtain ⟨rfl, _⟩ := h; rfl) | (obtain ⟨_, rfl, _⟩ := h; rfl) | (obtain ⟨_, _, rfl, _⟩ := h; rfl) | (obtain ⟨_, _, _, rfl, _⟩ := h; rfl) | (obtain ⟨_, _, _, _, rfl, _⟩ := h; rfl) | (obtain ⟨_, _, _, _, _, rfl, _⟩ := h; rfl) | (obtain ⟨_, _, _, _, _, _, rfl, _⟩ := h; rfl) | (obtain ⟨_, _, ⟨_, _, rfl, _⟩ | ⟨_, rfl, _⟩⟩ := h <;> rfl) | (obtain ⟨rfl, _⟩ := h; rfl)) fun X c al vs H Q E h => ?_
  obtain ⟨rfl, rfl, rfl, rfl, rfl⟩ := al
  exact body_is_pointer c (F.free _ (by walk_at "gm")) (F.free _ (by walk_at "gm")) (F.free _ (by walk_at "gm")) (d_is_node F) (d_are_first_entries F) h
theorem d_is_entry (F : FA K mg w) : DefP Pg w K mg base CX0 "is_entry" ["value"] 8 (spP K pEnt) := by
  obtain ⟨fd, f, g⟩ := F.fn "is_entry" sq_is_entry (by walk_at "gm")
  refine defP_of f g mq_is_entry (FunD.bindsN f fun _ _ _ _ _ _ us hl => match us, hl with | [_], _ => rfl) (fun vs H Q E h => by first | (obtain ⟨rfl, _⟩ := h; rfl) | (obtain ⟨_, rfl, _⟩ := h; rfl) | (obtain ⟨_, _, rfl, _⟩ := h; rfl) | (obtain ⟨_, _, _, rfl, _⟩ := h; rfl) | (obtain ⟨_, _, _, _, rfl, _⟩ := h; rfl) | (obtain ⟨_, _, _, _, _, rfl, _⟩ := h; rfl) | (obtain ⟨_, _, _, _, _, _, rfl, _⟩ := h; rfl) | (obtain ⟨_, _, ⟨_, _, rfl, _⟩ | ⟨_, rfl, _⟩⟩ := h <;> rfl) | (obtain ⟨rfl, _⟩ := h; rfl)) fun X c al vs H Q E h => ?_
  obtain ⟨rfl, rfl, rfl, rfl, rfl⟩ := al
  exact body_is_entry c (d_is_first_entry F) (d_is_pointer F) h
theorem d_is_found (F : FA K mg w) : DefP Pg w K mg base CX0 "is_found" ["value"] 5 (spP K pFou) := by
  obtain ⟨fd, f, g⟩ := F.fn "is_found" sq_is_found (by walk_at "gm")
  refine defP_of f g mq_is_found (FunD.bindsN f fun _ _ _ _ _ _ us hl => match us, hl with | [_], _ => rfl) (fun vs H Q E h => by first | (obtain ⟨rfl, _⟩ := h; rfl) | (obtain ⟨_, rfl, _⟩ := h; rfl) | (obtain ⟨_, _, rfl, _⟩ := h; rfl) | (obtain ⟨_, _, _, rfl, _⟩ := h; rfl) | (obtain ⟨_, _, _, _, rfl, _⟩ := h; rfl) | (obtain ⟨_, _, _, _, _, rfl, _⟩ := h; rfl) | (obtain ⟨_, _, _, _, _, _, rfl, _⟩ := h; rfl) | (obtain ⟨_, _, ⟨_, _, rfl, _⟩ | ⟨_, rfl, _⟩⟩ := h <;> rfl) | (obtain ⟨rfl, _⟩ := h; rfl)) fun X c al vs H Q E h => ?_
  obtain ⟨rfl, rfl, rfl, rfl, rfl⟩ := al
  exact body_is_found c (F.free _ (by walk_at "gm")) (F.free _ (by walk_at "gm")) (F.free _ (by walk_at "gm")) (d_is_value F) (d_is_node F) (d_is_term F) h
theorem d_is_answer (F : FA K mg w) : DefP Pg w K mg base CX0 "is_answer" ["value"] 6 (spP K pAns) := by
  obtain ⟨fd, f, g⟩ := F.fn "is_answer" sq_is_answer (by walk_at "gm")
  refine defP_of f g mq_is_answer (FunD.bindsN f fun _ _ _ _ _ _ us hl => match us, hl with | [_], _ => rfl) (fun vs H Q E h => by first | (obtain ⟨rfl, _⟩ := h; rfl) | (obtain ⟨_, rfl, _⟩ := h; rfl) | (obtain ⟨_, _, rfl, _⟩ := h; rfl) | (obtain ⟨_, _, _, rfl, _⟩ := h; rfl) | (obtain ⟨_, _, _, _, rfl, _⟩ := h; rfl) | (obtain ⟨_, _, _, _, _, rfl, _⟩ := h; rfl) | (obtain ⟨_, _, _, _, _, _, rfl, _⟩ := h; rfl) | (obtain ⟨_, _, ⟨_, _, rfl, _⟩ | ⟨_, rfl, _⟩⟩ := h <;> rfl) | (obtain ⟨rfl, _⟩ := h; rfl)) fun X c al vs H Q E h => ?_
  obtain ⟨rfl, rfl, rfl, rfl, rfl⟩ := al
  exact body_is_answer c (F.free _ (by walk_at "gm")) (F.free _ (by walk_at "gm")) (F.free _ (by walk_at "gm")) (F.free _ (by walk_at "gm")) F.gi_MOST_NAMES (d_is_found F) (d_is_name F) h
theorem chkT (F : FA K mg w) {X : Cx} (al : At5 X Pg w K mg base) : ChkT X := by
  obtain ⟨rfl, rfl, rfl, rfl, rfl⟩ := al
  obtain ⟨es, n, DK⟩ := F.tab_CHECKS
  have one : ∀ (u x : Str), (u, x) ∈ ckTab → KDct X.K X.w (He.ga X.K "CHECKS") u (.ref (He.ga X.K x)) := by
    intro u x hm
    have h : ckB X.K (u, x) = true := List.all_eq_true.mp F.checks _ hm
    unfold ckB at h
    obtain ⟨h1, h2⟩ := He.ba h
    have e : atK X.K (He.ga X.K "CHECKS") u = He.ga X.K x := of_decide_eq_true h2
    rw [← e]
    exact kdct_of DK h1
  refine ⟨⟨He.ga X.K "CHECKS", F.g_CHECKS, fun u hu => ?_⟩⟩
  simp only [List.mem_cons, List.not_mem_nil, or_false] at hu
  rcases hu with rfl | rfl | rfl | rfl | rfl | rfl | rfl
  · obtain ⟨fd, f, g⟩ := F.fn "is_kept" sq_is_kept (by walk_at "gm")
    refine ⟨_, fd, one "kept" "is_kept" (by walk_at "gm"), fnOk_of f mq_is_kept (fun vs H Q E h => by first | (obtain ⟨rfl, _⟩ := h; rfl) | (obtain ⟨_, rfl, _⟩ := h; rfl) | (obtain ⟨_, _, rfl, _⟩ := h; rfl) | (obtain ⟨_, _, _, rfl, _⟩ := h; rfl) | (obtain ⟨_, _, _, _, rfl, _⟩ := h; rfl) | (obtain ⟨_, _, _, _, _, rfl, _⟩ := h; rfl) | (obtain ⟨_, _, _, _, _, _, rfl, _⟩ := h; rfl) | (obtain ⟨_, _, ⟨_, _, rfl, _⟩ | ⟨_, rfl, _⟩⟩ := h <;> rfl) | (obtain ⟨rfl, _⟩ := h; rfl)) fun Y cx al vs H Q E h => ?_, f.kp, FunD.bindsN f fun _ _ _ _ _ _ us hl => match us, hl with | [_], _ => rfl⟩
    obtain ⟨e1, e2, e3, e4, e5⟩ := al
    have F2 : FA Y.K Y.mg Y.w := by rw [e3, e4, e2]; exact F
    obtain ⟨B, v, d, rfl, hv, hs, q⟩ := h
    have q : ∀ H', Fr NoB H H' → Q (.bl (pKept d)) H' := q
    rw [← e3] at hv
    exact body_is_kept (E := E) (K12.Ctx.le cx (by decide)) (d_is_id F2) ⟨B, v, d, rfl, hv, hs, q _ Fr.refl⟩
  · obtain ⟨fd, f, g⟩ := F.fn "is_node" sq_is_node (by walk_at "gm")
    refine ⟨_, fd, one "node" "is_node" (by walk_at "gm"), fnOk_of f mq_is_node (fun vs H Q E h => by first | (obtain ⟨rfl, _⟩ := h; rfl) | (obtain ⟨_, rfl, _⟩ := h; rfl) | (obtain ⟨_, _, rfl, _⟩ := h; rfl) | (obtain ⟨_, _, _, rfl, _⟩ := h; rfl) | (obtain ⟨_, _, _, _, rfl, _⟩ := h; rfl) | (obtain ⟨_, _, _, _, _, rfl, _⟩ := h; rfl) | (obtain ⟨_, _, _, _, _, _, rfl, _⟩ := h; rfl) | (obtain ⟨_, _, ⟨_, _, rfl, _⟩ | ⟨_, rfl, _⟩⟩ := h <;> rfl) | (obtain ⟨rfl, _⟩ := h; rfl)) fun Y cx al vs H Q E h => ?_, f.kp, FunD.bindsN f fun _ _ _ _ _ _ us hl => match us, hl with | [_], _ => rfl⟩
    obtain ⟨e1, e2, e3, e4, e5⟩ := al
    have F2 : FA Y.K Y.mg Y.w := by rw [e3, e4, e2]; exact F
    obtain ⟨B, v, d, rfl, hv, hs, q⟩ := h
    have q : ∀ H', Fr NoB H H' → Q (.bl (pTo 31 d)) H' := q
    rw [← e3] at hv
    exact body_is_node (E := E) (K12.Ctx.le cx (by decide)) F2.gi_LAST_NODE (d_is_whole F2) ⟨B, v, d, rfl, hv, hs, q _ Fr.refl⟩
  · obtain ⟨fd, f, g⟩ := F.fn "is_id" sq_is_id (by walk_at "gm")
    refine ⟨_, fd, one "id" "is_id" (by walk_at "gm"), fnOk_of f mq_is_id (fun vs H Q E h => by first | (obtain ⟨rfl, _⟩ := h; rfl) | (obtain ⟨_, rfl, _⟩ := h; rfl) | (obtain ⟨_, _, rfl, _⟩ := h; rfl) | (obtain ⟨_, _, _, rfl, _⟩ := h; rfl) | (obtain ⟨_, _, _, _, rfl, _⟩ := h; rfl) | (obtain ⟨_, _, _, _, _, rfl, _⟩ := h; rfl) | (obtain ⟨_, _, _, _, _, _, rfl, _⟩ := h; rfl) | (obtain ⟨_, _, ⟨_, _, rfl, _⟩ | ⟨_, rfl, _⟩⟩ := h <;> rfl) | (obtain ⟨rfl, _⟩ := h; rfl)) fun Y cx al vs H Q E h => ?_, f.kp, FunD.bindsN f fun _ _ _ _ _ _ us hl => match us, hl with | [_], _ => rfl⟩
    obtain ⟨e1, e2, e3, e4, e5⟩ := al
    have F2 : FA Y.K Y.mg Y.w := by rw [e3, e4, e2]; exact F
    obtain ⟨B, v, d, rfl, hv, hs, q⟩ := h
    have q : ∀ H', Fr NoB H H' → Q (.bl (pId d)) H' := q
    rw [← e3] at hv
    exact body_is_id (E := E) (K12.Ctx.le cx (by decide)) (F2.free _ (by walk_at "gm")) (F2.free _ (by walk_at "gm")) (F2.free _ (by walk_at "gm")) (d_is_node F2) (d_is_count F2) ⟨B, v, d, rfl, hv, hs, q _ Fr.refl⟩
  · obtain ⟨fd, f, g⟩ := F.fn "is_term" sq_is_term (by walk_at "gm")
    refine ⟨_, fd, one "term" "is_term" (by walk_at "gm"), fnOk_of f mq_is_term (fun vs H Q E h => by first | (obtain ⟨rfl, _⟩ := h; rfl) | (obtain ⟨_, rfl, _⟩ := h; rfl) | (obtain ⟨_, _, rfl, _⟩ := h; rfl) | (obtain ⟨_, _, _, rfl, _⟩ := h; rfl) | (obtain ⟨_, _, _, _, rfl, _⟩ := h; rfl) | (obtain ⟨_, _, _, _, _, rfl, _⟩ := h; rfl) | (obtain ⟨_, _, _, _, _, _, rfl, _⟩ := h; rfl) | (obtain ⟨_, _, ⟨_, _, rfl, _⟩ | ⟨_, rfl, _⟩⟩ := h <;> rfl) | (obtain ⟨rfl, _⟩ := h; rfl)) fun Y cx al vs H Q E h => ?_, f.kp, FunD.bindsN f fun _ _ _ _ _ _ us hl => match us, hl with | [_], _ => rfl⟩
    obtain ⟨e1, e2, e3, e4, e5⟩ := al
    have F2 : FA Y.K Y.mg Y.w := by rw [e3, e4, e2]; exact F
    obtain ⟨B, v, d, rfl, hv, hs, q⟩ := h
    have q : ∀ H', Fr NoB H H' → Q (.bl (pTerm d)) H' := q
    rw [← e3] at hv
    exact body_is_term (E := E) (K12.Ctx.le cx (by decide)) (d_is_id F2) ⟨B, v, d, rfl, hv, hs, q⟩
  · obtain ⟨fd, f, g⟩ := F.fn "is_most" sq_is_most (by walk_at "gm")
    refine ⟨_, fd, one "most" "is_most" (by walk_at "gm"), fnOk_of f mq_is_most (fun vs H Q E h => by first | (obtain ⟨rfl, _⟩ := h; rfl) | (obtain ⟨_, rfl, _⟩ := h; rfl) | (obtain ⟨_, _, rfl, _⟩ := h; rfl) | (obtain ⟨_, _, _, rfl, _⟩ := h; rfl) | (obtain ⟨_, _, _, _, rfl, _⟩ := h; rfl) | (obtain ⟨_, _, _, _, _, rfl, _⟩ := h; rfl) | (obtain ⟨_, _, _, _, _, _, rfl, _⟩ := h; rfl) | (obtain ⟨_, _, ⟨_, _, rfl, _⟩ | ⟨_, rfl, _⟩⟩ := h <;> rfl) | (obtain ⟨rfl, _⟩ := h; rfl)) fun Y cx al vs H Q E h => ?_, f.kp, FunD.bindsN f fun _ _ _ _ _ _ us hl => match us, hl with | [_], _ => rfl⟩
    obtain ⟨e1, e2, e3, e4, e5⟩ := al
    have F2 : FA Y.K Y.mg Y.w := by rw [e3, e4, e2]; exact F
    obtain ⟨B, v, d, rfl, hv, hs, q⟩ := h
    have q : ∀ H', Fr NoB H H' → Q (.bl (pTo 8 d)) H' := q
    rw [← e3] at hv
    exact body_is_most (E := E) (K12.Ctx.le cx (by decide)) F2.gi_MOST_NAMES (d_is_whole F2) ⟨B, v, d, rfl, hv, hs, q _ Fr.refl⟩
  · obtain ⟨fd, f, g⟩ := F.fn "is_entry" sq_is_entry (by walk_at "gm")
    refine ⟨_, fd, one "entry" "is_entry" (by walk_at "gm"), fnOk_of f mq_is_entry (fun vs H Q E h => by first | (obtain ⟨rfl, _⟩ := h; rfl) | (obtain ⟨_, rfl, _⟩ := h; rfl) | (obtain ⟨_, _, rfl, _⟩ := h; rfl) | (obtain ⟨_, _, _, rfl, _⟩ := h; rfl) | (obtain ⟨_, _, _, _, rfl, _⟩ := h; rfl) | (obtain ⟨_, _, _, _, _, rfl, _⟩ := h; rfl) | (obtain ⟨_, _, _, _, _, _, rfl, _⟩ := h; rfl) | (obtain ⟨_, _, ⟨_, _, rfl, _⟩ | ⟨_, rfl, _⟩⟩ := h <;> rfl) | (obtain ⟨rfl, _⟩ := h; rfl)) fun Y cx al vs H Q E h => ?_, f.kp, FunD.bindsN f fun _ _ _ _ _ _ us hl => match us, hl with | [_], _ => rfl⟩
    obtain ⟨e1, e2, e3, e4, e5⟩ := al
    have F2 : FA Y.K Y.mg Y.w := by rw [e3, e4, e2]; exact F
    obtain ⟨B, v, d, rfl, hv, hs, q⟩ := h
    have q : ∀ H', Fr NoB H H' → Q (.bl (pEnt d)) H' := q
    rw [← e3] at hv
    exact body_is_entry (E := E) (K12.Ctx.le cx (by decide)) (d_is_first_entry F2) (d_is_pointer F2) ⟨B, v, d, rfl, hv, hs, q⟩
  · obtain ⟨fd, f, g⟩ := F.fn "is_answer" sq_is_answer (by walk_at "gm")
    refine ⟨_, fd, one "answer" "is_answer" (by walk_at "gm"), fnOk_of f mq_is_answer (fun vs H Q E h => by first | (obtain ⟨rfl, _⟩ := h; rfl) | (obtain ⟨_, rfl, _⟩ := h; rfl) | (obtain ⟨_, _, rfl, _⟩ := h; rfl) | (obtain ⟨_, _, _, rfl, _⟩ := h; rfl) | (obtain ⟨_, _, _, _, rfl, _⟩ := h; rfl) | (obtain ⟨_, _, _, _, _, rfl, _⟩ := h; rfl) | (obtain ⟨_, _, _, _, _, _, rfl, _⟩ := h; rfl) | (obtain ⟨_, _, ⟨_, _, rfl, _⟩ | ⟨_, rfl, _⟩⟩ := h <;> rfl) | (obtain ⟨rfl, _⟩ := h; rfl)) fun Y cx al vs H Q E h => ?_, f.kp, FunD.bindsN f fun _ _ _ _ _ _ us hl => match us, hl with | [_], _ => rfl⟩
    obtain ⟨e1, e2, e3, e4, e5⟩ := al
    have F2 : FA Y.K Y.mg Y.w := by rw [e3, e4, e2]; exact F
    obtain ⟨B, v, d, rfl, hv, hs, q⟩ := h
    have q : ∀ H', Fr NoB H H' → Q (.bl (pAns d)) H' := q
    rw [← e3] at hv
    exact body_is_answer (E := E) (K12.Ctx.le cx (by decide)) (F2.free _ (by walk_at "gm")) (F2.free _ (by walk_at "gm")) (F2.free _ (by walk_at "gm")) (F2.free _ (by walk_at "gm")) F2.gi_MOST_NAMES (d_is_found F2) (d_is_name F2) ⟨B, v, d, rfl, hv, hs, q⟩
theorem d_is_part (F : FA K mg w) : DefP Pg w K mg base CX0 "is_part" ["part", "value"] 9 (spPart K) := by
  obtain ⟨fd, f, g⟩ := F.fn "is_part" sq_is_part (by walk_at "gm")
  refine defP_of f g mq_is_part (FunD.bindsN f fun _ _ _ _ _ _ us hl => match us, hl with | [_, _], _ => rfl) (fun vs H Q E h => by first | (obtain ⟨rfl, _⟩ := h; rfl) | (obtain ⟨_, rfl, _⟩ := h; rfl) | (obtain ⟨_, _, rfl, _⟩ := h; rfl) | (obtain ⟨_, _, _, rfl, _⟩ := h; rfl) | (obtain ⟨_, _, _, _, rfl, _⟩ := h; rfl) | (obtain ⟨_, _, _, _, _, rfl, _⟩ := h; rfl) | (obtain ⟨_, _, _, _, _, _, rfl, _⟩ := h; rfl) | (obtain ⟨_, _, ⟨_, _, rfl, _⟩ | ⟨_, rfl, _⟩⟩ := h <;> rfl) | (obtain ⟨rfl, _⟩ := h; rfl)) fun X c al vs H Q E h => ?_
  obtain ⟨rfl, rfl, rfl, rfl, rfl⟩ := al
  exact body_is_part c (chkT F ⟨rfl, rfl, rfl, rfl, rfl⟩) (d_is_label F) (d_is_name F) (d_is_fraction F) h
theorem d_are_parts (F : FA K mg w) : DefP Pg w K mg base CX0 "are_parts" ["parts", "values"] 10 (spParts K) := by
  obtain ⟨fd, f, g⟩ := F.fn "are_parts" sq_are_parts (by walk_at "gm")
  refine defP_of f g mq_are_parts (FunD.bindsN f fun _ _ _ _ _ _ us hl => match us, hl with | [_, _], _ => rfl) (fun vs H Q E h => by first | (obtain ⟨rfl, _⟩ := h; rfl) | (obtain ⟨_, rfl, _⟩ := h; rfl) | (obtain ⟨_, _, rfl, _⟩ := h; rfl) | (obtain ⟨_, _, _, rfl, _⟩ := h; rfl) | (obtain ⟨_, _, _, _, rfl, _⟩ := h; rfl) | (obtain ⟨_, _, _, _, _, rfl, _⟩ := h; rfl) | (obtain ⟨_, _, _, _, _, _, rfl, _⟩ := h; rfl) | (obtain ⟨_, _, ⟨_, _, rfl, _⟩ | ⟨_, rfl, _⟩⟩ := h <;> rfl) | (obtain ⟨rfl, _⟩ := h; rfl)) fun X c al vs H Q E h => ?_
  obtain ⟨rfl, rfl, rfl, rfl, rfl⟩ := al
  exact body_are_parts c (F.free _ (by walk_at "gm")) (F.free _ (by walk_at "gm")) (F.free _ (by walk_at "gm")) (d_is_part F) h
theorem d_is_deed (F : FA K mg w) : DefP Pg w K mg base CX0 "is_deed" ["value"] 11 (spP K pDeed) := by
  obtain ⟨fd, f, g⟩ := F.fn "is_deed" sq_is_deed (by walk_at "gm")
  refine defP_of f g mq_is_deed (FunD.bindsN f fun _ _ _ _ _ _ us hl => match us, hl with | [_], _ => rfl) (fun vs H Q E h => by first | (obtain ⟨rfl, _⟩ := h; rfl) | (obtain ⟨_, rfl, _⟩ := h; rfl) | (obtain ⟨_, _, rfl, _⟩ := h; rfl) | (obtain ⟨_, _, _, rfl, _⟩ := h; rfl) | (obtain ⟨_, _, _, _, rfl, _⟩ := h; rfl) | (obtain ⟨_, _, _, _, _, rfl, _⟩ := h; rfl) | (obtain ⟨_, _, _, _, _, _, rfl, _⟩ := h; rfl) | (obtain ⟨_, _, ⟨_, _, rfl, _⟩ | ⟨_, rfl, _⟩⟩ := h <;> rfl) | (obtain ⟨rfl, _⟩ := h; rfl)) fun X c al vs H Q E h => ?_
  obtain ⟨rfl, rfl, rfl, rfl, rfl⟩ := al
  exact body_is_deed c (F.free _ (by walk_at "gm")) (F.free _ (by walk_at "gm")) (F.free _ (by walk_at "gm")) (kiT F) (paT F) (d_are_parts F) h
theorem d_event_fault (F : FA K mg w) : DefP Pg w K mg base CX0 "event_fault" ["value"] 12 (spEF K) := by
  obtain ⟨fd, f, g⟩ := F.fn "event_fault" sq_event_fault (by walk_at "gm")
  refine defP_of f g mq_event_fault (FunD.bindsN f fun _ _ _ _ _ _ us hl => match us, hl with | [_], _ => rfl) (fun vs H Q E h => by first | (obtain ⟨rfl, _⟩ := h; rfl) | (obtain ⟨_, rfl, _⟩ := h; rfl) | (obtain ⟨_, _, rfl, _⟩ := h; rfl) | (obtain ⟨_, _, _, rfl, _⟩ := h; rfl) | (obtain ⟨_, _, _, _, rfl, _⟩ := h; rfl) | (obtain ⟨_, _, _, _, _, rfl, _⟩ := h; rfl) | (obtain ⟨_, _, _, _, _, _, rfl, _⟩ := h; rfl) | (obtain ⟨_, _, ⟨_, _, rfl, _⟩ | ⟨_, rfl, _⟩⟩ := h <;> rfl) | (obtain ⟨rfl, _⟩ := h; rfl)) fun X c al vs H Q E h => ?_
  obtain ⟨rfl, rfl, rfl, rfl, rfl⟩ := al
  exact body_event_fault c (F.free _ (by walk_at "gm")) (F.free _ (by walk_at "gm")) (F.free _ (by walk_at "gm")) (d_is_id F) (d_is_fraction F) (d_is_deed F) h
theorem d_check_event (F : FA K mg w) : DefP Pg w K mg base (L2.CX Pg w) "check_event" ["value"] 13 (spCk K (He.ga K "BadEvent") eF) := by
  obtain ⟨fd, f, g⟩ := F.fn "check_event" sq_check_event (by walk_at "gm")
  refine defPX_of f g mq_check_event (FunD.bindsN f fun _ _ _ _ _ _ us hl => match us, hl with | [_], _ => rfl) (fun vs H Q E h => by first | (obtain ⟨rfl, _⟩ := h; rfl) | (obtain ⟨_, rfl, _⟩ := h; rfl) | (obtain ⟨_, _, rfl, _⟩ := h; rfl) | (obtain ⟨_, _, _, rfl, _⟩ := h; rfl) | (obtain ⟨_, _, _, _, rfl, _⟩ := h; rfl) | (obtain ⟨_, _, _, _, _, rfl, _⟩ := h; rfl) | (obtain ⟨_, _, _, _, _, _, rfl, _⟩ := h; rfl) | (obtain ⟨_, _, ⟨_, _, rfl, _⟩ | ⟨_, rfl, _⟩⟩ := h <;> rfl) | (obtain ⟨rfl, _⟩ := h; rfl)) fun X c al vs H Q E tk h => ?_
  obtain ⟨rfl, rfl, rfl, rfl, rfl⟩ := al
  exact body_check_event c (errC_BadEvent F) (d_event_fault F) tk h
theorem kb_check_event {f : Addr} {fd : FuncData} (F : FnP K "check_event" sq_check_event f fd) : KBinds K fd ["value"] ["value"] g1 g1 := by
  obtain ⟨oc, od, dV, kV, doc, pm, an, cdv, ct, osl, rfl, lk, hcd, hD, hK⟩ := F.ex
  rcases hD with ⟨_, rfl⟩ | ⟨e, _⟩
  · refine ⟨fun s us ws _ hl => ?_, fun {vs us zs ws} r rz => ?_⟩
    · match us, ws, hl with
      | [], [a0], _ => exact .of_eq rfl
    · match vs, us, r with
      | [], [], _ =>
        match zs, ws, rz with
        | [a0], [a0'], .cons h0 (.nil) => exact .cons h0 (.nil)
        | [], _, .nil => exact .nil
        | _ :: _ :: _, _, .cons _ (.cons _ (_)) => exact .nil
      | _ :: _, _, .cons _ _ => exact .nil
  · exact absurd rfl e
theorem key_check_event {X : Cx} (F : FA X.K X.mg X.w) : KeyC X (L2.CX X.prog X.w) "check_event" ["value"] ["value"] g1 g1 13 (spCk X.K (He.ga X.K "BadEvent") eF) := by
  obtain ⟨fd, f, g⟩ := F.fn "check_event" sq_check_event (by walk_at "gm")
  refine ⟨He.ga X.K "check_event", fd, ?_, g, f.kp, kb_check_event f⟩
  refine fnOkX_of f mq_check_event (fun vs H Q E h => by first | (obtain ⟨rfl, _⟩ := h; rfl) | (obtain ⟨_, rfl, _⟩ := h; rfl) | (obtain ⟨_, _, rfl, _⟩ := h; rfl) | (obtain ⟨_, _, _, rfl, _⟩ := h; rfl) | (obtain ⟨_, _, _, _, rfl, _⟩ := h; rfl) | (obtain ⟨_, _, _, _, _, rfl, _⟩ := h; rfl) | (obtain ⟨_, _, _, _, _, _, rfl, _⟩ := h; rfl) | (obtain ⟨_, _, ⟨_, _, rfl, _⟩ | ⟨_, rfl, _⟩⟩ := h <;> rfl) | (obtain ⟨rfl, _⟩ := h; rfl)) fun Y c al vs H Q E tk h => ?_
  have F2 : FA Y.K Y.mg Y.w := by rw [al.k, al.m, al.w]; exact F
  have h2 := h
  try rw [← al.k] at h2
  exact body_check_event c (errC_BadEvent F2) (d_event_fault F2) tk h2
theorem d_check_entry (F : FA K mg w) : DefP Pg w K mg base (L2.CX Pg w) "check_entry" ["value"] 9 (spCk K (He.ga K "BadEvent") enF) := by
  obtain ⟨fd, f, g⟩ := F.fn "check_entry" sq_check_entry (by walk_at "gm")
  refine defPX_of f g mq_check_entry (FunD.bindsN f fun _ _ _ _ _ _ us hl => match us, hl with | [_], _ => rfl) (fun vs H Q E h => by first | (obtain ⟨rfl, _⟩ := h; rfl) | (obtain ⟨_, rfl, _⟩ := h; rfl) | (obtain ⟨_, _, rfl, _⟩ := h; rfl) | (obtain ⟨_, _, _, rfl, _⟩ := h; rfl) | (obtain ⟨_, _, _, _, rfl, _⟩ := h; rfl) | (obtain ⟨_, _, _, _, _, rfl, _⟩ := h; rfl) | (obtain ⟨_, _, _, _, _, _, rfl, _⟩ := h; rfl) | (obtain ⟨_, _, ⟨_, _, rfl, _⟩ | ⟨_, rfl, _⟩⟩ := h <;> rfl) | (obtain ⟨rfl, _⟩ := h; rfl)) fun X c al vs H Q E tk h => ?_
  obtain ⟨rfl, rfl, rfl, rfl, rfl⟩ := al
  exact body_check_entry c (errC_BadEvent F) (d_is_entry F) tk h
theorem kb_check_entry {f : Addr} {fd : FuncData} (F : FnP K "check_entry" sq_check_entry f fd) : KBinds K fd ["value"] ["value"] g1 g1 := by
  obtain ⟨oc, od, dV, kV, doc, pm, an, cdv, ct, osl, rfl, lk, hcd, hD, hK⟩ := F.ex
  rcases hD with ⟨_, rfl⟩ | ⟨e, _⟩
  · refine ⟨fun s us ws _ hl => ?_, fun {vs us zs ws} r rz => ?_⟩
    · match us, ws, hl with
      | [], [a0], _ => exact .of_eq rfl
    · match vs, us, r with
      | [], [], _ =>
        match zs, ws, rz with
        | [a0], [a0'], .cons h0 (.nil) => exact .cons h0 (.nil)
        | [], _, .nil => exact .nil
        | _ :: _ :: _, _, .cons _ (.cons _ (_)) => exact .nil
      | _ :: _, _, .cons _ _ => exact .nil
  · exact absurd rfl e
theorem key_check_entry {X : Cx} (F : FA X.K X.mg X.w) : KeyC X (L2.CX X.prog X.w) "check_entry" ["value"] ["value"] g1 g1 9 (spCk X.K (He.ga X.K "BadEvent") enF) := by
  obtain ⟨fd, f, g⟩ := F.fn "check_entry" sq_check_entry (by walk_at "gm")
  refine ⟨He.ga X.K "check_entry", fd, ?_, g, f.kp, kb_check_entry f⟩
  refine fnOkX_of f mq_check_entry (fun vs H Q E h => by first | (obtain ⟨rfl, _⟩ := h; rfl) | (obtain ⟨_, rfl, _⟩ := h; rfl) | (obtain ⟨_, _, rfl, _⟩ := h; rfl) | (obtain ⟨_, _, _, rfl, _⟩ := h; rfl) | (obtain ⟨_, _, _, _, rfl, _⟩ := h; rfl) | (obtain ⟨_, _, _, _, _, rfl, _⟩ := h; rfl) | (obtain ⟨_, _, _, _, _, _, rfl, _⟩ := h; rfl) | (obtain ⟨_, _, ⟨_, _, rfl, _⟩ | ⟨_, rfl, _⟩⟩ := h <;> rfl) | (obtain ⟨rfl, _⟩ := h; rfl)) fun Y c al vs H Q E tk h => ?_
  have F2 : FA Y.K Y.mg Y.w := by rw [al.k, al.m, al.w]; exact F
  have h2 := h
  try rw [← al.k] at h2
  exact body_check_entry c (errC_BadEvent F2) (d_is_entry F2) tk h2
theorem d_is_bounds (F : FA K mg w) : DefP Pg w K mg base CX0 "is_bounds" ["value"] 2 (spQ K pBnd) := by
  obtain ⟨fd, f, g⟩ := F.fn "is_bounds" sq_is_bounds (by walk_at "gm")
  refine defP_of f g mq_is_bounds (FunD.bindsN f fun _ _ _ _ _ _ us hl => match us, hl with | [_], _ => rfl) (fun vs H Q E h => by first | (obtain ⟨rfl, _⟩ := h; rfl) | (obtain ⟨_, rfl, _⟩ := h; rfl) | (obtain ⟨_, _, rfl, _⟩ := h; rfl) | (obtain ⟨_, _, _, rfl, _⟩ := h; rfl) | (obtain ⟨_, _, _, _, rfl, _⟩ := h; rfl) | (obtain ⟨_, _, _, _, _, rfl, _⟩ := h; rfl) | (obtain ⟨_, _, _, _, _, _, rfl, _⟩ := h; rfl) | (obtain ⟨_, _, ⟨_, _, rfl, _⟩ | ⟨_, rfl, _⟩⟩ := h <;> rfl) | (obtain ⟨rfl, _⟩ := h; rfl)) fun X c al vs H Q E h => ?_
  obtain ⟨rfl, rfl, rfl, rfl, rfl⟩ := al
  exact body_is_bounds c (F.free _ (by walk_at "gm")) (F.free _ (by walk_at "gm")) (F.free _ (by walk_at "gm")) F.gi_SLOWEST (d_is_whole F) h
theorem d_check_roster (F : FA K mg w) : DefP Pg w K mg base (L2.CX Pg w) "check_roster" ["value"] 3 (spCk K (He.ga K "BadRoster") rF) := by
  obtain ⟨fd, f, g⟩ := F.fn "check_roster" sq_check_roster (by walk_at "gm")
  refine defPX_of f g mq_check_roster (FunD.bindsN f fun _ _ _ _ _ _ us hl => match us, hl with | [_], _ => rfl) (fun vs H Q E h => by first | (obtain ⟨rfl, _⟩ := h; rfl) | (obtain ⟨_, rfl, _⟩ := h; rfl) | (obtain ⟨_, _, rfl, _⟩ := h; rfl) | (obtain ⟨_, _, _, rfl, _⟩ := h; rfl) | (obtain ⟨_, _, _, _, rfl, _⟩ := h; rfl) | (obtain ⟨_, _, _, _, _, rfl, _⟩ := h; rfl) | (obtain ⟨_, _, _, _, _, _, rfl, _⟩ := h; rfl) | (obtain ⟨_, _, ⟨_, _, rfl, _⟩ | ⟨_, rfl, _⟩⟩ := h <;> rfl) | (obtain ⟨rfl, _⟩ := h; rfl)) fun X c al vs H Q E tk h => ?_
  obtain ⟨rfl, rfl, rfl, rfl, rfl⟩ := al
  exact body_check_roster c (F.free _ (by walk_at "gm")) (F.free _ (by walk_at "gm")) (F.free _ (by walk_at "gm")) F.gi_ROSTER_PAIRS (errC_BadRoster F) (d_is_bounds F) tk h
theorem kb_check_roster {f : Addr} {fd : FuncData} (F : FnP K "check_roster" sq_check_roster f fd) : KBinds K fd ["value"] ["value"] g1 g1 := by
  obtain ⟨oc, od, dV, kV, doc, pm, an, cdv, ct, osl, rfl, lk, hcd, hD, hK⟩ := F.ex
  rcases hD with ⟨_, rfl⟩ | ⟨e, _⟩
  · refine ⟨fun s us ws _ hl => ?_, fun {vs us zs ws} r rz => ?_⟩
    · match us, ws, hl with
      | [], [a0], _ => exact .of_eq rfl
    · match vs, us, r with
      | [], [], _ =>
        match zs, ws, rz with
        | [a0], [a0'], .cons h0 (.nil) => exact .cons h0 (.nil)
        | [], _, .nil => exact .nil
        | _ :: _ :: _, _, .cons _ (.cons _ (_)) => exact .nil
      | _ :: _, _, .cons _ _ => exact .nil
  · exact absurd rfl e
theorem key_check_roster {X : Cx} (F : FA X.K X.mg X.w) : KeyC X (L2.CX X.prog X.w) "check_roster" ["value"] ["value"] g1 g1 3 (spCk X.K (He.ga X.K "BadRoster") rF) := by
  obtain ⟨fd, f, g⟩ := F.fn "check_roster" sq_check_roster (by walk_at "gm")
  refine ⟨He.ga X.K "check_roster", fd, ?_, g, f.kp, kb_check_roster f⟩
  refine fnOkX_of f mq_check_roster (fun vs H Q E h => by first | (obtain ⟨rfl, _⟩ := h; rfl) | (obtain ⟨_, rfl, _⟩ := h; rfl) | (obtain ⟨_, _, rfl, _⟩ := h; rfl) | (obtain ⟨_, _, _, rfl, _⟩ := h; rfl) | (obtain ⟨_, _, _, _, rfl, _⟩ := h; rfl) | (obtain ⟨_, _, _, _, _, rfl, _⟩ := h; rfl) | (obtain ⟨_, _, _, _, _, _, rfl, _⟩ := h; rfl) | (obtain ⟨_, _, ⟨_, _, rfl, _⟩ | ⟨_, rfl, _⟩⟩ := h <;> rfl) | (obtain ⟨rfl, _⟩ := h; rfl)) fun Y c al vs H Q E tk h => ?_
  have F2 : FA Y.K Y.mg Y.w := by rw [al.k, al.m, al.w]; exact F
  have h2 := h
  try rw [← al.k] at h2
  exact body_check_roster c (F2.free _ (by walk_at "gm")) (F2.free _ (by walk_at "gm")) (F2.free _ (by walk_at "gm")) F2.gi_ROSTER_PAIRS (errC_BadRoster F2) (d_is_bounds F2) tk h2
theorem d_whole (F : FA K mg w) : DefP Pg w K mg base CX0 "_law_whole" ["value", "least"] 1 (spGe K) := by
  obtain ⟨fd, f, g⟩ := F.fn "_law_whole" sq_whole (by walk_at "gm")
  refine defP_of f g mq_whole (FunD.bindsN f fun _ _ _ _ _ _ us hl => match us, hl with | [_, _], _ => rfl) (fun vs H Q E h => by first | (obtain ⟨rfl, _⟩ := h; rfl) | (obtain ⟨_, rfl, _⟩ := h; rfl) | (obtain ⟨_, _, rfl, _⟩ := h; rfl) | (obtain ⟨_, _, _, rfl, _⟩ := h; rfl) | (obtain ⟨_, _, _, _, rfl, _⟩ := h; rfl) | (obtain ⟨_, _, _, _, _, rfl, _⟩ := h; rfl) | (obtain ⟨_, _, _, _, _, _, rfl, _⟩ := h; rfl) | (obtain ⟨_, _, ⟨_, _, rfl, _⟩ | ⟨_, rfl, _⟩⟩ := h <;> rfl) | (obtain ⟨rfl, _⟩ := h; rfl)) fun X c al vs H Q E h => ?_
  obtain ⟨rfl, rfl, rfl, rfl, rfl⟩ := al
  exact body_whole c (F.free _ (by walk_at "gm")) (F.free _ (by walk_at "gm")) (F.free _ (by walk_at "gm")) h
theorem d_size (F : FA K mg w) : DefP Pg w K mg base CX0 "_law_size" ["value", "many"] 1 (spSz K) := by
  obtain ⟨fd, f, g⟩ := F.fn "_law_size" sq_size (by walk_at "gm")
  refine defP_of f g mq_size (FunD.bindsN f fun _ _ _ _ _ _ us hl => match us, hl with | [_, _], _ => rfl) (fun vs H Q E h => by first | (obtain ⟨rfl, _⟩ := h; rfl) | (obtain ⟨_, rfl, _⟩ := h; rfl) | (obtain ⟨_, _, rfl, _⟩ := h; rfl) | (obtain ⟨_, _, _, rfl, _⟩ := h; rfl) | (obtain ⟨_, _, _, _, rfl, _⟩ := h; rfl) | (obtain ⟨_, _, _, _, _, rfl, _⟩ := h; rfl) | (obtain ⟨_, _, _, _, _, _, rfl, _⟩ := h; rfl) | (obtain ⟨_, _, ⟨_, _, rfl, _⟩ | ⟨_, rfl, _⟩⟩ := h <;> rfl) | (obtain ⟨rfl, _⟩ := h; rfl)) fun X c al vs H Q E h => ?_
  obtain ⟨rfl, rfl, rfl, rfl, rfl⟩ := al
  exact body_size c (F.free _ (by walk_at "gm")) (F.free _ (by walk_at "gm")) (F.free _ (by walk_at "gm")) h
theorem d_is_nodeL (F : FA K mg w) : DefP Pg w K mg base CX0 "_law_is_node" ["value"] 2 (spQ K (pTo 31)) := by
  obtain ⟨fd, f, g⟩ := F.fn "_law_is_node" sq_is_nodeL (by walk_at "gm")
  refine defP_of f g mq_is_nodeL (FunD.bindsN f fun _ _ _ _ _ _ us hl => match us, hl with | [_], _ => rfl) (fun vs H Q E h => by first | (obtain ⟨rfl, _⟩ := h; rfl) | (obtain ⟨_, rfl, _⟩ := h; rfl) | (obtain ⟨_, _, rfl, _⟩ := h; rfl) | (obtain ⟨_, _, _, rfl, _⟩ := h; rfl) | (obtain ⟨_, _, _, _, rfl, _⟩ := h; rfl) | (obtain ⟨_, _, _, _, _, rfl, _⟩ := h; rfl) | (obtain ⟨_, _, _, _, _, _, rfl, _⟩ := h; rfl) | (obtain ⟨_, _, ⟨_, _, rfl, _⟩ | ⟨_, rfl, _⟩⟩ := h <;> rfl) | (obtain ⟨rfl, _⟩ := h; rfl)) fun X c al vs H Q E h => ?_
  obtain ⟨rfl, rfl, rfl, rfl, rfl⟩ := al
  exact body_is_nodeL c (d_whole F) h
theorem d_is_idL (F : FA K mg w) : DefP Pg w K mg base CX0 "_law_is_id" ["value"] 3 (spQ K pId) := by
  obtain ⟨fd, f, g⟩ := F.fn "_law_is_id" sq_is_idL (by walk_at "gm")
  refine defP_of f g mq_is_idL (FunD.bindsN f fun _ _ _ _ _ _ us hl => match us, hl with | [_], _ => rfl) (fun vs H Q E h => by first | (obtain ⟨rfl, _⟩ := h; rfl) | (obtain ⟨_, rfl, _⟩ := h; rfl) | (obtain ⟨_, _, rfl, _⟩ := h; rfl) | (obtain ⟨_, _, _, rfl, _⟩ := h; rfl) | (obtain ⟨_, _, _, _, rfl, _⟩ := h; rfl) | (obtain ⟨_, _, _, _, _, rfl, _⟩ := h; rfl) | (obtain ⟨_, _, _, _, _, _, rfl, _⟩ := h; rfl) | (obtain ⟨_, _, ⟨_, _, rfl, _⟩ | ⟨_, rfl, _⟩⟩ := h <;> rfl) | (obtain ⟨rfl, _⟩ := h; rfl)) fun X c al vs H Q E h => ?_
  obtain ⟨rfl, rfl, rfl, rfl, rfl⟩ := al
  exact body_is_idL c (d_whole F) (d_size F) (d_is_nodeL F) h
theorem d_gcd (F : FA K mg w) : DefP Pg w K mg base CX0 "_law_gcd" ["one", "two"] 1 (spGcd) := by
  obtain ⟨fd, f, g⟩ := F.fn "_law_gcd" sq_gcd (by walk_at "gm")
  refine defP_of f g mq_gcd (FunD.bindsN f fun _ _ _ _ _ _ us hl => match us, hl with | [_, _], _ => rfl) (fun vs H Q E h => by first | (obtain ⟨rfl, _⟩ := h; rfl) | (obtain ⟨_, rfl, _⟩ := h; rfl) | (obtain ⟨_, _, rfl, _⟩ := h; rfl) | (obtain ⟨_, _, _, rfl, _⟩ := h; rfl) | (obtain ⟨_, _, _, _, rfl, _⟩ := h; rfl) | (obtain ⟨_, _, _, _, _, rfl, _⟩ := h; rfl) | (obtain ⟨_, _, _, _, _, _, rfl, _⟩ := h; rfl) | (obtain ⟨_, _, ⟨_, _, rfl, _⟩ | ⟨_, rfl, _⟩⟩ := h <;> rfl) | (obtain ⟨rfl, _⟩ := h; rfl)) fun X c al vs H Q E h => ?_
  obtain ⟨rfl, rfl, rfl, rfl, rfl⟩ := al
  exact body_gcd c (F.free _ (by walk_at "gm")) (F.free _ (by walk_at "gm")) h
theorem d_is_labelL (F : FA K mg w) : DefP Pg w K mg base CX0 "_law_is_label" ["value"] 1 (spP K pLab) := by
  obtain ⟨fd, f, g⟩ := F.fn "_law_is_label" sq_is_labelL (by walk_at "gm")
  refine defP_of f g mq_is_labelL (FunD.bindsN f fun _ _ _ _ _ _ us hl => match us, hl with | [_], _ => rfl) (fun vs H Q E h => by first | (obtain ⟨rfl, _⟩ := h; rfl) | (obtain ⟨_, rfl, _⟩ := h; rfl) | (obtain ⟨_, _, rfl, _⟩ := h; rfl) | (obtain ⟨_, _, _, rfl, _⟩ := h; rfl) | (obtain ⟨_, _, _, _, rfl, _⟩ := h; rfl) | (obtain ⟨_, _, _, _, _, rfl, _⟩ := h; rfl) | (obtain ⟨_, _, _, _, _, _, rfl, _⟩ := h; rfl) | (obtain ⟨_, _, ⟨_, _, rfl, _⟩ | ⟨_, rfl, _⟩⟩ := h <;> rfl) | (obtain ⟨rfl, _⟩ := h; rfl)) fun X c al vs H Q E h => ?_
  obtain ⟨rfl, rfl, rfl, rfl, rfl⟩ := al
  exact body_is_labelL c (F.free _ (by walk_at "gm")) (F.free _ (by walk_at "gm")) (F.free _ (by walk_at "gm")) h
theorem d_is_nameL (F : FA K mg w) : DefP Pg w K mg base CX0 "_law_is_name" ["value"] 2 (spP K pName) := by
  obtain ⟨fd, f, g⟩ := F.fn "_law_is_name" sq_is_nameL (by walk_at "gm")
  refine defP_of f g mq_is_nameL (FunD.bindsN f fun _ _ _ _ _ _ us hl => match us, hl with | [_], _ => rfl) (fun vs H Q E h => by first | (obtain ⟨rfl, _⟩ := h; rfl) | (obtain ⟨_, rfl, _⟩ := h; rfl) | (obtain ⟨_, _, rfl, _⟩ := h; rfl) | (obtain ⟨_, _, _, rfl, _⟩ := h; rfl) | (obtain ⟨_, _, _, _, rfl, _⟩ := h; rfl) | (obtain ⟨_, _, _, _, _, rfl, _⟩ := h; rfl) | (obtain ⟨_, _, _, _, _, _, rfl, _⟩ := h; rfl) | (obtain ⟨_, _, ⟨_, _, rfl, _⟩ | ⟨_, rfl, _⟩⟩ := h <;> rfl) | (obtain ⟨rfl, _⟩ := h; rfl)) fun X c al vs H Q E h => ?_
  obtain ⟨rfl, rfl, rfl, rfl, rfl⟩ := al
  exact body_is_nameL c (F.free _ (by walk_at "gm")) (F.free _ (by walk_at "gm")) (F.free _ (by walk_at "gm")) (d_is_labelL F) h
theorem d_is_fractionL (F : FA K mg w) : DefP Pg w K mg base CX0 "_law_is_fraction" ["value"] 2 (spQ K pFrac) := by
  obtain ⟨fd, f, g⟩ := F.fn "_law_is_fraction" sq_is_fractionL (by walk_at "gm")
  refine defP_of f g mq_is_fractionL (FunD.bindsN f fun _ _ _ _ _ _ us hl => match us, hl with | [_], _ => rfl) (fun vs H Q E h => by first | (obtain ⟨rfl, _⟩ := h; rfl) | (obtain ⟨_, rfl, _⟩ := h; rfl) | (obtain ⟨_, _, rfl, _⟩ := h; rfl) | (obtain ⟨_, _, _, rfl, _⟩ := h; rfl) | (obtain ⟨_, _, _, _, rfl, _⟩ := h; rfl) | (obtain ⟨_, _, _, _, _, rfl, _⟩ := h; rfl) | (obtain ⟨_, _, _, _, _, _, rfl, _⟩ := h; rfl) | (obtain ⟨_, _, ⟨_, _, rfl, _⟩ | ⟨_, rfl, _⟩⟩ := h <;> rfl) | (obtain ⟨rfl, _⟩ := h; rfl)) fun X c al vs H Q E h => ?_
  obtain ⟨rfl, rfl, rfl, rfl, rfl⟩ := al
  exact body_is_fractionL c (F.free _ (by walk_at "gm")) (d_whole F) (d_size F) (d_gcd F) h
theorem d_is_plain (F : FA K mg w) : DefP Pg w K mg base CX0 "_law_is_plain" ["value"] 3 (spP K pFst) := by
  obtain ⟨fd, f, g⟩ := F.fn "_law_is_plain" sq_is_plain (by walk_at "gm")
  refine defP_of f g mq_is_plain (FunD.bindsN f fun _ _ _ _ _ _ us hl => match us, hl with | [_], _ => rfl) (fun vs H Q E h => by first | (obtain ⟨rfl, _⟩ := h; rfl) | (obtain ⟨_, rfl, _⟩ := h; rfl) | (obtain ⟨_, _, rfl, _⟩ := h; rfl) | (obtain ⟨_, _, _, rfl, _⟩ := h; rfl) | (obtain ⟨_, _, _, _, rfl, _⟩ := h; rfl) | (obtain ⟨_, _, _, _, _, rfl, _⟩ := h; rfl) | (obtain ⟨_, _, _, _, _, _, rfl, _⟩ := h; rfl) | (obtain ⟨_, _, ⟨_, _, rfl, _⟩ | ⟨_, rfl, _⟩⟩ := h <;> rfl) | (obtain ⟨rfl, _⟩ := h; rfl)) fun X c al vs H Q E h => ?_
  obtain ⟨rfl, rfl, rfl, rfl, rfl⟩ := al
  exact body_is_plain c (F.free _ (by walk_at "gm")) (F.free _ (by walk_at "gm")) (d_size F) (d_whole F) (d_is_nameL F) h
theorem d_is_entryL (F : FA K mg w) : DefP Pg w K mg base CX0 "_law_is_entry" ["value"] 4 (spP K pEnt) := by
  obtain ⟨fd, f, g⟩ := F.fn "_law_is_entry" sq_is_entryL (by walk_at "gm")
  refine defP_of f g mq_is_entryL (FunD.bindsN f fun _ _ _ _ _ _ us hl => match us, hl with | [_], _ => rfl) (fun vs H Q E h => by first | (obtain ⟨rfl, _⟩ := h; rfl) | (obtain ⟨_, rfl, _⟩ := h; rfl) | (obtain ⟨_, _, rfl, _⟩ := h; rfl) | (obtain ⟨_, _, _, rfl, _⟩ := h; rfl) | (obtain ⟨_, _, _, _, rfl, _⟩ := h; rfl) | (obtain ⟨_, _, _, _, _, rfl, _⟩ := h; rfl) | (obtain ⟨_, _, _, _, _, _, rfl, _⟩ := h; rfl) | (obtain ⟨_, _, ⟨_, _, rfl, _⟩ | ⟨_, rfl, _⟩⟩ := h <;> rfl) | (obtain ⟨rfl, _⟩ := h; rfl)) fun X c al vs H Q E h => ?_
  obtain ⟨rfl, rfl, rfl, rfl, rfl⟩ := al
  exact body_is_entryL c (F.free _ (by walk_at "gm")) (F.free _ (by walk_at "gm")) (F.free _ (by walk_at "gm")) (F.free _ (by walk_at "gm")) (F.free _ (by walk_at "gm")) (d_is_plain F) (d_size F) (d_is_nodeL F) (d_is_labelL F) h
theorem d_is_answerL (F : FA K mg w) : DefP Pg w K mg base CX0 "_law_is_answer" ["value"] 4 (spP K pAns) := by
  obtain ⟨fd, f, g⟩ := F.fn "_law_is_answer" sq_is_answerL (by walk_at "gm")
  refine defP_of f g mq_is_answerL (FunD.bindsN f fun _ _ _ _ _ _ us hl => match us, hl with | [_], _ => rfl) (fun vs H Q E h => by first | (obtain ⟨rfl, _⟩ := h; rfl) | (obtain ⟨_, rfl, _⟩ := h; rfl) | (obtain ⟨_, _, rfl, _⟩ := h; rfl) | (obtain ⟨_, _, _, rfl, _⟩ := h; rfl) | (obtain ⟨_, _, _, _, rfl, _⟩ := h; rfl) | (obtain ⟨_, _, _, _, _, rfl, _⟩ := h; rfl) | (obtain ⟨_, _, _, _, _, _, rfl, _⟩ := h; rfl) | (obtain ⟨_, _, ⟨_, _, rfl, _⟩ | ⟨_, rfl, _⟩⟩ := h <;> rfl) | (obtain ⟨rfl, _⟩ := h; rfl)) fun X c al vs H Q E h => ?_
  obtain ⟨rfl, rfl, rfl, rfl, rfl⟩ := al
  exact body_is_answerL c (F.free _ (by walk_at "gm")) (F.free _ (by walk_at "gm")) (F.free _ (by walk_at "gm")) (F.free _ (by walk_at "gm")) (d_size F) (d_whole F) (d_is_nodeL F) (d_is_idL F) (d_is_nameL F) h
theorem d_words (F : FA K mg w) : DefP Pg w K mg base CX0 "_law_words" [] 1 (spWords) := by
  obtain ⟨fd, f, g⟩ := F.fn "_law_words" sq_words (by walk_at "gm")
  refine defP_of f g mq_words (FunD.bindsN f fun _ _ _ _ _ _ us hl => match us, hl with | [], _ => rfl) (fun vs H Q E h => by first | (obtain ⟨rfl, _⟩ := h; rfl) | (obtain ⟨_, rfl, _⟩ := h; rfl) | (obtain ⟨_, _, rfl, _⟩ := h; rfl) | (obtain ⟨_, _, _, rfl, _⟩ := h; rfl) | (obtain ⟨_, _, _, _, rfl, _⟩ := h; rfl) | (obtain ⟨_, _, _, _, _, rfl, _⟩ := h; rfl) | (obtain ⟨_, _, _, _, _, _, rfl, _⟩ := h; rfl) | (obtain ⟨_, _, ⟨_, _, rfl, _⟩ | ⟨_, rfl, _⟩⟩ := h <;> rfl) | (obtain ⟨rfl, _⟩ := h; rfl)) fun X c al vs H Q E h => ?_
  obtain ⟨rfl, rfl, rfl, rfl, rfl⟩ := al
  exact body_words c  h
theorem d_may_stand (F : FA K mg w) : DefP Pg w K mg base CX0 "_law_may_stand" ["word", "value"] 5 (spStand K) := by
  obtain ⟨fd, f, g⟩ := F.fn "_law_may_stand" sq_may_stand (by walk_at "gm")
  refine defP_of f g mq_may_stand (FunD.bindsN f fun _ _ _ _ _ _ us hl => match us, hl with | [_, _], _ => rfl) (fun vs H Q E h => by first | (obtain ⟨rfl, _⟩ := h; rfl) | (obtain ⟨_, rfl, _⟩ := h; rfl) | (obtain ⟨_, _, rfl, _⟩ := h; rfl) | (obtain ⟨_, _, _, rfl, _⟩ := h; rfl) | (obtain ⟨_, _, _, _, rfl, _⟩ := h; rfl) | (obtain ⟨_, _, _, _, _, rfl, _⟩ := h; rfl) | (obtain ⟨_, _, _, _, _, _, rfl, _⟩ := h; rfl) | (obtain ⟨_, _, ⟨_, _, rfl, _⟩ | ⟨_, rfl, _⟩⟩ := h <;> rfl) | (obtain ⟨rfl, _⟩ := h; rfl)) fun X c al vs H Q E h => ?_
  obtain ⟨rfl, rfl, rfl, rfl, rfl⟩ := al
  exact body_may_stand c (d_whole F) (d_size F) (d_is_nodeL F) (d_is_idL F) (d_is_labelL F) (d_is_entryL F) (d_is_fractionL F) (d_is_nameL F) (d_is_answerL F) h
theorem d_is_deedL (F : FA K mg w) : DefP Pg w K mg base CX0 "_law_is_deed" ["value"] 6 (spP K pDeed) := by
  obtain ⟨fd, f, g⟩ := F.fn "_law_is_deed" sq_is_deedL (by walk_at "gm")
  refine defP_of f g mq_is_deedL (FunD.bindsN f fun _ _ _ _ _ _ us hl => match us, hl with | [_], _ => rfl) (fun vs H Q E h => by first | (obtain ⟨rfl, _⟩ := h; rfl) | (obtain ⟨_, rfl, _⟩ := h; rfl) | (obtain ⟨_, _, rfl, _⟩ := h; rfl) | (obtain ⟨_, _, _, rfl, _⟩ := h; rfl) | (obtain ⟨_, _, _, _, rfl, _⟩ := h; rfl) | (obtain ⟨_, _, _, _, _, rfl, _⟩ := h; rfl) | (obtain ⟨_, _, _, _, _, _, rfl, _⟩ := h; rfl) | (obtain ⟨_, _, ⟨_, _, rfl, _⟩ | ⟨_, rfl, _⟩⟩ := h <;> rfl) | (obtain ⟨rfl, _⟩ := h; rfl)) fun X c al vs H Q E h => ?_
  obtain ⟨rfl, rfl, rfl, rfl, rfl⟩ := al
  exact body_is_deedL c (F.free _ (by walk_at "gm")) (F.free _ (by walk_at "gm")) (F.free _ (by walk_at "gm")) (F.free _ (by walk_at "gm")) (F.free _ (by walk_at "gm")) (d_words F) (d_may_stand F) h
theorem d_fault (F : FA K mg w) : DefP Pg w K mg base CX0 "_law_fault" ["value"] 7 (spEF K) := by
  obtain ⟨fd, f, g⟩ := F.fn "_law_fault" sq_fault (by walk_at "gm")
  refine defP_of f g mq_fault (FunD.bindsN f fun _ _ _ _ _ _ us hl => match us, hl with | [_], _ => rfl) (fun vs H Q E h => by first | (obtain ⟨rfl, _⟩ := h; rfl) | (obtain ⟨_, rfl, _⟩ := h; rfl) | (obtain ⟨_, _, rfl, _⟩ := h; rfl) | (obtain ⟨_, _, _, rfl, _⟩ := h; rfl) | (obtain ⟨_, _, _, _, rfl, _⟩ := h; rfl) | (obtain ⟨_, _, _, _, _, rfl, _⟩ := h; rfl) | (obtain ⟨_, _, _, _, _, _, rfl, _⟩ := h; rfl) | (obtain ⟨_, _, ⟨_, _, rfl, _⟩ | ⟨_, rfl, _⟩⟩ := h <;> rfl) | (obtain ⟨rfl, _⟩ := h; rfl)) fun X c al vs H Q E h => ?_
  obtain ⟨rfl, rfl, rfl, rfl, rfl⟩ := al
  exact body_fault c (d_size F) (d_is_idL F) (d_is_fractionL F) (d_is_deedL F) h
theorem d_event_told (F : FA K mg w) : DefP Pg w K mg base CX0 "_law_event_told" ["value"] 14 (spTold K eF) := by
  obtain ⟨fd, f, g⟩ := F.fn "_law_event_told" sq_event_told (by walk_at "gm")
  refine defPT_of f g mq_event_told (FunD.bindsN f fun _ _ _ _ _ _ us hl => match us, hl with | [_], _ => rfl) (fun vs H Q E h => by first | (obtain ⟨rfl, _⟩ := h; rfl) | (obtain ⟨_, rfl, _⟩ := h; rfl) | (obtain ⟨_, _, rfl, _⟩ := h; rfl) | (obtain ⟨_, _, _, rfl, _⟩ := h; rfl) | (obtain ⟨_, _, _, _, rfl, _⟩ := h; rfl) | (obtain ⟨_, _, _, _, _, rfl, _⟩ := h; rfl) | (obtain ⟨_, _, _, _, _, _, rfl, _⟩ := h; rfl) | (obtain ⟨_, _, ⟨_, _, rfl, _⟩ | ⟨_, rfl, _⟩⟩ := h <;> rfl) | (obtain ⟨rfl, _⟩ := h; rfl)) fun X c al hs hfr vs H Q E h => ?_
  obtain ⟨rfl, rfl, rfl, rfl, rfl⟩ := al
  exact body_event_told c hs hfr (F.free _ (by walk_at "gm")) (badT F) (key_check_event F) F.g_BadEvent F.g_BadRoster (hd_BadEvent F) (of_decide_eq_true F.no_BadEvent) h
theorem d_entry_told (F : FA K mg w) : DefP Pg w K mg base CX0 "_law_entry_told" ["value"] 14 (spTold K enF) := by
  obtain ⟨fd, f, g⟩ := F.fn "_law_entry_told" sq_entry_told (by walk_at "gm")
  refine defPT_of f g mq_entry_told (FunD.bindsN f fun _ _ _ _ _ _ us hl => match us, hl with | [_], _ => rfl) (fun vs H Q E h => by first | (obtain ⟨rfl, _⟩ := h; rfl) | (obtain ⟨_, rfl, _⟩ := h; rfl) | (obtain ⟨_, _, rfl, _⟩ := h; rfl) | (obtain ⟨_, _, _, rfl, _⟩ := h; rfl) | (obtain ⟨_, _, _, _, rfl, _⟩ := h; rfl) | (obtain ⟨_, _, _, _, _, rfl, _⟩ := h; rfl) | (obtain ⟨_, _, _, _, _, _, rfl, _⟩ := h; rfl) | (obtain ⟨_, _, ⟨_, _, rfl, _⟩ | ⟨_, rfl, _⟩⟩ := h <;> rfl) | (obtain ⟨rfl, _⟩ := h; rfl)) fun X c al hs hfr vs H Q E h => ?_
  obtain ⟨rfl, rfl, rfl, rfl, rfl⟩ := al
  exact body_entry_told c hs hfr (F.free _ (by walk_at "gm")) (badT F) (key_check_entry F) F.g_BadEvent F.g_BadRoster (hd_BadEvent F) (of_decide_eq_true F.no_BadEvent) h
theorem d_roster_told (F : FA K mg w) : DefP Pg w K mg base CX0 "_law_roster_told" ["value"] 14 (spTold K rF) := by
  obtain ⟨fd, f, g⟩ := F.fn "_law_roster_told" sq_roster_told (by walk_at "gm")
  refine defPT_of f g mq_roster_told (FunD.bindsN f fun _ _ _ _ _ _ us hl => match us, hl with | [_], _ => rfl) (fun vs H Q E h => by first | (obtain ⟨rfl, _⟩ := h; rfl) | (obtain ⟨_, rfl, _⟩ := h; rfl) | (obtain ⟨_, _, rfl, _⟩ := h; rfl) | (obtain ⟨_, _, _, rfl, _⟩ := h; rfl) | (obtain ⟨_, _, _, _, rfl, _⟩ := h; rfl) | (obtain ⟨_, _, _, _, _, rfl, _⟩ := h; rfl) | (obtain ⟨_, _, _, _, _, _, rfl, _⟩ := h; rfl) | (obtain ⟨_, _, ⟨_, _, rfl, _⟩ | ⟨_, rfl, _⟩⟩ := h <;> rfl) | (obtain ⟨rfl, _⟩ := h; rfl)) fun X c al hs hfr vs H Q E h => ?_
  obtain ⟨rfl, rfl, rfl, rfl, rfl⟩ := al
  exact body_roster_told c hs hfr (F.free _ (by walk_at "gm")) (badT F) (key_check_roster F) F.g_BadRoster F.g_BadEvent (hd_BadRoster F) (of_decide_eq_true F.no_BadRoster) h
theorem d_base_told (F : FA K mg w) : DefP Pg w K mg base CX0 "_law_base_told" ["value"] 4 (spBase K) := by
  obtain ⟨fd, f, g⟩ := F.fn "_law_base_told" sq_base_told (by walk_at "gm")
  refine defPT_of f g mq_base_told (FunD.bindsN f fun _ _ _ _ _ _ us hl => match us, hl with | [_], _ => rfl) (fun vs H Q E h => by first | (obtain ⟨rfl, _⟩ := h; rfl) | (obtain ⟨_, rfl, _⟩ := h; rfl) | (obtain ⟨_, _, rfl, _⟩ := h; rfl) | (obtain ⟨_, _, _, rfl, _⟩ := h; rfl) | (obtain ⟨_, _, _, _, rfl, _⟩ := h; rfl) | (obtain ⟨_, _, _, _, _, rfl, _⟩ := h; rfl) | (obtain ⟨_, _, _, _, _, _, rfl, _⟩ := h; rfl) | (obtain ⟨_, _, ⟨_, _, rfl, _⟩ | ⟨_, rfl, _⟩⟩ := h <;> rfl) | (obtain ⟨rfl, _⟩ := h; rfl)) fun X c al hs hfr vs H Q E h => ?_
  obtain ⟨rfl, rfl, rfl, rfl, rfl⟩ := al
  exact body_base_told c hs hfr (F.free _ (by walk_at "gm")) (F.free _ (by walk_at "gm")) (d_check_roster F) F.g_BadRoster F.g_BadEvent (hd_BadRoster F) (of_decide_eq_true F.no_BadRoster) (of_decide_eq_true F.yes_BadRoster) h
theorem d_due (F : FA K mg w) : DefP Pg w K mg base CX0 "_law_due" ["value", "fault"] 1 (spDue K) := by
  obtain ⟨fd, f, g⟩ := F.fn "_law_due" sq_due (by walk_at "gm")
  refine defP_of f g mq_due (FunD.bindsN f fun _ _ _ _ _ _ us hl => match us, hl with | [_, _], _ => rfl) (fun vs H Q E h => by first | (obtain ⟨rfl, _⟩ := h; rfl) | (obtain ⟨_, rfl, _⟩ := h; rfl) | (obtain ⟨_, _, rfl, _⟩ := h; rfl) | (obtain ⟨_, _, _, rfl, _⟩ := h; rfl) | (obtain ⟨_, _, _, _, rfl, _⟩ := h; rfl) | (obtain ⟨_, _, _, _, _, rfl, _⟩ := h; rfl) | (obtain ⟨_, _, _, _, _, _, rfl, _⟩ := h; rfl) | (obtain ⟨_, _, ⟨_, _, rfl, _⟩ | ⟨_, rfl, _⟩⟩ := h <;> rfl) | (obtain ⟨rfl, _⟩ := h; rfl)) fun X c al vs H Q E h => ?_
  obtain ⟨rfl, rfl, rfl, rfl, rfl⟩ := al
  exact body_due c  h
theorem d_same_n (F : FA K mg w) : ∀ n, DefP Pg w K mg base CX0 "_law_same" ["told", "due"] (n + 1) (spSame K n) := by
  intro n
  induction n with
  | zero =>
    obtain ⟨fd, f, g⟩ := F.fn "_law_same" sq_same (by walk_at "gm")
    refine defP_of f g mq_same (FunD.bindsN f fun _ _ _ _ _ _ us hl => match us, hl with | [_, _], _ => rfl) (fun vs H Q E h => by first | (obtain ⟨rfl, _⟩ := h; rfl) | (obtain ⟨_, rfl, _⟩ := h; rfl) | (obtain ⟨_, _, rfl, _⟩ := h; rfl) | (obtain ⟨_, _, _, rfl, _⟩ := h; rfl) | (obtain ⟨_, _, _, _, rfl, _⟩ := h; rfl) | (obtain ⟨_, _, _, _, _, rfl, _⟩ := h; rfl) | (obtain ⟨_, _, _, _, _, _, rfl, _⟩ := h; rfl) | (obtain ⟨_, _, ⟨_, _, rfl, _⟩ | ⟨_, rfl, _⟩⟩ := h <;> rfl) | (obtain ⟨rfl, _⟩ := h; rfl)) fun X c al vs H Q E h => ?_
    obtain ⟨rfl, rfl, rfl, rfl, rfl⟩ := al
    exact body_same c (F.free _ (by walk_at "gm")) (F.free _ (by walk_at "gm")) (F.free _ (by walk_at "gm")) (F.free _ (by walk_at "gm")) (F.free _ (by walk_at "gm")) (F.free _ (by walk_at "gm")) (F.free _ (by walk_at "gm")) (F.free _ (by walk_at "gm")) (fun m e => by omega) h
  | succ n ih =>
    obtain ⟨fd, f, g⟩ := F.fn "_law_same" sq_same (by walk_at "gm")
    refine defP_of f g mq_same (FunD.bindsN f fun _ _ _ _ _ _ us hl => match us, hl with | [_, _], _ => rfl) (fun vs H Q E h => by first | (obtain ⟨rfl, _⟩ := h; rfl) | (obtain ⟨_, rfl, _⟩ := h; rfl) | (obtain ⟨_, _, rfl, _⟩ := h; rfl) | (obtain ⟨_, _, _, rfl, _⟩ := h; rfl) | (obtain ⟨_, _, _, _, rfl, _⟩ := h; rfl) | (obtain ⟨_, _, _, _, _, rfl, _⟩ := h; rfl) | (obtain ⟨_, _, _, _, _, _, rfl, _⟩ := h; rfl) | (obtain ⟨_, _, ⟨_, _, rfl, _⟩ | ⟨_, rfl, _⟩⟩ := h <;> rfl) | (obtain ⟨rfl, _⟩ := h; rfl)) fun X c al vs H Q E h => ?_
    obtain ⟨rfl, rfl, rfl, rfl, rfl⟩ := al
    exact body_same c (F.free _ (by walk_at "gm")) (F.free _ (by walk_at "gm")) (F.free _ (by walk_at "gm")) (F.free _ (by walk_at "gm")) (F.free _ (by walk_at "gm")) (F.free _ (by walk_at "gm")) (F.free _ (by walk_at "gm")) (F.free _ (by walk_at "gm")) (fun m e => by have e2 : m = n := (by omega); subst e2; exact ih) h
theorem d_same (F : FA K mg w) : DefP Pg w K mg base CX0 "_law_same" ["told", "due"] 22 (spSame K 21) := d_same_n F 21
theorem d_asked (F : FA K mg w) : DefP Pg w K mg base CX0 "_law_asked" ["value"] 23 (spAsk K) := by
  obtain ⟨fd, f, g⟩ := F.fn "_law_asked" sq_asked (by walk_at "gm")
  refine defP_of f g mq_asked (FunD.bindsN f fun _ _ _ _ _ _ us hl => match us, hl with | [_], _ => rfl) (fun vs H Q E h => by first | (obtain ⟨rfl, _⟩ := h; rfl) | (obtain ⟨_, rfl, _⟩ := h; rfl) | (obtain ⟨_, _, rfl, _⟩ := h; rfl) | (obtain ⟨_, _, _, rfl, _⟩ := h; rfl) | (obtain ⟨_, _, _, _, rfl, _⟩ := h; rfl) | (obtain ⟨_, _, _, _, _, rfl, _⟩ := h; rfl) | (obtain ⟨_, _, _, _, _, _, rfl, _⟩ := h; rfl) | (obtain ⟨_, _, ⟨_, _, rfl, _⟩ | ⟨_, rfl, _⟩⟩ := h <;> rfl) | (obtain ⟨rfl, _⟩ := h; rfl)) fun X c al vs H Q E h => ?_
  obtain ⟨rfl, rfl, rfl, rfl, rfl⟩ := al
  exact body_asked c (d_event_told F) (d_due F) (d_fault F) (d_same F) h
theorem d_box (F : FA K mg w) : DefP Pg w K mg base CX0 "_law_box" ["script", "k"] 1 (spBox K) := by
  obtain ⟨fd, f, g⟩ := F.fn "_law_box" sq_box (by walk_at "gm")
  refine defP_of f g mq_box (FunD.bindsN f fun _ _ _ _ _ _ us hl => match us, hl with | [_, _], _ => rfl) (fun vs H Q E h => by first | (obtain ⟨rfl, _⟩ := h; rfl) | (obtain ⟨_, rfl, _⟩ := h; rfl) | (obtain ⟨_, _, rfl, _⟩ := h; rfl) | (obtain ⟨_, _, _, rfl, _⟩ := h; rfl) | (obtain ⟨_, _, _, _, rfl, _⟩ := h; rfl) | (obtain ⟨_, _, _, _, _, rfl, _⟩ := h; rfl) | (obtain ⟨_, _, _, _, _, _, rfl, _⟩ := h; rfl) | (obtain ⟨_, _, ⟨_, _, rfl, _⟩ | ⟨_, rfl, _⟩⟩ := h <;> rfl) | (obtain ⟨rfl, _⟩ := h; rfl)) fun X c al vs H Q E h => ?_
  obtain ⟨rfl, rfl, rfl, rfl, rfl⟩ := al
  exact body_box c (F.free _ (by walk_at "gm")) (F.free _ (by walk_at "gm")) (F.free _ (by walk_at "gm")) h
theorem d_take (F : FA K mg w) : DefP Pg w K mg base CX0 "_law_take" ["box", "many"] 1 (spTake) := by
  obtain ⟨fd, f, g⟩ := F.fn "_law_take" sq_take (by walk_at "gm")
  refine defP_of f g mq_take (FunD.bindsN f fun _ _ _ _ _ _ us hl => match us, hl with | [_, _], _ => rfl) (fun vs H Q E h => by first | (obtain ⟨rfl, _⟩ := h; rfl) | (obtain ⟨_, rfl, _⟩ := h; rfl) | (obtain ⟨_, _, rfl, _⟩ := h; rfl) | (obtain ⟨_, _, _, rfl, _⟩ := h; rfl) | (obtain ⟨_, _, _, _, rfl, _⟩ := h; rfl) | (obtain ⟨_, _, _, _, _, rfl, _⟩ := h; rfl) | (obtain ⟨_, _, _, _, _, _, rfl, _⟩ := h; rfl) | (obtain ⟨_, _, ⟨_, _, rfl, _⟩ | ⟨_, rfl, _⟩⟩ := h <;> rfl) | (obtain ⟨rfl, _⟩ := h; rfl)) fun X c al vs H Q E h => ?_
  obtain ⟨rfl, rfl, rfl, rfl, rfl⟩ := al
  exact body_take c (F.free _ (by walk_at "gm")) h
theorem len_pick {vs : List V} {H : Hp} {Q : VK} {E : XK} (h : spPick K vs H Q E) : vs.length = 2 := by
  obtain ⟨_, _, ⟨_, _, rfl, _⟩ | ⟨_, rfl, _⟩⟩ := h <;> rfl
theorem d_pick (F : FA K mg w) : DefP Pg w K mg base CX0 "_law_pick" ["box", "some"] 2 (spPick K) := by
  obtain ⟨fd, f, g⟩ := F.fn "_law_pick" sq_pick (by walk_at "gm")
  refine defP_of f g mq_pick (FunD.bindsN f fun _ _ _ _ _ _ us hl => match us, hl with | [_, _], _ => rfl) (fun vs H Q E h => len_pick h) fun X c al vs H Q E h => ?_
  obtain ⟨rfl, rfl, rfl, rfl, rfl⟩ := al
  exact body_pick c (F.free _ (by walk_at "gm")) (d_take F) h
theorem d_id (F : FA K mg w) : DefP Pg w K mg base CX0 "_law_id" ["box"] 3 (spDr isIdD K) := by
  obtain ⟨fd, f, g⟩ := F.fn "_law_id" sq_id (by walk_at "gm")
  refine defP_of f g mq_id (FunD.bindsN f fun _ _ _ _ _ _ us hl => match us, hl with | [_], _ => rfl) (fun vs H Q E h => by first | (obtain ⟨rfl, _⟩ := h; rfl) | (obtain ⟨_, rfl, _⟩ := h; rfl) | (obtain ⟨_, _, rfl, _⟩ := h; rfl) | (obtain ⟨_, _, _, rfl, _⟩ := h; rfl) | (obtain ⟨_, _, _, _, rfl, _⟩ := h; rfl) | (obtain ⟨_, _, _, _, _, rfl, _⟩ := h; rfl) | (obtain ⟨_, _, _, _, _, _, rfl, _⟩ := h; rfl) | (obtain ⟨_, _, ⟨_, _, rfl, _⟩ | ⟨_, rfl, _⟩⟩ := h <;> rfl) | (obtain ⟨rfl, _⟩ := h; rfl)) fun X c al vs H Q E h => ?_
  obtain ⟨rfl, rfl, rfl, rfl, rfl⟩ := al
  exact body_id c (d_take F) (d_pick F) h
theorem d_fraction (F : FA K mg w) : DefP Pg w K mg base CX0 "_law_fraction" ["box"] 3 (spDr isFrD K) := by
  obtain ⟨fd, f, g⟩ := F.fn "_law_fraction" sq_fraction (by walk_at "gm")
  refine defP_of f g mq_fraction (FunD.bindsN f fun _ _ _ _ _ _ us hl => match us, hl with | [_], _ => rfl) (fun vs H Q E h => by first | (obtain ⟨rfl, _⟩ := h; rfl) | (obtain ⟨_, rfl, _⟩ := h; rfl) | (obtain ⟨_, _, rfl, _⟩ := h; rfl) | (obtain ⟨_, _, _, rfl, _⟩ := h; rfl) | (obtain ⟨_, _, _, _, rfl, _⟩ := h; rfl) | (obtain ⟨_, _, _, _, _, rfl, _⟩ := h; rfl) | (obtain ⟨_, _, _, _, _, _, rfl, _⟩ := h; rfl) | (obtain ⟨_, _, ⟨_, _, rfl, _⟩ | ⟨_, rfl, _⟩⟩ := h <;> rfl) | (obtain ⟨rfl, _⟩ := h; rfl)) fun X c al vs H Q E h => ?_
  obtain ⟨rfl, rfl, rfl, rfl, rfl⟩ := al
  exact body_fraction c (F.free _ (by walk_at "gm")) (d_take F) (d_gcd F) h
theorem d_label (F : FA K mg w) : DefP Pg w K mg base CX0 "_law_label" ["box"] 3 (spDr isLabD K) := by
  obtain ⟨fd, f, g⟩ := F.fn "_law_label" sq_label (by walk_at "gm")
  refine defP_of f g mq_label (FunD.bindsN f fun _ _ _ _ _ _ us hl => match us, hl with | [_], _ => rfl) (fun vs H Q E h => by first | (obtain ⟨rfl, _⟩ := h; rfl) | (obtain ⟨_, rfl, _⟩ := h; rfl) | (obtain ⟨_, _, rfl, _⟩ := h; rfl) | (obtain ⟨_, _, _, rfl, _⟩ := h; rfl) | (obtain ⟨_, _, _, _, rfl, _⟩ := h; rfl) | (obtain ⟨_, _, _, _, _, rfl, _⟩ := h; rfl) | (obtain ⟨_, _, _, _, _, _, rfl, _⟩ := h; rfl) | (obtain ⟨_, _, ⟨_, _, rfl, _⟩ | ⟨_, rfl, _⟩⟩ := h <;> rfl) | (obtain ⟨rfl, _⟩ := h; rfl)) fun X c al vs H Q E h => ?_
  obtain ⟨rfl, rfl, rfl, rfl, rfl⟩ := al
  exact body_label c (F.free _ (by walk_at "gm")) (d_take F) (d_pick F) h
theorem d_name (F : FA K mg w) : DefP Pg w K mg base CX0 "_law_name" ["box"] 4 (spDr isNamD K) := by
  obtain ⟨fd, f, g⟩ := F.fn "_law_name" sq_name (by walk_at "gm")
  refine defP_of f g mq_name (FunD.bindsN f fun _ _ _ _ _ _ us hl => match us, hl with | [_], _ => rfl) (fun vs H Q E h => by first | (obtain ⟨rfl, _⟩ := h; rfl) | (obtain ⟨_, rfl, _⟩ := h; rfl) | (obtain ⟨_, _, rfl, _⟩ := h; rfl) | (obtain ⟨_, _, _, rfl, _⟩ := h; rfl) | (obtain ⟨_, _, _, _, rfl, _⟩ := h; rfl) | (obtain ⟨_, _, _, _, _, rfl, _⟩ := h; rfl) | (obtain ⟨_, _, _, _, _, _, rfl, _⟩ := h; rfl) | (obtain ⟨_, _, ⟨_, _, rfl, _⟩ | ⟨_, rfl, _⟩⟩ := h <;> rfl) | (obtain ⟨rfl, _⟩ := h; rfl)) fun X c al vs H Q E h => ?_
  obtain ⟨rfl, rfl, rfl, rfl, rfl⟩ := al
  exact body_name c (F.free _ (by walk_at "gm")) (F.free _ (by walk_at "gm")) (d_take F) (d_pick F) (d_label F) h
theorem d_plain (F : FA K mg w) : DefP Pg w K mg base CX0 "_law_plain" ["box"] 5 (spDr (Gd 3) K) := by
  obtain ⟨fd, f, g⟩ := F.fn "_law_plain" sq_plain (by walk_at "gm")
  refine defP_of f g mq_plain (FunD.bindsN f fun _ _ _ _ _ _ us hl => match us, hl with | [_], _ => rfl) (fun vs H Q E h => by first | (obtain ⟨rfl, _⟩ := h; rfl) | (obtain ⟨_, rfl, _⟩ := h; rfl) | (obtain ⟨_, _, rfl, _⟩ := h; rfl) | (obtain ⟨_, _, _, rfl, _⟩ := h; rfl) | (obtain ⟨_, _, _, _, rfl, _⟩ := h; rfl) | (obtain ⟨_, _, _, _, _, rfl, _⟩ := h; rfl) | (obtain ⟨_, _, _, _, _, _, rfl, _⟩ := h; rfl) | (obtain ⟨_, _, ⟨_, _, rfl, _⟩ | ⟨_, rfl, _⟩⟩ := h <;> rfl) | (obtain ⟨rfl, _⟩ := h; rfl)) fun X c al vs H Q E h => ?_
  obtain ⟨rfl, rfl, rfl, rfl, rfl⟩ := al
  exact body_plain c (d_take F) (d_pick F) (d_name F) h
theorem d_rows (F : FA K mg w) : DefP Pg w K mg base CX0 "_law_rows" ["box"] 6 (spDr (Gd 5) K) := by
  obtain ⟨fd, f, g⟩ := F.fn "_law_rows" sq_rows (by walk_at "gm")
  refine defP_of f g mq_rows (FunD.bindsN f fun _ _ _ _ _ _ us hl => match us, hl with | [_], _ => rfl) (fun vs H Q E h => by first | (obtain ⟨rfl, _⟩ := h; rfl) | (obtain ⟨_, rfl, _⟩ := h; rfl) | (obtain ⟨_, _, rfl, _⟩ := h; rfl) | (obtain ⟨_, _, _, rfl, _⟩ := h; rfl) | (obtain ⟨_, _, _, _, rfl, _⟩ := h; rfl) | (obtain ⟨_, _, _, _, _, rfl, _⟩ := h; rfl) | (obtain ⟨_, _, _, _, _, _, rfl, _⟩ := h; rfl) | (obtain ⟨_, _, ⟨_, _, rfl, _⟩ | ⟨_, rfl, _⟩⟩ := h <;> rfl) | (obtain ⟨rfl, _⟩ := h; rfl)) fun X c al vs H Q E h => ?_
  obtain ⟨rfl, rfl, rfl, rfl, rfl⟩ := al
  exact body_rows c (F.free _ (by walk_at "gm")) (F.free _ (by walk_at "gm")) (F.free _ (by walk_at "gm")) (F.free _ (by walk_at "gm")) (d_take F) (d_label F) (d_plain F) h
theorem d_entry (F : FA K mg w) : DefP Pg w K mg base CX0 "_law_entry" ["box"] 7 (spDr (Gd 6) K) := by
  obtain ⟨fd, f, g⟩ := F.fn "_law_entry" sq_entry (by walk_at "gm")
  refine defP_of f g mq_entry (FunD.bindsN f fun _ _ _ _ _ _ us hl => match us, hl with | [_], _ => rfl) (fun vs H Q E h => by first | (obtain ⟨rfl, _⟩ := h; rfl) | (obtain ⟨_, rfl, _⟩ := h; rfl) | (obtain ⟨_, _, rfl, _⟩ := h; rfl) | (obtain ⟨_, _, _, rfl, _⟩ := h; rfl) | (obtain ⟨_, _, _, _, rfl, _⟩ := h; rfl) | (obtain ⟨_, _, _, _, _, rfl, _⟩ := h; rfl) | (obtain ⟨_, _, _, _, _, _, rfl, _⟩ := h; rfl) | (obtain ⟨_, _, ⟨_, _, rfl, _⟩ | ⟨_, rfl, _⟩⟩ := h <;> rfl) | (obtain ⟨rfl, _⟩ := h; rfl)) fun X c al vs H Q E h => ?_
  obtain ⟨rfl, rfl, rfl, rfl, rfl⟩ := al
  exact body_entry c (d_take F) (d_plain F) (d_rows F) h
theorem d_answer (F : FA K mg w) : DefP Pg w K mg base CX0 "_law_answer" ["box"] 5 (spDr (Gd 4) K) := by
  obtain ⟨fd, f, g⟩ := F.fn "_law_answer" sq_answer (by walk_at "gm")
  refine defP_of f g mq_answer (FunD.bindsN f fun _ _ _ _ _ _ us hl => match us, hl with | [_], _ => rfl) (fun vs H Q E h => by first | (obtain ⟨rfl, _⟩ := h; rfl) | (obtain ⟨_, rfl, _⟩ := h; rfl) | (obtain ⟨_, _, rfl, _⟩ := h; rfl) | (obtain ⟨_, _, _, rfl, _⟩ := h; rfl) | (obtain ⟨_, _, _, _, rfl, _⟩ := h; rfl) | (obtain ⟨_, _, _, _, _, rfl, _⟩ := h; rfl) | (obtain ⟨_, _, _, _, _, _, rfl, _⟩ := h; rfl) | (obtain ⟨_, _, ⟨_, _, rfl, _⟩ | ⟨_, rfl, _⟩⟩ := h <;> rfl) | (obtain ⟨rfl, _⟩ := h; rfl)) fun X c al vs H Q E h => ?_
  obtain ⟨rfl, rfl, rfl, rfl, rfl⟩ := al
  exact body_answer c (F.free _ (by walk_at "gm")) (F.free _ (by walk_at "gm")) (d_take F) (d_pick F) (d_id F) (d_name F) h
theorem d_part (F : FA K mg w) : DefP Pg w K mg base CX0 "_law_part" ["box", "word"] 8 (spDrW (Gd 7) K) := by
  obtain ⟨fd, f, g⟩ := F.fn "_law_part" sq_part (by walk_at "gm")
  refine defP_of f g mq_part (FunD.bindsN f fun _ _ _ _ _ _ us hl => match us, hl with | [_, _], _ => rfl) (fun vs H Q E h => by first | (obtain ⟨rfl, _⟩ := h; rfl) | (obtain ⟨_, rfl, _⟩ := h; rfl) | (obtain ⟨_, _, rfl, _⟩ := h; rfl) | (obtain ⟨_, _, _, rfl, _⟩ := h; rfl) | (obtain ⟨_, _, _, _, rfl, _⟩ := h; rfl) | (obtain ⟨_, _, _, _, _, rfl, _⟩ := h; rfl) | (obtain ⟨_, _, _, _, _, _, rfl, _⟩ := h; rfl) | (obtain ⟨_, _, ⟨_, _, rfl, _⟩ | ⟨_, rfl, _⟩⟩ := h <;> rfl) | (obtain ⟨rfl, _⟩ := h; rfl)) fun X c al vs H Q E h => ?_
  obtain ⟨rfl, rfl, rfl, rfl, rfl⟩ := al
  exact body_part c (d_take F) (d_pick F) (d_id F) (d_label F) (d_entry F) (d_fraction F) (d_name F) (d_answer F) h
theorem d_deed (F : FA K mg w) : DefP Pg w K mg base CX0 "_law_deed" ["box", "word"] 9 (spDeed K) := by
  obtain ⟨fd, f, g⟩ := F.fn "_law_deed" sq_deed (by walk_at "gm")
  refine defP_of f g mq_deed (FunD.bindsN f fun _ _ _ _ _ _ us hl => match us, hl with | [_, _], _ => rfl) (fun vs H Q E h => by first | (obtain ⟨rfl, _⟩ := h; rfl) | (obtain ⟨_, rfl, _⟩ := h; rfl) | (obtain ⟨_, _, rfl, _⟩ := h; rfl) | (obtain ⟨_, _, _, rfl, _⟩ := h; rfl) | (obtain ⟨_, _, _, _, rfl, _⟩ := h; rfl) | (obtain ⟨_, _, _, _, _, rfl, _⟩ := h; rfl) | (obtain ⟨_, _, _, _, _, _, rfl, _⟩ := h; rfl) | (obtain ⟨_, _, ⟨_, _, rfl, _⟩ | ⟨_, rfl, _⟩⟩ := h <;> rfl) | (obtain ⟨rfl, _⟩ := h; rfl)) fun X c al vs H Q E h => ?_
  obtain ⟨rfl, rfl, rfl, rfl, rfl⟩ := al
  exact body_deed c (F.free _ (by walk_at "gm")) (d_words F) (d_part F) h
theorem d_fractions (F : FA K mg w) : DefP Pg w K mg base CX0 "_law_fractions" [] 1 (spMn0 K) := by
  obtain ⟨fd, f, g⟩ := F.fn "_law_fractions" sq_fractions (by walk_at "gm")
  refine defP_of f g mq_fractions (FunD.bindsN f fun _ _ _ _ _ _ us hl => match us, hl with | [], _ => rfl) (fun vs H Q E h => by first | (obtain ⟨rfl, _⟩ := h; rfl) | (obtain ⟨_, rfl, _⟩ := h; rfl) | (obtain ⟨_, _, rfl, _⟩ := h; rfl) | (obtain ⟨_, _, _, rfl, _⟩ := h; rfl) | (obtain ⟨_, _, _, _, rfl, _⟩ := h; rfl) | (obtain ⟨_, _, _, _, _, rfl, _⟩ := h; rfl) | (obtain ⟨_, _, _, _, _, _, rfl, _⟩ := h; rfl) | (obtain ⟨_, _, ⟨_, _, rfl, _⟩ | ⟨_, rfl, _⟩⟩ := h <;> rfl) | (obtain ⟨rfl, _⟩ := h; rfl)) fun X c al vs H Q E h => ?_
  obtain ⟨rfl, rfl, rfl, rfl, rfl⟩ := al
  exact body_fractions c  h
theorem d_labels (F : FA K mg w) : DefP Pg w K mg base CX0 "_law_labels" [] 1 (spMn0 K) := by
  obtain ⟨fd, f, g⟩ := F.fn "_law_labels" sq_labels (by walk_at "gm")
  refine defP_of f g mq_labels (FunD.bindsN f fun _ _ _ _ _ _ us hl => match us, hl with | [], _ => rfl) (fun vs H Q E h => by first | (obtain ⟨rfl, _⟩ := h; rfl) | (obtain ⟨_, rfl, _⟩ := h; rfl) | (obtain ⟨_, _, rfl, _⟩ := h; rfl) | (obtain ⟨_, _, _, rfl, _⟩ := h; rfl) | (obtain ⟨_, _, _, _, rfl, _⟩ := h; rfl) | (obtain ⟨_, _, _, _, _, rfl, _⟩ := h; rfl) | (obtain ⟨_, _, _, _, _, _, rfl, _⟩ := h; rfl) | (obtain ⟨_, _, ⟨_, _, rfl, _⟩ | ⟨_, rfl, _⟩⟩ := h <;> rfl) | (obtain ⟨rfl, _⟩ := h; rfl)) fun X c al vs H Q E h => ?_
  obtain ⟨rfl, rfl, rfl, rfl, rfl⟩ := al
  exact body_labels c  h
theorem d_names (F : FA K mg w) : DefP Pg w K mg base CX0 "_law_names" ["box"] 4 (spMnB K) := by
  obtain ⟨fd, f, g⟩ := F.fn "_law_names" sq_names (by walk_at "gm")
  refine defP_of f g mq_names (FunD.bindsN f fun _ _ _ _ _ _ us hl => match us, hl with | [_], _ => rfl) (fun vs H Q E h => by first | (obtain ⟨rfl, _⟩ := h; rfl) | (obtain ⟨_, rfl, _⟩ := h; rfl) | (obtain ⟨_, _, rfl, _⟩ := h; rfl) | (obtain ⟨_, _, _, rfl, _⟩ := h; rfl) | (obtain ⟨_, _, _, _, rfl, _⟩ := h; rfl) | (obtain ⟨_, _, _, _, _, rfl, _⟩ := h; rfl) | (obtain ⟨_, _, _, _, _, _, rfl, _⟩ := h; rfl) | (obtain ⟨_, _, ⟨_, _, rfl, _⟩ | ⟨_, rfl, _⟩⟩ := h <;> rfl) | (obtain ⟨rfl, _⟩ := h; rfl)) fun X c al vs H Q E h => ?_
  obtain ⟨rfl, rfl, rfl, rfl, rfl⟩ := al
  exact body_names c (d_label F) h
theorem d_ids (F : FA K mg w) : DefP Pg w K mg base CX0 "_law_ids" ["own"] 1 (spIds K) := by
  obtain ⟨fd, f, g⟩ := F.fn "_law_ids" sq_ids (by walk_at "gm")
  refine defP_of f g mq_ids (FunD.bindsN f fun _ _ _ _ _ _ us hl => match us, hl with | [_], _ => rfl) (fun vs H Q E h => by first | (obtain ⟨rfl, _⟩ := h; rfl) | (obtain ⟨_, rfl, _⟩ := h; rfl) | (obtain ⟨_, _, rfl, _⟩ := h; rfl) | (obtain ⟨_, _, _, rfl, _⟩ := h; rfl) | (obtain ⟨_, _, _, _, rfl, _⟩ := h; rfl) | (obtain ⟨_, _, _, _, _, rfl, _⟩ := h; rfl) | (obtain ⟨_, _, _, _, _, _, rfl, _⟩ := h; rfl) | (obtain ⟨_, _, ⟨_, _, rfl, _⟩ | ⟨_, rfl, _⟩⟩ := h <;> rfl) | (obtain ⟨rfl, _⟩ := h; rfl)) fun X c al vs H Q E h => ?_
  obtain ⟨rfl, rfl, rfl, rfl, rfl⟩ := al
  exact body_ids c (F.free _ (by walk_at "gm")) h
theorem d_many_rows (F : FA K mg w) : DefP Pg w K mg base CX0 "_law_many_rows" ["many"] 1 (spNr 0 7 (TG 3 7) K) := by
  obtain ⟨fd, f, g⟩ := F.fn "_law_many_rows" sq_many_rows (by walk_at "gm")
  refine defP_of f g mq_many_rows (FunD.bindsN f fun _ _ _ _ _ _ us hl => match us, hl with | [_], _ => rfl) (fun vs H Q E h => by first | (obtain ⟨rfl, _⟩ := h; rfl) | (obtain ⟨_, rfl, _⟩ := h; rfl) | (obtain ⟨_, _, rfl, _⟩ := h; rfl) | (obtain ⟨_, _, _, rfl, _⟩ := h; rfl) | (obtain ⟨_, _, _, _, rfl, _⟩ := h; rfl) | (obtain ⟨_, _, _, _, _, rfl, _⟩ := h; rfl) | (obtain ⟨_, _, _, _, _, _, rfl, _⟩ := h; rfl) | (obtain ⟨_, _, ⟨_, _, rfl, _⟩ | ⟨_, rfl, _⟩⟩ := h <;> rfl) | (obtain ⟨rfl, _⟩ := h; rfl)) fun X c al vs H Q E h => ?_
  obtain ⟨rfl, rfl, rfl, rfl, rfl⟩ := al
  exact body_many_rows c (F.free _ (by walk_at "gm")) (F.free _ (by walk_at "gm")) h
theorem d_entries (F : FA K mg w) : DefP Pg w K mg base CX0 "_law_entries" ["box"] 6 (spMnB K) := by
  obtain ⟨fd, f, g⟩ := F.fn "_law_entries" sq_entries (by walk_at "gm")
  refine defP_of f g mq_entries (FunD.bindsN f fun _ _ _ _ _ _ us hl => match us, hl with | [_], _ => rfl) (fun vs H Q E h => by first | (obtain ⟨rfl, _⟩ := h; rfl) | (obtain ⟨_, rfl, _⟩ := h; rfl) | (obtain ⟨_, _, rfl, _⟩ := h; rfl) | (obtain ⟨_, _, _, rfl, _⟩ := h; rfl) | (obtain ⟨_, _, _, _, rfl, _⟩ := h; rfl) | (obtain ⟨_, _, _, _, _, rfl, _⟩ := h; rfl) | (obtain ⟨_, _, _, _, _, _, rfl, _⟩ := h; rfl) | (obtain ⟨_, _, ⟨_, _, rfl, _⟩ | ⟨_, rfl, _⟩⟩ := h <;> rfl) | (obtain ⟨rfl, _⟩ := h; rfl)) fun X c al vs H Q E h => ?_
  obtain ⟨rfl, rfl, rfl, rfl, rfl⟩ := al
  exact body_entries c (F.free _ (by walk_at "gm")) (d_take F) (d_label F) (d_plain F) (d_many_rows F) h
theorem d_answers (F : FA K mg w) : DefP Pg w K mg base CX0 "_law_answers" ["box"] 5 (spMnB K) := by
  obtain ⟨fd, f, g⟩ := F.fn "_law_answers" sq_answers (by walk_at "gm")
  refine defP_of f g mq_answers (FunD.bindsN f fun _ _ _ _ _ _ us hl => match us, hl with | [_], _ => rfl) (fun vs H Q E h => by first | (obtain ⟨rfl, _⟩ := h; rfl) | (obtain ⟨_, rfl, _⟩ := h; rfl) | (obtain ⟨_, _, rfl, _⟩ := h; rfl) | (obtain ⟨_, _, _, rfl, _⟩ := h; rfl) | (obtain ⟨_, _, _, _, rfl, _⟩ := h; rfl) | (obtain ⟨_, _, _, _, _, rfl, _⟩ := h; rfl) | (obtain ⟨_, _, _, _, _, _, rfl, _⟩ := h; rfl) | (obtain ⟨_, _, ⟨_, _, rfl, _⟩ | ⟨_, rfl, _⟩⟩ := h <;> rfl) | (obtain ⟨rfl, _⟩ := h; rfl)) fun X c al vs H Q E h => ?_
  obtain ⟨rfl, rfl, rfl, rfl, rfl⟩ := al
  exact body_answers c (F.free _ (by walk_at "gm")) (d_take F) (d_name F) (d_id F) h
theorem d_menu (F : FA K mg w) : DefP Pg w K mg base CX0 "_law_menu" ["box", "word", "own"] 7 (spMenu K) := by
  obtain ⟨fd, f, g⟩ := F.fn "_law_menu" sq_menu (by walk_at "gm")
  refine defP_of f g mq_menu (FunD.bindsN f fun _ _ _ _ _ _ us hl => match us, hl with | [_, _, _], _ => rfl) (fun vs H Q E h => by first | (obtain ⟨rfl, _⟩ := h; rfl) | (obtain ⟨_, rfl, _⟩ := h; rfl) | (obtain ⟨_, _, rfl, _⟩ := h; rfl) | (obtain ⟨_, _, _, rfl, _⟩ := h; rfl) | (obtain ⟨_, _, _, _, rfl, _⟩ := h; rfl) | (obtain ⟨_, _, _, _, _, rfl, _⟩ := h; rfl) | (obtain ⟨_, _, _, _, _, _, rfl, _⟩ := h; rfl) | (obtain ⟨_, _, ⟨_, _, rfl, _⟩ | ⟨_, rfl, _⟩⟩ := h <;> rfl) | (obtain ⟨rfl, _⟩ := h; rfl)) fun X c al vs H Q E h => ?_
  obtain ⟨rfl, rfl, rfl, rfl, rfl⟩ := al
  exact body_menu c (d_ids F) (d_labels F) (d_entries F) (d_fractions F) (d_names F) (d_answers F) h
theorem d_swept (F : FA K mg w) : DefP Pg w K mg base CX0 "_law_swept" ["box", "word"] 24 (spSwept) := by
  obtain ⟨fd, f, g⟩ := F.fn "_law_swept" sq_swept (by walk_at "gm")
  refine defP_of f g mq_swept (FunD.bindsN f fun _ _ _ _ _ _ us hl => match us, hl with | [_, _], _ => rfl) (fun vs H Q E h => by first | (obtain ⟨rfl, _⟩ := h; rfl) | (obtain ⟨_, rfl, _⟩ := h; rfl) | (obtain ⟨_, _, rfl, _⟩ := h; rfl) | (obtain ⟨_, _, _, rfl, _⟩ := h; rfl) | (obtain ⟨_, _, _, _, rfl, _⟩ := h; rfl) | (obtain ⟨_, _, _, _, _, rfl, _⟩ := h; rfl) | (obtain ⟨_, _, _, _, _, _, rfl, _⟩ := h; rfl) | (obtain ⟨_, _, ⟨_, _, rfl, _⟩ | ⟨_, rfl, _⟩⟩ := h <;> rfl) | (obtain ⟨rfl, _⟩ := h; rfl)) fun X c al vs H Q E h => ?_
  obtain ⟨rfl, rfl, rfl, rfl, rfl⟩ := al
  exact body_swept c (F.free _ (by walk_at "gm")) (F.free _ (by walk_at "gm")) (d_id F) (d_fraction F) (d_deed F) (d_words F) (d_menu F) (d_asked F) h
theorem d_ends (F : FA K mg w) : DefP Pg w K mg base CX0 "_law_ends" ["box"] 24 (spEnds) := by
  obtain ⟨fd, f, g⟩ := F.fn "_law_ends" sq_ends (by walk_at "gm")
  refine defP_of f g mq_ends (FunD.bindsN f fun _ _ _ _ _ _ us hl => match us, hl with | [_], _ => rfl) (fun vs H Q E h => by first | (obtain ⟨rfl, _⟩ := h; rfl) | (obtain ⟨_, rfl, _⟩ := h; rfl) | (obtain ⟨_, _, rfl, _⟩ := h; rfl) | (obtain ⟨_, _, _, rfl, _⟩ := h; rfl) | (obtain ⟨_, _, _, _, rfl, _⟩ := h; rfl) | (obtain ⟨_, _, _, _, _, rfl, _⟩ := h; rfl) | (obtain ⟨_, _, _, _, _, _, rfl, _⟩ := h; rfl) | (obtain ⟨_, _, ⟨_, _, rfl, _⟩ | ⟨_, rfl, _⟩⟩ := h <;> rfl) | (obtain ⟨rfl, _⟩ := h; rfl)) fun X c al vs H Q E h => ?_
  obtain ⟨rfl, rfl, rfl, rfl, rfl⟩ := al
  exact body_ends c (F.free _ (by walk_at "gm")) (d_pick F) (d_words F) (d_deed F) (d_id F) (d_fraction F) (d_entry F) (d_ids F) (d_fractions F) (d_entries F) (d_asked F) (d_same F) (d_entry_told F) (d_due F) (d_is_entryL F) h
theorem d_rate (F : FA K mg w) : DefP Pg w K mg base CX0 "_law_rate" ["box"] 3 (spDr isRtD K) := by
  obtain ⟨fd, f, g⟩ := F.fn "_law_rate" sq_rate (by walk_at "gm")
  refine defP_of f g mq_rate (FunD.bindsN f fun _ _ _ _ _ _ us hl => match us, hl with | [_], _ => rfl) (fun vs H Q E h => by first | (obtain ⟨rfl, _⟩ := h; rfl) | (obtain ⟨_, rfl, _⟩ := h; rfl) | (obtain ⟨_, _, rfl, _⟩ := h; rfl) | (obtain ⟨_, _, _, rfl, _⟩ := h; rfl) | (obtain ⟨_, _, _, _, rfl, _⟩ := h; rfl) | (obtain ⟨_, _, _, _, _, rfl, _⟩ := h; rfl) | (obtain ⟨_, _, _, _, _, _, rfl, _⟩ := h; rfl) | (obtain ⟨_, _, ⟨_, _, rfl, _⟩ | ⟨_, rfl, _⟩⟩ := h <;> rfl) | (obtain ⟨rfl, _⟩ := h; rfl)) fun X c al vs H Q E h => ?_
  obtain ⟨rfl, rfl, rfl, rfl, rfl⟩ := al
  exact body_rate c (d_take F) (d_pick F) h
theorem d_rosters (F : FA K mg w) : DefP Pg w K mg base CX0 "_law_rosters" ["box"] 23 (spRos) := by
  obtain ⟨fd, f, g⟩ := F.fn "_law_rosters" sq_rosters (by walk_at "gm")
  refine defP_of f g mq_rosters (FunD.bindsN f fun _ _ _ _ _ _ us hl => match us, hl with | [_], _ => rfl) (fun vs H Q E h => by first | (obtain ⟨rfl, _⟩ := h; rfl) | (obtain ⟨_, rfl, _⟩ := h; rfl) | (obtain ⟨_, _, rfl, _⟩ := h; rfl) | (obtain ⟨_, _, _, rfl, _⟩ := h; rfl) | (obtain ⟨_, _, _, _, rfl, _⟩ := h; rfl) | (obtain ⟨_, _, _, _, _, rfl, _⟩ := h; rfl) | (obtain ⟨_, _, _, _, _, _, rfl, _⟩ := h; rfl) | (obtain ⟨_, _, ⟨_, _, rfl, _⟩ | ⟨_, rfl, _⟩⟩ := h <;> rfl) | (obtain ⟨rfl, _⟩ := h; rfl)) fun X c al vs H Q E h => ?_
  obtain ⟨rfl, rfl, rfl, rfl, rfl⟩ := al
  exact body_rosters c (F.free _ (by walk_at "gm")) (F.free _ (by walk_at "gm")) (F.free _ (by walk_at "gm")) (F.free _ (by walk_at "gm")) (F.free _ (by walk_at "gm")) (F.free _ (by walk_at "gm")) (d_take F) (d_pick F) (d_rate F) (d_same F) (d_roster_told F) (d_due F) (d_base_told F) h
end
def asK : List Addr := [3, 52, 72, 91, 110, 129, 148, 167, 186, 205, 224, 243, 262, 271, 278, 285, 292, 299, 306, 313, 314, 315, 333, 340, 347, 354, 361, 368, 375, 382, 389, 396, 403, 410, 415, 416, 423, 428, 435, 442, 449, 456, 463, 470, 477, 484, 491, 498, 505, 512, 519, 524, 529, 536, 541, 548, 553, 560, 567, 572, 579, 586, 593, 600, 605, 612, 619, 626, 633, 640, 647, 654, 659, 664, 671, 678, 683, 688, 695, 700, 707, 714, 721, 728, 735, 742, 749, 756, 763, 770, 777, 782, 789, 51, 147, 185, 270, 277, 284, 291, 298, 305, 312, 316, 317, 318, 319, 320, 321, 322, 323, 324, 325, 326, 332, 339, 346, 353, 360, 367, 374, 381, 388, 395, 402, 409, 414, 422, 427, 434, 441, 448, 455, 462, 469, 476, 483, 490, 497, 504, 511, 518, 523, 528, 535, 540, 547, 552, 559, 566, 571, 578, 585, 592, 599, 604, 611, 618, 625, 632, 639, 646, 653, 658, 663, 670, 677, 682, 687, 694, 699, 706, 713, 720, 727, 734, 741, 748, 755, 762, 769, 776, 781, 788, 145, 183, 144, 182]
abbrev tfA : List He.Defn := []
abbrev hkA : PySem.W.Hook := hookL asK faA fnA tbA tfA exA
theorem law_facts {Pg : Program} {w : World} {h : Heap} {K : PySem.W.Frag} {mg : Str → Option Value} {fa : Addr} (X : K.In h) (G : h.Ns mainGlobals mg) (hfa : mg "law" = some (.ref fa)) (c : He.SaysX faA fnA tbA tfA exA w h K) :
    ∃ fd : FuncData, (∀ (s : Shared) (v : Value), BindsTo s fd ⟨[v], []⟩ [("script", v)]) ∧ ∀ base : Heap, FnOk Pg w K mg base CX0 25 fa fd ["script"] (spLaw K) := by
  have F := fA_of X G c
  obtain ⟨fd, f, g⟩ := F.fn "law" sq_law (by walk_at "gm")
  have e := hfa.symm.trans g
  cases e
  have b := FunD.bindsA (ps := ["script"]) f fun _ _ _ _ _ _ us hl => match us, hl with | [_], _ => rfl
  refine ⟨fd, fun s v => b s [v] rfl, fun base => ?_⟩
  refine fnOk_of f mq_law (fun vs H Q E h => by first | (obtain ⟨rfl, _⟩ := h; rfl) | (obtain ⟨_, rfl, _⟩ := h; rfl) | (obtain ⟨_, _, rfl, _⟩ := h; rfl) | (obtain ⟨_, _, _, rfl, _⟩ := h; rfl) | (obtain ⟨_, _, _, _, rfl, _⟩ := h; rfl) | (obtain ⟨_, _, _, _, _, rfl, _⟩ := h; rfl) | (obtain ⟨_, _, _, _, _, _, rfl, _⟩ := h; rfl) | (obtain ⟨_, _, ⟨_, _, rfl, _⟩ | ⟨_, rfl, _⟩⟩ := h <;> rfl) | (obtain ⟨rfl, _⟩ := h; rfl)) fun X cx al vs H Q E h => ?_
  obtain ⟨rfl, rfl, rfl, rfl, rfl⟩ := al
  exact body_law cx ⟨d_box F, d_take F, d_words F, d_id F, d_fraction F, d_deed F, d_asked F, d_swept F, d_ends F, d_rosters F, F.free _ (by walk_at "gm"), F.free _ (by walk_at "gm"), F.free _ (by walk_at "gm")⟩ h
end K12
open PySem PySem.W PySem.Calls PyProof.Rows
theorem PySem.Challenge.cw_goodtill_k12_events_entries_and_rosters_holds : PySem.Challenge.rw_goodtill_k12_events_entries_and_rosters.Holds := by
  w_on; o_law
  o_head K12.hkA
  case hw => w_witness2
  case hc =>
    refine LamX.walk_ofTsE (l := PySem.Challenge.rw_goodtill_k12_events_entries_and_rosters) (n := 63) (k := 25) (x := "script") (CX := fun _ => L2.CX0) rfl (by decide) (by kernel_rfl) ⟨rfl, by decide, by decide⟩ ?F (fun _ _ _ _ _ z => z)
    intro w mg fa h Y G hmg0
    obtain ⟨K, KX, c⟩ := Y
    have hmg : mg ("law" : PySem.Str) = some (.ref fa) := hmg0
    obtain ⟨fd, hb, hF⟩ := K12.law_facts (Pg := (PySem.Challenge.rw_goodtill_k12_events_entries_and_rosters).prog) KX G hmg c
    refine ⟨K, KX, fd, K12.tfA.map (He.cT K), K12.spLaw K, fun p hp => ?_, fun p hp => ?_, fun p hp => ?_, hb, fun H a ns hl hbits hH hS => ?_, fun base _ _ hT => ?_⟩
    · obtain ⟨t, ht, rfl⟩ := List.mem_map.mp hp
      exact c.empty _ ht
    · obtain ⟨t, ht, rfl⟩ := List.mem_map.mp hp
      exact c.out _ ht
    · obtain ⟨t, ht, rfl⟩ := List.mem_map.mp hp
      exact PySem.W.codeHd_of_K KX (c.hd _ ht)
    · exact ⟨a, ns, rfl, hS, hl, fun _ => rfl⟩
    · exact hF base 
namespace K12
end K12
