import PyProof.Rows.All
import Wide.All
import OpenK.AllK
import Wide.FinOn
import HandS.ForMost
import HandS.Exc
import HandS.Nested
import HandS.Head0
import HandS.Head1
import HandS.Head2
import HandS.HeadEnd
import HandS.HeadHook1
import HandS.HeadHook2
import HandS.HeadHook3
import HandS.HeadHook4
import HandS.HeadWalk
import HandS.ExcField
import HandS.Walk
import HandS.AnyAll
import HandS.GenBody
import HandS.GenList
import HandS.IsInst
import HandS.Conv
import HandS.Zip
import HandS.TupAny
import HandS.TupSets
import HandS.Deep
import HandS.Wide
import KE.GoesEnum
import HandS.ForExc
import HandS.ExcInit
import HandS.Style
import HandS.ExcValue
import HandS.ExcIs
import PyProof.EqKinds
import PyProof.FactsAll.dict
import HandS.Defaults
import HandS.TupMul
import HandS.HeadNt
import PySem.Challenge.RW_unseenturn_k03_runs_refused
set_option Elab.async false
set_option linter.all false
set_option maxRecDepth 100000
namespace U
open PySem PySem.Spec PyProof.Rows L2
/-! the text by places -/
def top (i : Nat) : Stmt := PySem.Challenge.pw_unseenturn_k03_runs_refused.main.body.getD i (.Pass ⟨0, 0, 0, 0⟩)
abbrev s_UnseenError : Stmt := top 1
abbrev s_BadTable : Stmt := top 2
abbrev s_BadStand : Stmt := top 3
abbrev s_BadTurning : Stmt := top 4
abbrev s_BadWish : Stmt := top 5
abbrev s_BadLot : Stmt := top 6
abbrev s_BadRow : Stmt := top 7
abbrev s_BadPattern : Stmt := top 8
abbrev s_BadFelt : Stmt := top 9
abbrev s_BadHearing : Stmt := top 10
abbrev s_BadRun : Stmt := top 11
abbrev s_BadPaper : Stmt := top 12
abbrev s_NotEven : Stmt := top 13
abbrev s_OutOfPlace : Stmt := top 14
abbrev s_TooGreat : Stmt := top 15
abbrev s_MissError : Stmt := top 16
abbrev s_Never : Stmt := top 17
abbrev s_NotSure : Stmt := top 18
abbrev s_Inside : Stmt := top 19
abbrev s_StateError : Stmt := top 20
abbrev s_Rung : Stmt := top 21
abbrev s_Untimely : Stmt := top 22
abbrev s_power : Stmt := top 28
abbrev s_is_rising : Stmt := top 29
abbrev s_calm_of : Stmt := top 30
abbrev s_then_of : Stmt := top 31
abbrev s_spread_by : Stmt := top 32
abbrev s_grown_by : Stmt := top 33
abbrev s_plus : Stmt := top 34
abbrev s_is_whole : Stmt := top 35
abbrev s_is_among : Stmt := top 36
abbrev s_is_tuple_of : Stmt := top 37
abbrev s_wrong_seat : Stmt := top 38
abbrev s_wrong_face : Stmt := top 39
abbrev s_is_order : Stmt := top 40
abbrev s_are_rising_orders : Stmt := top 41
abbrev s_are_closed : Stmt := top 42
abbrev s_need_table : Stmt := top 43
abbrev s_seats_of : Stmt := top 44
abbrev s_stands_of : Stmt := top 45
abbrev s_is_stand_of : Stmt := top 46
abbrev s_is_turning_of : Stmt := top 47
abbrev s_seats : Stmt := top 48
abbrev s_stands : Stmt := top 49
abbrev s_is_stand : Stmt := top 50
abbrev s_is_turning : Stmt := top 51
abbrev s_need_stand : Stmt := top 52
abbrev s_need_turning : Stmt := top 53
abbrev s_need_row : Stmt := top 54
abbrev s_need_run : Stmt := top 55
abbrev s_turned : Stmt := top 56
abbrev s_walked : Stmt := top 57
abbrev s_law_mixed : Stmt := top 59
abbrev s_law_draw : Stmt := top 60
abbrev s_law_digit : Stmt := top 61
abbrev s_law_made : Stmt := top 62
abbrev s_law_turning : Stmt := top 63
abbrev s_law_table : Stmt := top 64
abbrev s_law_kinds : Stmt := top 65
abbrev s_law_whole : Stmt := top 66
abbrev s_law_stand_bad : Stmt := top 67
abbrev s_law_turning_bad : Stmt := top 68
abbrev s_law_row_bad : Stmt := top 69
abbrev s_law_run_bad : Stmt := top 70
abbrev s_law_told : Stmt := top 71
abbrev s_law_refused_right : Stmt := top 72
abbrev s_law_odd : Stmt := top 73
abbrev s_law_bent : Stmt := top 74
abbrev s_law_asked : Stmt := top 75
abbrev s_law : Stmt := top 76
end U
set_option maxHeartbeats 0
namespace U
open PySem PySem.Spec PyProof.Rows L2
/-! what the head tells -/
def ownNames : List Str := ["BadTable", "BadStand", "BadTurning", "BadWish", "BadLot", "BadRow", "BadPattern", "BadFelt", "BadHearing", "BadRun", "BadPaper", "NotEven", "OutOfPlace", "TooGreat", "Never", "NotSure", "Inside", "Rung", "Untimely", "UnseenError", "MissError", "StateError"]
/-- a class's first def -/
def initOf (s : Stmt) : Stmt := match s with
  | .ClassDef _ _ _ body _ _ _ _ _ _ _ => body.getD 0 (.Pass ⟨0, 0, 0, 0⟩)
  | _ => .Pass ⟨0, 0, 0, 0⟩
def dd (x : Str) (st : Stmt) : He.DefD := ⟨(x, none), x, x, defArgs st, defBody st, defScope st, [], []⟩
def di (x q : Str) (st : Stmt) : He.DefD := ⟨(x, some "__init__"), "__init__", q, defArgs (initOf st), defBody (initOf st), defScope (initOf st), [.non], []⟩
def fn : List He.DefD := (([dd "power" s_power, dd "is_rising" s_is_rising, dd "calm_of" s_calm_of, dd "then_of" s_then_of, dd "spread_by" s_spread_by, dd "grown_by" s_grown_by, dd "plus" s_plus, dd "is_whole" s_is_whole, dd "is_among" s_is_among, dd "is_tuple_of" s_is_tuple_of, dd "wrong_seat" s_wrong_seat, dd "wrong_face" s_wrong_face, dd "is_order" s_is_order, dd "are_rising_orders" s_are_rising_orders, dd "are_closed" s_are_closed, dd "need_table" s_need_table, dd "seats_of" s_seats_of, dd "is_stand_of" s_is_stand_of, dd "is_turning_of" s_is_turning_of, dd "seats" s_seats, dd "stands" s_stands, dd "is_stand" s_is_stand, dd "is_turning" s_is_turning, dd "need_stand" s_need_stand, dd "need_turning" s_need_turning, dd "need_row" s_need_row, dd "need_run" s_need_run, dd "turned" s_turned, dd "walked" s_walked, dd "_law_mixed" s_law_mixed] : List He.DefD) ++ ([dd "_law_draw" s_law_draw, dd "_law_digit" s_law_digit, dd "_law_made" s_law_made, dd "_law_turning" s_law_turning, dd "_law_table" s_law_table, dd "_law_kinds" s_law_kinds, dd "_law_whole" s_law_whole, dd "_law_stand_bad" s_law_stand_bad, dd "_law_turning_bad" s_law_turning_bad, dd "_law_row_bad" s_law_row_bad, dd "_law_run_bad" s_law_run_bad, dd "_law_told" s_law_told, dd "_law_refused_right" s_law_refused_right, dd "_law_odd" s_law_odd, dd "_law_bent" s_law_bent, dd "_law_asked" s_law_asked, dd "law" s_law, di "BadTable" "BadTable.__init__" s_BadTable, di "BadStand" "BadStand.__init__" s_BadStand, di "BadTurning" "BadTurning.__init__" s_BadTurning, di "BadRow" "BadRow.__init__" s_BadRow, di "BadRun" "BadRun.__init__" s_BadRun] : List He.DefD))
def fa : List He.Fa := (([.glo "power", .glo "is_rising", .glo "calm_of", .glo "then_of", .glo "spread_by", .glo "grown_by", .glo "plus", .glo "is_whole", .glo "is_among", .glo "is_tuple_of", .glo "wrong_seat", .glo "wrong_face", .glo "is_order", .glo "are_rising_orders", .glo "are_closed", .glo "need_table", .glo "seats_of", .glo "is_stand_of", .glo "is_turning_of", .glo "seats", .glo "stands", .glo "is_stand", .glo "is_turning", .glo "need_stand", .glo "need_turning", .glo "need_row", .glo "need_run", .glo "turned", .glo "walked", .glo "_law_mixed"] : List He.Fa) ++ ([.glo "_law_draw", .glo "_law_digit", .glo "_law_made", .glo "_law_turning", .glo "_law_table", .glo "_law_kinds", .glo "_law_whole", .glo "_law_stand_bad", .glo "_law_turning_bad", .glo "_law_row_bad", .glo "_law_run_bad", .glo "_law_told", .glo "_law_refused_right", .glo "_law_odd", .glo "_law_bent", .glo "_law_asked", .glo "law", .glo "BadTable", .glo "BadStand", .glo "BadTurning", .glo "BadWish", .glo "BadLot", .glo "BadRow", .glo "BadPattern", .glo "BadFelt", .glo "BadHearing", .glo "BadRun", .glo "BadPaper", .glo "NotEven", .glo "OutOfPlace"] : List He.Fa) ++ ([.glo "TooGreat", .glo "Never", .glo "NotSure", .glo "Inside", .glo "Rung", .glo "Untimely", .glo "UnseenError", .glo "MissError", .glo "StateError", .free "isinstance", .free "int", .free "bool", .free "tuple", .free "list", .free "len", .free "range", .free "enumerate", .free "all", .free "set", .free "zip", .free "sorted", .free "repr", .free "sum", .free "ValueError", .free "LookupError", .free "RuntimeError", .int "MOST_SEATS" 8, .int "MOST_FACES" 9, .int "MOST_STANDS" 729, .int "MOST_TURNINGS" 128] : List He.Fa))
def tf : List He.Defn := [("is_rising", none), ("are_rising_orders", none), ("_law_asked", none), ("law", none)]
def oexB (K : PySem.W.Frag) (C : Addr) : Bool := (match K.lookup C with
  | some ⟨.type t, _, .cls cd, sl⟩ => decide (t = "type") && (match cd.mro, sl.toList with
    | .ref C' :: bm, [_, _, _, _, some (.builtin n), _] => decide (C' = C) && (decide (n = "ValueError.__new__") && (!cd.hasDel && (cd.hasDict && PySem.HandSPX.refsVE bm)))
    | _, _ => false)
  | _ => false) && (decide (PySem.W.findIn K (.ref C) "__setattr__" = some (some (.builtin "object.__setattr__"))) && (decide (PySem.W.subIn K (.ref C) (.type "BaseException") = some true) && (decide (PySem.W.typeIn K (.ref C) = some (.type "type")) && PySem.W.keepIn K (.ref C))))
def excB (K : PySem.W.Frag) (D : Addr) : Bool := decide (PySem.W.findIn K (.ref D) "__getattribute__" = some (some (.builtin "BaseException.__getattribute__"))) && (decide (PySem.W.findIn K (.ref D) "__getattr__" = some none) && (decide (PySem.W.subIn K (.ref D) (.type "BaseException") = some true) && (PySem.W.hasDictIn K D &&
  (decide (PySem.W.findIn K (.ref D) "__class__" = some (some (.builtin "object.__class__"))) && (decide (PySem.W.specialIn K (.builtin "object.__class__") "__get__" = some (some (.builtin "getset_descriptor.__get__"))) && (decide (PySem.W.takesIn K (.builtin "object.__class__") = some true) && decide (PySem.W.mroIn K D (.type "object") = some true)))))))
def kb (x : Str) : Str → Bool := fun y => decide (y = x) || (decide (y = "UnseenError") || decide (y = "ValueError"))
def kitB (K : PySem.W.Frag) (x : Str) : Bool := (ownNames.all fun y => decide (PySem.W.kitOne K (.ref (He.ga K x)) (.ref (He.ga K y)) = some (kb x y))) && (decide (PySem.W.kitOne K (.ref (He.ga K x)) (.type "ValueError") = some true) && (decide (PySem.W.kitOne K (.ref (He.ga K x)) (.type "LookupError") = some false) && decide (PySem.W.kitOne K (.ref (He.ga K x)) (.type "RuntimeError") = some false)))
def clsB (K : PySem.W.Frag) (x f : Str) : Bool := oexB K (He.ga K x) && (excB K (He.ga K x) && (xfB K (He.ga K x) && (kitB K x && (decide (PySem.W.findIn K (.ref (He.ga K x)) f = some none) && (decide (PySem.W.exmOne K (.ref (He.ga K x)) (.ref (He.ga K "UnseenError")) = some true) &&
  (decide (PySem.W.findIn K (.ref (He.ga K x)) "__init__" = some (some (.ref (He.ma K (He.ga K x) "__init__")))) && decide (PySem.W.typeIn K (.ref (He.ma K (He.ga K x) "__init__")) = some (.type "function"))))))))
def apart (K : PySem.W.Frag) : Bool := decide ((tf.map fun p => (He.cT K p).2).Nodup)
def ex (K : PySem.W.Frag) : Bool := apart K && (clsB K "BadTable" "place" && (clsB K "BadStand" "number" && (clsB K "BadTurning" "number" && (clsB K "BadRow" "number" && (clsB K "BadRun" "place")))))
abbrev RR : PySem.W.OpenRow := PySem.W.OpenLaw.row PySem.Challenge.rw_unseenturn_k03_runs_refused
abbrev hk : PySem.W.Hook := He.hookX 5 fa fn [] tf ex
def ob (s : PySem.W.SharedT) : He.AlX := He.obsX 5 fa fn [] tf ex (HandSHeadRun.getT s)
theorem ob_eq (s : PySem.W.SharedT) : ob s = hk.obs s.abs := He.obsX_eq (HandSHeadRun.getT_eq s)
def names : List Str := ((["__name__", "UnseenError", "BadTable", "BadStand", "BadTurning", "BadWish", "BadLot", "BadRow", "BadPattern", "BadFelt", "BadHearing", "BadRun", "BadPaper", "NotEven", "OutOfPlace", "TooGreat", "MissError", "Never", "NotSure", "Inside", "StateError", "Rung", "Untimely", "MOST_SEATS", "MOST_FACES", "MOST_STANDS", "MOST_TURNINGS", "power", "is_rising", "calm_of"] : List Str) ++ (["then_of", "spread_by", "grown_by", "plus", "is_whole", "is_among", "is_tuple_of", "wrong_seat", "wrong_face", "is_order", "are_rising_orders", "are_closed", "need_table", "seats_of", "stands_of", "is_stand_of", "is_turning_of", "seats", "stands", "is_stand", "is_turning", "need_stand", "need_turning", "need_row", "need_run", "turned", "walked", "_law_mixed", "_law_draw", "_law_digit"] : List Str) ++ (["_law_made", "_law_turning", "_law_table", "_law_kinds", "_law_whole", "_law_stand_bad", "_law_turning_bad", "_law_row_bad", "_law_run_bad", "_law_told", "_law_refused_right", "_law_odd", "_law_bent", "_law_asked"] : List Str))
abbrev qL : Program := PySem.W.view RR.prog [76]
abbrev dL : DefRec := HandSHeadRun.topDef RR.prog 76
theorem run (w : World) : HandSHeadRun.RunEq RR qL hk ob 30000 names w := by
  intro os
  kernel_rfl
end U
namespace U
open PySem PySem.W PySem.Calls PyProof.Rows
theorem hd_open : opening RR.prog = plainProg RR.prog.main.scope.names := by kernel_rfl
theorem hd_fence (s : Shared) : fenceModules? RR.prog s = some s := by kernel_rfl
theorem hd_def : PySem.W.defOf qL RR.name = some (dL, []) := by kernel_rfl
theorem hd_the : RR.prog.theDef RR.name = some (dL.params, dL.body, dL.scope) := by kernel_rfl
theorem hd_kw : kwWritten? dL.params.kwonlyargs dL.params.kw_defaults = some [] := by kernel_rfl
theorem hd_nm : dL.name = ("law" : PySem.Str) := by kernel_rfl
theorem hd_dfl : dL.params.defaults = [] := by kernel_rfl
end U
set_option maxHeartbeats 2000000
namespace Gx
open PySem PySem.Spec PyProof.Rows L2 GxR GenW
/-! The element's context. -/
def gcx (X : Cx) (A : Around) (cenv : Env) (N : List Str) (s0 : Shared) (H0 : Hp) (fp : List Addr) : Cx :=
  { prog := X.prog, w := X.w, K := X.K, mg := X.mg, base := X.base, A := A, N := N, s_0 := s0, H_0 := H0, env := cenv, outer := X.stack, stack := cenv :: X.stack,
    ex := fp, fn := fun _ => false, calm := true, pn := [], xe := fun _ _ => False }
/-- asleep or woken: nothing of the heap has changed -/
def Woke (s s'' : Shared) : Prop := s''.heap = s.heap ∧ s''.os = s.os ∧ AllBare s''.gens
theorem inv_woke {X : Cx} {pins : List (Addr × Obj)} {σ : L2.St} {H : Hp} {s s'' : Shared} (I : Inv X pins σ H s) (z : Woke s s'') : Inv X pins σ H s'' := by
  obtain ⟨z1, z2, z3⟩ := z
  refine I.call' (ch := []) z2 ?_ ?_ z3 (fun b hb => by cases hb)
  · rw [z1]; exact Un.refl
  · rw [z1]; exact I.hok
/-- the state in a turn -/
structure GI (Y : Cx) (go : Addr × Obj) (fp : List Addr) (tn : Nat → Heap → Prop) (Sv : L2.St → Prop) (i : Nat) (H : Hp) (s : Shared) : Prop where
  inv : ∃ σ, Inv Y [go] σ H s ∧ Sv σ
  turn : tn i s.heap
  fpo : ∀ b ∈ fp, FpOk Y [go] H b
/-- what is wanted of the walk: at each turn b, or the end -/
def GYp (Y : Cx) (go : Addr × Obj) (fp : List Addr) (tn : Nat → Heap → Prop) (Sv : L2.St → Prop) (n : Nat) (Pv : Nat → Hp → Prop) (Qf : Hp → Prop) : Protocol := fun m s₀ v s kap =>
  ∃ b H i, v = .bool b ∧ i + m + 1 = n ∧ (∃ σ, Inv Y [go] σ H s) ∧ (if b = true then Pv (i + 1) H ∧ ∀ s'', Woke s s'' → kap (.send .none) s'' else Qf H)
def GRp (Y : Cx) (go : Addr × Obj) (n : Nat) (Pv : Nat → Hp → Prop) : Nat → Shared → Shared → Prop := fun m s₀ s₁ => m = 0 ∧ ∃ H σ, Inv Y [go] σ H s₁ ∧ Pv n H
section
variable {Y : Cx} {B : Around} {fp : List Addr} {go : Addr × Obj} {elt target iter : Expr} {scope : Scope} {pos : Pos} {it : Addr} {J : It} {tn : Nat → Heap → Prop} {g : TG} {te : TE} {n : Nat} {G : Hp → Prop} {Yy : Nat → Hp → V → Hp → Prop} {Sv : L2.St → Prop} {Pv : Nat → Hp → Prop} {Qf : Hp → Prop}
abbrev gcode (elt target iter : Expr) (scope : Scope) (pos : Pos) (it : Addr) (cenv : Env) : Code := .compLoop (.GeneratorExp elt [⟨target, iter, [], 0⟩] scope pos) 0 (.ref it) .none cenv
theorem seg_loop (hA : B.over (gcode elt target iter scope pos it Y.env) [] = Y.A) (hco : Y.env.scope.isCoroutine = false) (hca : Y.calm = true)
    (T : Turn Y.prog Y.w Y.K target J fp it tn) (w : Walk J n G Yy) (hg : PG Y target g) (he : PE Y elt te) (hx : ∀ e s, ¬ Y.xe e s)
    (hG : ∀ i H, i ≤ n → Pv i H → G H)
    (hs : ∀ i x σ H H', i < n → Sv σ → Pv i H → Yy i H x H' → g x σ H' fun σ2 H2 => Sv σ2 ∧ te σ2 H2 fun v H3 => ∃ b, v = .bl b ∧ if b = true then Pv (i + 1) H3 else Qf H3) :
    ∀ (k i : Nat) (s₀ s : Shared) (H : Hp), n - i = k → i ≤ n → GI Y go fp tn Sv i H s → Pv i H →
      Seg (model Y.prog Y.w) B (fun m s₀ r s₁ => r = .ok .next ∧ GRp Y go n Pv m s₀ s₁) (GYp Y go fp tn Sv n Pv Qf) k s₀ (gcode elt target iter scope pos it Y.env)
        ((model Y.prog Y.w).den (gcode elt target iter scope pos it Y.env)) [] s := by
  intro k
  induction k with
  | zero =>
    intro i s₀ s H hk hi gi hp
    have e : i = n := by omega
    subst e
    obtain ⟨⟨σ, I, hσ⟩, ht, hf⟩ := gi
    show Seg _ B _ _ _ s₀ _ ((compTurn (.GeneratorExp elt [⟨target, iter, [], 0⟩] scope pos) 0 (.ref it) .none Y.env).onRaise (leaving Y.env)) [] s
    rw [compTurn_gen, Sem.onRaise_eq_wrap]
    refine seg_bind_wrap (wpAny_standAt (seg_bind_wrap ?_))
    rw [hA]
    refine wpAny_mono (T.done Y rfl rfl rfl hca i [go] s σ H _ I hf ht (w.stops H (hG i H (Nat.le_refl _) hp))) (fun r s1 hr => ?_) fun _ _ z => z
    obtain ⟨rfl, I1⟩ := hr
    exact seg_end (.ok .next) ⟨rfl, rfl, H, σ, I1, hp⟩
  | succ k ih =>
    intro i s₀ s H hk hi gi hp
    have hlt : i < n := by omega
    obtain ⟨⟨σ, I, hσ⟩, ht, hf⟩ := gi
    show Seg _ B _ _ _ s₀ _ ((compTurn (.GeneratorExp elt [⟨target, iter, [], 0⟩] scope pos) 0 (.ref it) .none Y.env).onRaise (leaving Y.env)) [] s
    rw [compTurn_gen, Sem.onRaise_eq_wrap]
    have gH := hG i H (Nat.le_of_lt hlt) hp
    refine seg_bind_wrap (wpAny_standAt (seg_bind_wrap ?_))
    rw [hA]
    refine wpAny_mono (T.item Y rfl rfl rfl hca i [go] s σ H _ I hf ht (w.goes i H hlt gH)) (fun r s1 hr => ?_) fun _ _ z => z
    obtain ⟨u, rfl, h2⟩ := hr
    refine seg_bind_wrap ?_
    rw [hA]
    refine wpAny_mono h2 (fun _ s2 h3 => ?_) fun _ _ z => z
    obtain ⟨x, H2, I2, rx, hy, ht2, hf2⟩ := h3
    have hb := hs i x σ H H2 hlt hσ hp (w.yields i H x H2 hlt gH hy)
    refine seg_bind_wrap ?_
    rw [hA]
    have hf3 : ∀ b ∈ fp, FpOk Y [go] H2 b := fun b hb => ⟨hf2 b hb, (hf b hb).2⟩
    have I2p : Inv Y ([go] ++ pinsAt fp s2.heap) σ H2 s2 := I2.pinned hf3 (T.obj (i + 1) s2.heap ht2)
    refine wpAny_mono (hg.run _ s2 σ H2 x u _ I2p rx hb) (fun _ s3 h4 => ?_) fun e s z => (hx e s z).elim
    obtain ⟨σ3, H3, I3, hS3, h5⟩ := h4
    simp only [List.forIn_nil]
    refine seg_bind_wrap (wpAny_pure ?_)
    have hy : ∀ v, yieldOut Y.env v = yieldValue v := fun v => by simp only [yieldOut, hco, Bool.false_eq_true, if_false]
    simp only [hy, if_true]
    rw [Sem.bind_eq_wrap', Sem.bind_eq_wrap', Sem.wrap_wrap, Sem.wrap_wrap]
    refine seg_wrap ?_
    rw [hA]
    refine wpAny_mono (he.run _ s3 σ3 H3 _ I3 h5) (fun y s4 h6 => ?_) fun e s z => (hx e s z).elim
    obtain ⟨v, H4, I4, rv, b, rfl, h7⟩ := h6
    obtain rfl : y = Value.bool b := rv
    have J4 : Inv Y [go] σ3 H4 s4 := I4.unpinned
    refine seg_at (seg_yield rfl rfl rfl ⟨b, H4, i, rfl, by omega, ⟨σ3, J4⟩, ?_⟩)
    cases b with
    | false => exact h7
    | true =>
      have h8 : Pv (i + 1) H4 := h7
      refine ⟨h8, fun s'' wk => ?_⟩
      have J5 := inv_woke J4 wk
      have pinned : ∀ b ∈ fp, ∀ o, s2.heap.get? b = some o → s4.heap.get? b = some o ∧ H4 b = none := fun b hb o e => by
        have z := I4.pin (b, o) (List.mem_append_right _ (List.mem_append_right _ (mem_pinsAt hb e)))
        exact ⟨z.1, z.2.1⟩
      refine seg_again rfl (ih (i + 1) s'' s'' H4 (by omega) hlt ⟨⟨σ3, J5, hS3⟩, ?_, fun b hb => ?_⟩ h8)
      · rw [wk.1]
        exact T.keep (i + 1) s2.heap s4.heap ht2 fun b hb o e => (pinned b hb o e).1
      · obtain ⟨o, ho, _⟩ := T.obj (i + 1) s2.heap ht2 b hb
        exact ⟨(pinned b hb o ho).2, (hf b hb).2⟩
abbrev scode (elt target iter : Expr) (scope : Scope) (pos : Pos) (it : Addr) (cenv : Env) : Code := .compStart (.GeneratorExp elt [⟨target, iter, [], 0⟩] scope pos) 0 (.ref it) .none cenv
theorem seg_start (hA : B.over (gcode elt target iter scope pos it Y.env) [] = Y.A) (hA2 : B.over (scode elt target iter scope pos it Y.env) [] = Y.A) (hco : Y.env.scope.isCoroutine = false) (hca : Y.calm = true)
    (T : Turn Y.prog Y.w Y.K target J fp it tn) (w : Walk J n G Yy) (hg : PG Y target g) (he : PE Y elt te) (hx : ∀ e s, ¬ Y.xe e s)
    (hG : ∀ i H, i ≤ n → Pv i H → G H)
    (hs : ∀ i x σ H H', i < n → Sv σ → Pv i H → Yy i H x H' → g x σ H' fun σ2 H2 => Sv σ2 ∧ te σ2 H2 fun v H3 => ∃ b, v = .bl b ∧ if b = true then Pv (i + 1) H3 else Qf H3)
    (s₀ s : Shared) (H : Hp) (gi : GI Y go fp tn Sv 0 H s) (hp : Pv 0 H) :
      Seg (model Y.prog Y.w) B (fun m s₀ r s₁ => r = .ok .next ∧ GRp Y go n Pv m s₀ s₁) (GYp Y go fp tn Sv n Pv Qf) n s₀ (scode elt target iter scope pos it Y.env)
        ((model Y.prog Y.w).den (scode elt target iter scope pos it Y.env)) [] s := by
  have loop := seg_loop hA hco hca T w hg he hx hG hs n 0 s₀ s H (Nat.sub_zero n) (Nat.zero_le n) gi hp
  show Seg _ B _ _ _ s₀ _ ((compStart (.GeneratorExp elt [⟨target, iter, [], 0⟩] scope pos) 0 (.ref it) .none Y.env).onRaise (leaving Y.env)) [] s
  unfold compStart
  rw [Sem.onRaise_eq_wrap]
  show Seg _ B _ _ _ s₀ _ ((ask >>= _).wrap _ _ _ _) [] s
  refine seg_bind_wrap (wpAny_askSetting ?_)
  split
  · exact seg_again rfl loop
  · refine seg_bind_wrap (wpAny_rule ?_)
    show Seg _ B _ _ _ s₀ _ ((standAt iter.pos >>= _).wrap _ _ _ _) [] s
    refine seg_bind_wrap (wpAny_standAt (seg_bind_wrap ?_))
    exact T.self _ 0 s _ _ gi.turn (seg_again rfl loop)
/-! the consumer -/
/-- what stood stands; generators are at rest -/
def Grown (s s' : Shared) : Prop := s'.os = s.os ∧ AllBare s'.gens ∧ ∀ b o, s.heap.get? b = some o → s'.heap.get? b = some o
theorem all_loop {A : Around} {a : Addr} {gn : Nat} {R : Result → Shared → Prop}
    (hh : A.handled = none) (hroom : A.depth < recursionLimit) (ha : go.1 = a) (hgo : ∀ h : Heap, h.get? a = some go.2 → h.IsGen a gn)
    (hQ : ∀ b H σ s, Inv Y [go] σ H s → (if b = true then Pv n H else Qf H) → ∀ s', Grown s s' → R (.ok (.ret (.bool b))) s') :
    ∀ (k : Nat) (s : Shared) (gs : GenState) (H : Hp), (∃ σ, Inv Y [go] σ H s) → s.gens[gn]? = some gs →
      (∀ s'', Woke s s'' → gs.Goes (model Y.prog Y.w) A.in1.in1 (fun m s₀ r s₁ => r = .ok .next ∧ GRp Y go n Pv m s₀ s₁) (GYp Y go fp tn Sv n Pv Qf) k (.send .none) s'') →
      codeAny (model Y.prog Y.w) A (.builtin "all.loop" ⟨[.ref a], []⟩) R s := by
  intro k
  induction k with
  | zero =>
    intro s gs H hI hgs hgoes
    obtain ⟨σ, I⟩ := hI
    have ig : s.heap.IsGen a gn := hgo _ (by have z := (I.pin go (List.mem_append_right _ List.mem_cons_self)).1; rw [ha] at z; exact z)
    have wk : Woke s (s.setGen gn .running) := ⟨rfl, rfl, allBare_setGen I.bare rfl⟩
    have lt : gn + 1 ≤ s.gens.size := (Array.getElem?_eq_some_iff.mp hgs).1
    refine codeAny_builtin F.entry_all_loop ?_
    rw [Around.under_plainId F.plain_all_loop _]
    show wpAny _ A.in1 (pyNext (.ref a) >>= _) _ _ s
    refine wpAny_bind (wpAny_gsz lt (wpAny_pyNext_genexpQ (P := GRp Y go n Pv) hh I.nolimit hroom ig hgs (hgoes _ wk) (fun v s₁ gs' hb hv hsz => ?_) (fun s₁ hp h' hk _ => ?_)))
    · obtain ⟨b, H2, i, rfl, _, ⟨σ2, I2⟩, hv⟩ := hv
      have gr : Grown s₁ (s₁.setGen gn gs') := ⟨rfl, allBare_setGen I2.bare hb, fun _ _ e => e⟩
      refine wpAny_bind (wpAny_holding (wpAny_truthy_bool ?_))
      refine wpAny_bind (wpAny_letGo ?_)
      cases b with
      | false =>
        simp only [Bool.false_eq_true, if_false]
        refine wpAny_bind (wpAny_rule (wpAny_pure ?_))
        exact hQ false H2 σ2 s₁ I2 hv _ gr
      | true =>
        simp only [if_true]
        obtain ⟨_, hv⟩ := hv
        exact (hv s₁ ⟨rfl, rfl, I2.bare⟩).elim
    · obtain ⟨_, H2, σ2, I2, hp⟩ := hp
      refine wpAny_bind (wpAny_rule (wpAny_pure ?_))
      exact hQ true H2 σ2 s₁ I2 hp _ ⟨rfl, allBare_setGen (s := s₁) I2.bare rfl, hk⟩
  | succ k ih =>
    intro s gs H hI hgs hgoes
    obtain ⟨σ, I⟩ := hI
    have ig : s.heap.IsGen a gn := hgo _ (by have z := (I.pin go (List.mem_append_right _ List.mem_cons_self)).1; rw [ha] at z; exact z)
    have wk : Woke s (s.setGen gn .running) := ⟨rfl, rfl, allBare_setGen I.bare rfl⟩
    have lt : gn + 1 ≤ s.gens.size := (Array.getElem?_eq_some_iff.mp hgs).1
    refine codeAny_builtin F.entry_all_loop ?_
    rw [Around.under_plainId F.plain_all_loop _]
    show wpAny _ A.in1 (pyNext (.ref a) >>= _) _ _ s
    refine wpAny_bind (wpAny_gsz lt (wpAny_pyNext_genexpQ (P := GRp Y go n Pv) hh I.nolimit hroom ig hgs (hgoes _ wk) (fun v s₁ gs' hb hv hsz => ?_) (fun s₁ hp h' hk _ => ?_)))
    · obtain ⟨b, H2, i, rfl, _, ⟨σ2, I2⟩, hv⟩ := hv
      have gr : Grown s₁ (s₁.setGen gn gs') := ⟨rfl, allBare_setGen I2.bare hb, fun _ _ e => e⟩
      refine wpAny_bind (wpAny_holding (wpAny_truthy_bool ?_))
      refine wpAny_bind (wpAny_letGo ?_)
      cases b with
      | false =>
        simp only [Bool.false_eq_true, if_false]
        refine wpAny_bind (wpAny_rule (wpAny_pure ?_))
        exact hQ false H2 σ2 s₁ I2 hv _ gr
      | true =>
        simp only [if_true]
        obtain ⟨_, hv⟩ := hv
        refine wpAny_pure ⟨plainId_quiet F.plain_all_loop _, ?_⟩
        refine ih (s₁.setGen gn gs') gs' H2 ⟨σ2, inv_woke I2 ⟨rfl, rfl, gr.2.1⟩⟩ ?_ fun s'' wk2 => hv s'' ⟨wk2.1, wk2.2.1, wk2.2.2⟩
        have e : (s₁.setGen gn gs').gens.size = s₁.gens.size := setGen_size s₁ gn gs'
        have hlt : gn < s₁.gens.size := by rw [e] at hsz; exact hsz
        simp [Shared.setGen, hlt]
    · obtain ⟨_, H2, σ2, I2, hp⟩ := hp
      refine wpAny_bind (wpAny_rule (wpAny_pure ?_))
      exact hQ true H2 σ2 s₁ I2 hp _ ⟨rfl, allBare_setGen (s := s₁) I2.bare rfl, hk⟩
end
/-! names that are captured -/
theorem clo_look {cells : List (Str × Addr)} {names : List (Str × NameKind)} {y : Str} {c : Addr} (hf : (y, NameKind.free) ∈ names) (hc : cells.lookup y = some c) : (cloFrom cells names []).lookup y = some c := by
  obtain ⟨c', e⟩ := mem_lookup (cloFrom_has (cells := cells) (acc := []) hf)
  rcases cloFrom_mem (PySem.mem_of_lookup e) with h | ⟨_, h⟩
  · cases h
  · rw [e, h, hc]; rfl
theorem clo_in {cells : List (Str × Addr)} {names : List (Str × NameKind)} (hall : ∀ y ∈ names, y.2 = .free → ∃ c, cells.lookup y.1 = some c) {y : Str} {c : Addr} (h : (cloFrom cells names []).lookup y = some c) : cells.lookup y = some c ∧ (y, NameKind.free) ∈ names := by
  rcases cloFrom_mem (PySem.mem_of_lookup h) with h | ⟨h1, h2⟩
  · cases h
  · obtain ⟨c', e⟩ := hall _ h1 rfl
    rw [h2, e]; exact ⟨rfl, h1⟩
/-- the slots at the beginning: the targets empty, the captured as they stand -/
def caps (ts : Nat) (cs : List Nat) (σ : L2.St) : L2.St := List.replicate ts none ++ cs.map fun j => (σ[j]?).join
def Sc (ts : Nat) (cs : List Nat) (σ : L2.St) : L2.St → Prop := fun σ' => ∃ hs : L2.St, hs.length = ts ∧ σ' = hs ++ cs.map fun j => (σ[j]?).join
/-- the names: the targets, the captured -/
structure GNames (X : Cx) (scope : Scope) (ts : List Str) (cs : List Nat) (N : List Str) : Prop where
  kind : scope.kind = .function
  co : scope.isCoroutine = false
  cell : ∀ y ∈ scope.names, y.2 ≠ .cell
  dot : scope.names.lookup (".0" : Str) = some NameKind.local
  free : ∀ y ∈ scope.names, y.2 = .free → X.env.scope.names.lookup y.1 = some .cell ∨ X.env.scope.names.lookup y.1 = some .free
  names : N = ts ++ cs.map fun j => X.N.getD j ""
  caps : ∀ j ∈ cs, j < X.N.length ∧ (X.N.getD j "", NameKind.free) ∈ scope.names ∧ scope.names.lookup (X.N.getD j "") = some .free
section
variable {X : Cx} {pins : List (Addr × Obj)} {σ : L2.St} {H : Hp} {s : Shared} {scope : Scope} {ts : List Str} {cs : List Nat} {N : List Str}
theorem GNames.has (S : GNames X scope ts cs N) (ok : X.Ok) : ∀ y ∈ scope.names, y.2 = .free → ∃ c, X.env.cells.lookup y.1 = some c := fun y hy hf => ok.has y.1 (S.free y hy hf)
def genv (X : Cx) (scope : Scope) (C : Addr) (code : Value) : Env := genEnv scope (cloFrom X.env.cells scope.names []) C code builtinsNs X.env
theorem ok_gen {fp : List Addr} {B : Around} {c : Code} {code : Value} (S : GNames X scope ts cs N) (I : Inv X pins σ H s) (hB : B.frames = X.A.frames) (hh : B.handled = none) (hc : c.envs = [genv X scope s.heap.objs.size code])
    (hfp : ∀ b ∈ fp, FpOk X pins H b) (hlt : ∀ b ∈ fp, b < s.heap.objs.size) : (gcx X (B.over c []) (genv X scope s.heap.objs.size code) N s H fp).Ok where
  mod := I.ok.mod
  kind := S.kind
  glob := I.ok.glob
  blt := rfl
  above := Nat.le_refl _
  inj := fun x y d h1 h2 => I.ok.inj x y d (clo_in (S.has I.ok) h1).1 (clo_in (S.has I.ok) h2).1
  has := fun x hx => by
    have hx' : scope.names.lookup x = some .cell ∨ scope.names.lookup x = some .free := hx
    rcases hx' with h | h
    · exact absurd rfl (S.cell _ (PySem.mem_of_lookup h))
    · have m := PySem.mem_of_lookup h
      obtain ⟨d, e⟩ := S.has I.ok _ m rfl
      exact ⟨d, clo_look m e⟩
  cab := fun _ _ h => by cases h
  hd := fun _ => hh
  frames := by
    show pushEnvs c.envs (pushEnvs [] B.frames) = some (genv X scope s.heap.objs.size code :: X.stack)
    rw [hc, hB, I.ok.frames]; rfl
  stk := .inr ⟨rfl, rfl⟩
  exf := fun b hb => ⟨Nat.ne_of_lt (hlt b hb), fun x d h => (hfp b hb).2.2.2.2.1 x d (clo_in (S.has I.ok) h).1⟩
  bs := I.bs
  bsz := Nat.le_trans I.ok.bsz I.sz
  noex := fun b o e hb => by
    rcases (hfp b hb).2.2.2.1 with h | h
    · exact I.ok.noex b o e h
    · exact absurd (Nat.lt_of_lt_of_le (Heap.lt_size e) (Nat.le_trans I.ok.bsz h)) (Nat.lt_irrefl _)
  exfs := fun b hb hm => by
    rcases List.mem_cons.mp (I.stkSub b hm) with e | e
    · exact (hfp b hb).2.1 e
    · exact (hfp b hb).2.2.1 e
  funs := I.stack
  frf := I.stkFree
theorem inv_gen {fp : List Addr} {B : Around} {c : Code} {code : Value} {h' : Heap} {go : Obj} {gs : GenState} {tk : Nat} {it : Value} (S : GNames X scope ts cs N) (I : Inv X pins σ H s) (hB : B.frames = X.A.frames) (hh : B.handled = none) (hc : c.envs = [genv X scope s.heap.objs.size code])
    (hfp : ∀ b ∈ fp, FpOk X pins H b) (hlt : ∀ b ∈ fp, b < s.heap.objs.size) (hgs : gs.bare = true)
    (hn : h'.Ns s.heap.objs.size (fun y => if y = ".0" then some it else none)) (hk : ∀ b o, s.heap.get? b = some o → h'.get? b = some o) (hsz : h'.objs.size = s.heap.objs.size + 1) (hgd : ∀ v, go.data ≠ .cell v) (hgp : (h'.push go).get? h'.objs.size = some go) :
    Inv (gcx X (B.over c []) (genv X scope s.heap.objs.size code) N s H fp) [(h'.objs.size, go)] (caps ts.length cs σ) H { s with gens := s.gens.push gs, toks := tk, heap := h'.push go } where
  ok := ok_gen S I hB hh hc hfp hlt
  os := rfl
  bare := I.bare.push hgs
  base := Un.kept fun b o e => Heap.get?_push_of_some _ (hk b o e)
  loc := by
    refine ⟨_, hn.push go, fun i y v h1 h2 _ => ?_⟩
    have h1 : N[i]? = some y := h1
    rw [S.names] at h1
    unfold caps at h2
    by_cases hi : i < ts.length
    · rw [List.getElem?_append_left (by simpa using hi), List.getElem?_replicate] at h2
      split at h2 <;> cases h2
    · rw [List.getElem?_append_right (by simp; omega), List.getElem?_map, List.length_replicate] at h2
      rw [List.getElem?_append_right (by omega), List.getElem?_map] at h1
      cases e : cs[i - ts.length]? with
      | none => rw [e] at h1; cases h1
      | some j =>
        rw [e] at h1 h2
        have e1 : X.N.getD j "" = y := Option.some.inj h1
        have e2 : (σ[j]?).join = some v := Option.some.inj h2
        obtain ⟨hj, hm, hf⟩ := S.caps j (List.mem_of_getElem? e)
        rw [e1] at hm hf
        have e3 : X.N[j]? = some y := by
          rw [List.getElem?_eq_getElem hj]
          rw [List.getD_eq_getElem?_getD, List.getElem?_eq_getElem hj] at e1
          exact congrArg some e1
        have e4 : σ[j]? = some (some v) := by
          cases q : σ[j]? with
          | none => rw [q] at e2; cases e2
          | some z => rw [q] at e2; exact congrArg some e2
        obtain ⟨m, hnX, hl⟩ := I.loc
        have kd := S.free _ hm rfl
        obtain ⟨u, ru, l⟩ := hl j y v e3 e4 (.inr kd)
        refine ⟨u, ru, .inr ⟨.inr hf, ?_⟩⟩
        rcases l with ⟨l1, _⟩ | ⟨_, d, hd, hcell⟩
        · have l1' : X.env.scope.names.lookup y = some .local := l1
          rcases kd with q | q
          · rw [l1'] at q; cases q
          · rw [l1'] at q; cases q
        · exact ⟨d, clo_look hm hd, hcell.keeps fun b o e => Heap.get?_push_of_some _ (hk b o e)⟩
  cell := fun y d h => by
    obtain ⟨v, hv⟩ := I.cell y d (clo_in (S.has I.ok) h).1
    exact ⟨v, hv.keeps fun b o e => Heap.get?_push_of_some _ (hk b o e)⟩
  free := I.hok.fresh (Nat.le_refl _)
  freeC := fun y d h => I.freeC y d (clo_in (S.has I.ok) h).1
  pin := fun p hp => by
    have hp : p = (h'.objs.size, go) := by
      rcases List.mem_append.mp hp with z | z
      · cases z
      · exact List.mem_singleton.mp z
    subst hp
    refine ⟨hgp, I.hok.fresh (by rw [hsz]; exact Nat.le_succ _), ?_, fun hm => ?_, hgd⟩
    · show h'.objs.size ≠ s.heap.objs.size
      omega
    · obtain ⟨_, o, ho, _⟩ := I.stack.mem hm
      have := Heap.lt_size ho
      rw [hsz] at this
      have z : s.heap.objs.size + 1 < s.heap.objs.size := this
      omega
  hok := I.hok.kept fun b o e => Heap.get?_push_of_some _ (hk b o e)
  len := by
    show (caps ts.length cs σ).length = N.length
    rw [S.names]
    simp [caps]
theorem fpok_gen {fp : List Addr} {A : Around} {code : Value} {a : Addr} {go : Obj} (S : GNames X scope ts cs N) (I : Inv X pins σ H s) (hfp : ∀ b ∈ fp, FpOk X pins H b) (hlt : ∀ b ∈ fp, b < s.heap.objs.size) (ha : s.heap.objs.size ≤ a) :
    ∀ b ∈ fp, FpOk (gcx X A (genv X scope s.heap.objs.size code) N s H fp) [(a, go)] H b := fun b hb => by
  refine ⟨(hfp b hb).1, Nat.ne_of_lt (hlt b hb), fun hm => ?_, .inl hb, fun y d h => (hfp b hb).2.2.2.2.1 y d (clo_in (S.has I.ok) h).1, fun p hp => ?_⟩
  · rcases List.mem_cons.mp (I.stkSub b hm) with e | e
    · exact (hfp b hb).2.1 e
    · exact (hfp b hb).2.2.1 e
  · rcases List.mem_append.mp hp with z | z
    · cases z
    · rw [List.mem_singleton.mp z]
      exact Nat.ne_of_gt (Nat.lt_of_lt_of_le (hlt b hb) ha)
/-- room within -/
theorem room_gen {k : Nat} {A : Around} {elt target iter : Expr} {pos : Pos} {it : Addr} {env : Env} (r : Room (k + 1) A) : Room k (A.in1.in1.over (gcode elt target iter scope pos it env) []) :=
  ⟨r.hd, by have := r.dp; show A.depth + 0 + 1 + 3 * k + 5 < _; omega, by have := r.un; show A.units + 1 + 1 + 0 + _ + 16 * k + 200 < _; show A.units + 1 + 1 + 0 + 3 + 16 * k + 200 < _; omega⟩
/-- all(elt for target in iter): P the def's table, ts targets, cs captured slots -/
def tAll (P : Addr) (ts : Nat) (cs : List Nat) (wi : TI) (g : TG) (te : TE) : TE := fun σ H Q => wi σ H fun J H1 => TabG H1 P ∧ ∀ H2, Tabbed P H1 H2 → ∃ (n : Nat) (G : Hp → Prop) (Yy : Nat → Hp → V → Hp → Prop) (Pv : Nat → Hp → Prop),
  Walk J n G Yy ∧ Pv 0 H2 ∧ (∀ i H, i ≤ n → Pv i H → G H) ∧
  (∀ i x σ' H H', i < n → Sc ts cs σ σ' → Pv i H → Yy i H x H' → g x σ' H' fun σ2 H2 => Sc ts cs σ σ2 ∧ te σ2 H2 fun v H3 => ∃ b, v = .bl b ∧ if b = true then Pv (i + 1) H3 else Q (.bl false) H3) ∧
  ∀ H, Pv n H → Q (.bl true) H
theorem pe_all {P c : Addr} {elt target iter : Expr} {p pos gpos : Pos} {wi : TI} {g : TG} {te : TE} {k : Nat}
    (hr : Room (k + 1) X.A) (hg : Gl X "all") (hm : X.mg "all" = none) (hb : bootBuiltins "all" = some (.builtin "all")) (TB : TabB X.base X.mg c P) (hcode : X.env.code = .ref c)
    (S : GNames X scope ts cs N) (hi : PI X target iter wi)
    (hel : ∀ (A : Around) (C : Addr) (code : Value) (s0 : Shared) (H0 : Hp) (fp : List Addr), Room k A → PG (gcx X A (genv X scope C code) N s0 H0 fp) target g ∧ PE (gcx X A (genv X scope C code) N s0 H0 fp) elt te)
    (hs : ∀ v, genFold iter X.env v = pure v)
    (he : starEach [.GeneratorExp elt [⟨target, iter, [], 0⟩] scope gpos] X.env = (false, eval (.GeneratorExp elt [⟨target, iter, [], 0⟩] scope gpos) X.env) :: starEach [] X.env := by rfl) :
    PE X (.Call (.Name "all" p) [.GeneratorExp elt [⟨target, iter, [], 0⟩] scope gpos] [] pos) (tAll P ts.length cs wi g te) := by
  refine ⟨fun pins s σ H Q I h => ?_⟩
  refine wpAny_Call_Name_kw (ld_blt I hg hm hb (PyProof.Rows.callWith_builtin1 ?_ he (by rfl)))
  rw [he]
  show wpAny _ _ (spliced ((false, eval (.GeneratorExp elt [⟨target, iter, [], 0⟩] scope gpos) X.env) :: backTo pos (starEach [] X.env))) _ _ s
  refine Calls.spliced_cons (wpAny_GeneratorExp_make S.co (closure_ok (S.has I.ok)) S.cell S.dot S.kind (by have := hr.dp; omega) ?_ hs)
  refine thn (hi.run pins s σ H _ I h) fun xv s1 hP => thn hP fun itv s2 hP2 => ?_
  obtain ⟨it, fp, tn, J, H1, rfl, I1, T, ht, hfp, ⟨ps, hPs, htr⟩, hrest⟩ := hP2
  have hPheap : s2.heap.get? P = some { cls := .none, data := .fields ps } := I1.hok P _ hPs
  have cd : PySem.W.CodeHd s2.heap c P := TB.code.keeps fun b u e => I1.bk b u e
  have nP : ∀ b ∈ fp, b ≠ P := fun b hb z => by
    have q := (hfp b hb).1
    rw [z, hPs] at q; cases q
  refine ⟨I1.nolimit, ?_⟩
  have bf : ∀ (s3 : Shared) (H3 : Hp) (QQ : Addr → Shared → Prop), Inv X pins σ H3 s3 → QQ builtinsNs s3 → wpAny (model X.prog X.w) X.A (builtinsFor X.env.globals X.env.builtins) QQ X.xe s3 := by
    intro s3 H3 QQ I3 q
    obtain ⟨bm, ob, e1, e2, e3, e4, e5, e6, e7, e8⟩ := TB.bm
    exact wpAny_builtinsFor (m := X.mg) (by rw [I3.ok.glob]; exact I3.mod.glob.keeps I3.bk) e1 e2 (I3.bk _ _ e5) e6 e7 e8 q
  have key : ∀ (code : Value) (s3 : Shared) (H3 : Hp), Inv X pins σ H3 s3 → Tabbed P H1 H3 → tn 0 s3.heap → (∀ b ∈ fp, FpOk X pins H3 b) → ∀ h', h'.Ns s3.heap.objs.size (fun y => if y = ".0" then some (.ref it) else none) →
      Heap.SameBut s3.heap.objs.size (s3.heap.push { cls := .type "frame", data := .dict #[] }) h' → ∀ (tk : Nat) (nm qn : Value), wpAny (model X.prog X.w) X.A (call (.builtin "all") [.ref h'.objs.size]) (EP X pins σ Q) X.xe
        { s3 with gens := s3.gens.push (.fresh (scode elt target iter scope gpos it (genv X scope s3.heap.objs.size code))), toks := tk, heap := h'.push { cls := .type "generator", data := .fields #[.int s3.gens.size 0, nm, qn] } } := by
    intro code s3 H3 I3 tab t3 f3 h' hn hsb tk nm qn
    obtain ⟨n, G, Yy, Pv, hw, h0, hG, hstep, hend⟩ := hrest H3 tab
    have hk : ∀ b o, s3.heap.get? b = some o → h'.get? b = some o := fun b o e => hsb.extBut b o (Nat.ne_of_lt (Heap.lt_size e)) (Heap.get?_push_of_some _ e)
    have hsz : h'.objs.size = s3.heap.objs.size + 1 := by rw [hsb.1, Heap.size_push]
    have hlt : ∀ b ∈ fp, b < s3.heap.objs.size := fun b hb => by
      obtain ⟨o, ho, _⟩ := T.obj 0 s3.heap t3 b hb
      exact Heap.lt_size ho
    generalize hgo : ({ cls := .type "generator", data := .fields #[.int s3.gens.size 0, nm, qn] } : Obj) = go
    have hgd : go.data = .fields #[.int s3.gens.size 0, nm, qn] := by rw [← hgo]
    have hgc : go.cls = .type "generator" := by rw [← hgo]
    have hgs : go.slots = #[] := by rw [← hgo]
    have hgp : (h'.push go).get? h'.objs.size = some go := by rw [← hgo]; exact Heap.get?_push_size _ rfl
    have hnc : ∀ v, go.data ≠ .cell v := fun v z => by rw [hgd] at z; cases z
    have hgen : ∀ h : Heap, h.get? h'.objs.size = some go → h.IsGen h'.objs.size s3.gens.size := fun h e => ⟨go, nm, qn, e, hgc, hgd, hgs⟩
    have IY := inv_gen (B := X.A.in1.in1) (c := gcode elt target iter scope gpos it (genv X scope s3.heap.objs.size code)) (gs := .fresh (scode elt target iter scope gpos it (genv X scope s3.heap.objs.size code))) (tk := tk) S I3 rfl hr.hd rfl f3 hlt rfl hn hk hsz hnc hgp
    have fY := fpok_gen (A := X.A.in1.in1.over (gcode elt target iter scope gpos it (genv X scope s3.heap.objs.size code)) []) (code := code) (a := h'.objs.size) (go := go) S I3 f3 hlt (by rw [hsz]; exact Nat.le_succ _)
    obtain ⟨hPG, hPE⟩ := hel (X.A.in1.in1.over (gcode elt target iter scope gpos it (genv X scope s3.heap.objs.size code)) []) s3.heap.objs.size code s3 H3 fp (room_gen hr)
    refine call_function_tree F.kind_all F.plain_all F.entry_all (F.args_all1 _) ?_
    unfold Builtin.«all»
    refine wpAny_bind (m := oneArg "all" _) (wpAny_pure ?_)
    refine wpAny_bind (wpAny_pyIter_gen (hgen _ hgp) (wpAny_pure ⟨plainId_quiet F.plain_all_loop _, ?_⟩))
    refine all_loop (Y := gcx X (X.A.in1.in1.over (gcode elt target iter scope gpos it (genv X scope s3.heap.objs.size code)) []) (genv X scope s3.heap.objs.size code) N s3 H3 fp) (go := (h'.objs.size, go)) (fp := fp) (tn := tn) (Sv := Sc ts.length cs σ) (n := n) (Pv := Pv) (Qf := fun H => Q (.bl false) H)
      hr.hd (by have := hr.dp; omega) rfl hgen (fun b Hc σc sc Ic hq s' gr => ?_) n _ (.fresh (scode elt target iter scope gpos it (genv X scope s3.heap.objs.size code))) H3 ⟨_, IY⟩ (Array.getElem?_push_size ..) fun s'' wk => ⟨rfl, ?_⟩
    · refine ⟨.bl b, Hc, I3.call' (ch := fp) (gr.1.trans Ic.os) (Ic.base.trans (Un.kept gr.2.2)) (Ic.hok.kept gr.2.2) gr.2.1 (fun z hz => ⟨(f3 z hz).2.2.2.1, (f3 z hz).2.1, (f3 z hz).2.2.2.2.1, (f3 z hz).2.2.2.2.2⟩), rfl, ?_⟩
      cases b with
      | true => exact hend Hc hq
      | false => exact hq
    · refine seg_start (Y := gcx X (X.A.in1.in1.over (gcode elt target iter scope gpos it (genv X scope s3.heap.objs.size code)) []) (genv X scope s3.heap.objs.size code) N s3 H3 fp) rfl rfl S.co rfl T hw hPG hPE (fun _ _ z => z) hG hstep s'' s'' H3 ⟨⟨_, inv_woke IY wk, ⟨List.replicate ts.length none, by simp, rfl⟩⟩, ?_, fY⟩ h0
      rw [wk.1]
      exact T.keep 0 s3.heap _ t3 fun b _ o e => Heap.get?_push_of_some _ (hk b o e)
  cases hf : codeAmong gpos ps.toList with
  | none =>
    refine wpAny_genexprCodeX hcode (cd.code hPheap htr) (cd.tab hPheap) hf fun c' h' tk hx hge hlt hco' _ htab' _ => ?_
    obtain ⟨o1, vs, f1, tf, fl, tg, inF, tx, tt, op, _, _, _, _, _, _, _, _, _, htr2, _⟩ := hco'
    have I3 := inv_tab (more := #[rawInt gpos.line, rawInt gpos.col, .ref c']) (h' := h') (g' := s2.gens) (d' := s2.drawn) (t' := tk) I1 hPs (fun b u hb e => hx b u hb e) htab'.2 I1.bare
    have t3 : tn 0 h' := T.keep 0 s2.heap h' ht fun b hb o e => hx b o (nP b hb) e
    refine bf _ _ _ I3 fun h5 hn hsb => ?_
    refine Calls.spliced_nil ?_
    exact key (.ref c') _ _ I3 ⟨⟨_, upd_same, htr2⟩, fun b hb => upd_ne hb⟩ t3 (fun b hb => ⟨by rw [upd_ne (nP b hb)]; exact (hfp b hb).1, (hfp b hb).2⟩) h5 hn hsb _ _ _
  | some cv =>
    refine wpAny_genexprCode_hit hcode (cd.code hPheap htr) hf (bf s2 H1 _ I1 fun h' hn hsb => ?_)
    refine Calls.spliced_nil ?_
    exact key cv s2 H1 I1 ⟨⟨ps, hPs, htr⟩, fun _ _ => rfl⟩ ht hfp h' hn hsb _ _ _
end
end Gx
set_option maxHeartbeats 2000000
namespace Bx
open PySem PySem.Spec PyProof.Rows L2 GxR
/-! a def of the text, and what it keeps -/
structure Dfn (K : PySem.W.Frag) (mg : Str → Option Value) (x : Str) (st : Stmt) (ps : List Str) : Prop where
  ex : ∃ f fd, mg x = some (.ref f) ∧ Fun K x x st f fd ∧ Binds K fd ps []
structure Okd (P : Program) (w : World) (K : PySem.W.Frag) (mg : Str → Option Value) (base : Heap) (CX : CXT) (k : Nat) (x : Str) (ps : List Str) (sp : Sp) : Prop where
  ex : ∃ f fd, mg x = some (.ref f) ∧ PySem.W.keepIn K (.ref f) = true ∧ Binds K fd ps [] ∧ FnOk P w K mg base CX k f fd ps sp
section
variable {P : Program} {w : World} {K : PySem.W.Frag} {mg : Str → Option Value} {base : Heap} {x : Str} {st : Stmt} {N ps : List Str} {sp : Sp} {k : Nat}
theorem Dfn.ok (D : Dfn K mg x st ps) (S : FnScope N ps (defScope st)) (len : ∀ vs H Q E, sp vs H Q E → vs.length = ps.length)
    (hbody : ∀ (f : Addr) (cdv : Value) (A : Around) (outer : List Env) (s : Shared) (H : Hp) (vs : List V) (Q : VK) (E : XK), Room k (A.deeper (envOfC x (defScope st) s.heap.objs.size f cdv)) → sp vs H Q E →
      ∃ t, PSs (cxOf CX0 P w K mg base N x (defScope st) f cdv A outer s H E).nox (defBody st) t ∧ t { nx := fun _ H' => Q .non H', rt := Q } (start N vs) H) : Okd P w K mg base CX0 (k + 1) x ps sp := by
  obtain ⟨f, fd, g, F, b⟩ := D.ex
  exact ⟨f, fd, g, F.kp, b, F.ok S len (hbody f)⟩
theorem Okd.mono {CX : CXT} {j : Nat} (o : Okd P w K mg base CX j x ps sp) (h : j ≤ k) : Okd P w K mg base CX k x ps sp := by
  obtain ⟨f, fd, g, kp, b, F⟩ := o.ex
  exact ⟨f, fd, g, kp, b, F.mono h⟩
end
section
variable {X : Cx} {ps : List Str} {sp : Sp} {k : Nat} {x : Str} {e : Expr} {es : List Expr} {t : TA} {p pos : Pos}
theorem pe_do (o : Okd X.prog X.w X.K X.mg X.base CX0 k x ps sp) (hr : Room k X.A) (ha : PA X (e :: es) t) (hg : Gl X x := by rfl) (hdb : (x == ("__debug__" : Str)) = false := by decide)
    (he : starEach (e :: es) X.env = (false, eval e X.env) :: starEach es X.env := by rfl) (hpl : (backTo pos (starEach es X.env)).any (·.1) = false := by rfl) :
    PE X (.Call (.Name x p) (e :: es) [] pos) (tCall sp [] E0 t) := by
  obtain ⟨f, fd, g, kp, b, F⟩ := o.ex
  exact pe_call F hr hg g kp b .nil pass0 ha hdb he hpl
end
/-! what is kept: all that is tracked, tables of code may grow -/
def Tg (Ps : List Addr) (H : Hp) : Prop := ∀ P ∈ Ps, TabG H P
structure Kp (Ps : List Addr) (H H' : Hp) : Prop where
  old : ∀ b o, H b = some o → (∀ ps, o ≠ .tbl ps) → H' b = some o
  tab : Tg Ps H → Tg Ps H'
  tb : ∀ b ps, H b = some (.tbl ps) → ∃ ps', H' b = some (.tbl ps') ∧ (b ∉ Ps → ps' = ps)
section
variable {Ps : List Addr} {K : PySem.W.Frag} {H H1 H2 : Hp} {a p : Addr} {o : HO} {xs : List V}
theorem Kp.refl (H : Hp) : Kp Ps H H := ⟨fun _ _ e _ => e, fun t => t, fun _ ps e => ⟨ps, e, fun _ => rfl⟩⟩
theorem Kp.trans (x : Kp Ps H H1) (y : Kp Ps H1 H2) : Kp Ps H H2 := ⟨fun b o e n => y.old b o (x.old b o e n) n, fun t => y.tab (x.tab t), fun b ps e => by
    obtain ⟨ps1, e1, r1⟩ := x.tb b ps e
    obtain ⟨ps2, e2, r2⟩ := y.tb b ps1 e1
    exact ⟨ps2, e2, fun n => (r2 n).trans (r1 n)⟩⟩
theorem tg_ne {P : Addr} (t : TabG H P) (h : H p = none) : P ≠ p := by
  obtain ⟨ps, e, _⟩ := t
  exact ne_of_none e h
theorem tabg_upd {P : Addr} (t : TabG H P) (h : P ≠ p) : TabG (upd H p o) P := by
  obtain ⟨ps, e, r⟩ := t
  exact ⟨ps, by rw [upd_ne h]; exact e, r⟩
theorem Kp.new (h : H p = none) : Kp Ps H (upd H p o) :=
  ⟨fun b u e _ => by rw [upd_ne (ne_of_none e h)]; exact e, fun t P hP => tabg_upd (t P hP) (tg_ne (t P hP) h), fun b ps e => ⟨ps, by rw [upd_ne (ne_of_none e h)]; exact e, fun _ => rfl⟩⟩
/-- an object that H doesn't know may change -/
theorem Kp.mut (x : Kp Ps H H1) (h : H p = none) (hp : ∀ ps, H1 p ≠ some (.tbl ps)) : Kp Ps H (upd H1 p o) :=
  ⟨fun b u e n => by rw [upd_ne (ne_of_none e h)]; exact x.old b u e n, fun t P hP => by
    have t1 := x.tab t P hP
    refine tabg_upd t1 fun z => ?_
    obtain ⟨ps, e, _⟩ := t1
    rw [z] at e
    exact hp ps e, fun b ps e => by
    rw [upd_ne (ne_of_none e h)]; exact x.tb b ps e⟩
theorem Kp.rd (x : Kp Ps H H1) {u : HO} (hu : ∀ ps, u ≠ .tbl ps) (r : Rd H a u) : Rd H1 a u := by
  rcases r with e | ⟨o, e⟩
  · exact .inl (x.old a u e hu)
  · exact .inr ⟨o, x.old a _ e fun ps z => by cases z⟩
theorem Kp.l (x : Kp Ps H H1) (h : SqL K H a xs) : SqL K H1 a xs := by
  rcases h with h | h
  · exact .inl (x.rd (fun ps z => by cases z) h)
  · exact .inr h
theorem Kp.t (x : Kp Ps H H1) (h : SqT K H a xs) : SqT K H1 a xs := by
  rcases h with h | h
  · exact .inl (x.rd (fun ps z => by cases z) h)
  · exact .inr h
theorem Kp.lst (x : Kp Ps H H1) (h : H a = some (.lst xs)) : H1 a = some (.lst xs) := x.old a _ h fun ps z => by cases z
theorem Kp.tup (x : Kp Ps H H1) (h : H a = some (.tup xs)) : H1 a = some (.tup xs) := x.old a _ h fun ps z => by cases z
theorem Kp.dk (x : Kp Ps H H1) {kvs : List (Key × V)} (h : H a = some (.dK kvs)) : H1 a = some (.dK kvs) := x.old a _ h fun ps z => by cases z
theorem Kp.fresh (x : Kp Ps H H1) (h : H1 p = none) : H p = none := by
  cases e : H p with
  | none => rfl
  | some o =>
    by_cases ht : ∃ ps, o = .tbl ps
    · obtain ⟨ps, rfl⟩ := ht
      obtain ⟨ps', z, _⟩ := x.tb p ps e
      rw [h] at z; cases z
    · have z := x.old p o e (fun ps z => ht ⟨ps, z⟩)
      rw [h] at z; cases z
theorem Kp.tabbed {P : Addr} (hP : P ∈ Ps) (t0 : TabG H P) (h : Tabbed P H H1) : Kp Ps H H1 := by
  refine ⟨fun b o e n => ?_, fun t Q hQ => ?_, fun b ps e => ?_⟩
  · by_cases hb : b = P
    · obtain ⟨ps, e2, _⟩ := t0
      rw [hb, e2] at e
      exact absurd (Option.some.inj e).symm (n ps)
    · rw [h.2 b hb]; exact e
  · by_cases hb : Q = P
    · rw [hb]; exact h.1
    · obtain ⟨ps, e, r⟩ := t Q hQ
      exact ⟨ps, by rw [h.2 Q hb]; exact e, r⟩
  · by_cases hb : b = P
    · obtain ⟨ps1, e1, _⟩ := h.1
      exact ⟨ps1, by rw [hb]; exact e1, fun n => absurd (hb ▸ hP) n⟩
    · exact ⟨ps, by rw [h.2 b hb]; exact e, fun _ => rfl⟩
end
/-! kinds of things -/
inductive AV (H : Hp) : V → String → Prop
  | non : AV H .non "NoneType"
  | bl (b : Bool) : AV H (.bl b) "bool"
  | int (i : Int) : AV H (.int i) "int"
  | str (z : Str) : AV H (.str z) "str"
  | tup {a : Addr} {xs : List V} (e : H a = some (.tup xs)) : AV H (.ref a) "tuple"
  | lst {a : Addr} {xs : List V} (e : H a = some (.lst xs)) : AV H (.ref a) "list"
  | dk {a : Addr} {kvs : List (Key × V)} (e : H a = some (.dK kvs)) : AV H (.ref a) "dict"
theorem AV.ty {K : PySem.W.Frag} {H : Hp} {x : V} {t : String} (h : AV H x t) : TyX K H x (.type t) := by
  cases h with
  | non => exact .base .non
  | bl b => exact .base (.bl b)
  | int i => exact .base (.int i)
  | str z => exact .base (.str z)
  | tup e => exact .base (.tup e)
  | lst e => exact .base (.lst e)
  | dk e => exact .base (.dK e)
theorem AV.kp {Ps : List Addr} {H H1 : Hp} {x : V} {t : String} (k : Kp Ps H H1) (h : AV H x t) : AV H1 x t := by
  cases h with
  | non => exact .non
  | bl b => exact .bl b
  | int i => exact .int i
  | str z => exact .str z
  | tup e => exact .tup (k.tup e)
  | lst e => exact .lst (k.lst e)
  | dk e => exact .dk (k.dk e)
theorem AV.isInt {K : PySem.W.Frag} {H : Hp} {x : V} {t : String} (h : AV H x t) : PySem.W.kitOne K (.type t) (.type "int") = some (t == "int" || t == "bool") := by
  cases h <;> exact kit_ty (by decide +kernel)
theorem AV.isBool {K : PySem.W.Frag} {H : Hp} {x : V} {t : String} (h : AV H x t) : PySem.W.kitOne K (.type t) (.type "bool") = some (t == "bool") := by
  cases h <;> exact kit_ty (by decide +kernel)
theorem AV.isTup {K : PySem.W.Frag} {H : Hp} {x : V} {t : String} (h : AV H x t) : PySem.W.kitOne K (.type t) (.type "tuple") = some (t == "tuple") := by
  cases h <;> exact kit_ty (by decide +kernel)
section
variable {X : Cx}
/-- isinstance(e, T) -/
theorem pe_isi {T : Str} {n : String} {e : Expr} {te : TE} {p p2 pos : Pos} (he : PE X e te) (hT : bootBuiltins T = some (.type n)) (hmT : X.mg T = none) (hm : X.mg "isinstance" = none) (hg : Gl X "isinstance" := by rfl) (hgT : Gl X T := by rfl)
    (hs : starEach [e, .Name T p2] X.env = (false, eval e X.env) :: starEach [.Name T p2] X.env := by rfl) (hs2 : starEach [.Name T p2] X.env = (false, eval (.Name T p2) X.env) :: starEach [] X.env := by rfl) (hpl : (backTo pos (starEach [.Name T p2] X.env)).any (·.1) = false := by rfl) (hd : (T == ("__debug__" : Str)) = false := by decide) (hn : T ≠ "__name__" := by decide) :
    PE X (.Call (.Name "isinstance" p) [e, .Name T p2] [] pos) (tCB (rIsi X.K) (tCons te (tCons (tC (.ty n)) tNil))) :=
  pe_callB call_isi hg hm boot_isinstance (pa_cons he (pa_cons (pe_bltn hgT hmT hT rfl hn hd) pa_nil hs2) hs) (by decide) (by decide) hs hpl
end
end Bx
set_option maxHeartbeats 2000000
namespace Ex
open PySem PySem.Spec PyProof.Rows L2
set_option maxHeartbeats 1000000 in
theorem meets_enum1 {v : Value} {o : Obj} {H : Heap → Prop} (B : Begins v o H) :
    Meets (Builtin.«enumerate.__new__» ⟨[.type "enumerate", v], []⟩) (fun _ R s => H s.heap ∧
      R (.ok (.ret (.ref (s.heap.push o).objs.size))) { s with heap := (s.heap.push o).push { cls := .type "enumerate", data := .fields #[.none, .bool false, .ref s.heap.objs.size, rawInt 0, .none, .none] } }) :=
  .of_wp fun prog w A R s h => by
    obtain ⟨hp, g, d, tk, os⟩ := s
    obtain ⟨h1, h⟩ := h
    have hsub := sub_enumerate
    have q1 : ∀ {A' : Around} {E : Value → Shared → Prop} {Q : Value → Shared → Prop}, Q (.ref hp.objs.size) ⟨hp.push o, g, d, tk, os⟩ → wpAny (model prog w) A' (pyIter v) Q E ⟨hp, g, d, tk, os⟩ :=
      fun q => B.iter prog w _ _ ⟨hp, g, d, tk, os⟩ _ h1 q
    wp_walk using q1
    refine wpAny_stack_any fun st => wpAny_pure ?_
    split
    · rename_i c _ _ _ _ _
      cases (c == Value.type "enumerate") <;> (wp_walk using q1; exact ⟨_, rfl, h⟩)
    · wp_walk using q1
      exact ⟨_, rfl, h⟩
theorem call_enum1 {prog : Program} {w : World} {A : Around} {E : Value → Shared → Prop} {s : Shared} {v : Value} {o : Obj} {H : Heap → Prop} {Q : Value → Shared → Prop} (B : Begins v o H) (h1 : H s.heap)
    (h : ∀ h', IsEnum h' (s.heap.objs.size + 1) s.heap.objs.size 0 .none → h'.get? s.heap.objs.size = some o → h'.objs.size = s.heap.objs.size + 2 →
      (∀ b o, s.heap.get? b = some o → h'.get? b = some o) → Q (.ref (s.heap.objs.size + 1)) { s with heap := h' }) :
    wpAny (model prog w) A (call (.type "enumerate") [v]) Q E s := by
  refine callType_new F.called_enumerate (by decide) (F.typeCall_enumerate_1 _) (F.newCall_enumerate_1 _) (fun obj => F.args_object_init_2 obj _) F.entry_enumerate_new (meets_enum1 B) ⟨h1, ?_⟩
  have hz : (s.heap.push o).objs.size = s.heap.objs.size + 1 := Heap.size_push ..
  show _ ∧ _
  rw [hz]
  have he : IsEnum ((s.heap.push o).push { cls := .type "enumerate", data := .fields #[.none, .bool false, .ref s.heap.objs.size, rawInt 0, .none, .none] }) (s.heap.objs.size + 1) s.heap.objs.size 0 .none := by
    have z := Heap.get?_push_size (s.heap.push o) (o := { cls := .type "enumerate", data := .fields #[.none, .bool false, .ref s.heap.objs.size, rawInt 0, .none, .none] }) rfl
    rw [hz] at z
    exact z
  exact ⟨⟨_, he, rfl⟩, h _ he (Heap.get?_push_of_some _ (Heap.get?_push_size _ B.free)) (by rw [Heap.size_push, hz]) fun b o x => Heap.get?_push_of_some _ (Heap.get?_push_of_some _ x)⟩
/-- the tuple at a, each item in a new pair with its number -/
def IteT (K : PySem.W.Frag) (a : Addr) (n : Nat) : It :=
  ⟨fun i H => ∃ (xs : List V) (x : V), SqT K H a xs ∧ xs.length = n ∧ xs[i]? = some x, fun i H v H' => ∃ T x, v = .ref T ∧ H T = none ∧ H' = upd H T (.tup [.int (i : Nat), x]) ∧ ∀ xs, SqT K H a xs → xs[i]? = some x, fun i H => n ≤ i ∧ ∃ xs : List V, SqT K H a xs ∧ xs.length = n⟩
theorem turn_enumT {P : Program} {w : World} {K : PySem.W.Frag} {elts : List Expr} {kk : Nat} {tpos : Pos} (a e it : Addr) (n : Nat) :
    Turn P w K (.Tuple elts kk tpos) (IteT K a n) [e, it] e (fun i h => (∃ old, IsEnum h e it ((i : Nat) : Int) old) ∧ h.IsTupleIter it a i ∧ e ≠ it ∧ a ≠ it ∧ a ≠ e ∧ i ≤ n) where
  mem := by simp
  obj := fun i h st b hb => by
    obtain ⟨⟨old, he⟩, ⟨o, ho, hc, hd⟩, _⟩ := st
    rcases (show b = e ∨ b = it by simpa using hb) with z | z
    · rw [z]; exact ⟨_, he, fun v q => nomatch q⟩
    · rw [z]; exact ⟨o, ho, fun v q => by rw [hd] at q; cases q⟩
  keep := fun i h h' st k => by
    obtain ⟨⟨old, he⟩, hi, hne⟩ := st
    exact ⟨⟨old, k e (by simp) _ he⟩, hi.at fun o q => k it (by simp) o q, hne⟩
  item := by
    intro X hP hw hK hc i pins s σ H E I hf st hg
    subst hP hw hK
    obtain ⟨⟨old, he⟩, hit, hne, hai, hae, hin⟩ := st
    obtain ⟨xs, x, hq, hxn, hx⟩ := hg
    have hin2 : i + 1 ≤ n := by have := (List.getElem?_eq_some_iff.mp hx).1; omega
    obtain ⟨its, rv, p, hz⟩ := I.tuple hq
    have pT : s.heap.IsTuple a its.toArray := p
    obtain ⟨u, hu, ru⟩ := rv.get hx
    have hel : e < s.heap.objs.size := Heap.lt_size he
    have hil : it < s.heap.objs.size := by obtain ⟨_, q, _⟩ := hit; exact Heap.lt_size q
    have hlt : i < its.toArray.size := by simpa using (List.getElem?_eq_some_iff.mp hu).1
    have nf : e ∉ [it, a] := by
      intro z
      rcases List.mem_cons.mp z with z | z
      · exact hne z
      · exact hae (List.mem_singleton.mp z).symm
    refine wpAny_pyNext_enum_itemD (Draws.tuple (A := X.A.in1) (I.ok.hd hc) it a hai its.toArray) he ⟨hit, pT⟩ hlt hne nf fun y h' tk hy ho hst' hT hsz hk => ?_
    have hit' := hst'.1
    have ey : y = u := by
      have q : its[i]? = some y := by simpa using hy
      rw [hu] at q
      exact (Option.some.inj q).symm
    subst ey
    refine ⟨_, rfl, wpAny_letOwnedTupleGo_enum (s := { s with heap := h', toks := tk + 1 }) ho fun h'' he' sb => ?_⟩
    have hT2 : h''.get? s.heap.objs.size = some { cls := .type "tuple", data := .seq #[.int i tk, y] } := (sb.2 _ (Nat.ne_of_gt hel)).trans hT
    have new : ObjOk X.prog X.w (upd H s.heap.objs.size (.tup [.int (i : Nat), x])) h'' s.heap.objs.size (.tup [.int (i : Nat), x]) :=
      ⟨by show 2 ≤ sizeLine; decide, [.int i tk, y], .cons ⟨_, rfl⟩ (.cons ru .nil), ⟨_, hT2, rfl, _, rfl⟩⟩
    have I1 : Inv X pins σ (upd H s.heap.objs.size (.tup [.int (i : Nat), x])) { s with heap := h'', toks := tk + 1 } :=
      I.turnedNew (ch := [e, it]) (fun b ob hb q => (sb.2 b (fun z => hb (by simp [z]))).trans (hk b ob (fun z => hb (by simp [z])) (fun z => hb (by simp [z])) q)) hf (Nat.le_refl _) new
    refine ⟨.ref s.heap.objs.size, _, I1, rfl, ⟨_, x, rfl, I.hok.fresh (Nat.le_refl _), rfl, fun ys hy => by rw [I.tuple_inj hy hq]; exact hx⟩, ⟨⟨y, ?_⟩, hit'.at fun o q => (sb.2 it (Ne.symm hne)).trans q, hne, hai, hae, hin2⟩, fun b hb => ?_⟩
    · have e1 : ((i + 1 : Nat) : Int) = (i : Int) + 1 := by omega
      rw [e1]; exact he'
    · have hb' : b < s.heap.objs.size := by
        rcases (show b = e ∨ b = it by simpa using hb) with z | z
        · rw [z]; exact hel
        · rw [z]; exact hil
      rw [upd_ne (Nat.ne_of_lt hb')]
      exact (hf b hb).1
  done := by
    intro X hP hw hK hc i pins s σ H E I hf st hg
    subst hP hw hK
    obtain ⟨⟨old, he⟩, hit, hne, hai, hae, hin⟩ := st
    obtain ⟨hni, xs, hq, hx⟩ := hg
    obtain ⟨its, rv, p, hz⟩ := I.tuple hq
    have pT : s.heap.IsTuple a its.toArray := p
    obtain ⟨f0, f1, f2, f3, f4, f5⟩ := hf it (by simp)
    have hl := rv.length
    have hz2 : i = its.toArray.size := by simp; omega
    rw [hz2] at hit
    exact wpAny_pyNext_enum_endD (Draws.tuple (A := X.A.in1) (I.ok.hd hc) it a hai its.toArray) he ⟨hit, pT⟩ fun h' eb => ⟨rfl, I.turned (t' := s.toks) (fun b o hb q => eb b o hb q) f0 f1 f3 f4 f5⟩
  self := fun A i s Q E st h => by
    obtain ⟨⟨_, he⟩, _⟩ := st
    exact wpAny_pyIter_enum he h
def iEnumT (K : PySem.W.Frag) (ta : TA) : TI := fun σ H R => ta σ H fun vs H1 => ∃ a xs, vs = [.ref a] ∧ SqT K H1 a xs ∧ R (IteT K a xs.length) H1
theorem pi_enumT {X : Cx} {e : Expr} {ta : TA} {p pos tpos : Pos} {elts : List Expr} {kk : Nat} (hm : X.mg "enumerate" = none) (ha : PA X [e] ta) (hg : Gl X "enumerate" := by rfl) (hs : starEach [e] X.env = [(false, eval e X.env)] := by rfl) :
    PI X (.Tuple elts kk tpos) (.Call (.Name "enumerate" p) [e] [] pos) (iEnumT X.K ta) := by
  refine ⟨fun pins s σ H R I h => Call_ (ld_blt I hg hm boot_enumerate (PyProof.Rows.callWith_type1 (thn (ha.run pos pins s σ H _ I h) fun us s1 hq => ?_) hs rfl))⟩
  obtain ⟨vs, H1, I1, r1, a, xs, ex, hq, q⟩ := hq
  subst ex
  cases r1 with
  | cons r rr =>
    cases rr
    cases r
    obtain ⟨its, rv, p', hz⟩ := I1.tuple hq
    have pT : s1.heap.IsTuple a its.toArray := p'
    have hal : a < s1.heap.objs.size := by obtain ⟨_, q, _⟩ := pT; exact Heap.lt_size q
    refine call_enum1 (begins_tuple a its.toArray) pT fun h' he ho hsz hk => wpAny_pyIter_enum he ?_
    have I2 : Inv X pins σ H1 { s1 with heap := h' } := I1.kept (t' := s1.toks) hk
    refine ⟨s1.heap.objs.size + 1, [s1.heap.objs.size + 1, s1.heap.objs.size], _, _, H1, rfl, I2, turn_enumT a (s1.heap.objs.size + 1) s1.heap.objs.size xs.length, ⟨⟨.none, he⟩, ⟨_, ho, rfl, rfl⟩, Nat.succ_ne_self _, Nat.ne_of_lt hal, Nat.ne_of_lt (Nat.lt_succ_of_lt hal), Nat.zero_le _⟩, fun b hb => ?_, q⟩
    have hle : s1.heap.objs.size ≤ b := by
      rcases (show b = s1.heap.objs.size + 1 ∨ b = s1.heap.objs.size by simpa using hb) with z | z
      · rw [z]; exact Nat.le_succ _
      · rw [z]; exact Nat.le_refl _
    exact I1.fpOk hle (I1.hok.fresh hle)
theorem walk_enumT {K : PySem.W.Frag} {a : Addr} {xs : List V} : Walk (IteT K a xs.length) xs.length (fun H => SqT K H a xs) (YPair (fun i => some (.int (i : Nat))) (fun i => xs[i]?)) := by
  refine ⟨fun i _ hi q => ⟨xs, xs[i], q, rfl, by simp [hi]⟩, fun _ q => ⟨Nat.le_refl _, xs, q, rfl⟩, fun i H v H' _ q y => ?_⟩
  obtain ⟨T, x, h1, h2, h3, h4⟩ := y
  exact ⟨T, .int (i : Nat), x, h1, h2, h3, rfl, h4 xs q⟩
end Ex
set_option maxHeartbeats 2000000
/-! Asking a set of tuples whether it has one; putting one in. -/
namespace Sx
open PySem PySem.Spec PyProof.Rows L2
abbrev pr (m : Nat) (h : Int) (c : Nat) : SetTable.Probe := nth m (runAt m (SetTable.bits h % (m + 1)) (SetTable.bits h)) c
theorem pr_dummy (m : Nat) (h : Int) (c : Nat) : (pr m h c).dummy = none := by
  have : ∀ (n : Nat) (p : SetTable.Probe), p.dummy = none → (nth m p n).dummy = none := fun n => by
    induction n with
    | zero => exact fun p e => e
    | succ n ih =>
      intro p e
      apply ih
      unfold adv
      split
      · exact e
      · exact e
  exact this c _ rfl
section
variable {P : Program} {w : World} {A : Around} {E : Value → Shared → Prop} {s : Shared} {a : Addr} {L : List (Addr × List Int)} {es : Array (Int × Value)} {ep : Nat} {t : SetTable}
/-- none of the set's tuples that is k stands before the c-th slot of its way -/
def Ahead (P : Program) (w : World) (t : SetTable) (L : List (Addr × List Int)) (k : List Int) (c K : Nat) : Prop :=
  ∀ (i : Nat) p, L[i]? = some p → p.2 = k → ∃ d, c ≤ d ∧ d < K ∧ t.place.toList[i]? = some (way t.mask (thash P w k) d)
theorem look_from (R : SetTR P w s.heap a L es ep t) {x : Addr} {k : List Int} (hx : IsT P w s.heap k x) (hu : A.units < cLine) {K : Nat} (hKf : K < 10 * SetTable.turns t.mask)
    (hK : way t.mask (thash P w k) K ∉ t.place.toList) (hKb : ∀ c, c < K → way t.mask (thash P w k) c ∈ t.place.toList) {Q : SetFound → Shared → Prop}
    (hin : ∀ i, k ∈ L.map (·.2) → Q (.there (some i)) s) (hout : ∀ j, k ∉ L.map (·.2) → Q (.free j false) s) :
    ∀ (f c : Nat) (stand : Option SetTable.Probe), stand.getD (t.probeStart (thash P w k)) = pr t.mask (thash P w k) c → c ≤ K → K - c < f → Ahead P w t L k c K →
      wpAny (model P w) A (setSearchFrom a (.ref x) (thash P w k) false f stand) Q E s := by
  intro f
  obtain ⟨o, ho, hex, hd⟩ := R.ob
  induction f with
  | zero => exact fun c stand _ _ hf _ => absurd hf (Nat.not_lt_zero _)
  | succ f ih =>
    intro c stand hst hc hf hre
    generalize hh : thash P w k = h at *
    have hash : ∀ (i : Nat) p, L[i]? = some p → (es[i]?.map (·.1)).getD 0 = thash P w p.2 := fun i p hp => by rw [R.entry hp]; rfl
    have sh : ∀ q, nth t.mask (pr t.mask h c) q = pr t.mask h (c + q) := fun q => (nth_add t.mask c _ q).symm
    have shj : ∀ q, (nth t.mask (pr t.mask h c) q).j = way t.mask h (c + q) := fun q => by rw [sh q]
    have eK : c + (K - c) = K := by omega
    have spec := go_spec t R.tab.ris R.tab.dm (fun i => (es[i]?.map (·.1)).getD 0) h (10 * SetTable.turns t.mask) (K - c) (pr t.mask h c) (pr_dummy _ _ _) (by omega)
      (fun q hq => by rw [shj]; exact hKb (c + q) (by omega)) (by rw [shj, eK]; exact hK)
    rw [setSearchFrom_succ]
    refine wpAny_bind (wpAny_setState_of ho hd R.fits ?_)
    dsimp only
    refine wp_if_neg R.gw ?_
    rw [hst]
    rcases spec with ⟨q, i, hq, hi, hhi, hno, hpr⟩ | ⟨hno, hpr⟩
    · have hp1 : t.probe (fun i => (es[i]?.map (·.1)).getD 0) h (pr t.mask h c) = some (.candidate (way t.mask h (c + q)) i (pr t.mask h (c + (q + 1)))) := by rw [← shj, ← sh]; exact hpr
      rw [hp1]
      dsimp only
      rw [shj] at hi
      have hil : i < L.length := by
        have h1 := (List.getElem?_eq_some_iff.mp hi).1
        have h2 := R.tab.sz
        rw [List.length_map] at h2
        rw [Array.length_toList] at h1
        omega
      obtain ⟨p, hp⟩ : ∃ p, L[i]? = some p := ⟨L[i], List.getElem?_eq_getElem hil⟩
      have hmem : p ∈ L := List.mem_of_getElem? hp
      have hsl : t.slot (way t.mask h (c + q)) = .live i := slot_live R.tab.ris hi
      have tail : wpAny (model P w) A (searchRest a (.ref x) h false f es t (way t.mask h (c + q)) i (pr t.mask h (c + (q + 1)))) Q E s := by
        unfold searchRest
        rw [R.entry hp]
        dsimp only
        refine wpAny_bind (wpAny_holding (wpAny_eqBool_tuple hu (R.tup p hmem) hx (wpAny_bind (wpAny_setState_of ho hd R.fits ?_))))
        dsimp only
        refine wp_if_neg (by simp) ?_
        rw [sameMem]
        dsimp only
        simp only [if_true, hsl, R.entry hp]
        refine wpAny_bind (wpAny_isSame_ref_self (wpAny_bind (wpAny_pure ?_)))
        simp only [if_true]
        by_cases e : p.2 = k
        · exact wp_if_pos (by simp [e]) (wpAny_pure (hin i (List.mem_map.mpr ⟨p, hmem, e⟩)))
        · refine wp_if_neg (by simp [e]) (ih (c + (q + 1)) _ rfl (by omega) (by omega) fun i0 p0 h0 hk0 => ?_)
          obtain ⟨d, a1, a2, a3⟩ := hre i0 p0 h0 hk0
          rw [hh] at a3
          refine ⟨d, ?_, a2, by rw [hh]; exact a3⟩
          have hz : thash P w p0.2 = h := by rw [hk0, hh]
          by_cases d1 : d < c + q
          · exact absurd ((hash i0 p0 h0).trans hz) (hno (d - c) i0 (by omega) (by rw [shj, show c + (d - c) = d by omega]; exact a3))
          · by_cases d2 : d = c + q
            · rw [d2] at a3
              have s0 := slot_live R.tab.ris a3
              rw [hsl] at s0
              injection s0 with s0
              rw [← s0, hp] at h0
              exact absurd ((congrArg Prod.snd (Option.some.inj h0)).trans hk0) e
            · omega
      by_cases hl : t.led = true
      · exact wp_if_neg (by simp [hl]) tail
      · refine wp_if_pos (by simp [hl]) (wpAny_bind (seen_tup hx (fun y hy => ?_) (wp_if_neg (by decide) tail)))
        obtain ⟨e, he, ee⟩ := List.mem_map.mp hy
        have hf1 : e ∈ es ∧ e.1 = h := by simpa using he
        have hf2 : e ∈ es.toList := by simpa using hf1.1
        rw [R.rows] at hf2
        obtain ⟨p2, hp2, e2⟩ := List.mem_map.mp hf2
        exact ⟨p2.2, p2.1, by rw [← ee, ← e2], R.tup p2 hp2⟩
    · have hp1 : t.probe (fun i => (es[i]?.map (·.1)).getD 0) h (pr t.mask h c) = some (.empty (way t.mask h K) none) := by
        have z := shj (K - c)
        rw [eK] at z
        rw [← z]; exact hpr
      rw [hp1]
      dsimp only
      refine wpAny_pure (hout _ fun hm => ?_)
      obtain ⟨p0, h0, hk0⟩ := List.mem_map.mp hm
      obtain ⟨i0, hi0, e0⟩ := List.getElem_of_mem h0
      have h00 : L[i0]? = some p0 := by rw [List.getElem?_eq_getElem hi0, e0]
      obtain ⟨d, a1, a2, a3⟩ := hre i0 p0 h00 hk0
      rw [hh] at a3
      exact hno (d - c) i0 (by omega) (by rw [shj, show c + (d - c) = d by omega]; exact a3) ((hash i0 p0 h00).trans (by rw [hk0, hh]))
theorem look_at (R : SetTR P w s.heap a L es ep t) {x : Addr} {k : List Int} (hx : IsT P w s.heap k x) (hu : A.units < cLine) {Q : SetFound → Shared → Prop}
    (hin : ∀ i, k ∈ L.map (·.2) → Q (.there (some i)) s) (hout : ∀ j, k ∉ L.map (·.2) → Q (.free j false) s) : wpAny (model P w) A (setSearch a (.ref x) (thash P w k)) Q E s := by
  have hroom := R.room
  obtain ⟨K, hKf, hK, hKb⟩ := R.tab.first (by rw [List.length_map]; omega) (thash P w k)
  have hb : 10 * SetTable.turns t.mask ≤ 1420 := by
    unfold SetTable.turns
    rcases R.tab.mok with e | e | e <;> omega
  refine look_from R hx hu hKf hK hKb hin hout 100000 0 none rfl (Nat.zero_le _) (by omega) fun i p hp hk => ?_
  have hi : (L.map fun p => thash P w p.2)[i]? = some (thash P w k) := by rw [List.getElem?_map, hp, ← hk]; rfl
  have hil : i < t.place.toList.length := by
    have h1 := (List.getElem?_eq_some_iff.mp hp).1
    have h2 := R.tab.sz
    rw [List.length_map] at h2
    rw [Array.length_toList]; omega
  obtain ⟨d, hd, e⟩ := R.tab.before hK hi (List.getElem?_eq_getElem hil)
  exact ⟨d, Nat.zero_le _, hd, by rw [List.getElem?_eq_getElem hil, e]⟩
theorem set_ty (R : SetTR P w s.heap a L es ep t) : s.TypeIs (.ref a) "set" ∧ ∀ b, Value.ref a = .ref b → ∃ ob, s.heap.get? b = some ob ∧ ob.dict = none := by
  obtain ⟨o, ho, hex, hd⟩ := R.ob
  refine ⟨⟨o, ho, hex.1⟩, fun b e => ?_⟩
  cases e
  exact ⟨o, ho, hex.2.1⟩
theorem find_at (R : SetTR P w s.heap a L es ep t) {x : Addr} {k : List Int} (hx : IsT P w s.heap k x) (hu : A.units < cLine) {Q : Option Nat → Shared → Prop}
    (hin : ∀ i, k ∈ L.map (·.2) → Q (some i) s) (hout : k ∉ L.map (·.2) → Q none s) : wpAny (model P w) A (setFind a (.ref x) (thash P w k)) Q E s := by
  obtain ⟨o, ho, hex, hd⟩ := R.ob
  unfold setFind
  show wpAny _ _ (setFindIn a (.ref x) (thash P w k) (99999 + 1)) _ _ _
  unfold setFindIn
  refine wpAny_bind (wpAny_setState_of ho hd R.fits ?_)
  dsimp only
  refine wp_if_neg (by simp [byScan, Value.scannable]) (wpAny_bind (look_at R hx hu (fun i hm => ?_) fun j hm => ?_))
  · exact wpAny_pure (hin i hm)
  · exact wpAny_pure (hout hm)
theorem SetTR.toks (R : SetTR P w s.heap a L es ep t) (n : Nat) : SetTR P w ({ s with toks := n } : Shared).heap a L es ep t := R
theorem has_setT {neg : Bool} (R : SetTR P w s.heap a L es ep t) {x : Addr} {k : List Int} (hx : IsT P w s.heap k x) (hu : A.units + 8 < cLine) {Q : Value → Shared → Prop}
    (h : ∀ n, Q (.bool (if neg then !decide (k ∈ L.map (·.2)) else decide (k ∈ L.map (·.2)))) { s with toks := n }) : wpAny (model P w) A (compareOp (if neg then .NotIn else .In) (.ref x) (.ref a)) Q E s := by
  obtain ⟨hT, hD⟩ := set_ty R
  have core : ∀ {Q2 : Bool → Shared → Prop}, (∀ n, Q2 (decide (k ∈ L.map (·.2))) { s with toks := n }) → wpAny (model P w) A (contains (.ref a) (.ref x)) Q2 E s := by
    intro Q2 h2
    unfold contains
    try with_reducible refine wpAny_holding ?_
    refine wpAny_bind (wpAny_specialOf hT F.slot_set_contains.lookup ?_)
    show wpAny _ _ (if (some (Value.builtin "set.__contains__") == some Value.none) = true then _ else _) _ E s
    rw [if_neg (by rw [beq_builtin_none]; exact Bool.false_ne_true)]
    refine wpAny_bind (wpAny_callSpecialUnlessNone?_slot (name := Str.ofString "__contains__") hT F.slot_set_contains (wpAny_call_entry F.slot_set_contains hT entry_set_contains ?_ (F.args_set_contains_2 _ _)))
    unfold Builtin.«frozenset.__contains__» Builtin.Frozenset.oneOther
    simp only [List.isEmpty_nil, bind_assoc]
    unfold Builtin.Frozenset.addrOf Builtin.Frozenset.withSetAsKey setContains
    refine wpAny_bind (wpAny_pure ?_)
    try dsimp only
    refine wpAny_bind (wpAny_pure ?_)
    try dsimp only
    refine wpAny_bind (wpAny_tryCatch (wpAny_holding ?_))
    refine wpAny_bind (wpAny_pyHash_tuple (by show A.units + _ < cLine; omega) hx ?_)
    have R2 : SetTR P w ({ s with toks := s.toks + (k.length + 1) } : Shared).heap a L es ep t := R
    refine wpAny_bind (find_at R2 hx (by show A.units + _ < cLine; omega) (fun i hm => ?_) fun hm => ?_)
    · refine wpAny_pure ?_
      show wpAny _ _ (ret (Value.bool true)) _ _ _
      refine wpAny_pure ⟨_, rfl, wpAny_truthy_bool ?_⟩
      have q := h2 (s.toks + (k.length + 1))
      rw [decide_eq_true hm] at q
      exact q
    · refine wpAny_pure ?_
      show wpAny _ _ (ret (Value.bool false)) _ _ _
      refine wpAny_pure ⟨_, rfl, wpAny_truthy_bool ?_⟩
      have q := h2 (s.toks + (k.length + 1))
      rw [decide_eq_false hm] at q
      exact q
  cases neg with
  | false =>
    show wpAny _ _ (do return .bool (← contains (.ref a) (.ref x))) Q E s
    exact wpAny_bind (core fun n => wpAny_pure (h n))
  | true =>
    show wpAny _ _ (do return .bool (!(← contains (.ref a) (.ref x)))) Q E s
    exact wpAny_bind (core fun n => wpAny_pure (h n))
theorem add_setT (R : SetTR P w s.heap a L es ep t) {x : Addr} {k : List Int} (hx : IsT P w s.heap k x) (hu : A.units + 8 < cLine) (hfew : L.length + 1 < 64) {Q : Value → Shared → Prop}
    (hQ : ∀ h' n L' es' ep' t', Heap.SameBut a s.heap h' → SetTR P w h' a L' es' ep' t' → (k ∈ L.map (·.2) → L' = L) → (k ∉ L.map (·.2) → L'.Perm ((x, k) :: L)) → Q .none { s with heap := h', toks := n }) :
    wpAny (model P w) A (call (.builtin "set.add") [.ref a, .ref x]) Q E s := by
  obtain ⟨hT, hD⟩ := set_ty R
  refine wpAny_call_entry F.slot_set_add hT F.entry_set_add ?_ (F.args_set_add_2 _ _)
  unfold Builtin.«set.add» Builtin.Frozenset.oneOther
  simp only [List.isEmpty_nil, bind_assoc]
  unfold Builtin.Frozenset.addrOf setAdd
  refine wpAny_bind (wpAny_pure ?_)
  try dsimp only
  refine wpAny_bind (wpAny_pure ?_)
  try dsimp only
  refine wpAny_bind (wpAny_holding (wpAny_bind (wpAny_pyHash_tuple (by show A.units + _ < cLine; omega) hx ?_)))
  have R2 : SetTR P w ({ s with toks := s.toks + (k.length + 1) } : Shared).heap a L es ep t := R
  refine add_at R2 hx (by show A.units + _ < cLine; omega) hfew fun b h' L' es' ep' t' sb r e1 e2 => ?_
  show wpAny _ _ (ret Value.none) _ _ _
  exact wpAny_pure ⟨_, rfl, hQ h' _ L' es' ep' t' sb r e1 e2⟩
end
/-! the rules -/
section
variable {X : Cx}
theorem set_get {pins : List (Addr × Obj)} {σ : L2.St} {H : Hp} {s : Shared} {a : Addr} {L : List (Addr × List Int)} (I : Inv X pins σ H s) (ha : H a = some (SetTO X.prog X.w a L)) (hk : ∀ p ∈ L, SqT X.K H p.1 (p.2.map V.int)) :
    ∃ es ep t, SetTR X.prog X.w s.heap a L es ep t := by
  have R0 : SetT0 X.prog X.w s.heap a L := (I.hok a _ ha).1
  exact R0.full fun p hp => I.isT (hk p hp)
/-- t in found, t not in found -/
def rHasT (K : PySem.W.Frag) (P : Program) (w : World) (neg : Bool) : V → V → Hp → VK → Prop := fun x y H Q => ∃ (b a : Addr) (k : List Int) (L : List (Addr × List Int)), x = .ref b ∧ y = .ref a ∧ SqT K H b (k.map V.int) ∧ H a = some (SetTO P w a L) ∧ (∀ p ∈ L, SqT K H p.1 (p.2.map V.int)) ∧
  Q (.bl (if neg then !decide (k ∈ L.map (·.2)) else decide (k ∈ L.map (·.2)))) H
theorem op_hasT (neg : Bool) (hu : X.A.units + 8 < cLine) : OpR X (compareOp (if neg then .NotIn else .In)) (rHasT X.K X.prog X.w neg) := by
  intro pins s σ H x y v u Q I rx ry h
  obtain ⟨b, a, k, L, rfl, rfl, hb, ha, hk, q⟩ := h
  cases rx
  cases ry
  obtain ⟨es, ep, t, R⟩ := set_get I ha hk
  exact has_setT R (I.isT hb) hu fun n => ⟨.bl _, H, I.tok n, by rfl, q⟩
/-- found.add(t) -/
def rAddT (K : PySem.W.Frag) (P : Program) (w : World) : V → List V → Hp → VK → Prop := fun x xs H Q => ∃ (a b : Addr) (k : List Int) (L : List (Addr × List Int)), x = .ref a ∧ xs = [.ref b] ∧ SqT K H b (k.map V.int) ∧ H a = some (SetTO P w a L) ∧ (∀ p ∈ L, SqT K H p.1 (p.2.map V.int)) ∧ L.length + 1 < 64 ∧
  ∀ L', (k ∈ L.map (·.2) → L' = L) → (k ∉ L.map (·.2) → L'.Perm ((b, k) :: L)) → Q .non (upd H a (SetTO P w a L'))
theorem mt_addT (hu : X.A.units + 8 < cLine) : MtR X "set.add" (rAddT X.K X.prog X.w) := by
  intro pins s σ H x xs v us Q I rx rxs h
  obtain ⟨a, b, k, L, rfl, rfl, hb, ha, hk, hf, q⟩ := h
  cases rx
  cases rxs with
  | cons ry rt =>
    cases rt
    cases ry
    obtain ⟨es, ep, t, R⟩ := set_get I ha hk
    refine add_setT R (I.isT hb) hu hf fun h' n L' es' ep' t' sb r e1 e2 => ?_
    have he : ∃ u, h'.get? a = some u := by
      obtain ⟨o, ho, _⟩ := r.ob
      exact ⟨o, ho⟩
    exact ⟨.non, upd H a (SetTO X.prog X.w a L'), I.write (e := a) (t' := n) (by rw [ha]; trivial) (.inl rfl) (fun b u hb hu => (sb.2 b hb).trans hu) he (setTO_new r.t0), rfl, q L' e1 e2⟩
def tAddT (K : PySem.W.Frag) (P : Program) (w : World) (to : TE) (t : TA) : TE := fun σ H Q => to σ H fun x H1 => (∃ a L, x = V.ref a ∧ H1 a = some (SetTO P w a L) ∧ ∀ p ∈ L, SqT K H1 p.1 (p.2.map V.int)) ∧ t σ H1 fun xs H2 => rAddT K P w x xs H2 Q
theorem pe_addT {o e : Expr} {es : List Expr} {to : TE} {t : TA} {apos cpos : Pos} (hu : X.A.units + 8 < cLine) (ho : PE X o to) (ha : PA X (e :: es) t)
    (hbase : attributeBase o "add" X.env (eval o X.env) = eval o X.env := by rfl)
    (hfew : ((backTo cpos (starEach (e :: es) X.env)).all (fun x => !x.1) && (backToKw cpos (keywordEach [] X.env)).all (fun x => x.1.isSome) && decide ((e :: es).length + ([] : List Keyword).length + (if ([] : List Keyword).isEmpty then 0 else 1) < 30)) = true := by rfl)
    (hline : (apos.endLine == cpos.line) = true := by rfl) (hs : starEach (e :: es) X.env = (false, eval e X.env) :: starEach es X.env := by rfl) (hplain : (backTo cpos (starEach es X.env)).any (·.1) = false := by rfl) :
    PE X (.Call (.Attribute o "add" apos) (e :: es) [] cpos) (tAddT X.K X.prog X.w to t) := by
  refine ⟨fun pins s σ H Q I h => ?_⟩
  refine wpAny_Call_method_late hbase hfew hline rfl (thn (ho.run pins s σ H _ I h) fun v s1 hq => ?_)
  obtain ⟨x, H1, I1, r1, ⟨a, L, rfl, hka, hkt⟩, q1⟩ := hq
  obtain ⟨es', ep, tt, R⟩ := set_get I1 hka hkt
  obtain ⟨hT, hD⟩ := set_ty R
  cases r1
  refine ⟨"set", "set.add", F.plainAttrs_set, F.slot_set_add, F.type_set_add, hT, hD, ?_⟩
  have hA := ha.run cpos pins s1 σ H1 _ I1 q1
  rw [hs] at hA ⊢
  refine Calls.callWith_builtin (by show (false || (backTo cpos (starEach es X.env)).any (·.1)) = false; rw [hplain]; rfl) (Calls.evalArgs_plain (thn hA fun us s2 hz => ?_))
  obtain ⟨vs, H2, I2, r2, q2⟩ := hz
  exact mt_addT hu pins s2 σ H2 (.ref a) vs (.ref a) us Q I2 rfl r2 q2
end
end Sx
set_option maxHeartbeats 2000000
namespace U
open PySem PySem.Spec PyProof.Rows L2 GxR Bx Gx Ex Sx
/-! the mathematics of orders -/
def calm (n : Nat) : List Int := (List.range n).map fun (i : Nat) => (i : Int)
def after (f l : List Int) : List Int := f.map fun x => l.getD x.toNat 0
def Order (n : Nat) (t : List Int) : Prop := t.length = n ∧ (∀ x ∈ t, 0 ≤ x ∧ x < n) ∧ t.Nodup
theorem order_get {n : Nat} {l : List Int} (h : l.length = n) {x : Int} (h0 : 0 ≤ x) (h1 : x < n) : l[x.toNat]? = some (l.getD x.toNat 0) := by
  have hx : x.toNat < l.length := by omega
  rw [List.getD_eq_getElem?_getD, List.getElem?_eq_getElem hx]
  rfl
theorem len24 {n : Nat} (h : n ≤ 1000) : n ≤ sizeLine := Nat.le_of_lt (small1000 h)
section
variable {P : Program} {w : World} {K : PySem.W.Frag} {mg : Str → Option Value} {base : Heap} {Ps : List Addr}
/-! power -/
theorem sc_power : FnScope ["base", "times", "found", "_"] ["base", "times"] (defScope s_power) := ⟨rfl, rfl, rfl, by decide +kernel, rfl, by decide +kernel, by decide +kernel⟩
def spPower : Sp := fun vs H Q _ => ∃ (b : Int) (n : Nat), vs = [.int b, .int n] ∧ 0 ≤ b ∧ b ≤ 9 ∧ n ≤ 8 ∧ Q (.int (b ^ n)) H
theorem pow_le (b : Int) (h0 : 0 ≤ b) (h1 : b ≤ 9) : ∀ n, 0 ≤ b ^ n ∧ b ^ n ≤ 9 ^ n
  | 0 => by simp
  | n + 1 => by
    obtain ⟨a, c⟩ := pow_le b h0 h1 n
    rw [Int.pow_succ, Int.pow_succ]
    exact ⟨Int.mul_nonneg a h0, Int.mul_le_mul c h1 h0 (by exact Int.le_trans a c)⟩
theorem ok_power (D : Dfn K mg "power" s_power ["base", "times"]) (mr : mg "range" = none) : Okd P w K mg base CX0 1 "power" ["base", "times"] spPower := by
  refine D.ok sc_power (fun vs H Q E h => ?_) (fun f cdv A outer s H vs Q E hr h => ?_)
  · obtain ⟨b, n, rfl, _⟩ := h
    rfl
  · obtain ⟨b, n, rfl, h0, h1, hn, q⟩ := h
    refine ⟨_, pss_cons (ps_set (i := 2) sc_power.nd rfl (.inl rfl) pe_int)
      (pss_cons (ps_for PassesOwn.never rfl (pi_range1 rfl mr (pa_cons (pv 1) pa_nil)) (pg_name (i := 3) sc_power.nd rfl (.inl rfl))
        (pss_one (ps_set (i := 2) sc_power.nd rfl (.inl rfl) (pe_op op_mul (pv 2) (pv 0)))))
      (pss_one (ps_ret (pv 2)))), ?_⟩
    refine ⟨_, rfl, n, rfl, by omega, by omega, ?_⟩
    rw [Int.toNat_natCast]
    refine for_range (lo := 0) (n := n) (fun i σ H' => H' = H ∧ ∃ u, σ = [some (.int b), some (.int n), some (.int (b ^ i)), u]) ⟨rfl, none, by rw [Int.pow_zero]; rfl⟩ ?_ ?_
    · rintro i σ H' hi ⟨rfl, u, rfl⟩
      refine ⟨_, rfl, _, rfl, _, _, rfl, rfl, .inr ⟨by omega, by omega⟩, rfl, some (.int (0 + (i : Int))), ?_⟩
      rw [Int.pow_succ]
      rfl
    · rintro σ H' ⟨rfl, u, rfl⟩
      exact ⟨_, rfl, q⟩
/-! calm_of -/
theorem sc_calm_of : FnScope ["many"] ["many"] (defScope s_calm_of) := ⟨rfl, rfl, rfl, by decide +kernel, rfl, by decide +kernel, by decide +kernel⟩
def spCalm (Ps : List Addr) : Sp := fun vs H Q _ => ∃ n : Nat, vs = [.int n] ∧ n ≤ 8 ∧ ∀ p H', Kp Ps H H' → H p = none → H' p = some (.tup ((calm n).map V.int)) → Q (.ref p) H'
theorem rg_calm (n : Nat) : rgV 0 (n : Int) = (calm n).map V.int := by
  unfold rgV calm
  rw [List.map_map, show ((n : Int) - 0).toNat = n by omega]
  refine List.map_congr_left fun i _ => ?_
  simp
theorem ok_calm_of (D : Dfn K mg "calm_of" s_calm_of ["many"]) (mt : mg "tuple" = none) (mr : mg "range" = none) : Okd P w K mg base CX0 1 "calm_of" ["many"] (spCalm Ps) := by
  refine D.ok sc_calm_of (fun vs H Q E h => ?_) (fun f cdv A outer s H vs Q E hr h => ?_)
  · obtain ⟨n, rfl, _⟩ := h
    rfl
  · obtain ⟨n, rfl, hn, q⟩ := h
    refine ⟨_, pss_one (ps_ret (pe_tupRg rfl rfl mt (prg_1 rfl mr (pv 0)))), ?_⟩
    refine ⟨_, rfl, n, rfl, ?_, fun p np => ?_⟩
    · exact .of_le (by omega) (by omega) (by omega) (by omega)
    · rw [rg_calm]
      exact q p _ (Kp.new np) np upd_same
/-! then_of -/
theorem sc_then_of : FnScope ["first", "later", "seat"] ["first", "later"] (defScope s_then_of) := ⟨rfl, rfl, rfl, by decide +kernel, rfl, by decide +kernel, by decide +kernel⟩
def spThen (K : PySem.W.Frag) (Ps : List Addr) : Sp := fun vs H Q _ => ∃ (a b : Addr) (f l : List Int), vs = [.ref a, .ref b] ∧ SqT K H a (f.map V.int) ∧ SqT K H b (l.map V.int) ∧ f.length ≤ 1000 ∧ (∀ x ∈ f, 0 ≤ x ∧ x < l.length) ∧
  ∀ p H', Kp Ps H H' → H p = none → H' p = some (.tup ((after f l).map V.int)) → Q (.ref p) H'
theorem ok_then_of (D : Dfn K mg "then_of" s_then_of ["first", "later"]) (mt : mg "tuple" = none) : Okd P w K mg base CX0 1 "then_of" ["first", "later"] (spThen K Ps) := by
  refine D.ok sc_then_of (fun vs H Q E h => ?_) (fun f cdv A outer s H vs Q E hr h => ?_)
  · obtain ⟨a, b, fs, l, rfl, _⟩ := h
    rfl
  · obtain ⟨a, b, fs, l, rfl, ha, hb, hlen, hx, q⟩ := h
    refine ⟨_, pss_one (ps_ret (pe_tupleOf rfl mt (pe_lc (own := [("seat", 2)]) (g := gName 2) (tt := tYes) rfl sc_then_of.nd (pi_tup (pv 0)) (blkOk_by (N := ["first", "later", "seat"]) (sc := defScope s_then_of) (by decide +kernel))
      (fun _ _ _ _ _ => pg_name (i := 2) sc_then_of.nd rfl (.inl rfl)) (fun _ _ _ _ _ => pts_nil) (fun _ _ _ _ _ => pe_ix (show IxR _ (rIxT K) from ix_tup) (pv 1) (pv 2) (fun _ _ => rfl))))), ?_⟩
    refine ⟨_, rfl, a, rfl, ⟨_, ha⟩, fun D nD => lc_tup (xs := fs.map V.int) (fun i H' => Kp Ps H H' ∧ H' D = some (.lst (((after fs l).take i).map V.int))) ⟨Kp.new nD, upd_same⟩ (fun i H' _ p => p.1.t ha) ?_ ?_⟩
    · rintro i x H' hi ⟨kp, hD⟩
      rw [List.getElem?_map] at hi
      cases e : fs[i]? with
      | none => rw [e] at hi; cases hi
      | some z =>
        rw [e] at hi
        cases hi
        have hz := hx z (List.mem_of_getElem? e)
        refine ⟨rfl, _, rfl, _, rfl, b, l.map V.int, z, .int (l.getD z.toNat 0), rfl, rfl, kp.t hb, ?_, _, hD, ?_, kp.mut nD (fun ps z => by rw [hD] at z; cases z), ?_⟩
        · have e2 : z = ((z.toNat : Nat) : Int) := by omega
          rw [e2]
          refine atI_nat ?_
          rw [List.getElem?_map, ← e2, order_get rfl hz.1 hz.2]
          rfl
        · rw [List.length_map, List.length_take]
          refine Nat.lt_of_le_of_lt (Nat.min_le_right _ _) ?_
          unfold after
          rw [List.length_map]
          exact small1000 hlen
        · have e3 : (after fs l)[i]? = some (l.getD z.toNat 0) := by
            unfold after
            rw [List.getElem?_map, e]
            rfl
          rw [upd_same, List.take_add_one, e3, List.map_append]
          rfl
    · rintro H' ⟨kp, hD⟩
      refine .inl ⟨D, _, rfl, .of hD, fun p np => q p _ (kp.trans (.new np)) (kp.fresh np) ?_⟩
      rw [upd_same, List.length_map, List.take_of_length_le (by unfold after; rw [List.length_map]; exact Nat.le_refl _)]
end
end U
set_option maxHeartbeats 2000000
namespace U
open PySem PySem.Spec PyProof.Rows L2 GxR Bx Gx Ex Sx
/-! values and their looks -/
structure BN (mg : Str → Option Value) : Prop where
  isinstance : mg "isinstance" = none
  int : mg "int" = none
  bool : mg "bool" = none
  tuple : mg "tuple" = none
  list : mg "list" = none
  len : mg "len" = none
  range : mg "range" = none
  enumerate : mg "enumerate" = none
  all : mg "all" = none
  set : mg "set" = none
  zip : mg "zip" = none
  sorted : mg "sorted" = none
  repr : mg "repr" = none
  sum : mg "sum" = none
def okV (lo hi : Int) : V → Bool
  | .int i => decide (lo ≤ i) && decide (i ≤ hi)
  | _ => false
def tupH : Option HO → Option (List V)
  | some (.tup xs) => some xs
  | _ => none
def tupOf (H : Hp) : V → Option (List V)
  | .ref a => tupH (H a)
  | _ => none
def tupLen (lo hi : Int) : Option (List V) → Bool
  | some xs => decide (lo ≤ (xs.length : Int)) && decide ((xs.length : Int) ≤ hi)
  | none => false
theorem tupOf_of {H : Hp} {a : Addr} {xs : List V} (e : H a = some (.tup xs)) : tupOf H (.ref a) = some xs := by
  show tupH (H a) = _
  rw [e]; rfl
theorem tupOf_lst {H : Hp} {a : Addr} {xs : List V} (e : H a = some (.lst xs)) : tupOf H (.ref a) = none := by
  show tupH (H a) = _
  rw [e]; rfl
theorem tupOf_dk {H : Hp} {a : Addr} {xs : List (Key × V)} (e : H a = some (.dK xs)) : tupOf H (.ref a) = none := by
  show tupH (H a) = _
  rw [e]; rfl
theorem tupOf_some {H : Hp} {x : V} {xs : List V} (h : tupOf H x = some xs) : ∃ a, x = .ref a ∧ H a = some (.tup xs) := by
  cases x with
  | ref a =>
    refine ⟨a, rfl, ?_⟩
    have h : tupH (H a) = some xs := h
    cases e : H a with
    | none => rw [e] at h; cases h
    | some o =>
      rw [e] at h
      cases o <;> first | (cases h; rfl) | cases h
  | _ => cases h
theorem AV.tupOf {H : Hp} {x : V} {t : String} (h : AV H x t) : (U.tupOf H x).isSome = (t == "tuple") := by
  cases h with
  | tup e => rw [tupOf_of e]; rfl
  | lst e => rw [tupOf_lst e]; rfl
  | dk e => rw [tupOf_dk e]; rfl
  | _ => rfl
theorem AV.tupKp {Ps : List Addr} {H H1 : Hp} {x : V} {t : String} (k : Kp Ps H H1) (h : AV H x t) : U.tupOf H1 x = U.tupOf H x := by
  cases h with
  | tup e => rw [tupOf_of e, tupOf_of (k.tup e)]
  | lst e => rw [tupOf_lst e, tupOf_lst (k.lst e)]
  | dk e => rw [tupOf_dk e, tupOf_dk (k.dk e)]
  | _ => rfl
/-- whatever may be handed in -/
inductive AD (H : Hp) : V → Prop
  | non : AD H .non
  | bl (b : Bool) : AD H (.bl b)
  | int (i : Int) : AD H (.int i)
  | str (z : Str) : AD H (.str z)
  | tup {a : Addr} {xs : List V} (e : H a = some (.tup xs)) (h : ∀ y ∈ xs, AD H y) : AD H (.ref a)
  | lst {a : Addr} {xs : List V} (e : H a = some (.lst xs)) : AD H (.ref a)
  | dk {a : Addr} {kvs : List (Key × V)} (e : H a = some (.dK kvs)) : AD H (.ref a)
theorem AD.av {H : Hp} {x : V} (h : AD H x) : ∃ t, AV H x t := by
  cases h with
  | non => exact ⟨_, .non⟩
  | bl b => exact ⟨_, .bl b⟩
  | int i => exact ⟨_, .int i⟩
  | str z => exact ⟨_, .str z⟩
  | tup e _ => exact ⟨_, .tup e⟩
  | lst e => exact ⟨_, .lst e⟩
  | dk e => exact ⟨_, .dk e⟩
theorem AD.kp {Ps : List Addr} {H H1 : Hp} {x : V} (k : Kp Ps H H1) (h : AD H x) : AD H1 x := by
  induction h with
  | non => exact .non
  | bl b => exact .bl b
  | int i => exact .int i
  | str z => exact .str z
  | tup e _ ih => exact .tup (k.tup e) ih
  | lst e => exact .lst (k.lst e)
  | dk e => exact .dk (k.dk e)
theorem AD.items {H : Hp} {x : V} {xs : List V} (h : AD H x) (e0 : tupOf H x = some xs) : ∀ y ∈ xs, AD H y := by
  obtain ⟨a, rfl, e⟩ := tupOf_some e0
  cases h with
  | tup e2 h2 => rw [e] at e2; cases e2; exact h2
  | lst e2 => rw [e] at e2; cases e2
  | dk e2 => rw [e] at e2; cases e2
theorem ad_int {H : Hp} {xs : List Int} : ∀ y ∈ xs.map V.int, AD H y := fun y h => by
  obtain ⟨i, _, rfl⟩ := List.mem_map.mp h
  exact .int i
/-! slices from the front -/
theorem cutV_pre (xs : List V) {i : Nat} (hi : i ≤ xs.length) : cutV xs none (some (i : Int)) = xs.take i := by
  unfold cutV
  rw [HT.sIx_none, HT.sIx_nat, Nat.min_eq_left hi]
  rfl
theorem sl_pre {K : PySem.W.Frag} {Ps : List Addr} {H : Hp} {a : Addr} {xs : List V} {i : Nat} {Q : VK} (ha : SqT K H a xs) (hi : i ≤ xs.length) (q : ∀ p H', SqT K H' p (xs.take i) → Kp Ps H H' → Q (.ref p) H') : rSlA K (.ref a) none (some (i : Int)) H Q := by
  refine ⟨a, xs, rfl, ha, fun ⟨_, h⟩ => ?_, fun _ p np => ?_⟩
  · rw [HT.sIx_nat, Nat.min_eq_left hi] at h
    refine q a H ?_ (.refl H)
    rw [h, List.take_length]
    exact ha
  · rw [cutV_pre xs hi]
    exact q p _ (.of upd_same) (.new np)
section
variable {P : Program} {w : World} {K : PySem.W.Frag} {mg : Str → Option Value} {base : Heap} {Ps : List Addr}
/-! is_whole, is_among, is_tuple_of -/
theorem sc_is_whole : FnScope ["thing"] ["thing"] (defScope s_is_whole) := ⟨rfl, rfl, rfl, by decide +kernel, rfl, by decide +kernel, by decide +kernel⟩
def spWhole : Sp := fun vs H Q _ => ∃ x t, vs = [x] ∧ AV H x t ∧ Q (.bl (t == "int")) H
theorem ok_is_whole (D : Dfn K mg "is_whole" s_is_whole ["thing"]) (B : BN mg) : Okd P w K mg base CX0 1 "is_whole" ["thing"] spWhole := by
  refine D.ok sc_is_whole (fun vs H Q E h => ?_) (fun f cdv A outer s H vs Q E hr h => ?_)
  · obtain ⟨x, t, rfl, _⟩ := h; rfl
  · obtain ⟨x, t, rfl, av, q⟩ := h
    refine ⟨_, pss_one (ps_ret (pe_and (pe_isi (pv 0) boot_int B.int B.isinstance) (pe_one (pe_not (pe_isi (pv 0) boot_bool B.bool B.isinstance))))), ?_⟩
    refine ⟨_, rfl, x, .ty "int", _, _, _, rfl, .ty _, av.ty, av.isInt, _, rfl, ?_⟩
    cases av with
    | int i => exact iteT ⟨_, rfl, _, .ty "bool", _, _, _, rfl, .ty _, AV.ty (.int i), AV.isBool (H := H) (.int i), _, rfl, q⟩
    | bl b => exact iteT ⟨_, rfl, _, .ty "bool", _, _, _, rfl, .ty _, AV.ty (.bl b), AV.isBool (H := H) (.bl b), _, rfl, q⟩
    | _ => exact iteF q
theorem sc_is_among : FnScope ["thing", "least", "most"] ["thing", "least", "most"] (defScope s_is_among) := ⟨rfl, rfl, rfl, by decide +kernel, rfl, by decide +kernel, by decide +kernel⟩
def spAmong : Sp := fun vs H Q _ => ∃ x t lo hi, vs = [x, .int lo, .int hi] ∧ AV H x t ∧ Q (.bl (okV lo hi x)) H
theorem ok_is_among (D : Dfn K mg "is_among" s_is_among ["thing", "least", "most"]) (o1 : Okd P w K mg base CX0 1 "is_whole" ["thing"] spWhole) : Okd P w K mg base CX0 2 "is_among" ["thing", "least", "most"] spAmong := by
  refine D.ok sc_is_among (fun vs H Q E h => ?_) (fun f cdv A outer s H vs Q E hr h => ?_)
  · obtain ⟨x, t, lo, hi, rfl, _⟩ := h; rfl
  · obtain ⟨x, t, lo, hi, rfl, av, q⟩ := h
    refine ⟨_, pss_one (ps_ret (pe_and (pe_do o1 hr (pa_cons (pv 0) pa_nil)) (pe_one (pe_chain op_le op_le (pv 1) (pv 0) (pv 2))))), ?_⟩
    refine ⟨_, rfl, x, t, rfl, av, _, rfl, ?_⟩
    cases av with
    | int i =>
      refine iteT ⟨_, rfl, _, rfl, _, _, rfl, rfl, _, rfl, ?_⟩
      have q : Q (.bl (decide (lo ≤ i) && decide (i ≤ hi))) H := q
      by_cases h : lo ≤ i
      · rw [decide_eq_true h, Bool.true_and] at q
        rw [decide_eq_true h]
        exact iteT ⟨_, rfl, _, _, rfl, rfl, q⟩
      · rw [decide_eq_false h, Bool.false_and] at q
        rw [decide_eq_false h]
        exact iteF q
    | _ => exact iteF q
theorem sc_is_tuple_of : FnScope ["thing", "least", "most"] ["thing", "least", "most"] (defScope s_is_tuple_of) := ⟨rfl, rfl, rfl, by decide +kernel, rfl, by decide +kernel, by decide +kernel⟩
def spTupOf : Sp := fun vs H Q _ => ∃ x t lo hi, vs = [x, .int lo, .int hi] ∧ AV H x t ∧ Q (.bl (tupLen lo hi (tupOf H x))) H
theorem ok_is_tuple_of (D : Dfn K mg "is_tuple_of" s_is_tuple_of ["thing", "least", "most"]) (B : BN mg) : Okd P w K mg base CX0 1 "is_tuple_of" ["thing", "least", "most"] spTupOf := by
  refine D.ok sc_is_tuple_of (fun vs H Q E h => ?_) (fun f cdv A outer s H vs Q E hr h => ?_)
  · obtain ⟨x, t, lo, hi, rfl, _⟩ := h; rfl
  · obtain ⟨x, t, lo, hi, rfl, av, q⟩ := h
    refine ⟨_, pss_one (ps_ret (pe_and (pe_isi (pv 0) boot_tuple B.tuple B.isinstance) (pe_one (pe_chain op_le op_le (pv 1) (pe_callB call_len_seq (by rfl) B.len PySem.boot_len (pa_cons (pv 0) pa_nil)) (pv 2))))), ?_⟩
    refine ⟨_, rfl, x, .ty "tuple", _, _, _, rfl, .ty _, av.ty, av.isTup, _, rfl, ?_⟩
    cases av with
    | tup e =>
      rename_i a xs
      rw [tupOf_of e] at q
      have q : Q (.bl (decide (lo ≤ (xs.length : Int)) && decide ((xs.length : Int) ≤ hi))) H := q
      refine iteT ⟨_, rfl, _, rfl, a, xs, rfl, .inr (.of e), _, _, rfl, rfl, _, rfl, ?_⟩
      by_cases h : lo ≤ (xs.length : Int)
      · rw [decide_eq_true h, Bool.true_and] at q
        rw [decide_eq_true h]
        exact iteT ⟨_, rfl, _, _, rfl, rfl, q⟩
      · rw [decide_eq_false h, Bool.false_and] at q
        rw [decide_eq_false h]
        exact iteF q
    | lst e => exact iteF (by rw [tupOf_lst e] at q; exact q)
    | dk e => exact iteF (by rw [tupOf_dk e] at q; exact q)
    | _ => exact iteF q
end
end U
set_option maxHeartbeats 2000000
namespace U
open PySem PySem.Spec PyProof.Rows L2 GxR Bx Gx Ex Sx
/-- how many stand right, from the front -/
def wfFrom (n : Int) : Nat → List V → Nat
  | k, [] => k
  | k, x :: r => if okV 0 (n - 1) x = true then wfFrom n (k + 1) r else k
def wface (n : Int) (xs : List V) : Nat := wfFrom n 0 xs
def wsFrom (n : Int) (pre : List V) : List V → Nat
  | [] => pre.length
  | x :: r => if (okV 0 (n - 1) x && !inV x pre) = true then wsFrom n (pre ++ [x]) r else pre.length
def wseat (xs : List V) : Nat := wsFrom xs.length [] xs
theorem drop_cons {α : Type} {xs : List α} {i : Nat} {x : α} (h : xs[i]? = some x) : xs.drop i = x :: xs.drop (i + 1) := by
  obtain ⟨hi, rfl⟩ := List.getElem?_eq_some_iff.mp h
  exact List.drop_eq_getElem_cons hi
theorem take_snoc {α : Type} {xs : List α} {i : Nat} {x : α} (h : xs[i]? = some x) : xs.take (i + 1) = xs.take i ++ [x] := by
  rw [List.take_add_one, h]; rfl
theorem len_of {α : Type} {xs : List α} {i : Nat} {x : α} (h : xs[i]? = some x) : i < xs.length := (List.getElem?_eq_some_iff.mp h).1
theorem okV_int {lo hi : Int} {x : V} (h : okV lo hi x = true) : ∃ i, x = .int i ∧ lo ≤ i ∧ i ≤ hi := by
  cases x with
  | int i =>
    have h : (decide (lo ≤ i) && decide (i ≤ hi)) = true := h
    rw [Bool.and_eq_true] at h
    exact ⟨i, rfl, of_decide_eq_true h.1, of_decide_eq_true h.2⟩
  | _ => cases h
section
variable {P : Program} {w : World} {K : PySem.W.Frag} {mg : Str → Option Value} {base : Heap} {Ps : List Addr}
theorem sc_wrong_face : FnScope ["faces", "things", "number", "face"] ["faces", "things"] (defScope s_wrong_face) := ⟨rfl, rfl, rfl, by decide +kernel, rfl, by decide +kernel, by decide +kernel⟩
def spFace (Ps : List Addr) : Sp := fun vs H Q _ => ∃ n a xs, vs = [.int n, .ref a] ∧ H a = some (.tup xs) ∧ (∀ y ∈ xs, ∃ t, AV H y t) ∧ ∀ H', Kp Ps H H' → Q (.int (wface n xs)) H'
theorem ok_wrong_face (D : Dfn K mg "wrong_face" s_wrong_face ["faces", "things"]) (B : BN mg) (o1 : Okd P w K mg base CX0 2 "is_among" ["thing", "least", "most"] spAmong) : Okd P w K mg base CX0 3 "wrong_face" ["faces", "things"] (spFace Ps) := by
  refine D.ok sc_wrong_face (fun vs H Q E h => ?_) (fun f cdv A outer s H vs Q E hr h => ?_)
  · obtain ⟨n, a, xs, rfl, _⟩ := h; rfl
  · obtain ⟨n, a, xs, rfl, ha, hav, q⟩ := h
    have nd := sc_wrong_face.nd
    refine ⟨_, pss_cons (ps_for PassesOwn.never rfl (pi_enumT B.enumerate (pa_cons (pv 1) pa_nil))
        (pg_tup rfl (pgs_cons (pg_name (i := 2) nd rfl (.inl rfl)) (pgs_cons (pg_name (i := 3) nd rfl (.inl rfl)) pgs_nil)))
        (pss_one (ps_if (pt_not (pt_val (pe_do o1 hr (pa_cons (pv 3) (pa_cons pe_int (pa_cons (pe_op op_sub (pv 0) pe_int) pa_nil))))))
          (pss_one (ps_ret (pv 2))) pss_nil)))
      (pss_one (ps_ret (pe_callB call_len_seq (by rfl) B.len PySem.boot_len (pa_cons (pv 1) pa_nil)))), ?_⟩
    refine ⟨_, rfl, a, xs, rfl, .of ha, ?_⟩
    refine for_it walk_enumT (fun i σ H' => Kp Ps H H' ∧ wfFrom n i (xs.drop i) = wface n xs ∧ ∃ u v, σ = [some (.int n), some (.ref a), u, v]) ⟨.refl H, rfl, none, none, rfl⟩ (fun i σ H' _ p => p.1.t (.of ha)) ?_ ?_
    · rintro i x σ H' H1 hi ⟨kp, hw, u, v, rfl⟩ ⟨T, z, y, rfl, nT, rfl, hz, hy⟩
      cases hz
      have hy : xs[i]? = some y := hy
      obtain ⟨t, av⟩ := hav y (List.mem_of_getElem? hy)
      have kp1 : Kp Ps H (upd H' T (.tup [.int (i : Nat), y])) := kp.trans (.new nT)
      rw [drop_cons hy] at hw
      refine ⟨T, _, rfl, .of upd_same, rfl, _, _, rfl, _, _, rfl, rfl, ?_⟩
      refine ⟨_, rfl, _, rfl, _, _, rfl, rfl, y, t, 0, n - 1, rfl, av.kp kp1, _, rfl, ?_⟩
      unfold wfFrom at hw
      cases e : okV 0 (n - 1) y with
      | true =>
        rw [e] at hw
        rw [if_pos rfl] at hw
        exact iteF ⟨kp1, hw, _, _, rfl⟩
      | false =>
        rw [e] at hw
        rw [if_neg Bool.false_ne_true] at hw
        refine iteT ⟨_, rfl, ?_⟩
        have q1 := q _ kp1
        rw [← hw] at q1
        exact q1
    · rintro σ H' ⟨kp, hw, u, v, rfl⟩
      refine ⟨_, rfl, a, xs, rfl, .inr (kp.t (.of ha)), ?_⟩
      rw [List.drop_length] at hw
      have hw : xs.length = wface n xs := hw
      rw [hw]
      exact q H' kp
theorem sc_wrong_seat : FnScope ["things", "number", "seat"] ["things"] (defScope s_wrong_seat) := ⟨rfl, rfl, rfl, by decide +kernel, rfl, by decide +kernel, by decide +kernel⟩
def spSeat (Ps : List Addr) : Sp := fun vs H Q _ => ∃ a xs, vs = [.ref a] ∧ H a = some (.tup xs) ∧ (∀ y ∈ xs, ∃ t, AV H y t) ∧ ∀ H', Kp Ps H H' → Q (.int (wseat xs)) H'
theorem flat_take {n : Int} {xs : List V} {i : Nat} (h : ∀ x ∈ xs.take i, okV 0 (n - 1) x = true) : (xs.take i).all flatV = true := by
  rw [List.all_eq_true]
  intro x hx
  obtain ⟨j, rfl, _⟩ := okV_int (h x hx)
  rfl
theorem ok_wrong_seat (D : Dfn K mg "wrong_seat" s_wrong_seat ["things"]) (B : BN mg) (o1 : Okd P w K mg base CX0 2 "is_among" ["thing", "least", "most"] spAmong) : Okd P w K mg base CX0 3 "wrong_seat" ["things"] (spSeat Ps) := by
  refine D.ok sc_wrong_seat (fun vs H Q E h => ?_) (fun f cdv A outer s H vs Q E hr h => ?_)
  · obtain ⟨a, xs, rfl, _⟩ := h; rfl
  · obtain ⟨a, xs, rfl, ha, hav, q⟩ := h
    have nd := sc_wrong_seat.nd
    refine ⟨_, pss_cons (ps_for PassesOwn.never rfl (pi_enumT B.enumerate (pa_cons (pv 0) pa_nil))
        (pg_tup rfl (pgs_cons (pg_name (i := 1) nd rfl (.inl rfl)) (pgs_cons (pg_name (i := 2) nd rfl (.inl rfl)) pgs_nil)))
        (pss_one (ps_if (PW.pt (pw_or (pt_not (pt_val (pe_do o1 hr (pa_cons (pv 2) (pa_cons pe_int (pa_cons (pe_op op_sub (pe_callB call_len_seq (by rfl) B.len PySem.boot_len (pa_cons (pv 0) pa_nil)) pe_int) pa_nil))))))
            (pw_or1 (pt_cmpR op_in_seq (pv 2) (pe_slice sl_tupA (pv 0) po_none (po_some (pv 1))) rfl))))
          (pss_one (ps_ret (pv 1))) pss_nil)))
      (pss_one (ps_ret (pe_callB call_len_seq (by rfl) B.len PySem.boot_len (pa_cons (pv 0) pa_nil)))), ?_⟩
    refine ⟨_, rfl, a, xs, rfl, .of ha, ?_⟩
    refine for_it walk_enumT (fun i σ H' => Kp Ps H H' ∧ wsFrom xs.length (xs.take i) (xs.drop i) = wseat xs ∧ (∀ x ∈ xs.take i, okV 0 ((xs.length : Int) - 1) x = true) ∧ ∃ u v, σ = [some (.ref a), u, v]) ⟨.refl H, rfl, (fun x hx => by cases hx), none, none, rfl⟩ (fun i σ H' _ p => p.1.t (.of ha)) ?_ ?_
    · rintro i x σ H' H1 hi ⟨kp, hw, hok, u, v, rfl⟩ ⟨T, z, y, rfl, nT, rfl, hz, hy⟩
      cases hz
      have hy : xs[i]? = some y := hy
      obtain ⟨t, av⟩ := hav y (List.mem_of_getElem? hy)
      have kp1 : Kp Ps H (upd H' T (.tup [.int (i : Nat), y])) := kp.trans (.new nT)
      have htl : (xs.take i).length = i := by rw [List.length_take]; omega
      rw [drop_cons hy] at hw
      unfold wsFrom at hw
      refine ⟨T, _, rfl, .of upd_same, rfl, _, _, rfl, _, _, rfl, rfl, ?_⟩
      refine ⟨_, rfl, _, rfl, a, xs, rfl, .inr (kp1.t (.of ha)), _, _, rfl, rfl, y, t, 0, (xs.length : Int) - 1, rfl, av.kp kp1, _, rfl, ?_⟩
      cases e : okV 0 ((xs.length : Int) - 1) y with
      | false =>
        rw [e, Bool.false_and, if_neg Bool.false_ne_true, htl] at hw
        refine iteT (iteT ⟨_, rfl, ?_⟩)
        have q1 := q _ kp1
        rw [← hw] at q1
        exact q1
      | true =>
        rw [e, Bool.true_and] at hw
        refine iteF ⟨_, rfl, _, rfl, _, rfl, ?_⟩
        refine ⟨_, rfl, sl_pre (Ps := Ps) (kp1.t (.of ha)) (Nat.le_of_lt hi) fun p H2 hp k2 => ?_⟩
        obtain ⟨j, rfl, _⟩ := okV_int e
        refine ⟨p, _, rfl, .inr hp, rfl, flat_take hok, _, rfl, ?_⟩
        show if inV (.int j) (xs.take i) = true then _ else _
        have kp2 := kp1.trans k2
        cases e2 : inV (.int j) (xs.take i) with
        | true =>
          rw [e2, if_neg (by decide), htl] at hw
          refine iteT ⟨_, rfl, ?_⟩
          have q1 := q _ kp2
          rw [← hw] at q1
          exact q1
        | false =>
          rw [e2, if_pos (by decide), ← take_snoc hy] at hw
          refine iteF ⟨kp2, hw, ?_, _, _, rfl⟩
          intro x hx
          rw [take_snoc hy] at hx
          rcases List.mem_append.mp hx with hx | hx
          · exact hok x hx
          · rw [List.mem_singleton.mp hx]; exact e
    · rintro σ H' ⟨kp, hw, hok, u, v, rfl⟩
      refine ⟨_, rfl, a, xs, rfl, .inr (kp.t (.of ha)), ?_⟩
      rw [List.drop_length, List.take_length] at hw
      have hw : xs.length = wseat xs := hw
      rw [hw]
      exact q H' kp
end
end U
set_option maxHeartbeats 2000000
namespace U
open PySem PySem.Spec PyProof.Rows L2 GxR Bx Gx Ex Sx
/-- a def whose code object has a table -/
structure DfnC (K : PySem.W.Frag) (mg : Str → Option Value) (base : Heap) (x : Str) (st : Stmt) (ps : List Str) (T : Addr) : Prop where
  ex : ∃ (f c : Addr) (oc : Value) (od : Option Addr) (kV doc pm : Value) (an : Option Addr) (ct : Value) (osl : Array (Option Value)), mg x = some (.ref f) ∧
    K.lookup f = some ⟨oc, od, .func (PySem.W.fnOf x x (defArgs st) (defBody st) (defScope st) .none kV doc pm an (.ref c) ct), osl⟩ ∧ PySem.W.codeIn K (.ref c) x = true ∧ PySem.W.keepIn K (.ref f) = true ∧
    Binds K (PySem.W.fnOf x x (defArgs st) (defBody st) (defScope st) .none kV doc pm an (.ref c) ct) ps [] ∧ GxR.TabB base mg c T
section
variable {P : Program} {w : World} {K : PySem.W.Frag} {mg : Str → Option Value} {base : Heap} {Ps : List Addr}
theorem DfnC.ok {x : Str} {st : Stmt} {N ps : List Str} {T : Addr} {k : Nat} {sp : Sp} (D : DfnC K mg base x st ps T) (S : FnScope N ps (defScope st)) (len : ∀ vs H Q E, sp vs H Q E → vs.length = ps.length)
    (hbody : ∀ (f c : Addr) (A : Around) (outer : List Env) (s : Shared) (H : Hp) (vs : List V) (Q : VK) (E : XK), GxR.TabB base mg c T → Room k (A.deeper (envOfC x (defScope st) s.heap.objs.size f (.ref c))) → sp vs H Q E →
      ∃ t, PSs (cxOf CX0 P w K mg base N x (defScope st) f (.ref c) A outer s H E).nox (defBody st) t ∧ t { nx := fun _ H' => Q .non H', rt := Q } (start N vs) H) : Okd P w K mg base CX0 (k + 1) x ps sp := by
  obtain ⟨f, c, oc, od, kV, doc, pm, an, ct, osl, g, lk, hcd, kp, b, TB⟩ := D.ex
  refine ⟨f, _, g, kp, b, fn_of lk hcd S len fun A outer s H vs Q E hr hsp => ?_⟩
  obtain ⟨t, h, q⟩ := hbody f c A outer s H vs Q E TB hr hsp
  exact ⟨t, h.nox, q⟩
theorem gnames_of {X : Cx} {scope : Scope} {ts : List Str} {cs : List Nat} {N : List Str} (M : List Str) (sc : Scope) (hM : X.N = M := by rfl) (hsn : X.env.scope = sc := by rfl) (kind : scope.kind = .function := by rfl) (co : scope.isCoroutine = false := by rfl)
    (cell : ∀ y ∈ scope.names, y.2 ≠ .cell := by decide +kernel) (dot : scope.names.lookup (".0" : Str) = some NameKind.local := by rfl) (free : ∀ y ∈ scope.names, y.2 = .free → sc.names.lookup y.1 = some .cell ∨ sc.names.lookup y.1 = some .free := by decide +kernel)
    (names : N = ts ++ cs.map fun j => M.getD j "" := by rfl) (caps : ∀ j ∈ cs, j < M.length ∧ (M.getD j "", NameKind.free) ∈ scope.names ∧ scope.names.lookup (M.getD j "") = some .free := by decide +kernel) : GNames X scope ts cs N :=
  ⟨kind, co, cell, dot, by rw [hsn]; exact free, by rw [hM]; exact names, by rw [hM]; exact caps⟩
/-! is_order -/
def orderV : Option (List V) → Bool
  | some xs => decide (1 ≤ xs.length) && decide (xs.length ≤ 8) && decide (wseat xs = xs.length)
  | none => false
theorem sc_is_order : FnScope ["thing"] ["thing"] (defScope s_is_order) := ⟨rfl, rfl, rfl, by decide +kernel, rfl, by decide +kernel, by decide +kernel⟩
def spOrder (Ps : List Addr) : Sp := fun vs H Q _ => ∃ x, vs = [x] ∧ AD H x ∧ ∀ H', Kp Ps H H' → Q (.bl (orderV (tupOf H x))) H'
theorem ok_is_order (D : Dfn K mg "is_order" s_is_order ["thing"]) (B : BN mg) {tk : Tok} (hM : mg "MOST_SEATS" = some (.int 8 tk)) (o1 : Okd P w K mg base CX0 1 "is_tuple_of" ["thing", "least", "most"] spTupOf)
    (o2 : Okd P w K mg base CX0 3 "wrong_seat" ["things"] (spSeat Ps)) : Okd P w K mg base CX0 4 "is_order" ["thing"] (spOrder Ps) := by
  refine D.ok sc_is_order (fun vs H Q E h => ?_) (fun f cdv A outer s H vs Q E hr h => ?_)
  · obtain ⟨x, rfl, _⟩ := h; rfl
  · obtain ⟨x, rfl, ad, q⟩ := h
    refine ⟨_, pss_one (ps_ret (pe_and (pe_do o1 (hr.mono (by decide)) (pa_cons (pv 0) (pa_cons pe_int (pa_cons (pe_glob (v := .int 8) rfl hM ⟨_, rfl⟩) pa_nil))))
      (pe_one (pe_cmpR op_eq (pe_do o2 hr (pa_cons (pv 0) pa_nil)) (pe_callB call_len_seq (by rfl) B.len PySem.boot_len (pa_cons (pv 0) pa_nil)) (nomark _))))), ?_⟩
    obtain ⟨t, av⟩ := ad.av
    refine ⟨_, rfl, x, t, 1, 8, rfl, av, _, rfl, ?_⟩
    cases e : tupOf H x with
    | none =>
      rw [e] at q
      exact iteF (q H (.refl H))
    | some xs =>
      have ad2 := ad.items e
      rw [e] at q
      obtain ⟨a, rfl, ha⟩ := tupOf_some e
      show if (decide ((1 : Int) ≤ (xs.length : Int)) && decide ((xs.length : Int) ≤ 8)) = true then _ else _
      cases e1 : (decide ((1 : Int) ≤ (xs.length : Int)) && decide ((xs.length : Int) ≤ 8)) with
      | false =>
        refine iteF ?_
        have z : orderV (some xs) = false := by
          show (decide (1 ≤ xs.length) && decide (xs.length ≤ 8) && _) = false
          have : (decide (1 ≤ xs.length) && decide (xs.length ≤ 8)) = false := by
            rw [← e1]
            congr 1
            · exact decide_eq_decide.mpr ⟨fun h => by omega, fun h => by omega⟩
            · exact decide_eq_decide.mpr ⟨fun h => by omega, fun h => by omega⟩
          rw [this, Bool.false_and]
        rw [z] at q
        exact q H (.refl H)
      | true =>
        rw [Bool.and_eq_true] at e1
        have h1 := of_decide_eq_true e1.1
        have h2 := of_decide_eq_true e1.2
        refine iteT ⟨_, rfl, a, xs, rfl, ha, fun y hy => (ad2 y hy).av, fun H1 k1 => ⟨_, rfl, a, xs, rfl, .inr (k1.t (.of ha)), ?_⟩⟩
        have z : orderV (some xs) = decide (wseat xs = xs.length) := by
          show (decide (1 ≤ xs.length) && decide (xs.length ≤ 8) && _) = _
          rw [decide_eq_true (by omega : 1 ≤ xs.length), decide_eq_true (by omega : xs.length ≤ 8)]
          rfl
        rw [z] at q
        refine ⟨rfl, ?_⟩
        have z2 : decide (wseat xs = xs.length) = decide (V.int ((wseat xs : Nat) : Int) = V.int ((xs.length : Nat) : Int)) := decide_eq_decide.mpr ⟨fun h => by rw [h], fun h => by injection h; omega⟩
        rw [z2] at q
        exact q H1 k1
/-! is_rising -/
abbrev Tup := Addr × List Int
def refs (L : List Tup) : List V := L.map fun p => V.ref p.1
def AllT (H : Hp) (L : List Tup) : Prop := ∀ p ∈ L, H p.1 = some (.tup (p.2.map V.int))
theorem AllT.kp {H H1 : Hp} {L : List Tup} (k : Kp Ps H H1) (h : AllT H L) : AllT H1 L := fun p hp => k.tup (h p hp)
def Rises (L : List (List Int)) : Prop := ∀ i x y, L[i]? = some x → L[i + 1]? = some y → HT.lexLt x y = true
theorem sc_is_rising : FnScope ["things"] ["things"] (defScope s_is_rising) := ⟨rfl, rfl, rfl, by decide +kernel, rfl, by decide +kernel, by decide +kernel⟩
def spRising (Ps : List Addr) : Sp := fun vs H Q _ => ∃ a L, vs = [.ref a] ∧ H a = some (.tup (refs L)) ∧ L.length ≤ 1000 ∧ AllT H L ∧ Tg Ps H ∧ ∀ b H', (b = true ↔ Rises (L.map (·.2))) → Kp Ps H H' → Q (.bl b) H'
theorem refs_get {L : List Tup} {i : Nat} {p : Tup} (h : L[i]? = some p) : (refs L)[i]? = some (.ref p.1) := by
  unfold refs; rw [List.getElem?_map, h]; rfl
theorem ok_is_rising {T : Addr} (D : DfnC K mg base "is_rising" s_is_rising ["things"] T) (hT : T ∈ Ps) (B : BN mg) : Okd P w K mg base CX0 2 "is_rising" ["things"] (spRising Ps) := by
  refine D.ok sc_is_rising (fun vs H Q E h => ?_) (fun f c A outer s H vs Q E TB hr h => ?_)
  · obtain ⟨a, L, rfl, _⟩ := h; rfl
  · obtain ⟨a, L, rfl, ha, hn, hL, tg, q⟩ := h
    refine ⟨_, pss_one (ps_ret (pe_all (ts := ["at"]) (cs := [0]) (N := ["at", "things"]) (k := 0) hr rfl B.all (by decide +kernel) TB rfl
      (gnames_of ["things"] (defScope s_is_rising))
      (pi_range1 rfl B.range (pa_cons (pe_op op_sub (pe_callB call_len_seq (by rfl) B.len PySem.boot_len (pa_cons (pv 0) pa_nil)) pe_int) pa_nil))
      (fun A C code s0 H0 fp hr0 => ⟨pg_name (i := 0) (show (["at", "things"] : List Str).Nodup by decide) rfl (.inl rfl),
        pe_cmpR (show OpR _ _ (rLtT K) from op_ltT (Nat.lt_of_succ_lt (hu_of hr0))) (pe_ix (show IxR _ (rIxT K) from ix_tup) (pv 1) (pv 0) (fun _ _ => rfl)) (pe_ix (show IxR _ (rIxT K) from ix_tup) (pv 1) (pe_op op_add (pv 0) pe_int) (fun _ _ => rfl)) (nomark _)⟩) (fun _ => rfl))), ?_⟩
    have hrl : (refs L).length = L.length := by unfold refs; rw [List.length_map]
    refine ⟨_, rfl, a, refs L, rfl, .inr (.of ha), _, _, rfl, rfl, _, rfl, by omega, by omega, tg T hT, fun H2 tb => ?_⟩
    have k2 : Kp Ps H H2 := Kp.tabbed hT (tg T hT) tb
    have hn2 : (((refs L).length : Int) - 1).toNat = L.length - 1 := by omega
    rw [hn2]
    refine ⟨L.length - 1, fun _ => True, _, fun i H' => Kp Ps H H' ∧ ∀ j x y, j < i → (L.map (·.2))[j]? = some x → (L.map (·.2))[j + 1]? = some y → HT.lexLt x y = true, walk_range, ⟨k2, fun j x y h => absurd h (Nat.not_lt_zero _)⟩, fun _ _ _ _ => trivial, ?_, ?_⟩
    · rintro i x σ' H' H'' hi ⟨hs, hl, rfl⟩ ⟨kp, hlx⟩ ⟨rfl, rfl⟩
      obtain ⟨u, rfl⟩ : ∃ u, hs = [u] := List.length_eq_one_iff.mp hl
      obtain ⟨p, e1⟩ : ∃ p, L[i]? = some p := ⟨_, List.getElem?_eq_getElem (by omega)⟩
      obtain ⟨r, e2⟩ : ∃ r, L[i + 1]? = some r := ⟨_, List.getElem?_eq_getElem (by omega)⟩
      have kL := AllT.kp kp hL
      refine ⟨⟨[some (.int (0 + (i : Int)))], rfl, rfl⟩, ?_⟩
      refine ⟨_, rfl, _, rfl, a, refs L, 0 + (i : Int), .ref p.1, rfl, rfl, kp.t (.of ha), ?_, _, rfl, _, rfl, _, _, rfl, rfl, a, refs L, 0 + (i : Int) + 1, .ref r.1, rfl, rfl, kp.t (.of ha), ?_, p.1, r.1, p.2, r.2, rfl, rfl, .of (kL p (List.mem_of_getElem? e1)), .of (kL r (List.mem_of_getElem? e2)), _, rfl, ?_⟩
      · rw [Int.zero_add]
        exact atI_nat (refs_get e1)
      · rw [Int.zero_add]
        exact atI_nat (refs_get e2)
      · cases e : HT.lexLt p.2 r.2 with
        | true =>
          refine iteT ⟨kp, fun j x y hj hx hy => ?_⟩
          rcases Nat.lt_succ_iff_lt_or_eq.mp hj with h | h
          · exact hlx j x y h hx hy
          · subst h
            rw [List.getElem?_map, e1] at hx
            rw [List.getElem?_map, e2] at hy
            cases hx
            cases hy
            exact e
        | false =>
          refine iteF (q false _ ⟨fun z => Bool.noConfusion z, fun z => ?_⟩ kp)
          have z1 := z i p.2 r.2 (by rw [List.getElem?_map, e1]; rfl) (by rw [List.getElem?_map, e2]; rfl)
          rw [e] at z1
          cases z1
    · rintro H' ⟨kp, hlx⟩
      refine q true _ ⟨fun _ i x y hx hy => hlx i x y ?_ hx hy, fun _ => rfl⟩ kp
      have := len_of hy
      rw [List.length_map] at this
      omega
end
end U
set_option maxHeartbeats 2000000
namespace U
open PySem PySem.Spec PyProof.Rows L2 GxR Bx Gx Ex Sx
/-! what is_order's looks come to -/
theorem inV_ints (i : Int) : ∀ l : List Int, inV (.int i) (l.map V.int) = decide (i ∈ l)
  | [] => rfl
  | x :: l => by
    have ih := inV_ints i l
    unfold inV at ih ⊢
    rw [List.map_cons, List.any_cons, ih]
    by_cases h : x = i
    · subst h
      rw [decide_eq_true (List.mem_cons_self)]
      have : eqV (.int x) (.int x) = true := by unfold eqV; simp
      rw [this]; rfl
    · have : eqV (.int x) (.int i) = false := by unfold eqV; simp [h]
      rw [this, Bool.false_or]
      exact decide_eq_decide.mpr ⟨fun z => List.mem_cons_of_mem _ z, fun z => by
        rcases List.mem_cons.mp z with e | e
        · exact absurd e.symm h
        · exact e⟩
theorem wsFrom_le (n : Int) : ∀ (xs pre : List V), wsFrom n pre xs ≤ pre.length + xs.length
  | [], pre => Nat.le_refl _
  | x :: r, pre => by
    unfold wsFrom
    split
    · have := wsFrom_le n r (pre ++ [x])
      rw [List.length_append, List.length_singleton] at this
      rw [List.length_cons]
      omega
    · omega
theorem wsFrom_iff (n : Int) : ∀ (xs : List V) (pre : List Int), wsFrom n (pre.map V.int) xs = pre.length + xs.length ↔ ∃ t : List Int, xs = t.map V.int ∧ (∀ x ∈ t, 0 ≤ x ∧ x < n) ∧ t.Nodup ∧ ∀ x ∈ t, x ∉ pre
  | [], pre => ⟨fun _ => ⟨[], rfl, (fun x h => by cases h), List.nodup_nil, (fun x h => by cases h)⟩, fun _ => by unfold wsFrom; simp⟩
  | x :: r, pre => by
    unfold wsFrom
    constructor
    · intro h
      split at h
      · rename_i c
        rw [Bool.and_eq_true] at c
        obtain ⟨i, rfl, h0, h1⟩ := okV_int c.1
        have c2 := c.2
        rw [inV_ints, Bool.not_eq_true', decide_eq_false_iff_not] at c2
        have e : pre.map V.int ++ [V.int i] = (pre ++ [i]).map V.int := by rw [List.map_append]; rfl
        rw [e] at h
        obtain ⟨t, rfl, a, b, d⟩ := (wsFrom_iff n r (pre ++ [i])).mp (by rw [h, List.length_append, List.length_singleton, List.length_cons]; omega)
        refine ⟨i :: t, rfl, fun y hy => ?_, List.nodup_cons.mpr ⟨fun hm => d i hm (List.mem_append_right _ List.mem_cons_self), b⟩, fun y hy => ?_⟩
        · rcases List.mem_cons.mp hy with z | z
          · subst z; omega
          · exact a y z
        · rcases List.mem_cons.mp hy with z | z
          · subst z; exact c2
          · exact fun hm => d y z (List.mem_append_left _ hm)
      · rw [List.length_map, List.length_cons] at h
        omega
    · rintro ⟨t, e, a, b, d⟩
      cases t with
      | nil => cases e
      | cons i t =>
        injection e with e1 e2
        subst e1 e2
        have ai := a i List.mem_cons_self
        have c : (okV 0 (n - 1) (.int i) && !inV (.int i) (pre.map V.int)) = true := by
          rw [inV_ints, decide_eq_false (d i List.mem_cons_self)]
          show ((decide ((0 : Int) ≤ i) && decide (i ≤ n - 1)) && true) = true
          rw [decide_eq_true ai.1, decide_eq_true (by omega : i ≤ n - 1)]
          rfl
        rw [if_pos c]
        have e : pre.map V.int ++ [V.int i] = (pre ++ [i]).map V.int := by rw [List.map_append]; rfl
        obtain ⟨b1, b2⟩ := List.nodup_cons.mp b
        rw [e, (wsFrom_iff n (t.map V.int) (pre ++ [i])).mpr ⟨t, rfl, fun y hy => a y (List.mem_cons_of_mem _ hy), b2, fun y hy hm => ?_⟩, List.length_append, List.length_singleton, List.length_cons]
        · omega
        · rcases List.mem_append.mp hm with z | z
          · exact d y (List.mem_cons_of_mem _ hy) z
          · rw [List.mem_singleton.mp z] at hy
            exact b1 hy
theorem wseat_iff (xs : List V) : wseat xs = xs.length ↔ ∃ t : List Int, xs = t.map V.int ∧ Order xs.length t := by
  have h := wsFrom_iff (xs.length : Int) xs []
  have e : wseat xs = wsFrom (xs.length : Int) (([] : List Int).map V.int) xs := rfl
  rw [List.length_nil, Nat.zero_add, ← e] at h
  rw [h]
  constructor
  · rintro ⟨t, rfl, a, b, _⟩
    exact ⟨t, rfl, by rw [List.length_map], a, b⟩
  · rintro ⟨t, rfl, a, b, c⟩
    exact ⟨t, rfl, b, c, fun x _ z => by cases z⟩
/-- an order of at most eight -/
def Ord8 (t : List Int) : Prop := 1 ≤ t.length ∧ t.length ≤ 8 ∧ Order t.length t
theorem orderV_iff (o : Option (List V)) : orderV o = true ↔ ∃ t, o = some (t.map V.int) ∧ Ord8 t := by
  cases o with
  | none => exact ⟨fun h => Bool.noConfusion h, fun ⟨t, h, _⟩ => by cases h⟩
  | some xs =>
    show (decide (1 ≤ xs.length) && decide (xs.length ≤ 8) && decide (wseat xs = xs.length)) = true ↔ _
    rw [Bool.and_eq_true, Bool.and_eq_true, decide_eq_true_iff, decide_eq_true_iff, decide_eq_true_iff, wseat_iff]
    constructor
    · rintro ⟨⟨h1, h2⟩, t, rfl, o⟩
      rw [List.length_map] at h1 h2 o
      exact ⟨t, rfl, h1, h2, o⟩
    · rintro ⟨t, e, h1, h2, o⟩
      cases e
      rw [List.length_map]
      exact ⟨⟨h1, h2⟩, t, rfl, o⟩
/-- tuples of ints, put together -/
theorem gather {H : Hp} {F : List Int → Prop} : ∀ {xs : List V}, (∀ y ∈ xs, ∃ p : Tup, y = .ref p.1 ∧ H p.1 = some (.tup (p.2.map V.int)) ∧ F p.2) → ∃ L : List Tup, xs = refs L ∧ AllT H L ∧ ∀ p ∈ L, F p.2
  | [], _ => ⟨[], rfl, (fun p h => by cases h), (fun p h => by cases h)⟩
  | x :: r, h => by
    obtain ⟨p, rfl, e, f⟩ := h x List.mem_cons_self
    obtain ⟨L, rfl, g, k⟩ := gather (xs := r) fun y hy => h y (List.mem_cons_of_mem _ hy)
    refine ⟨p :: L, rfl, fun q hq => ?_, fun q hq => ?_⟩
    · rcases List.mem_cons.mp hq with z | z
      · rw [z]; exact e
      · exact g q z
    · rcases List.mem_cons.mp hq with z | z
      · rw [z]; exact f
      · exact k q z
/-- rising orders of n seats -/
structure RO (H : Hp) (x : V) (L : List Tup) : Prop where
  at_ : tupOf H x = some (refs L)
  all : AllT H L
  lo : 1 ≤ L.length
  hi : L.length ≤ 128
  ord : ∃ n, 1 ≤ n ∧ n ≤ 8 ∧ ∀ p ∈ L, Order n p.2
  rise : Rises (L.map (·.2))
def rLen (K : PySem.W.Frag) : List V → Hp → VK → Prop := fun xs H Q => ∃ p ys, xs = [.ref p] ∧ (SqL K H p ys ∨ SqT K H p ys) ∧ Q (.int ys.length) H
theorem pe_len (K : PySem.W.Frag) {X : Cx} {e : Expr} {te : TE} {p pos : Pos} (hm : X.mg "len" = none) (he : PE X e te) (hg : Gl X "len" := by rfl) (hK : X.K = K := by rfl) (hs : starEach [e] X.env = (false, eval e X.env) :: starEach [] X.env := by rfl) :
    PE X (.Call (.Name "len" p) [e] [] pos) (tCB (rLen K) (tCons te tNil)) := by
  subst hK
  exact pe_callB call_len_seq hg hm PySem.boot_len (pa_cons he pa_nil hs) (by decide) (by decide) hs rfl
theorem pe_ixT (K : PySem.W.Frag) {X : Cx} {e i : Expr} {te ti : TE} {pos : Pos} (he : PE X e te) (hi : PE X i ti) (hK : X.K = K := by rfl) (hp : PlainIx i := by exact fun _ _ => rfl) : PE X (.Subscript e i pos) (tOp (rIxT K) te ti) := by
  subst hK
  exact pe_ix ix_tup he hi hp
theorem pe_ixL (K : PySem.W.Frag) {X : Cx} {e i : Expr} {te ti : TE} {pos : Pos} (he : PE X e te) (hi : PE X i ti) (hK : X.K = K := by rfl) (hp : PlainIx i := by exact fun _ _ => rfl) : PE X (.Subscript e i pos) (tOp (rIxL K) te ti) := by
  subst hK
  exact pe_ix ix_list he hi hp
section
variable {P : Program} {w : World} {K : PySem.W.Frag} {mg : Str → Option Value} {base : Heap} {Ps : List Addr}
theorem sc_are_rising_orders : FnScope ["thing", "many"] ["thing"] (defScope s_are_rising_orders) := ⟨rfl, rfl, rfl, by decide +kernel, rfl, by decide +kernel, by decide +kernel⟩
def spRO (Ps : List Addr) : Sp := fun vs H Q _ => ∃ x, vs = [x] ∧ AD H x ∧ Tg Ps H ∧ ∀ b H', (b = true ↔ ∃ L, RO H x L) → Kp Ps H H' → Q (.bl b) H'
theorem tupLen_iff {lo hi : Nat} {xs : List V} : tupLen (lo : Int) (hi : Int) (some xs) = true ↔ lo ≤ xs.length ∧ xs.length ≤ hi := by
  show (decide ((lo : Int) ≤ (xs.length : Int)) && decide ((xs.length : Int) ≤ (hi : Int))) = true ↔ _
  rw [Bool.and_eq_true, decide_eq_true_iff, decide_eq_true_iff]
  omega
theorem refs_len (L : List Tup) : (refs L).length = L.length := by unfold refs; rw [List.length_map]
theorem AD.tupKp {H H1 : Hp} {x : V} (k : Kp Ps H H1) (h : AD H x) : tupOf H1 x = tupOf H x := by
  obtain ⟨t, av⟩ := h.av
  exact AV.tupKp k av
theorem map_int_inj {l m : List Int} (h : l.map V.int = m.map V.int) : l = m := (List.map_inj_right fun _ _ z => by injection z).mp h
theorem refs_inj {H : Hp} : ∀ {L M : List Tup}, AllT H L → AllT H M → refs L = refs M → L = M
  | [], [], _, _, _ => rfl
  | [], _ :: _, _, _, h => by cases h
  | _ :: _, [], _, _, h => by cases h
  | p :: L, r :: M, a, b, h => by
    injection h with h1 h2
    injection h1 with h1
    have e1 := a p List.mem_cons_self
    have e2 := b r List.mem_cons_self
    rw [h1, e2] at e1
    injection e1 with e1
    injection e1 with e1
    rw [refs_inj (fun z hz => a z (List.mem_cons_of_mem _ hz)) (fun z hz => b z (List.mem_cons_of_mem _ hz)) h2]
    have : p = r := Prod.ext h1 (map_int_inj e1).symm
    rw [this]
theorem RO.entry {H : Hp} {a a0 : Addr} {xs : List V} {L : List Tup} {y : V} {t0 : List Int} (r : RO H (.ref a) L) (ha : H a = some (.tup xs)) (hy : y ∈ xs) (h0 : xs[0]? = some (.ref a0)) (ha0 : H a0 = some (.tup (t0.map V.int))) :
    ∃ p : Tup, p ∈ L ∧ y = .ref p.1 ∧ H p.1 = some (.tup (p.2.map V.int)) ∧ Order t0.length p.2 := by
  have z := r.at_
  rw [tupOf_of ha] at z
  injection z with z
  subst z
  obtain ⟨n, n1, n8, ho⟩ := r.ord
  obtain ⟨p, hp, rfl⟩ := List.mem_map.mp hy
  cases L with
  | nil => cases hp
  | cons p0 L =>
    cases h0
    have z0 := r.all p0 List.mem_cons_self
    rw [ha0] at z0
    injection z0 with z0
    injection z0 with z0
    have z1 := map_int_inj z0
    have z2 := (ho p0 List.mem_cons_self).1
    rw [← z1] at z2
    rw [z2]
    exact ⟨p, hp, rfl, r.all p hp, ho p hp⟩
theorem ok_are_rising_orders {T : Addr} (D : DfnC K mg base "are_rising_orders" s_are_rising_orders ["thing"] T) (hT : T ∈ Ps) (B : BN mg) {tk : Tok} (hM : mg "MOST_TURNINGS" = some (.int 128 tk)) (o1 : Okd P w K mg base CX0 1 "is_tuple_of" ["thing", "least", "most"] spTupOf)
    (o2 : Okd P w K mg base CX0 4 "is_order" ["thing"] (spOrder Ps)) (o3 : Okd P w K mg base CX0 2 "is_rising" ["things"] (spRising Ps)) : Okd P w K mg base CX0 6 "are_rising_orders" ["thing"] (spRO Ps) := by
  refine D.ok sc_are_rising_orders (fun vs H Q E h => ?_) (fun f c A outer s H vs Q E TB hr h => ?_)
  · obtain ⟨x, rfl, _⟩ := h; rfl
  · obtain ⟨x, rfl, ad, tg, q⟩ := h
    have nd := sc_are_rising_orders.nd
    refine ⟨_, pss_cons (ps_if (PW.pt (pw_or (pt_not (pt_val (pe_do o1 (hr.mono (by decide)) (pa_cons (pv 0) (pa_cons pe_int (pa_cons (pe_glob (v := .int 128) rfl hM ⟨_, rfl⟩) pa_nil))))))
          (pw_or1 (pt_not (pt_val (pe_do o2 (hr.mono (by decide)) (pa_cons (pe_ixT K (pv 0) pe_int) pa_nil)))))))
        (pss_one (ps_ret pe_bl)) pss_nil)
      (pss_cons (ps_set (i := 1) nd rfl (.inr rfl) (pe_len K B.len (pe_ixT K (pv 0) pe_int)))
      (pss_one (ps_ret (pe_and (pe_all (ts := ["turning"]) (cs := [1]) (N := ["turning", "many"]) (k := 4) hr rfl B.all (by decide +kernel) TB rfl
          (gnames_of ["thing", "many"] (defScope s_are_rising_orders)) (pi_tup (pv 0))
          (fun A C code s0 H0 fp hr0 => ⟨pg_name (i := 0) (show (["turning", "many"] : List Str).Nodup by decide) rfl (.inl rfl),
            pe_and (pe_do (show Okd P w K mg base CX0 4 _ _ _ from o2) hr0 (pa_cons (pv 0) pa_nil)) (pe_one (pe_cmpR op_eq (pe_len K B.len (pv 0)) (pv 1) (nomark _)))⟩) (fun _ => rfl))
        (pe_one (pe_do o3 (hr.mono (by decide)) (pa_cons (pv 0) pa_nil))))))), ?_⟩
    obtain ⟨t, av⟩ := ad.av
    refine ⟨_, rfl, x, t, 1, 128, rfl, av, _, rfl, ?_⟩
    have no : ∀ H', Kp Ps H H' → (∀ L, ¬ RO H x L) → Q (.bl false) H' := fun H' k n => q false H' ⟨fun z => Bool.noConfusion z, fun ⟨L, z⟩ => (n L z).elim⟩ k
    cases e1 : tupLen 1 128 (tupOf H x) with
    | false =>
      refine iteT (iteT (no H (.refl H) fun L r => ?_))
      have z : tupLen 1 128 (some (refs L)) = true := (tupLen_iff (lo := 1) (hi := 128)).mpr ⟨by rw [refs_len]; exact r.lo, by rw [refs_len]; exact r.hi⟩
      rw [r.at_, z] at e1
      cases e1
    | true =>
      cases e : tupOf H x with
      | none => rw [e] at e1; cases e1
      | some xs =>
        rw [e] at e1
        obtain ⟨h1, h2⟩ := (tupLen_iff (lo := 1) (hi := 128)).mp e1
        have ad2 := ad.items e
        obtain ⟨a, rfl, ha⟩ := tupOf_some e
        obtain ⟨y0, hy0⟩ : ∃ y, xs[0]? = some y := ⟨_, List.getElem?_eq_getElem (by omega)⟩
        have ad0 := ad2 y0 (List.mem_of_getElem? hy0)
        refine iteF ⟨_, rfl, a, xs, 0, y0, rfl, rfl, .of ha, atI_nat (j := 0) hy0, y0, rfl, ad0, fun H1 k1 => ⟨_, rfl, ?_⟩⟩
        cases e2 : orderV (tupOf H y0) with
        | false =>
          refine iteT (no H1 k1 fun L r => ?_)
          have z := r.at_
          rw [e] at z
          injection z with z
          subst z
          cases L with
          | nil => exact absurd r.lo (by decide)
          | cons p L =>
            cases hy0
            obtain ⟨n, n1, n8, ho⟩ := r.ord
            have op := ho p List.mem_cons_self
            have z2 := (orderV_iff (tupOf H (.ref p.1))).mpr ⟨p.2, tupOf_of (r.all p List.mem_cons_self), by rw [op.1]; exact n1, by rw [op.1]; exact n8, by rw [op.1]; exact op⟩
            rw [e2] at z2
            cases z2
        | true =>
          obtain ⟨t0, et0, o0⟩ := (orderV_iff _).mp e2
          obtain ⟨a0, rfl, ha0⟩ := tupOf_some et0
          refine iteF ⟨_, rfl, a, xs, 0, _, rfl, rfl, k1.t (.of ha), atI_nat (j := 0) hy0, a0, _, rfl, .inr (k1.t (.of ha0)), ?_⟩
          refine ⟨_, rfl, a, rfl, ⟨_, k1.t (.of ha)⟩, k1.tab tg T hT, fun H2 tb => ?_⟩
          have k2 : Kp Ps H H2 := k1.trans (Kp.tabbed hT (k1.tab tg T hT) tb)
          have lt0 : ((t0.map V.int).length : Int) = (t0.length : Int) := by rw [List.length_map]
          refine ⟨xs.length, _, _, fun i H' => Kp Ps H H' ∧ ∀ y ∈ xs.take i, ∃ p : Tup, y = .ref p.1 ∧ H p.1 = some (.tup (p.2.map V.int)) ∧ Order t0.length p.2, walk_tup, ⟨k2, fun y h => by cases h⟩, fun _ H' _ p => p.1.t (.of ha), ?_, ?_⟩
          · rintro i y σ' H' H'' hi ⟨hs, hl, rfl⟩ ⟨kp, hg⟩ ⟨rfl, hy⟩
            obtain ⟨u, rfl⟩ : ∃ u, hs = [u] := List.length_eq_one_iff.mp hl
            have ady := ad2 y (List.mem_of_getElem? hy)
            refine ⟨⟨[some y], rfl, rfl⟩, ?_⟩
            refine ⟨_, rfl, y, rfl, ady.kp kp, fun H3 k3 => ⟨_, rfl, ?_⟩⟩
            have kp3 := kp.trans k3
            rw [ady.tupKp kp]
            cases e3 : orderV (tupOf H y) with
            | false =>
              refine iteF ⟨false, rfl, iteF ⟨false, rfl, iteF (no H3 kp3 fun L r => ?_)⟩⟩
              obtain ⟨p, hp, rfl, hp1, hp2⟩ := r.entry ha (List.mem_of_getElem? hy) hy0 ha0
              have z2 := (orderV_iff (tupOf H (.ref p.1))).mpr ⟨p.2, tupOf_of hp1, by rw [hp2.1]; exact o0.1, by rw [hp2.1]; exact o0.2.1, by rw [hp2.1]; exact hp2⟩
              rw [e3] at z2
              cases z2
            | true =>
              obtain ⟨t1, et1, o1⟩ := (orderV_iff _).mp e3
              obtain ⟨a1, rfl, ha1⟩ := tupOf_some et1
              refine iteT ⟨_, rfl, a1, _, rfl, .inr (kp3.t (.of ha1)), _, rfl, rfl, _, rfl, ?_⟩
              rw [lt0, List.length_map]
              by_cases e4 : t1.length = t0.length
              · rw [decide_eq_true (by rw [e4])]
                refine iteT ⟨kp3, fun z hz => ?_⟩
                rw [take_snoc hy] at hz
                rcases List.mem_append.mp hz with hz | hz
                · exact hg z hz
                · rw [List.mem_singleton.mp hz]
                  exact ⟨(a1, t1), rfl, ha1, by rw [← e4]; exact o1.2.2⟩
              · rw [decide_eq_false (fun z => by injection z with z; omega)]
                refine iteF ⟨false, rfl, iteF (no H3 kp3 fun L r => ?_)⟩
                obtain ⟨p, hp, z1, hp1, hp2⟩ := r.entry ha (List.mem_of_getElem? hy) hy0 ha0
                injection z1 with z1
                rw [← z1, ha1] at hp1
                injection hp1 with hp1
                injection hp1 with hp1
                rw [map_int_inj hp1, hp2.1] at e4
                exact e4 rfl
          · rintro H' ⟨kp, hg⟩
            rw [List.take_length] at hg
            obtain ⟨L, rfl, hL, hO⟩ := gather hg
            refine ⟨true, rfl, iteT ⟨_, rfl, a, L, rfl, kp.tup ha, by rw [refs_len] at h2; omega, hL.kp kp, kp.tab tg, fun b H4 hb k4 => q b H4 ⟨fun z => ⟨L, e, hL, by rw [refs_len] at h1; exact h1, by rw [refs_len] at h2; exact h2, ⟨t0.length, o0.1, o0.2.1, hO⟩, hb.mp z⟩, fun ⟨L2, r⟩ => hb.mpr ?_⟩ (kp.trans k4)⟩⟩
            have z := r.at_
            rw [e] at z
            injection z with z
            rw [refs_inj hL r.all z]
            exact r.rise
end
end U
set_option maxHeartbeats 2000000
namespace U
open PySem PySem.Spec PyProof.Rows L2 GxR Bx Gx Ex Sx
/-! set(list), and that nothing is in it twice -/
def rSet1 (K : PySem.W.Frag) (P : Program) (w : World) : List V → Hp → VK → Prop := fun xs H Q => ∃ (l : Addr) (ks : List Tup), xs = [V.ref l] ∧ SqL K H l (refs ks) ∧ (∀ p ∈ ks, SqT K H p.1 (p.2.map V.int)) ∧ ks.length < 64 ∧
  ∀ a L, H a = none → (∀ p ∈ L, p ∈ ks) → (∀ p ∈ ks, p.2 ∈ L.map (·.2)) → (L.map (·.2)).Nodup → Q (.ref a) (upd H a (SetTO P w a L))
theorem cr_set1 {X : Cx} (hc : X.calm = true) (hu : X.A.units + 64 < cLine) : CallR X (.type "set") (rSet1 X.K X.prog X.w) := by
  intro pins s σ H xs us Q I r h
  obtain ⟨l, ks, rfl, h1, h2, h3, q⟩ := h
  refine thn (cr_setOfT hc hu pins s σ H [V.ref l] us (fun x H2 => (∀ a L, x = .ref a → H2 a = some (SetTO X.prog X.w a L) → (L.map (·.2)).Nodup) → Q x H2) I r ⟨l, ks, rfl, h1, h2, h3, fun a L n g k nd => q a L n g k (nd a L rfl upd_same)⟩) fun v s1 hq => ?_
  obtain ⟨x, H1, I1, r1, q1⟩ := hq
  refine ⟨x, H1, I1, r1, q1 fun a L _ e => ?_⟩
  have R0 : SetT0 X.prog X.w s1.heap a L := (I1.hok a _ e).1
  obtain ⟨es, ep, t, _, _, _, h4, _⟩ := R0.ex
  exact h4
theorem pe_setOf (K : PySem.W.Frag) (P : Program) (w : World) {X : Cx} {e : Expr} {t : TE} {p pos : Pos} (hm : X.mg "set" = none) (hu : X.A.units + 64 < cLine) (he : PE X e t) (hc : X.calm = true := by rfl) (hg : Gl X "set" := by rfl) (hK : X.K = K := by rfl) (hP : X.prog = P := by rfl) (hw : X.w = w := by rfl)
    (hs : starEach [e] X.env = (false, eval e X.env) :: starEach [] X.env := by rfl) : PE X (.Call (.Name "set" p) [e] [] pos) (tCB (rSet1 K P w) (tCons t tNil)) := by
  subst hK hP hw
  exact pe_callTy (cr_set1 hc hu) hg hm boot_set (pa_cons he pa_nil hs) (by decide) (by decide) hs rfl
theorem pt_hasT (K : PySem.W.Frag) (P : Program) (w : World) {X : Cx} {a b : Expr} {ta tb : TE} {pos : Pos} (ha : PE X a ta) (hb : PE X b tb) (hu : X.A.units + 8 < cLine) (hK : X.K = K := by rfl) (hP : X.prog = P := by rfl) (hw : X.w = w := by rfl)
    (hm : behindInMarks .NotIn b = false := by rfl) : PT X (.Compare a [.NotIn] [b] pos) (tTest (tOp (rHasT K P w true) ta tb)) := by
  subst hK hP hw
  exact pt_cmpR (op_hasT true hu) ha hb hm
/-! what spread_by comes to -/
structure Spread (n : Nat) (M R : List (List Int)) : Prop where
  nd : R.Nodup
  calm : calm n ∈ R
  step : ∀ t ∈ R, ∀ m ∈ M, after t m ∈ R
  least : ∀ Z : List Int → Prop, Z (U.calm n) → (∀ z m, Z z → m ∈ M → Z (after z m)) → ∀ t ∈ R, Z t
/-- under way: k are done, of the next one j makers -/
structure SpAt (n : Nat) (M T : List (List Int)) (k j : Nat) : Prop where
  nd : T.Nodup
  calm : calm n ∈ T
  done : ∀ i t, i < k → T[i]? = some t → ∀ m ∈ M, after t m ∈ T
  cur : ∀ t, T[k]? = some t → ∀ m ∈ M.take j, after t m ∈ T
  least : ∀ Z : List Int → Prop, Z (U.calm n) → (∀ z m, Z z → m ∈ M → Z (after z m)) → ∀ t ∈ T, Z t
theorem SpAt.start (n : Nat) (M : List (List Int)) : SpAt n M [U.calm n] 0 0 :=
  ⟨List.nodup_cons.mpr ⟨List.not_mem_nil, List.nodup_nil⟩, List.mem_cons_self, (fun i t h => absurd h (Nat.not_lt_zero _)), (fun t _ m h => by cases h), fun Z z0 _ t h => by rw [List.mem_singleton.mp h]; exact z0⟩
theorem SpAt.ended {n : Nat} {M T : List (List Int)} {k : Nat} (s : SpAt n M T k 0) (h : T.length ≤ k) : Spread n M T :=
  ⟨s.nd, s.calm, fun t ht m hm => by
    obtain ⟨i, hi, rfl⟩ := List.getElem_of_mem ht
    exact s.done i _ (Nat.lt_of_lt_of_le hi h) (List.getElem?_eq_getElem hi) m hm, s.least⟩
theorem SpAt.next {n : Nat} {M T : List (List Int)} {k : Nat} (s : SpAt n M T k M.length) : SpAt n M T (k + 1) 0 :=
  ⟨s.nd, s.calm, fun i t hi ht m hm => by
    rcases Nat.lt_succ_iff_lt_or_eq.mp hi with h | h
    · exact s.done i t h ht m hm
    · subst h
      exact s.cur t ht m (by rw [List.take_length]; exact hm), (fun t _ m h => by cases h), s.least⟩
theorem SpAt.had {n : Nat} {M T : List (List Int)} {k j : Nat} {t m : List Int} (s : SpAt n M T k j) (ht : T[k]? = some t) (hm : M[j]? = some m) (h : after t m ∈ T) : SpAt n M T k (j + 1) :=
  ⟨s.nd, s.calm, s.done, fun t' ht' m' hm' => by
    rw [ht] at ht'
    cases ht'
    rw [take_snoc hm] at hm'
    rcases List.mem_append.mp hm' with z | z
    · exact s.cur t ht m' z
    · rw [List.mem_singleton.mp z]; exact h, s.least⟩
theorem SpAt.add {n : Nat} {M T : List (List Int)} {k j : Nat} {t m : List Int} (s : SpAt n M T k j) (ht : T[k]? = some t) (hm : M[j]? = some m) (h : after t m ∉ T) : SpAt n M (T ++ [after t m]) k (j + 1) := by
  have hk := len_of ht
  have old : ∀ i u, i ≤ k → (T ++ [after t m])[i]? = some u → T[i]? = some u := fun i u hi hu => by
    rw [List.getElem?_append_left (by omega)] at hu
    exact hu
  refine ⟨List.nodup_append.mpr ⟨s.nd, List.nodup_cons.mpr ⟨List.not_mem_nil, List.nodup_nil⟩, fun a ha b hb e => ?_⟩, List.mem_append_left _ s.calm, fun i u hi hu m' hm' => List.mem_append_left _ (s.done i u hi (old i u (Nat.le_of_lt hi) hu) m' hm'), fun u hu m' hm' => ?_, fun Z z0 zs u hu => ?_⟩
  · rw [List.mem_singleton.mp hb] at e
    rw [e] at ha
    exact h ha
  · have hu := old k u (Nat.le_refl _) hu
    rw [ht] at hu
    cases hu
    rw [take_snoc hm] at hm'
    rcases List.mem_append.mp hm' with z | z
    · exact List.mem_append_left _ (s.cur t ht m' z)
    · rw [List.mem_singleton.mp z]
      exact List.mem_append_right _ List.mem_cons_self
  · rcases List.mem_append.mp hu with z | z
    · exact s.least Z z0 zs u z
    · rw [List.mem_singleton.mp z]
      exact zs t m (s.least Z z0 zs t (List.mem_of_getElem? ht)) (List.mem_of_getElem? hm)
theorem nodup_len {α : Type} : ∀ {T Z : List α}, T.Nodup → (∀ t ∈ T, t ∈ Z) → T.length ≤ Z.length
  | [], _, _, _ => Nat.zero_le _
  | x :: T, Z, h, s => by
    obtain ⟨u, v, rfl⟩ := List.append_of_mem (s x List.mem_cons_self)
    obtain ⟨h1, h2⟩ := List.nodup_cons.mp h
    have := nodup_len (Z := u ++ v) h2 fun t ht => by
      rcases List.mem_append.mp (s t (List.mem_cons_of_mem _ ht)) with z | z
      · exact List.mem_append_left _ z
      · rcases List.mem_cons.mp z with e | e
        · subst e; exact absurd ht h1
        · exact List.mem_append_right _ e
    rw [List.length_append] at this
    rw [List.length_cons, List.length_append, List.length_cons]
    omega

theorem u64 {k : Nat} {A : Around} (r : Room k A) : A.units + 64 < cLine := by have := r.un; omega
theorem u8 {k : Nat} {A : Around} (r : Room k A) : A.units + 8 < cLine := by have := r.un; omega
theorem u65 {k : Nat} {A : Around} (r : Room k A) : A.units + 65 < cLine := by have := r.un; omega
theorem pe_add1 (K : PySem.W.Frag) (P : Program) (w : World) {X : Cx} {o e : Expr} {es : List Expr} {to : TE} {t : TA} {apos cpos : Pos} (hu : X.A.units + 8 < cLine) (ho : PE X o to) (ha : PA X (e :: es) t) (hK : X.K = K := by rfl) (hP : X.prog = P := by rfl) (hw : X.w = w := by rfl)
    (hbase : attributeBase o "add" X.env (eval o X.env) = eval o X.env := by rfl)
    (hfew : ((backTo cpos (starEach (e :: es) X.env)).all (fun x => !x.1) && (backToKw cpos (keywordEach [] X.env)).all (fun x => x.1.isSome) && decide ((e :: es).length + ([] : List Keyword).length + (if ([] : List Keyword).isEmpty then 0 else 1) < 30)) = true := by rfl)
    (hline : (apos.endLine == cpos.line) = true := by rfl) (hs : starEach (e :: es) X.env = (false, eval e X.env) :: starEach es X.env := by rfl) (hplain : (backTo cpos (starEach es X.env)).any (·.1) = false := by rfl) :
    PE X (.Call (.Attribute o "add" apos) (e :: es) [] cpos) (tAddT K P w to t) := by
  subst hK hP hw
  exact pe_addT hu ho ha hbase hfew hline hs hplain
theorem pe_append (K : PySem.W.Frag) {X : Cx} {o e : Expr} {to te : TE} {apos cpos : Pos} (ho : PE X o to) (he : PE X e te) (hK : X.K = K := by rfl)
    (hbase : attributeBase o "append" X.env (eval o X.env) = eval o X.env := by rfl)
    (hfew : ((backTo cpos (starEach [e] X.env)).all (fun x => !x.1) && (backToKw cpos (keywordEach [] X.env)).all (fun x => x.1.isSome) && decide (([e] : List Expr).length + ([] : List Keyword).length + (if ([] : List Keyword).isEmpty then 0 else 1) < 30)) = true := by rfl)
    (hline : (apos.endLine == cpos.line) = true := by rfl) (hs : starEach [e] X.env = (false, eval e X.env) :: starEach [] X.env := by rfl) (hplain : (backTo cpos (starEach [] X.env)).any (·.1) = false := by rfl) :
    PE X (.Call (.Attribute o "append" apos) [e] [] cpos) (tBM K "list" rAppend to (tCons te tNil)) := by
  subst hK
  exact pe_bm PySem.F.plainAttrs_list PySem.F.slot_list_append PySem.F.type_list_append mt_append ho (pa_cons he pa_nil hs) hbase hfew hline hs hplain
section
variable {P : Program} {w : World} {K : PySem.W.Frag} {mg : Str → Option Value} {base : Heap} {Ps : List Addr}
structure SpHeap (P : Program) (w : World) (Ps : List Addr) (H : Hp) (F S : Addr) (R LS : List Tup) (H' : Hp) : Prop where
  kp : Kp Ps H H'
  f : H' F = some (.lst (refs R))
  all : AllT H' R
  s : H' S = some (SetTO P w S LS)
  perm : LS.Perm R
theorem SpHeap.ls {P : Program} {w : World} {K : PySem.W.Frag} {H : Hp} {F S : Addr} {R LS : List Tup} {H' : Hp} (h : SpHeap P w Ps H F S R LS H') : ∀ p ∈ LS, SqT K H' p.1 (p.2.map V.int) := fun p hp => .of (h.all p (h.perm.mem_iff.mp hp))
theorem SpHeap.mem {P : Program} {w : World} {H : Hp} {F S : Addr} {R LS : List Tup} {H' : Hp} (h : SpHeap P w Ps H F S R LS H') (k : List Int) : k ∈ LS.map (·.2) ↔ k ∈ R.map (·.2) := (h.perm.map _).mem_iff
theorem SpHeap.kp2 {P : Program} {w : World} {H : Hp} {F S : Addr} {R LS : List Tup} {H' H2 : Hp} (h : SpHeap P w Ps H F S R LS H') (k : Kp Ps H' H2) : SpHeap P w Ps H F S R LS H2 :=
  ⟨h.kp.trans k, k.lst h.f, h.all.kp k, k.old S _ h.s (fun ps z => by cases z), h.perm⟩
theorem SpHeap.add {P : Program} {w : World} {H : Hp} {F S : Addr} {R LS LS' : List Tup} {H2 : Hp} {p : Addr} {k : List Int} (h : SpHeap P w Ps H F S R LS H2) (nF : H F = none) (nS : H S = none) (hFS : F ≠ S) (hp : H2 p = some (.tup (k.map V.int))) (hL : LS'.Perm ((p, k) :: LS)) :
    SpHeap P w Ps H F S (R ++ [(p, k)]) LS' (upd (upd H2 S (SetTO P w S LS')) F (.lst (refs R ++ [.ref p]))) := by
  have ne : ∀ q xs, H2 q = some (.tup xs) → q ≠ F ∧ q ≠ S := fun q xs e => ⟨(fun z => by rw [z, h.f] at e; cases e), (fun z => by rw [z, h.s] at e; cases e)⟩
  have k1 : Kp Ps H (upd H2 S (SetTO P w S LS')) := h.kp.mut nS fun ps z => by rw [h.s] at z; cases z
  refine ⟨k1.mut nF fun ps z => ?_, ?_, fun q hq => ?_, ?_, ?_⟩
  · rw [upd_ne hFS, h.f] at z; cases z
  · rw [upd_same]
    unfold refs
    rw [List.map_append]; rfl
  · have e : H2 q.1 = some (.tup (q.2.map V.int)) := by
      rcases List.mem_append.mp hq with z | z
      · exact h.all q z
      · rw [List.mem_singleton.mp z]; exact hp
    rw [upd_ne (ne _ _ e).1, upd_ne (ne _ _ e).2]
    exact e
  · rw [upd_ne (Ne.symm hFS), upd_same]
  · refine hL.trans ((List.Perm.cons _ h.perm).trans ?_)
    exact (List.perm_append_singleton _ _).symm
theorem single_perm {x : Tup} : ∀ {LS : List Tup}, (∀ p ∈ LS, p ∈ [x]) → (∀ p ∈ [x], p.2 ∈ LS.map (·.2)) → (LS.map (·.2)).Nodup → LS.Perm [x]
  | [], _, h, _ => by cases h x List.mem_cons_self
  | [y], h, _, _ => by rw [List.mem_singleton.mp (h y List.mem_cons_self)]
  | y :: z :: r, h, _, n => by
    have e1 := List.mem_singleton.mp (h y List.mem_cons_self)
    have e2 := List.mem_singleton.mp (h z (List.mem_cons_of_mem _ List.mem_cons_self))
    rw [e1, e2] at n
    exact absurd List.mem_cons_self (List.nodup_cons.mp n).1
theorem sc_spread_by : FnScope ["many", "makers", "most", "found", "seen", "at", "maker", "later"] ["many", "makers", "most"] (defScope s_spread_by) := ⟨rfl, rfl, rfl, by decide +kernel, rfl, by decide +kernel, by decide +kernel⟩
def spSpread (K : PySem.W.Frag) (Ps : List Addr) : Sp := fun vs H Q _ => ∃ (n : Nat) (ml : Addr) (most : Int) (M : List Tup) (Zl : List (List Int)), vs = [.int n, .ref ml, .int most] ∧ n ≤ 8 ∧ SqL K H ml (refs M) ∧ AllT H M ∧ M.length ≤ 1000 ∧ (∀ m ∈ M, Order n m.2) ∧
  calm n ∈ Zl ∧ (∀ z ∈ Zl, Order n z ∧ ∀ m ∈ M, after z m.2 ∈ Zl) ∧ Zl.length ≤ 62 ∧ (Zl.length : Int) ≤ most ∧
  ∀ p R H', Kp Ps H H' → H p = none → H' p = some (.lst (refs R)) → AllT H' R → Spread n (M.map (·.2)) (R.map (·.2)) → Q (.ref p) H'
theorem ok_spread_by (D : Dfn K mg "spread_by" s_spread_by ["many", "makers", "most"]) (B : BN mg) (o1 : Okd P w K mg base CX0 1 "calm_of" ["many"] (spCalm Ps)) (o2 : Okd P w K mg base CX0 1 "then_of" ["first", "later"] (spThen K Ps)) :
    Okd P w K mg base CX0 2 "spread_by" ["many", "makers", "most"] (spSpread K Ps) := by
  refine D.ok sc_spread_by (fun vs H Q E h => ?_) (fun f cdv A outer s H vs Q E hr h => ?_)
  · obtain ⟨n, ml, most, M, Zl, rfl, _⟩ := h; rfl
  · obtain ⟨n, ml, most, M, Zl, rfl, hn, hml, hM, hMn, hMo, hc, hZ, hz1, hz2, q⟩ := h
    have nd := sc_spread_by.nd
    refine ⟨_, pss_cons (ps_set (i := 3) nd rfl (.inl rfl) (pe_lst (pa_cons (pe_do o1 hr (pa_cons (pv 0) pa_nil)) pa_nil)))
      (pss_cons (ps_set (i := 4) nd rfl (.inl rfl) (pe_setOf K P w B.set (u64 hr) (pv 3)))
      (pss_cons (ps_set (i := 5) nd rfl (.inl rfl) pe_int)
      (pss_cons (ps_while PassesOwn.never (pt_chain op_lt op_le (pv 5) (pe_len K B.len (pv 3)) (pv 2))
        (pss_cons (ps_for PassesOwn.never rfl (pi_list (pv 1)) (pg_name (i := 6) nd rfl (.inl rfl))
          (pss_cons (ps_set (i := 7) nd rfl (.inl rfl) (pe_do o2 hr (pa_cons (pe_ixL K (pv 3) (pv 5)) (pa_cons (pv 6) pa_nil))))
          (pss_one (ps_if (pt_hasT K P w (pv 7) (pv 4) (u8 hr))
            (pss_cons (ps_expr (pe_add1 K P w (u8 hr) (pv 4) (pa_cons (pv 7) pa_nil)))
            (pss_one (ps_expr (pe_append K (pv 3) (pv 7))))) pss_nil))))
        (pss_one (ps_aug (i := 5) nd rfl (.inl rfl) pe_int ip_add))))
      (pss_one (ps_ret (pv 3)))))), ?_⟩
    refine ⟨_, rfl, n, rfl, hn, fun c H1 k1 hc1 hc2 => ⟨(by show 1 ≤ sizeLine; decide), fun F hF => ⟨_, rfl, F, [(c, calm n)], rfl, .of upd_same, (fun p hp => ?_), (by show 1 < 64; decide), fun S LS hS hs1 hs2 hs3 => ?_⟩⟩⟩
    · rw [List.mem_singleton.mp hp]
      refine .of ?_
      rw [upd_ne (ne_of_none hc2 hF)]
      exact hc2
    · have nF : H F = none := k1.fresh hF
      have hFS : F ≠ S := ne_of_none upd_same hS
      have nS : H S = none := (k1.trans (.new hF)).fresh hS
      have cF : c ≠ F := ne_of_none hc2 hF
      have st : SpHeap P w Ps H F S [(c, calm n)] LS (upd (upd H1 F (.lst [.ref c])) S (SetTO P w S LS)) := by
        refine ⟨(k1.trans (.new hF)).trans (.new hS), ?_, fun p hp => ?_, upd_same, single_perm hs1 hs2 hs3⟩
        · rw [upd_ne hFS, upd_same]; rfl
        · rw [List.mem_singleton.mp hp]
          have e : upd H1 F (.lst [.ref c]) c = some (.tup ((calm n).map V.int)) := by rw [upd_ne cF]; exact hc2
          rw [upd_ne (ne_of_none e hS)]
          exact e
      have inZ : ∀ {R : List Tup} {k j : Nat}, SpAt n (M.map (·.2)) (R.map (·.2)) k j → ∀ t ∈ R, t.2 ∈ Zl := fun sp t ht =>
        sp.least (· ∈ Zl) hc (fun z m hz hm => by
          obtain ⟨m', hm', rfl⟩ := List.mem_map.mp hm
          exact (hZ z hz).2 m' hm') t.2 (List.mem_map.mpr ⟨t, ht, rfl⟩)
      have len : ∀ {R : List Tup} {k j : Nat}, SpAt n (M.map (·.2)) (R.map (·.2)) k j → R.length ≤ Zl.length := fun sp => by
        have := nodup_len (Z := Zl) sp.nd fun t ht => by
          obtain ⟨t', ht', rfl⟩ := List.mem_map.mp ht
          exact inZ sp t' ht'
        rw [List.length_map] at this
        exact this
      refine ⟨fun m σ H' => ∃ (k : Nat) (R LS : List Tup) (u v : Option V), m = Zl.length - k ∧ σ = [some (.int n), some (.ref ml), some (.int most), some (.ref F), some (.ref S), some (.int k), u, v] ∧ SpHeap P w Ps H F S R LS H' ∧ SpAt n (M.map (·.2)) (R.map (·.2)) k 0,
        ⟨_, 0, _, _, none, none, rfl, rfl, st, SpAt.start n _⟩, ?_⟩
      rintro m σ H' ⟨k, R, LS', u, v, rfl, rfl, sh, sp⟩
      have hlen := len sp
      refine ⟨_, rfl, _, rfl, F, refs R, rfl, .inl (.of sh.f), _, _, rfl, rfl, _, rfl, ?_⟩
      rw [refs_len]
      by_cases hk : k < R.length
      · rw [decide_eq_true (by omega : (k : Int) < (R.length : Int))]
        refine iteT ⟨_, rfl, _, _, rfl, rfl, true, ?_, iteT ⟨_, fun σ' H' z => z, ?_⟩⟩
        · show V.bl (decide _) = _
          rw [decide_eq_true (by omega)]
        · refine ⟨_, rfl, ml, rfl, ⟨_, sh.kp.l hml⟩, for_list (xs := refs M) (fun j σ' H'' => ∃ (R LS : List Tup) (u v : Option V), σ' = [some (.int n), some (.ref ml), some (.int most), some (.ref F), some (.ref S), some (.int k), u, v] ∧ SpHeap P w Ps H F S R LS H'' ∧ SpAt n (M.map (·.2)) (R.map (·.2)) k j ∧ k < R.length)
            ⟨R, LS', u, v, rfl, sh, sp, hk⟩ (fun j σ' H'' _ ⟨_, _, _, _, _, sh2, _⟩ => sh2.kp.l hml) ?_ ?_⟩
          · rintro j x σ' H2 hx ⟨R2, L2, u2, v2, rfl, sh2, sp2, hk2⟩
            obtain ⟨m, hm, rfl⟩ : ∃ m, M[j]? = some m ∧ x = .ref m.1 := by
              unfold refs at hx
              rw [List.getElem?_map] at hx
              cases e : M[j]? with
              | none => rw [e] at hx; cases hx
              | some m => rw [e] at hx; cases hx; exact ⟨m, rfl, rfl⟩
            obtain ⟨t, ht⟩ : ∃ t, R2[k]? = some t := ⟨_, List.getElem?_eq_getElem hk2⟩
            have mM := List.mem_of_getElem? hm
            have tR := List.mem_of_getElem? ht
            have oZ := hZ t.2 (inZ sp2 t tR)
            have ht2 : (R2.map (·.2))[k]? = some t.2 := by rw [List.getElem?_map, ht]; rfl
            have hm2 : (M.map (·.2))[j]? = some m.2 := by rw [List.getElem?_map, hm]; rfl
            refine ⟨_, rfl, _, rfl, F, refs R2, _, _, rfl, rfl, .of sh2.f, atI_nat (refs_get ht), _, rfl, t.1, m.1, t.2, m.2, rfl, .of (sh2.all t tR), .of (sh2.kp.tup (hM m mM)), by rw [oZ.1.1]; omega, fun x hx => by rw [(hMo m mM).1]; exact oZ.1.2.1 x hx, fun p H3 k3 np hp => ?_⟩
            have sh3 := sh2.kp2 k3
            refine ⟨_, rfl, _, rfl, p, S, after t.2 m.2, L2, rfl, rfl, .of hp, sh3.s, sh3.ls, _, rfl, ?_⟩
            by_cases hmem : after t.2 m.2 ∈ L2.map (·.2)
            · show if (!decide _) = true then _ else _
              rw [decide_eq_true hmem]
              exact iteF ⟨R2, L2, _, _, rfl, sh3, sp2.had ht2 hm2 ((sh3.mem _).mp hmem), hk2⟩
            · show if (!decide _) = true then _ else _
              rw [decide_eq_false hmem]
              have hno : after t.2 m.2 ∉ R2.map (·.2) := fun z => hmem ((sh3.mem _).mpr z)
              have l2 := len sp2
              have l3 : L2.length = R2.length := sh3.perm.length_eq
              refine iteT ⟨_, rfl, ⟨S, L2, rfl, sh3.s, sh3.ls⟩, _, rfl, S, p, after t.2 m.2, L2, rfl, rfl, .of hp, sh3.s, sh3.ls, by omega, fun L4 _ e2 => ?_⟩
              have sh4 := sh3.add (p := p) nF nS hFS hp (e2 hmem)
              have f4 : upd H3 S (SetTO P w S L4) F = some (.lst (refs R2)) := by rw [upd_ne hFS]; exact sh3.f
              refine ⟨_, rfl, .inl ⟨rfl, _, .of f4⟩, _, rfl, F, refs R2, .ref p, rfl, rfl, f4, by rw [refs_len]; exact small1000 (by omega), ?_⟩
              refine ⟨R2 ++ [(p, after t.2 m.2)], L4, _, _, rfl, sh4, ?_, by rw [List.length_append]; omega⟩
              rw [List.map_append]
              exact sp2.add ht2 hm2 hno
          · rintro σ' H2 ⟨R2, L2, u2, v2, rfl, sh2, sp2, hk2⟩
            have l2 := len sp2
            refine ⟨_, rfl, _, _, rfl, rfl, ?_⟩
            refine ⟨Zl.length - (k + 1), by omega, k + 1, R2, L2, u2, v2, rfl, rfl, sh2, ?_⟩
            rw [refs_len] at sp2
            have sp3 := sp2
            rw [← List.length_map (f := (·.2)) (as := M)] at sp3
            exact sp3.next
      · rw [decide_eq_false (by omega)]
        refine iteF ⟨_, rfl, iteF ⟨_, rfl, q F R H' sh.kp nF sh.f sh.all (sp.ended (by rw [List.length_map]; omega))⟩⟩
end
end U
set_option maxHeartbeats 2000000
namespace U
open PySem PySem.Spec PyProof.Rows L2 GxR Bx Gx Ex Sx
/-! int tuples as data -/
def dI (t : List Int) : List PyData := t.map PyData.int
def dT (t : List Int) : PyData := .tuple (dI t)
theorem eqvAll_I : ∀ s t : List Int, PyData.eqvAll (dI s) (dI t) = decide (s = t)
  | [], [] => by simp [dI, PyData.eqvAll]
  | [], y :: t => by simp [dI, PyData.eqvAll]
  | x :: s, [] => by simp [dI, PyData.eqvAll]
  | x :: s, y :: t => by
    have ih := eqvAll_I s t
    show PyData.eqvAll (.int x :: dI s) (.int y :: dI t) = _
    simp only [PyData.eqvAll, PyData.eqv, ih, List.cons.injEq, Bool.decide_and]
    rfl
theorem eqv_T (s t : List Int) : PyData.eqv (dT s) (dT t) = decide (s = t) := by
  unfold dT
  simp only [PyData.eqv]
  exact eqvAll_I s t
theorem layAll_I : ∀ t : List Int, PyData.canLayAll0 (dI t) = true
  | [] => by simp [dI, PyData.canLayAll0]
  | x :: t => by
    show PyData.canLayAll0 (.int x :: dI t) = true
    simp only [PyData.canLayAll0, PyData.canLay0, layAll_I t, Bool.and_self]
theorem depthAll_I : ∀ t : List Int, PyData.depthAll (dI t) ≤ 0
  | [] => by simp [dI, PyData.depthAll]
  | x :: t => by
    have ih := depthAll_I t
    show PyData.depthAll (.int x :: dI t) ≤ 0
    simp only [PyData.depthAll, PyData.depth]
    omega
theorem lay_T (t : List Int) : (dT t).canLay0 = true := by
  unfold dT
  simp only [PyData.canLay0]
  exact layAll_I t
theorem depth_T (t : List Int) : (dT t).depth ≤ 1 := by
  have := depthAll_I t
  unfold dT
  simp only [PyData.depth]
  omega
theorem shaped_T (t : List Int) : SeqAt.shaped (dT t) = true := by
  have := depth_T t
  unfold SeqAt.shaped
  rw [lay_T, decide_eq_true (by omega : (dT t).depth ≤ 64)]
  rfl
theorem layAll_T : ∀ L : List (List Int), PyData.canLayAll0 (L.map dT) = true
  | [] => by simp [PyData.canLayAll0]
  | x :: t => by
    rw [List.map_cons]
    simp only [PyData.canLayAll0, lay_T, layAll_T t, Bool.and_self]
theorem depthAll_T : ∀ L : List (List Int), PyData.depthAll (L.map dT) ≤ 1
  | [] => by simp [PyData.depthAll]
  | x :: t => by
    have ih := depthAll_T t
    have := depth_T x
    rw [List.map_cons]
    simp only [PyData.depthAll]
    omega
theorem shaped_L (L : List (List Int)) : SeqAt.shaped (.list (L.map dT)) = true := by
  have := depthAll_T L
  have h : PyData.depth (.list (L.map dT)) ≤ 64 := by simp only [PyData.depth]; omega
  have h2 : PyData.canLay0 (.list (L.map dT)) = true := by simp only [PyData.canLay0]; exact layAll_T L
  unfold SeqAt.shaped
  rw [h2, decide_eq_true h]
  rfl
theorem any_T (k : List Int) (L : List (List Int)) : ((L.map dT).any fun z => PyData.eqv z (dT k)) = decide (k ∈ L) := by
  induction L with
  | nil => rfl
  | cons x L ih =>
    rw [List.map_cons, List.any_cons, ih, eqv_T]
    by_cases h : x = k
    · subst h
      have e : decide (x ∈ x :: L) = true := decide_eq_true List.mem_cons_self
      rw [e, decide_eq_true rfl]
      rfl
    · rw [decide_eq_false h, Bool.false_or]
      exact decide_eq_decide.mpr ⟨fun z => List.mem_cons_of_mem _ z, fun z => by
        rcases List.mem_cons.mp z with e | e
        · exact absurd e.symm h
        · exact e⟩
theorem dp_I {K : PySem.W.Frag} {H : Hp} : ∀ t : List Int, DpAll K H (t.map V.int) (dI t)
  | [] => .nil
  | x :: t => .cons (.int x) (dp_I t)
theorem dp_T {K : PySem.W.Frag} {H : Hp} {p : Addr} {t : List Int} (h : SqT K H p (t.map V.int)) : Dp K H (.ref p) (dT t) := .tup h (dp_I t)
theorem dp_Ts {K : PySem.W.Frag} {H : Hp} : ∀ {L : List Tup}, (∀ p ∈ L, SqT K H p.1 (p.2.map V.int)) → DpAll K H (refs L) ((L.map (·.2)).map dT)
  | [], _ => .nil
  | p :: L, h => .cons (dp_T (h p List.mem_cons_self)) (dp_Ts fun q hq => h q (List.mem_cons_of_mem _ hq))
/-- t in a list or a tuple of int tuples -/
def rInTT (K : PySem.W.Frag) (neg : Bool) : R2 := fun x y H Q => ∃ (b a : Addr) (k : List Int) (L : List Tup), x = .ref b ∧ y = .ref a ∧ SqT K H b (k.map V.int) ∧ (SqL K H a (refs L) ∨ SqT K H a (refs L)) ∧ (∀ p ∈ L, SqT K H p.1 (p.2.map V.int)) ∧
  Q (.bl (if neg then !decide (k ∈ L.map (·.2)) else decide (k ∈ L.map (·.2)))) H
theorem op_inTT {X : Cx} (neg : Bool) (hu : X.A.units + 65 < cLine) : OpR X (compareOp (if neg then .NotIn else .In)) (rInTT X.K neg) := by
  intro pins s σ H x y v u Q I rx ry h
  obtain ⟨b, a, k, L, rfl, rfl, hb, ha, hL, q⟩ := h
  rcases ha with ha | ha
  · cases neg with
    | true => exact op_notInD hu pins s σ H _ _ v u Q I rx ry ⟨dT k, _, dp_T hb, .lst ha (dp_Ts hL), shaped_T k, shaped_L _, by rw [any_T]; exact q⟩
    | false => exact op_inD hu pins s σ H _ _ v u Q I rx ry ⟨dT k, _, dp_T hb, .lst ha (dp_Ts hL), shaped_T k, shaped_L _, by rw [any_T]; exact q⟩
  · obtain ⟨as, r1⟩ := Dp.reads I (dT k) _ v (dp_T hb) rx
    obtain ⟨bs, r2⟩ := Dp.reads I (.tuple ((L.map (·.2)).map dT)) _ u (.tup ha (dp_Ts hL)) ry
    have hd := depthAll_T (L.map (·.2))
    have hd2 := depth_T k
    have hm : min (PyData.depthAll ((L.map (·.2)).map dT)) (dT k).depth ≤ 1 := Nat.le_trans (Nat.min_le_right _ _) hd2
    cases neg with
    | true => exact SeqAt.notIn_tuple_reads r2 r1 (layAll_T _) (lay_T k) (by omega) ⟨.bl _, H, I, rfl, by rw [any_T]; exact q⟩
    | false => exact SeqAt.in_tuple_reads r2 r1 (layAll_T _) (lay_T k) (by omega) ⟨.bl _, H, I, rfl, by rw [any_T]; exact q⟩
theorem pe_inTT (K : PySem.W.Frag) {X : Cx} {a b : Expr} {ta tb : TE} {pos : Pos} (ha : PE X a ta) (hb : PE X b tb) (hu : X.A.units + 65 < cLine) (hK : X.K = K := by rfl) (hm : behindInMarks .In b = false := by rfl) : PE X (.Compare a [.In] [b] pos) (tOp (rInTT K false) ta tb) := by
  subst hK
  exact pe_cmpR (op_inTT false hu) ha hb hm
theorem pe_notInTT (K : PySem.W.Frag) {X : Cx} {a b : Expr} {ta tb : TE} {pos : Pos} (ha : PE X a ta) (hb : PE X b tb) (hu : X.A.units + 65 < cLine) (hK : X.K = K := by rfl) (hm : behindInMarks .NotIn b = false := by rfl) : PE X (.Compare a [.NotIn] [b] pos) (tOp (rInTT K true) ta tb) := by
  subst hK
  exact pe_cmpR (op_inTT true hu) ha hb hm
theorem pt_inTT (K : PySem.W.Frag) {X : Cx} {a b : Expr} {ta tb : TE} {pos : Pos} (ha : PE X a ta) (hb : PE X b tb) (hu : X.A.units + 65 < cLine) (hK : X.K = K := by rfl) (hm : behindInMarks .In b = false := by rfl) : PT X (.Compare a [.In] [b] pos) (tTest (tOp (rInTT K false) ta tb)) := by
  subst hK
  exact pt_cmpR (op_inTT false hu) ha hb hm
theorem pt_notInTT (K : PySem.W.Frag) {X : Cx} {a b : Expr} {ta tb : TE} {pos : Pos} (ha : PE X a ta) (hb : PE X b tb) (hu : X.A.units + 65 < cLine) (hK : X.K = K := by rfl) (hm : behindInMarks .NotIn b = false := by rfl) : PT X (.Compare a [.NotIn] [b] pos) (tTest (tOp (rInTT K true) ta tb)) := by
  subst hK
  exact pt_cmpR (op_inTT true hu) ha hb hm
section
variable {P : Program} {w : World} {K : PySem.W.Frag} {mg : Str → Option Value} {base : Heap} {Ps : List Addr}
/-! grown_by -/
abbrev vals (L : List Tup) : List (List Int) := L.map (·.2)
/-- what grown_by has: the makers G, what they make R -/
structure Grown (n : Nat) (M G R : List (List Int)) : Prop where
  sp : Spread n G R
  sub : ∀ g ∈ G, g ∈ M
  has : ∀ m ∈ M, m ∈ R
theorem order_ext {n : Nat} {t : List Int} (h : Order n t) : after (calm n) t = t := by
  unfold after calm
  rw [List.map_map]
  refine List.ext_getElem? fun i => ?_
  rw [List.getElem?_map]
  by_cases hi : i < n
  · rw [List.getElem?_eq_getElem (by rw [List.length_range]; exact hi), List.getElem_range]
    have hi2 : i < t.length := by rw [h.1]; exact hi
    show some (t.getD (i : Int).toNat 0) = t[i]?
    rw [Int.toNat_natCast, List.getD_eq_getElem?_getD, List.getElem?_eq_getElem hi2]
    rfl
  · rw [List.getElem?_eq_none (by rw [List.length_range]; omega), List.getElem?_eq_none (by rw [h.1]; omega)]
    rfl
theorem calm_order (n : Nat) : Order n (calm n) := by
  refine ⟨by unfold calm; simp, fun x hx => ?_, ?_⟩
  · unfold calm at hx
    obtain ⟨i, hi, rfl⟩ := List.mem_map.mp hx
    have := List.mem_range.mp hi
    omega
  · unfold calm
    exact List.Pairwise.map _ (fun a b h => by intro z; exact h (by omega)) List.nodup_range
theorem Spread.grow {n : Nat} {G G' R R' : List (List Int)} (a : Spread n G R) (b : Spread n G' R') (h : ∀ g ∈ G, g ∈ G') : ∀ t ∈ R, t ∈ R' :=
  a.least (· ∈ R') b.calm fun z m hz hm => b.step z hz m (h m hm)
theorem Spread.none (n : Nat) : Spread n [] [U.calm n] :=
  ⟨List.nodup_cons.mpr ⟨List.not_mem_nil, List.nodup_nil⟩, List.mem_cons_self, (fun t _ m h => by cases h), fun Z z0 _ t h => by rw [List.mem_singleton.mp h]; exact z0⟩
theorem sc_grown_by : FnScope ["many", "turnings", "most", "found", "makers", "turning"] ["many", "turnings", "most"] (defScope s_grown_by) := ⟨rfl, rfl, rfl, by decide +kernel, rfl, by decide +kernel, by decide +kernel⟩
def spGrown (K : PySem.W.Frag) (Ps : List Addr) : Sp := fun vs H Q _ => ∃ (n : Nat) (ta : Addr) (most : Int) (M : List Tup) (Zl : List (List Int)), vs = [.int n, .ref ta, .int most] ∧ n ≤ 8 ∧ H ta = some (.tup (refs M)) ∧ AllT H M ∧ M.length ≤ 900 ∧ (∀ m ∈ M, Order n m.2) ∧
  calm n ∈ Zl ∧ (∀ z ∈ Zl, Order n z ∧ ∀ m ∈ M, after z m.2 ∈ Zl) ∧ Zl.length ≤ 62 ∧ (Zl.length : Int) ≤ most ∧
  ∀ p g f G R H', Kp Ps H H' → H' p = some (.tup [.ref g, .ref f]) → H' g = some (.lst (refs G)) → AllT H' G → H' f = some (.lst (refs R)) → AllT H' R → Grown n (M.map (·.2)) (G.map (·.2)) (R.map (·.2)) → Q (.ref p) H'
theorem ok_grown_by (D : Dfn K mg "grown_by" s_grown_by ["many", "turnings", "most"]) (B : BN mg) (o1 : Okd P w K mg base CX0 1 "calm_of" ["many"] (spCalm Ps)) (o2 : Okd P w K mg base CX0 2 "spread_by" ["many", "makers", "most"] (spSpread K Ps)) :
    Okd P w K mg base CX0 3 "grown_by" ["many", "turnings", "most"] (spGrown K Ps) := by
  refine D.ok sc_grown_by (fun vs H Q E h => ?_) (fun f cdv A outer s H vs Q E hr h => ?_)
  · obtain ⟨n, ml, most, M, Zl, rfl, _⟩ := h; rfl
  · obtain ⟨n, ta, most, M, Zl, rfl, hn, hta, hM, hMn, hMo, hc, hZ, hz1, hz2, q⟩ := h
    have nd := sc_grown_by.nd
    refine ⟨_, pss_cons (ps_set (i := 3) nd rfl (.inl rfl) (pe_lst (pa_cons (pe_do o1 (hr.mono (by decide)) (pa_cons (pv 0) pa_nil)) pa_nil)))
      (pss_cons (ps_set (i := 4) nd rfl (.inl rfl) (pe_lst pa_nil))
      (pss_cons (ps_for PassesOwn.never rfl (pi_tup (pv 1)) (pg_name (i := 5) nd rfl (.inl rfl))
        (pss_one (ps_if (PW.pt (pw_and (pt_cmpR op_le (pe_len K B.len (pv 3)) (pv 2) (nomark _)) (pw_and1 (pt_notInTT K (pv 5) (pv 3) (u65 hr)))))
          (pss_cons (ps_expr (pe_append K (pv 4) (pv 5)))
          (pss_one (ps_set (i := 3) nd rfl (.inl rfl) (pe_do o2 hr (pa_cons (pv 0) (pa_cons (pv 4) (pa_cons (pv 2) pa_nil))))))) pss_nil)))
      (pss_one (ps_ret (pe_tup (pa_cons (pv 4) (pa_cons (pv 3) pa_nil))))))), ?_⟩
    refine ⟨_, rfl, n, rfl, hn, fun c H1 k1 hc1 hc2 => ⟨(by show 1 ≤ sizeLine; decide), fun F hF => ⟨(by show 0 ≤ sizeLine; decide), fun ml hml => ?_⟩⟩⟩
    have nF : H F = none := k1.fresh hF
    have kF : Kp Ps H (upd H1 F (.lst [.ref c])) := k1.trans (.new hF)
    have nml : H ml = none := kF.fresh hml
    have hFm : F ≠ ml := ne_of_none upd_same hml
    refine ⟨_, rfl, ta, rfl, ⟨_, (kF.trans (.new hml)).t (.of hta)⟩, for_tup (xs := refs M) (fun j σ' H' => ∃ (G R : List Tup) (fl : Addr) (u : Option V), σ' = [some (.int n), some (.ref ta), some (.int most), some (.ref fl), some (.ref ml), u] ∧ fl ≠ ml ∧ Kp Ps H H' ∧ H' ml = some (.lst (refs G)) ∧ AllT H' G ∧ H' fl = some (.lst (refs R)) ∧ AllT H' R ∧
        Spread n (vals G) (vals R) ∧ (∀ g ∈ G, g ∈ M) ∧ G.length ≤ j ∧ ∀ m ∈ M.take j, m.2 ∈ vals R) ⟨[], [(c, calm n)], F, none, rfl, hFm, kF.trans (.new hml), upd_same, (fun p hp => by cases hp), ?_, fun p hp => ?_, Spread.none n, (fun p hp => by cases hp), Nat.le_refl _, (fun p hp => by cases hp)⟩
        (fun j σ' H' _ ⟨G, R, fl, u, _, _, kp, _⟩ => kp.t (.of hta)) ?_ ?_⟩
    · rw [upd_ne hFm, upd_same]; rfl
    · rw [List.mem_singleton.mp hp]
      have e : upd H1 F (.lst [.ref c]) c = some (.tup ((calm n).map V.int)) := by rw [upd_ne (ne_of_none hc2 hF)]; exact hc2
      rw [upd_ne (ne_of_none e hml)]
      exact e
    · rintro j x σ' H' hx ⟨G, R, fl, u, rfl, hne, kp, hG, aG, hR, aR, sp, sub, gl, has⟩
      obtain ⟨m, hm, rfl⟩ : ∃ m, M[j]? = some m ∧ x = .ref m.1 := by
        unfold refs at hx
        rw [List.getElem?_map] at hx
        cases e : M[j]? with
        | none => rw [e] at hx; cases hx
        | some m => rw [e] at hx; cases hx; exact ⟨m, rfl, rfl⟩
      have mM := List.mem_of_getElem? hm
      have inZ : ∀ {G R : List Tup}, (∀ g ∈ G, g ∈ M) → Spread n (G.map (·.2)) (R.map (·.2)) → ∀ t ∈ R.map (·.2), t ∈ Zl := fun sub sp t ht =>
        sp.least (· ∈ Zl) hc (fun z g hz hg => by
          obtain ⟨g', hg', rfl⟩ := List.mem_map.mp hg
          exact (hZ z hz).2 g' (sub g' hg')) t ht
      have hlen : R.length ≤ Zl.length := by
        have := nodup_len sp.nd (inZ sub sp)
        rw [List.length_map] at this
        exact this
      refine ⟨_, rfl, fl, refs R, rfl, .inl (.of hR), _, rfl, _, _, rfl, rfl, _, rfl, ?_⟩
      rw [refs_len, decide_eq_true (by omega)]
      refine iteT ⟨_, rfl, _, rfl, m.1, fl, m.2, R, rfl, rfl, .of (kp.tup (hM m mM)), .inl (.of hR), fun p hp => .of (aR p hp), _, rfl, ?_⟩
      by_cases hmem : m.2 ∈ R.map (·.2)
      · show if (!decide _) = true then _ else _
        rw [decide_eq_true hmem]
        refine iteF ⟨G, R, fl, _, rfl, hne, kp, hG, aG, hR, aR, sp, sub, by omega, fun z hz => ?_⟩
        rw [take_snoc hm] at hz
        rcases List.mem_append.mp hz with e | e
        · exact has z e
        · rw [List.mem_singleton.mp e]; exact hmem
      · show if (!decide _) = true then _ else _
        rw [decide_eq_false hmem]
        have hj := len_of hm
        refine iteT ⟨_, rfl, .inl ⟨rfl, _, .of hG⟩, _, rfl, ml, refs G, .ref m.1, rfl, rfl, hG, by rw [refs_len]; exact small1000 (by omega), ?_⟩
        have k2 : Kp Ps H (upd H' ml (.lst (refs G ++ [.ref m.1]))) := kp.mut nml fun ps z => by rw [hG] at z; cases z
        have eG : refs G ++ [V.ref m.1] = refs (G ++ [m]) := by unfold refs; rw [List.map_append]; rfl
        rw [eG] at k2 ⊢
        have sub2 : ∀ g ∈ G ++ [m], g ∈ M := fun g hg => by
          rcases List.mem_append.mp hg with e | e
          · exact sub g e
          · rw [List.mem_singleton.mp e]; exact mM
        refine ⟨_, rfl, _, rfl, _, rfl, n, ml, most, G ++ [m], Zl, rfl, hn, .of upd_same, fun g hg => k2.tup (hM g (sub2 g hg)), by rw [List.length_append, List.length_singleton]; omega, fun g hg => hMo g (sub2 g hg), hc, fun z hz => ⟨(hZ z hz).1, fun g hg => (hZ z hz).2 g (sub2 g hg)⟩, hz1, hz2, fun p R2 H2 k3 np hp aR2 sp2 => ?_⟩
        have kp2 := k2.trans k3
        refine ⟨G ++ [m], R2, p, _, rfl, Ne.symm (ne_of_none upd_same np), kp2, k3.lst upd_same, fun g hg => kp2.tup (hM g (sub2 g hg)), hp, aR2, sp2, sub2, by rw [List.length_append, List.length_singleton]; omega, fun z hz => ?_⟩
        rw [take_snoc hm] at hz
        rcases List.mem_append.mp hz with e | e
        · exact sp.grow sp2 (fun g hg => by
            rw [List.map_append]
            exact List.mem_append_left _ hg) _ (has z e)
        · rw [List.mem_singleton.mp e]
          have e2 := sp2.step _ sp2.calm m.2 (by rw [List.map_append]; exact List.mem_append_right _ List.mem_cons_self)
          rw [order_ext (hMo m mM)] at e2
          exact e2
    · rintro σ' H' ⟨G, R, fl, u, rfl, hne, kp, hG, aG, hR, aR, sp, sub, gl, has⟩
      rw [refs_len, List.take_length] at has
      refine ⟨_, rfl, _, rfl, (by show 2 ≤ sizeLine; decide), fun p np => ?_⟩
      have k2 : Kp Ps H' (upd H' p (.tup [.ref ml, .ref fl])) := .new np
      refine q p ml fl G R _ (kp.trans k2) upd_same (k2.lst hG) (aG.kp k2) (k2.lst hR) (aR.kp k2) ⟨sp, fun g hg => ?_, fun m hm => ?_⟩
      · obtain ⟨g', hg', rfl⟩ := List.mem_map.mp hg
        exact List.mem_map.mpr ⟨g', sub g' hg', rfl⟩
      · obtain ⟨m', hm', rfl⟩ := List.mem_map.mp hm
        exact has m' hm'
end
end U
set_option maxHeartbeats 2000000
namespace U
open PySem PySem.Spec PyProof.Rows L2 GxR Bx Gx Ex Sx
/-! good tables -/
/-- turnings of n seats: rising, the calm one among them, two behind one another -/
structure Turns (n : Nat) (M : List (List Int)) : Prop where
  n1 : 1 ≤ n
  n8 : n ≤ 8
  ord : ∀ m ∈ M, Order n m
  calm : calm n ∈ M
  shut : ∀ a ∈ M, ∀ b ∈ M, after a b ∈ M
  nd : M.Nodup
  rise : Rises M
section
variable {P : Program} {w : World} {K : PySem.W.Frag} {mg : Str → Option Value} {base : Heap} {Ps : List Addr}
theorem Turns.ne {n : Nat} {M : List (List Int)} (t : Turns n M) : ∃ m, M[0]? = some m := by
  cases M with
  | nil => cases t.calm
  | cons m M => exact ⟨m, rfl⟩
theorem Grown.same {n : Nat} {M G R : List (List Int)} (t : Turns n M) (g : Grown n M G R) : R.length = M.length := by
  refine Nat.le_antisymm (nodup_len g.sp.nd ?_) (nodup_len t.nd g.has)
  exact g.sp.least (· ∈ M) t.calm fun z m hz hm => t.shut z hz m (g.sub m hm)
theorem sc_are_closed : FnScope ["turnings", "_", "found"] ["turnings"] (defScope s_are_closed) := ⟨rfl, rfl, rfl, by decide +kernel, rfl, by decide +kernel, by decide +kernel⟩
def spClosed (Ps : List Addr) : Sp := fun vs H Q _ => ∃ (a : Addr) (n : Nat) (L : List Tup), vs = [.ref a] ∧ H a = some (.tup (refs L)) ∧ AllT H L ∧ Turns n (vals L) ∧ L.length ≤ 60 ∧ ∀ H', Kp Ps H H' → Q (.bl true) H'
theorem vals_get {L : List Tup} {i : Nat} {m : List Int} (h : (vals L)[i]? = some m) : ∃ p, L[i]? = some p ∧ p.2 = m := by
  rw [List.getElem?_map] at h
  cases e : L[i]? with
  | none => rw [e] at h; cases h
  | some p => rw [e] at h; cases h; exact ⟨p, rfl, rfl⟩
theorem vals_mem {L : List Tup} {p : Tup} (h : p ∈ L) : p.2 ∈ vals L := List.mem_map.mpr ⟨p, h, rfl⟩
theorem ok_are_closed (D : Dfn K mg "are_closed" s_are_closed ["turnings"]) (B : BN mg) (o1 : Okd P w K mg base CX0 3 "grown_by" ["many", "turnings", "most"] (spGrown K Ps)) : Okd P w K mg base CX0 4 "are_closed" ["turnings"] (spClosed Ps) := by
  refine D.ok sc_are_closed (fun vs H Q E h => ?_) (fun f cdv A outer s H vs Q E hr h => ?_)
  · obtain ⟨a, n, L, rfl, _⟩ := h; rfl
  · obtain ⟨a, n, L, rfl, ha, hL, T, hl, q⟩ := h
    have nd := sc_are_closed.nd
    refine ⟨_, pss_cons (ps_asg (pe_do o1 hr (pa_cons (pe_len K B.len (pe_ixT K (pv 0) pe_int)) (pa_cons (pv 0) (pa_cons (pe_len K B.len (pv 0)) pa_nil))))
        (pg_tup rfl (pgs_cons (pg_name (i := 1) nd rfl (.inl rfl)) (pgs_cons (pg_name (i := 2) nd rfl (.inl rfl)) pgs_nil))))
      (pss_one (ps_ret (pe_cmpR op_eq (pe_len K B.len (pv 2)) (pe_len K B.len (pv 0)) (nomark _)))), ?_⟩
    obtain ⟨m, hm⟩ := T.ne
    obtain ⟨p, hp, rfl⟩ := vals_get hm
    have op := T.ord p.2 (List.mem_of_getElem? hm)
    have lp : ((p.2.map V.int).length : Int) = (n : Int) := by rw [List.length_map, op.1]
    refine ⟨_, rfl, a, refs L, 0, _, rfl, rfl, .of ha, atI_nat (j := 0) (refs_get hp), p.1, _, rfl, .inr (.of (hL p (List.mem_of_getElem? hp))), _, rfl, _, rfl, a, refs L, rfl, .inr (.of ha), ?_⟩
    rw [lp, refs_len]
    have hlv : (vals L).length = L.length := List.length_map ..
    refine ⟨n, a, L.length, L, vals L, rfl, T.n8, ha, hL, by omega, fun m hm => T.ord _ (vals_mem hm), T.calm, fun z hz => ⟨T.ord z hz, fun m hm => T.shut z hz _ (vals_mem hm)⟩, by omega, by omega, fun p g f G R H1 k1 hp hg aG hf aR gr => ?_⟩
    refine ⟨p, _, rfl, .of hp, rfl, _, _, rfl, _, _, rfl, rfl, _, rfl, f, refs R, rfl, .inl (.of hf), _, rfl, a, refs L, rfl, .inr (k1.t (.of ha)), rfl, ?_⟩
    have e : (vals R).length = (vals L).length := gr.same T
    have hr2 : (vals R).length = R.length := List.length_map ..
    rw [hr2, hlv] at e
    rw [refs_len, refs_len, e, decide_eq_true rfl]
    exact q H1 k1
/-! defs that raise -/
structure OkX (P : Program) (w : World) (K : PySem.W.Frag) (mg : Str → Option Value) (base : Heap) (k : Nat) (x : Str) (ps : List Str) (sp : Sp) : Prop where
  ex : ∃ f fd, mg x = some (.ref f) ∧ PySem.W.keepIn K (.ref f) = true ∧ Binds K fd ps [] ∧ FnOk P w K mg base (L2.CX P w) k f fd ps sp
theorem Dfn.okX {x : Str} {st : Stmt} {N ps : List Str} {k : Nat} {sp : Sp} (D : Dfn K mg x st ps) (S : FnScope N ps (defScope st)) (len : ∀ vs H Q E, sp vs H Q E → vs.length = ps.length)
    (hbody : ∀ (f : Addr) (cdv : Value) (A : Around) (outer : List Env) (s : Shared) (H : Hp) (vs : List V) (Q : VK) (E : XK), Room k (A.deeper (envOfC x (defScope st) s.heap.objs.size f cdv)) → sp vs H Q E →
      ∃ t, PSs (cxOf (L2.CX P w) P w K mg base N x (defScope st) f cdv A outer s H E) (defBody st) t ∧ t { nx := fun _ H' => Q .non H', rt := Q } (start N vs) H) : OkX P w K mg base (k + 1) x ps sp := by
  obtain ⟨f, fd, g, F, b⟩ := D.ex
  exact ⟨f, fd, g, F.kp, b, F.okX S len (hbody f)⟩
theorem OkX.mono {k j : Nat} {x : Str} {ps : List Str} {sp : Sp} (o : OkX P w K mg base j x ps sp) (h : j ≤ k) : OkX P w K mg base k x ps sp := by
  obtain ⟨f, fd, g, kp, b, F⟩ := o.ex
  exact ⟨f, fd, g, kp, b, F.mono h⟩
theorem pe_doX {X : Cx} {W : WX} {ps : List Str} {sp : Sp} {k : Nat} {x : Str} {e : Expr} {es : List Expr} {t : TA} {p pos : Pos} (o : OkX X.prog X.w X.K X.mg X.base k x ps sp) (hr : Room k X.A) (tk : Takes X W) (ha : PA X (e :: es) t) (hg : Gl X x := by rfl) (hdb : (x == ("__debug__" : Str)) = false := by decide)
    (he : starEach (e :: es) X.env = (false, eval e X.env) :: starEach es X.env := by rfl) (hpl : (backTo pos (starEach es X.env)).any (·.1) = false := by rfl) :
    PE X (.Call (.Name x p) (e :: es) [] pos) (tCallS sp (WE W) t) := by
  obtain ⟨f, fd, g, kp, b, F⟩ := o.ex
  exact pe_callS F hr hg g kp b (fun σ => passAt tk σ) ha hdb he hpl
/-! exceptions with a field -/
theorem pe_up {X : Cx} {e : Expr} {te : TE} (h : PE X e te) : PE X e (fun σ H Q => ∃ R : VK, te σ H R ∧ ∀ v H1, R v H1 → Q v H1) :=
  ⟨fun pins s σ H Q I ⟨R, hR, m⟩ => thn (h.run pins s σ H R I hR) fun u s1 ⟨v, H1, I1, r1, q⟩ => ⟨v, H1, I1, r1, m v H1 q⟩⟩
def spIni (C : Addr) (f : Str) : Sp := fun vs H Q _ => ∃ (a : Addr) (v : V), vs = [.ref a, v] ∧ H a = some (exo a C none) ∧ ∀ dx, H dx = none → dx ≠ a → Q .non (upd (upd H dx (exd dx [(f, v)])) a (exo a C (some dx)))
structure ExK (P : Program) (w : World) (K : PySem.W.Frag) (mg : Str → Option Value) (base : Heap) (x f : Str) (C : Addr) : Prop where
  T : OexC K C
  ini : ∃ fI fd, PySem.W.findIn K (.ref C) "__init__" = some (some (.ref fI)) ∧ PySem.W.typeIn K (.ref fI) = some (.type "function") ∧ Binds K fd ["self", f] [] ∧ FnOk P w K mg base CX0 1 fI fd ["self", f] (spIni C f)
  g : mg x = some (.ref C)
theorem pmk_ex {X : Cx} {x f : Str} {C : Addr} {e : Expr} {te : TE} {p pos : Pos} (E : ExK X.prog X.w X.K X.mg X.base x f C) (hr : Room 2 X.A) (he : PE X e te) (hg : Gl X x := by rfl) (hdb : (x == ("__debug__" : Str)) = false := by decide)
    (hs : starEach [e] X.env = (false, eval e X.env) :: starEach [] X.env := by rfl) : L2.PMk X (.Call (.Name x p) [e] [] pos) (fun σ H Q => te σ H fun v H1 => ∀ d, H1 d = none → Q (.ref C) (some d) (upd H1 d (.xd [(f, v)]))) := by
  intro pins s σ H Q I h
  obtain ⟨fI, fd, h1, h2, h3, h4⟩ := E.ini
  refine pmk_oex (dvs := []) (ds := []) E.T h1 h2 h4 hr h3 .nil pass0 hg E.g (pa_cons (pe_up he) pa_nil hs) hdb hs rfl pins s σ H Q I ?_
  refine ⟨_, h, fun v H1 q => ⟨(by show 1 ≤ 1000; decide), fun a na => ⟨a, v, rfl, upd_same, fun dx ndx ne => ⟨rfl, dx, [(f, v)], upd_same, ?_, ?_, ?_⟩⟩⟩⟩
  · rw [upd_ne ne, upd_same]
  · rw [upd_ne ne] at ndx
    exact ndx
  · rw [upd_ne ne] at ndx
    have e : upd (del (upd (upd (upd H1 a (exo a C none)) dx (exd dx [(f, v)])) a (exo a C (some dx))) a) dx (.xd [(f, v)]) = upd H1 dx (.xd [(f, v)]) := by
      funext b
      by_cases hb : b = dx
      · subst hb; rw [upd_same, upd_same]
      · rw [upd_ne hb, upd_ne hb]
        by_cases ha : b = a
        · subst ha; rw [del_same, na]
        · rw [del_ne ha, upd_ne ha, upd_ne hb, upd_ne ha]
    rw [e]
    exact q dx ndx
theorem ps_rz {X : Cx} {W : WX} {x f : Str} {C : Addr} {e : Expr} {te : TE} {p pos pos' : Pos} (E : ExK X.prog X.w X.K X.mg X.base x f C) (hr : Room 2 X.A) (tk : Takes X W) (he : PE X e te) (hc : X.calm = true := by rfl) (hg : Gl X x := by rfl) (hdb : (x == ("__debug__" : Str)) = false := by decide)
    (hs : starEach [e] X.env = (false, eval e X.env) :: starEach [] X.env := by rfl) : PS X (.Raise (some (.Call (.Name x p) [e] [] pos)) none pos') (fun _ σ H => te σ H fun v H1 => ∀ d, H1 d = none → W (.ref C) (some d) σ (upd H1 d (.xd [(f, v)]))) :=
  L2.ps_raise hc tk (pmk_ex E hr he hg hdb hs)
end
end U
set_option maxHeartbeats 2000000
namespace U
open PySem PySem.Spec PyProof.Rows L2 GxR Bx Gx Ex Sx
/-- a table at t: its turnings at a -/
structure Tab (H : Hp) (t a : Addr) (f n : Nat) (L : List Tup) : Prop where
  t : H t = some (.tup [.int f, .ref a])
  a : H a = some (.tup (refs L))
  all : AllT H L
  T : Turns n (vals L)
  f2 : 2 ≤ f
  f9 : f ≤ 9
  st : f ^ n ≤ 729
  few : L.length ≤ 60
theorem Tab.kp {Ps : List Addr} {H H1 : Hp} {t a : Addr} {f n : Nat} {L : List Tup} (k : Kp Ps H H1) (h : Tab H t a f n L) : Tab H1 t a f n L :=
  ⟨k.tup h.t, k.tup h.a, h.all.kp k, h.T, h.f2, h.f9, h.st, h.few⟩
theorem ad_tups {H : Hp} {L : List Tup} (h : AllT H L) : ∀ y ∈ refs L, AD H y := fun y hy => by
  obtain ⟨p, hp, rfl⟩ := List.mem_map.mp hy
  exact .tup (h p hp) ad_int
theorem Tab.lo {H : Hp} {t a : Addr} {f n : Nat} {L : List Tup} (h : Tab H t a f n L) : 1 ≤ L.length := by
  obtain ⟨m, hm⟩ := h.T.ne
  have := len_of hm
  rw [List.length_map] at this
  omega
theorem Tab.ro {H : Hp} {t a : Addr} {f n : Nat} {L : List Tup} (h : Tab H t a f n L) : RO H (.ref a) L :=
  ⟨tupOf_of h.a, h.all, h.lo, Nat.le_trans h.few (by decide), ⟨n, h.T.n1, h.T.n8, fun p hp => h.T.ord _ (vals_mem hp)⟩, h.T.rise⟩
/-- the first turning -/
theorem Tab.head {H : Hp} {t a : Addr} {f n : Nat} {L : List Tup} (h : Tab H t a f n L) : ∃ p, L[0]? = some p ∧ p ∈ L ∧ H p.1 = some (.tup (p.2.map V.int)) ∧ p.2.length = n := by
  obtain ⟨m, hm⟩ := h.T.ne
  obtain ⟨p, hp, rfl⟩ := vals_get hm
  have hpL := List.mem_of_getElem? hp
  exact ⟨p, hp, hpL, h.all p hpL, (h.T.ord p.2 (List.mem_of_getElem? hm)).1⟩
/-- why it is no table -/
inductive NoTab (H : Hp) (x : V) : V → Prop
  | two : tupLen 2 2 (tupOf H x) = false → NoTab H x .non
  | faces {y z : V} : tupOf H x = some [y, z] → okV 2 9 y = false → NoTab H x (.str "faces")
  | turnings {y z : V} : tupOf H x = some [y, z] → okV 2 9 y = true → (∀ L, ¬ RO H z L) → NoTab H x (.str "turnings")
section
variable {P : Program} {w : World} {K : PySem.W.Frag} {mg : Str → Option Value} {base : Heap} {Ps : List Addr}
theorem sc_need_table : FnScope ["thing", "faces", "turnings"] ["thing"] (defScope s_need_table) := ⟨rfl, rfl, rfl, by decide +kernel, rfl, by decide +kernel, by decide +kernel⟩
/-- an exception that leaves: of the class at C, its field f holds v -/
def Out (Ps : List Addr) (H : Hp) (E : XK) (C : Addr) (f : Str) (v : V) : Prop := ∀ d H', Kp Ps H H' → H d = none → H' d = some (.xd [(f, v)]) → E (.ref C) (some d) H'
def spNeedTable (Ps : List Addr) (C : Addr) : Sp := fun vs H Q E => ∃ x, vs = [x] ∧ Tg Ps H ∧ ((∃ t a f n L, x = .ref t ∧ Tab H t a f n L ∧ ∀ H', Kp Ps H H' → Q .non H') ∨ (∃ v, AD H x ∧ NoTab H x v ∧ Out Ps H E C "place" v))
theorem ok_need_table {C : Addr} (D : Dfn K mg "need_table" s_need_table ["thing"]) (B : BN mg) {tk1 tk2 : Tok} (hM1 : mg "MOST_FACES" = some (.int 9 tk1)) (hM2 : mg "MOST_STANDS" = some (.int 729 tk2)) (X : ExK P w K mg base "BadTable" "place" C)
    (o1 : Okd P w K mg base CX0 1 "is_tuple_of" ["thing", "least", "most"] spTupOf) (o2 : Okd P w K mg base CX0 2 "is_among" ["thing", "least", "most"] spAmong) (o3 : Okd P w K mg base CX0 6 "are_rising_orders" ["thing"] (spRO Ps))
    (o4 : Okd P w K mg base CX0 1 "power" ["base", "times"] spPower) (o5 : Okd P w K mg base CX0 4 "are_closed" ["turnings"] (spClosed Ps)) : OkX P w K mg base 7 "need_table" ["thing"] (spNeedTable Ps C) := by
  refine U.Dfn.okX D sc_need_table (fun vs H Q E h => ?_) (fun f cdv A outer s H vs Q E hr h => ?_)
  · obtain ⟨x, rfl, _⟩ := h; rfl
  · obtain ⟨x, rfl, tg, h⟩ := h
    have nd := sc_need_table.nd
    refine ⟨_, pss_cons (ps_if (pt_not (pt_val (pe_do o1 (hr.mono (by decide)) (pa_cons (pv 0) (pa_cons pe_int (pa_cons pe_int pa_nil)))))) (pss_one (ps_rz X (hr.mono (by decide)) (takes_of rfl rfl rfl rfl) pe_non)) pss_nil)
      (pss_cons (ps_asg (pv 0) (pg_tup rfl (pgs_cons (pg_name (i := 1) nd rfl (.inl rfl)) (pgs_cons (pg_name (i := 2) nd rfl (.inl rfl)) pgs_nil))))
      (pss_cons (ps_if (pt_not (pt_val (pe_do o2 (hr.mono (by decide)) (pa_cons (pv 1) (pa_cons pe_int (pa_cons (pe_glob (v := .int 9) rfl hM1 ⟨_, rfl⟩) pa_nil)))))) (pss_one (ps_rz X (hr.mono (by decide)) (takes_of rfl rfl rfl rfl) pe_str)) pss_nil)
      (pss_cons (ps_if (pt_not (pt_val (pe_do o3 hr (pa_cons (pv 2) pa_nil)))) (pss_one (ps_rz X (hr.mono (by decide)) (takes_of rfl rfl rfl rfl) pe_str)) pss_nil)
      (pss_cons (ps_if (pt_cmpR op_gt (pe_do o4 (hr.mono (by decide)) (pa_cons (pv 1) (pa_cons (pe_len K B.len (pe_ixT K (pv 2) pe_int)) pa_nil))) (pe_glob (v := .int 729) rfl hM2 ⟨_, rfl⟩) (nomark _)) (pss_one (ps_rz X (hr.mono (by decide)) (takes_of rfl rfl rfl rfl) pe_str)) pss_nil)
      (pss_one (ps_if (pt_not (pt_val (pe_do o5 (hr.mono (by decide)) (pa_cons (pv 2) pa_nil)))) (pss_one (ps_rz X (hr.mono (by decide)) (takes_of rfl rfl rfl rfl) pe_str)) pss_nil)))))), ?_⟩
    rcases h with ⟨t, a, fc, n, L, rfl, tb, q⟩ | ⟨v, ad, no, out⟩
    · refine ⟨_, rfl, .ref t, _, 2, 2, rfl, .tup tb.t, _, rfl, ?_⟩
      rw [tupOf_of tb.t]
      refine iteF ⟨_, rfl, t, _, rfl, .of tb.t, rfl, _, _, rfl, _, _, rfl, rfl, ?_⟩
      refine ⟨_, rfl, .int fc, _, 2, 9, rfl, .int fc, _, rfl, ?_⟩
      have e1 : okV 2 9 (.int fc) = true := by
        show (decide ((2 : Int) ≤ fc) && decide ((fc : Int) ≤ 9)) = true
        have := tb.f2
        have := tb.f9
        rw [decide_eq_true (by omega), decide_eq_true (by omega)]
        rfl
      rw [e1]
      refine iteF ⟨_, rfl, .ref a, rfl, .tup tb.a (ad_tups tb.all), tg, fun b H1 hb k1 => ⟨_, rfl, ?_⟩⟩
      have e2 : b = true := hb.mpr ⟨L, tb.ro⟩
      subst e2
      have tb1 := tb.kp k1
      obtain ⟨p, hp, hpL, hp1, hpn⟩ := tb1.head
      have lp : ((p.2.map V.int).length : Int) = (n : Int) := by rw [List.length_map, hpn]
      refine iteF ⟨_, rfl, _, rfl, a, refs L, 0, _, rfl, rfl, .of tb1.a, atI_nat (j := 0) (refs_get hp), p.1, _, rfl, .inr (.of hp1), ?_⟩
      rw [lp]
      refine ⟨fc, n, rfl, by omega, by have := tb.f9; omega, tb.T.n8, _, _, rfl, rfl, _, rfl, ?_⟩
      have e3 : ((fc : Int) ^ n) ≤ 729 := by
        have := tb.st
        exact_mod_cast this
      rw [decide_eq_false (by omega)]
      refine iteF ⟨_, rfl, a, n, L, rfl, tb1.a, tb1.all, tb.T, tb.few, fun H2 k2 => ⟨_, rfl, iteF (q H2 (k1.trans k2))⟩⟩
    · obtain ⟨ty, av⟩ := ad.av
      refine ⟨_, rfl, x, _, 2, 2, rfl, av, _, rfl, ?_⟩
      cases no with
      | two h1 =>
        rw [h1]
        exact iteT fun d nd => out d _ (.new nd) nd upd_same
      | @faces y z h1 h2 =>
        rw [h1]
        obtain ⟨t, rfl, ht⟩ := tupOf_some h1
        obtain ⟨ty2, av2⟩ := (ad.items h1 y List.mem_cons_self).av
        refine iteF ⟨_, rfl, t, _, rfl, .of ht, rfl, _, _, rfl, _, _, rfl, rfl, ?_⟩
        refine ⟨_, rfl, y, _, 2, 9, rfl, av2, _, rfl, ?_⟩
        rw [h2]
        exact iteT fun d nd => out d _ (.new nd) nd upd_same
      | @turnings y z h1 h2 h3 =>
        rw [h1]
        obtain ⟨t, rfl, ht⟩ := tupOf_some h1
        obtain ⟨ty2, av2⟩ := (ad.items h1 y List.mem_cons_self).av
        refine iteF ⟨_, rfl, t, _, rfl, .of ht, rfl, _, _, rfl, _, _, rfl, rfl, ?_⟩
        refine ⟨_, rfl, y, _, 2, 9, rfl, av2, _, rfl, ?_⟩
        rw [h2]
        refine iteF ⟨_, rfl, z, rfl, ad.items h1 z (List.mem_cons_of_mem _ List.mem_cons_self), tg, fun b H1 hb k1 => ⟨_, rfl, ?_⟩⟩
        have e2 : b = false := by
          cases b with
          | false => rfl
          | true =>
            obtain ⟨L, r⟩ := hb.mp rfl
            exact (h3 L r).elim
        subst e2
        exact iteT fun d nd => out d _ (k1.trans (.new nd)) (k1.fresh nd) upd_same
end
end U
set_option maxHeartbeats 2000000
namespace U
open PySem PySem.Spec PyProof.Rows L2 GxR Bx Gx Ex Sx
/-! what is wrong with a stand, a turning, a row, a run: none, or the number told -/
def standBad (f n : Nat) : Option (List V) → Option V
  | some xs => if xs.length = n then (if wface f xs < n then some (.int (wface f xs)) else none) else some .non
  | none => some .non
def turnBad (n : Nat) (L : List (List Int)) : Option (List V) → Option V
  | some xs => if xs.length = n then (if wseat xs < n then some (.int (wseat xs)) else if xs ∈ L.map (·.map V.int) then none else some (.int (wseat xs))) else some .non
  | none => some .non
def firstBad (p : V → Bool) : Nat → List V → Option V
  | _, [] => none
  | k, x :: r => if p x = true then firstBad p (k + 1) r else some (.int k)
def rowBad (f n : Nat) (H : Hp) (x : V) : Option V := match tupOf H x with
  | some xs => firstBad (fun y => (standBad f n (tupOf H y)).isNone) 0 xs
  | none => some .non
def runBad (f n : Nat) (L : List (List Int)) (m : Nat) (H : Hp) (x : V) : Option V := match tupOf H x with
  | some [s, t] => if (standBad f n (tupOf H s)).isSome = true then some (.str "stand") else match tupOf H t with
    | some ts => if ts.length = m then firstBad (fun y => (turnBad n L (tupOf H y)).isNone) 0 ts else some (.str "turns")
    | none => some (.str "turns")
  | _ => some .non
theorem wfFrom_le (n : Int) : ∀ (xs : List V) (k : Nat), wfFrom n k xs ≤ k + xs.length
  | [], k => Nat.le_refl _
  | x :: r, k => by
    unfold wfFrom
    split
    · have := wfFrom_le n r (k + 1)
      rw [List.length_cons]
      omega
    · omega
theorem wface_le (n : Int) (xs : List V) : wface n xs ≤ xs.length := by
  have := wfFrom_le n xs 0
  unfold wface
  omega
theorem wseat_le (xs : List V) : wseat xs ≤ xs.length := by
  have := wsFrom_le (xs.length : Int) xs []
  unfold wseat
  rw [List.length_nil] at this
  omega
section
variable {P : Program} {w : World} {K : PySem.W.Frag} {mg : Str → Option Value} {base : Heap} {Ps : List Addr}
theorem sc_seats_of : FnScope ["table"] ["table"] (defScope s_seats_of) := ⟨rfl, rfl, rfl, by decide +kernel, rfl, by decide +kernel, by decide +kernel⟩
def spSeatsOf : Sp := fun vs H Q _ => ∃ t a f n L, vs = [.ref t] ∧ Tab H t a f n L ∧ Q (.int n) H
theorem ok_seats_of (D : Dfn K mg "seats_of" s_seats_of ["table"]) (B : BN mg) : Okd P w K mg base CX0 1 "seats_of" ["table"] spSeatsOf := by
  refine D.ok sc_seats_of (fun vs H Q E h => ?_) (fun f cdv A outer s H vs Q E hr h => ?_)
  · obtain ⟨t, a, f, n, L, rfl, _⟩ := h; rfl
  · obtain ⟨t, a, fc, n, L, rfl, tb, q⟩ := h
    obtain ⟨p, hp, hpL, hp1, hpn⟩ := tb.head
    have lp : ((p.2.map V.int).length : Int) = (n : Int) := by rw [List.length_map, hpn]
    refine ⟨_, pss_one (ps_ret (pe_len K B.len (pe_ixT K (pe_ixT K (pv 0) pe_int) pe_int))), ?_⟩
    refine ⟨_, rfl, t, _, 1, .ref a, rfl, rfl, .of tb.t, rfl, a, refs L, 0, _, rfl, rfl, .of tb.a, atI_nat (j := 0) (refs_get hp), p.1, _, rfl, .inr (.of hp1), ?_⟩
    rw [lp]
    exact q
theorem sc_is_stand_of : FnScope ["table", "thing", "many"] ["table", "thing"] (defScope s_is_stand_of) := ⟨rfl, rfl, rfl, by decide +kernel, rfl, by decide +kernel, by decide +kernel⟩
def spIsStandOf (Ps : List Addr) : Sp := fun vs H Q _ => ∃ t a f n L x, vs = [.ref t, x] ∧ Tab H t a f n L ∧ AD H x ∧ ∀ H', Kp Ps H H' → Q (.bl (standBad f n (tupOf H x)).isNone) H'
theorem tupLen_nn {n : Nat} {xs : List V} : tupLen (n : Int) (n : Int) (some xs) = decide (xs.length = n) := by
  cases e : decide (xs.length = n) with
  | true =>
    have := of_decide_eq_true e
    exact (tupLen_iff (lo := n) (hi := n)).mpr ⟨by omega, by omega⟩
  | false =>
    have := of_decide_eq_false e
    cases e2 : tupLen (n : Int) (n : Int) (some xs) with
    | false => rfl
    | true =>
      have := (tupLen_iff (lo := n) (hi := n)).mp e2
      omega
theorem ok_is_stand_of (D : Dfn K mg "is_stand_of" s_is_stand_of ["table", "thing"]) (o1 : Okd P w K mg base CX0 1 "seats_of" ["table"] spSeatsOf) (o2 : Okd P w K mg base CX0 1 "is_tuple_of" ["thing", "least", "most"] spTupOf)
    (o3 : Okd P w K mg base CX0 3 "wrong_face" ["faces", "things"] (spFace Ps)) : Okd P w K mg base CX0 4 "is_stand_of" ["table", "thing"] (spIsStandOf Ps) := by
  refine D.ok sc_is_stand_of (fun vs H Q E h => ?_) (fun f cdv A outer s H vs Q E hr h => ?_)
  · obtain ⟨t, a, f, n, L, x, rfl, _⟩ := h; rfl
  · obtain ⟨t, a, fc, n, L, x, rfl, tb, ad, q⟩ := h
    have nd := sc_is_stand_of.nd
    refine ⟨_, pss_cons (ps_set (i := 2) nd rfl (.inl rfl) (pe_do o1 (hr.mono (by decide)) (pa_cons (pv 0) pa_nil)))
      (pss_one (ps_ret (pe_and (pe_do o2 (hr.mono (by decide)) (pa_cons (pv 1) (pa_cons (pv 2) (pa_cons (pv 2) pa_nil))))
        (pe_one (pe_cmpR op_eq (pe_do o3 hr (pa_cons (pe_ixT K (pv 0) pe_int) (pa_cons (pv 1) pa_nil))) (pv 2) (nomark _)))))), ?_⟩
    obtain ⟨ty, av⟩ := ad.av
    refine ⟨_, rfl, t, a, fc, n, L, rfl, tb, _, rfl, _, rfl, _, rfl, x, ty, n, n, rfl, av, _, rfl, ?_⟩
    cases e : tupOf H x with
    | none => rw [e] at q; exact iteF (q H (.refl H))
    | some xs =>
      rw [e] at q
      rw [tupLen_nn]
      unfold standBad at q
      dsimp only at q
      by_cases hn : xs.length = n
      · rw [decide_eq_true hn]
        obtain ⟨b, rfl, hb⟩ := tupOf_some e
        refine iteT ⟨_, rfl, t, _, 0, .int fc, rfl, rfl, .of tb.t, rfl, _, rfl, fc, b, xs, rfl, hb, fun y hy => (ad.items e y hy).av, fun H1 k1 => ⟨_, rfl, rfl, ?_⟩⟩
        have hle := wface_le fc xs
        have q := q H1 k1
        rw [if_pos hn] at q
        by_cases h : wface fc xs < n
        · rw [if_pos h] at q
          rw [decide_eq_false (fun z => by injection z with z; omega)]
          exact q
        · rw [if_neg h] at q
          have e : wface fc xs = n := by omega
          rw [e, decide_eq_true rfl]
          exact q
      · rw [decide_eq_false hn]
        rw [if_neg hn] at q
        exact iteF (q H (.refl H))
theorem sc_is_turning_of : FnScope ["table", "thing"] ["table", "thing"] (defScope s_is_turning_of) := ⟨rfl, rfl, rfl, by decide +kernel, rfl, by decide +kernel, by decide +kernel⟩
def spIsTurningOf (Ps : List Addr) : Sp := fun vs H Q _ => ∃ t a f n L x, vs = [.ref t, x] ∧ Tab H t a f n L ∧ AD H x ∧ ∀ H', Kp Ps H H' → Q (.bl (turnBad n (vals L) (tupOf H x)).isNone) H'
theorem mem_ints {t : List Int} {L : List (List Int)} : t.map V.int ∈ L.map (·.map V.int) ↔ t ∈ L := by
  constructor
  · intro h
    obtain ⟨u, hu, e⟩ := List.mem_map.mp h
    rw [← map_int_inj e]
    exact hu
  · exact fun h => List.mem_map.mpr ⟨t, h, rfl⟩
/-- a turning of the table, by its look -/
theorem turnBad_none {n : Nat} {L : List (List Int)} (T : Turns n L) (o : Option (List V)) : (turnBad n L o).isNone = true ↔ ∃ t, o = some (t.map V.int) ∧ t ∈ L := by
  constructor
  · intro h
    unfold turnBad at h
    cases o with
    | none => cases h
    | some xs =>
      dsimp only at h
      split at h
      · split at h
        · cases h
        · split at h
          · rename_i h3
            obtain ⟨t, ht, rfl⟩ := List.mem_map.mp h3
            exact ⟨t, rfl, ht⟩
          · cases h
      · cases h
  · rintro ⟨t, rfl, ht⟩
    have o := T.ord t ht
    unfold turnBad
    have h1 : (t.map V.int).length = n := by rw [List.length_map, o.1]
    have h2 : wseat (t.map V.int) = n := by
      rw [(wseat_iff _).mpr ⟨t, rfl, by rw [h1]; exact o⟩, h1]
    dsimp only
    rw [if_pos h1, if_neg (by omega), if_pos (mem_ints.mpr ht)]
    rfl
theorem ok_is_turning_of (D : Dfn K mg "is_turning_of" s_is_turning_of ["table", "thing"]) (o1 : Okd P w K mg base CX0 4 "is_order" ["thing"] (spOrder Ps)) : Okd P w K mg base CX0 5 "is_turning_of" ["table", "thing"] (spIsTurningOf Ps) := by
  refine D.ok sc_is_turning_of (fun vs H Q E h => ?_) (fun f cdv A outer s H vs Q E hr h => ?_)
  · obtain ⟨t, a, f, n, L, x, rfl, _⟩ := h; rfl
  · obtain ⟨t, a, fc, n, L, x, rfl, tb, ad, q⟩ := h
    refine ⟨_, pss_one (ps_ret (pe_and (pe_do o1 hr (pa_cons (pv 1) pa_nil)) (pe_one (pe_inTT K (pv 1) (pe_ixT K (pv 0) pe_int) (u65 hr))))), ?_⟩
    refine ⟨_, rfl, x, rfl, ad, fun H1 k1 => ⟨_, rfl, ?_⟩⟩
    have tb1 := tb.kp k1
    cases e : orderV (tupOf H x) with
    | false =>
      refine iteF ?_
      have z : (turnBad n (vals L) (tupOf H x)).isNone = false := by
        cases e2 : (turnBad n (vals L) (tupOf H x)).isNone with
        | false => rfl
        | true =>
          obtain ⟨u, e3, hu⟩ := (turnBad_none tb.T _).mp e2
          have o := tb.T.ord u hu
          have z := (orderV_iff _).mpr ⟨u, e3, by rw [o.1]; exact tb.T.n1, by rw [o.1]; exact tb.T.n8, by rw [o.1]; exact o⟩
          rw [e] at z
          cases z
      have q := q H1 k1
      rw [z] at q
      exact q
    | true =>
      obtain ⟨u, e1, o8⟩ := (orderV_iff _).mp e
      obtain ⟨b, rfl, hb⟩ := tupOf_some e1
      refine iteT ⟨_, rfl, _, rfl, t, _, 1, .ref a, rfl, rfl, .of tb1.t, rfl, b, a, u, L, rfl, rfl, .of (k1.tup hb), .inr (.of tb1.a), fun p hp => .of (tb1.all p hp), ?_⟩
      have q := q H1 k1
      show Q (.bl (decide (u ∈ vals L))) H1
      have z : (turnBad n (vals L) (tupOf H (.ref b))).isNone = decide (u ∈ vals L) := by
        rw [e1]
        cases e2 : (turnBad n (vals L) (some (u.map V.int))).isNone with
        | true =>
          obtain ⟨u2, e3, hu⟩ := (turnBad_none tb.T _).mp e2
          injection e3 with e3
          rw [map_int_inj e3, decide_eq_true hu]
        | false =>
          rw [decide_eq_false fun hu => ?_]
          rw [(turnBad_none tb.T _).mpr ⟨u, rfl, hu⟩] at e2
          cases e2
      rw [z] at q
      exact q
end
end U
set_option maxHeartbeats 2000000
namespace U
open PySem PySem.Spec PyProof.Rows L2 GxR Bx Gx Ex Sx
def TA1 (Ps : List Addr) (C : Addr) (H : Hp) (E : XK) (x : V) (good : Nat → Nat → List Tup → Prop) : Prop := Tg Ps H ∧ ((∃ t a f n L, x = .ref t ∧ Tab H t a f n L ∧ good f n L) ∨ ∃ v, AD H x ∧ NoTab H x v ∧ Out Ps H E C "place" v)
def Judged (Ps : List Addr) (H : Hp) (Q : VK) (E : XK) (C : Addr) (f : Str) (o : Option V) : Prop := (o = none → ∀ H', Kp Ps H H' → Q .non H') ∧ ∀ v, o = some v → Out Ps H E C f v
theorem Out.kp {Ps : List Addr} {H H1 : Hp} {E : XK} {C : Addr} {f : Str} {v : V} (k : Kp Ps H H1) (o : Out Ps H E C f v) : Out Ps H1 E C f v := fun d H' k2 nd hd => o d H' (k.trans k2) (k.fresh nd) hd
theorem Out.go {Ps : List Addr} {H H1 : Hp} {E : XK} {C : Addr} {f : Str} {v : V} (o : Out Ps H E C f v) (k : Kp Ps H H1) : ∀ d, H1 d = none → E (.ref C) (some d) (upd H1 d (.xd [(f, v)])) := fun d nd => o d _ (k.trans (.new nd)) (k.fresh nd) upd_same
theorem TA1.need {Ps : List Addr} {C : Addr} {H : Hp} {E : XK} {D : Ends} {σ : L2.St} {x : V} {good : Nat → Nat → List Tup → Prop} (h : TA1 Ps C H E x good) (hσ : σ[0]? = some (some x)) (k : ∀ t a f n L, x = .ref t → Tab H t a f n L → good f n L → ∀ H1, Kp Ps H H1 → D.nx σ H1) :
    tDrop (tCallS (spNeedTable Ps C) (WE (fun cls d _ H => E cls d H)) (tCons (tVar 0) tNil)) D σ H := by
  refine ⟨x, hσ, ?_⟩
  obtain ⟨tg, ⟨t, a, f, n, L, rfl, tb, g⟩ | ⟨v, ad, no, out⟩⟩ := h
  · exact ⟨_, rfl, tg, .inl ⟨t, a, f, n, L, rfl, tb, fun H1 k1 => k t a f n L rfl tb g H1 k1⟩⟩
  · exact ⟨_, rfl, tg, .inr ⟨v, ad, no, out⟩⟩
section
variable {P : Program} {w : World} {K : PySem.W.Frag} {mg : Str → Option Value} {base : Heap} {Ps : List Addr} {CT CS CU CR CN : Addr}
theorem sc_is_stand : FnScope ["table", "thing"] ["table", "thing"] (defScope s_is_stand) := ⟨rfl, rfl, rfl, by decide +kernel, rfl, by decide +kernel, by decide +kernel⟩
def spIsStand (Ps : List Addr) (CT : Addr) : Sp := fun vs H Q E => ∃ x y, vs = [x, y] ∧ TA1 Ps CT H E x fun f n _ => AD H y ∧ ∀ H', Kp Ps H H' → Q (.bl (standBad f n (tupOf H y)).isNone) H'
theorem ok_is_stand (D : Dfn K mg "is_stand" s_is_stand ["table", "thing"]) (o1 : OkX P w K mg base 7 "need_table" ["thing"] (spNeedTable Ps CT)) (o2 : Okd P w K mg base CX0 4 "is_stand_of" ["table", "thing"] (spIsStandOf Ps)) : OkX P w K mg base 8 "is_stand" ["table", "thing"] (spIsStand Ps CT) := by
  refine U.Dfn.okX D sc_is_stand (fun vs H Q E h => ?_) (fun f cdv A outer s H vs Q E hr h => ?_)
  · obtain ⟨x, y, rfl, _⟩ := h; rfl
  · obtain ⟨x, y, rfl, h⟩ := h
    refine ⟨_, pss_cons (ps_expr (pe_doX o1 hr (takes_of rfl rfl rfl rfl) (pa_cons (pv 0) pa_nil))) (pss_one (ps_ret (pe_do o2 (hr.mono (by decide)) (pa_cons (pv 0) (pa_cons (pv 1) pa_nil))))), ?_⟩
    refine h.need rfl fun t a f n L e tb ⟨ad, q⟩ H1 k1 => ⟨_, rfl, _, rfl, ?_⟩
    subst e
    exact ⟨t, a, f, n, L, y, rfl, tb.kp k1, ad.kp k1, fun H2 k2 => by rw [ad.tupKp k1]; exact q H2 (k1.trans k2)⟩
theorem sc_is_turning : FnScope ["table", "thing"] ["table", "thing"] (defScope s_is_turning) := ⟨rfl, rfl, rfl, by decide +kernel, rfl, by decide +kernel, by decide +kernel⟩
def spIsTurning (Ps : List Addr) (CT : Addr) : Sp := fun vs H Q E => ∃ x y, vs = [x, y] ∧ TA1 Ps CT H E x fun f n L => AD H y ∧ ∀ H', Kp Ps H H' → Q (.bl (turnBad n (vals L) (tupOf H y)).isNone) H'
theorem ok_is_turning (D : Dfn K mg "is_turning" s_is_turning ["table", "thing"]) (o1 : OkX P w K mg base 7 "need_table" ["thing"] (spNeedTable Ps CT)) (o2 : Okd P w K mg base CX0 5 "is_turning_of" ["table", "thing"] (spIsTurningOf Ps)) : OkX P w K mg base 8 "is_turning" ["table", "thing"] (spIsTurning Ps CT) := by
  refine U.Dfn.okX D sc_is_turning (fun vs H Q E h => ?_) (fun f cdv A outer s H vs Q E hr h => ?_)
  · obtain ⟨x, y, rfl, _⟩ := h; rfl
  · obtain ⟨x, y, rfl, h⟩ := h
    refine ⟨_, pss_cons (ps_expr (pe_doX o1 hr (takes_of rfl rfl rfl rfl) (pa_cons (pv 0) pa_nil))) (pss_one (ps_ret (pe_do o2 (hr.mono (by decide)) (pa_cons (pv 0) (pa_cons (pv 1) pa_nil))))), ?_⟩
    refine h.need rfl fun t a f n L e tb ⟨ad, q⟩ H1 k1 => ⟨_, rfl, _, rfl, ?_⟩
    subst e
    exact ⟨t, a, f, n, L, y, rfl, tb.kp k1, ad.kp k1, fun H2 k2 => by rw [ad.tupKp k1]; exact q H2 (k1.trans k2)⟩
theorem sc_seats : FnScope ["table"] ["table"] (defScope s_seats) := ⟨rfl, rfl, rfl, by decide +kernel, rfl, by decide +kernel, by decide +kernel⟩
def spSeats (Ps : List Addr) (CT : Addr) : Sp := fun vs H Q E => ∃ x, vs = [x] ∧ TA1 Ps CT H E x fun f n L => ∀ H', Kp Ps H H' → Q (.int n) H'
theorem ok_seats (D : Dfn K mg "seats" s_seats ["table"]) (o1 : OkX P w K mg base 7 "need_table" ["thing"] (spNeedTable Ps CT)) (o2 : Okd P w K mg base CX0 1 "seats_of" ["table"] spSeatsOf) : OkX P w K mg base 8 "seats" ["table"] (spSeats Ps CT) := by
  refine U.Dfn.okX D sc_seats (fun vs H Q E h => ?_) (fun f cdv A outer s H vs Q E hr h => ?_)
  · obtain ⟨x, rfl, _⟩ := h; rfl
  · obtain ⟨x, rfl, h⟩ := h
    refine ⟨_, pss_cons (ps_expr (pe_doX o1 hr (takes_of rfl rfl rfl rfl) (pa_cons (pv 0) pa_nil))) (pss_one (ps_ret (pe_do o2 (hr.mono (by decide)) (pa_cons (pv 0) pa_nil)))), ?_⟩
    refine h.need rfl fun t a f n L e tb q H1 k1 => ⟨_, rfl, ?_⟩
    subst e
    exact ⟨t, a, f, n, L, rfl, tb.kp k1, q H1 k1⟩
/-- stands of what is no table -/
theorem sc_stands : FnScope ["table"] ["table"] (defScope s_stands) := ⟨rfl, rfl, rfl, by decide +kernel, rfl, by decide +kernel, by decide +kernel⟩
def spStandsNo (Ps : List Addr) (CT : Addr) : Sp := fun vs H Q E => ∃ x, vs = [x] ∧ TA1 Ps CT H E x fun f n L => False
theorem ok_standsNo (D : Dfn K mg "stands" s_stands ["table"]) (o1 : OkX P w K mg base 7 "need_table" ["thing"] (spNeedTable Ps CT)) : OkX P w K mg base 8 "stands" ["table"] (spStandsNo Ps CT) := by
  refine U.Dfn.okX D sc_stands (fun vs H Q E h => ?_) (fun f cdv A outer s H vs Q E hr h => ?_)
  · obtain ⟨x, rfl, _⟩ := h; rfl
  · obtain ⟨x, rfl, h⟩ := h
    refine ⟨_, pss_cons (ps_expr (pe_doX o1 hr (takes_of rfl rfl rfl rfl) (pa_cons (pv 0) pa_nil))) (pss_one ps_never), ?_⟩
    exact h.need rfl fun t a f n L e tb q H1 k1 => q.elim
theorem sc_need_stand : FnScope ["table", "thing", "many", "number"] ["table", "thing"] (defScope s_need_stand) := ⟨rfl, rfl, rfl, by decide +kernel, rfl, by decide +kernel, by decide +kernel⟩
def spNeedStand (Ps : List Addr) (CT CS : Addr) : Sp := fun vs H Q E => ∃ x y, vs = [x, y] ∧ TA1 Ps CT H E x fun f n L => AD H y ∧ Judged Ps H Q E CS "number" (standBad f n (tupOf H y))
theorem ok_need_stand (D : Dfn K mg "need_stand" s_need_stand ["table", "thing"]) (X : ExK P w K mg base "BadStand" "number" CS) (o1 : OkX P w K mg base 7 "need_table" ["thing"] (spNeedTable Ps CT)) (o2 : Okd P w K mg base CX0 1 "seats_of" ["table"] spSeatsOf)
    (o3 : Okd P w K mg base CX0 1 "is_tuple_of" ["thing", "least", "most"] spTupOf) (o4 : Okd P w K mg base CX0 3 "wrong_face" ["faces", "things"] (spFace Ps)) : OkX P w K mg base 8 "need_stand" ["table", "thing"] (spNeedStand Ps CT CS) := by
  refine U.Dfn.okX D sc_need_stand (fun vs H Q E h => ?_) (fun f cdv A outer s H vs Q E hr h => ?_)
  · obtain ⟨x, y, rfl, _⟩ := h; rfl
  · obtain ⟨x, y, rfl, h⟩ := h
    have nd := sc_need_stand.nd
    refine ⟨_, pss_cons (ps_expr (pe_doX o1 hr (takes_of rfl rfl rfl rfl) (pa_cons (pv 0) pa_nil)))
      (pss_cons (ps_set (i := 2) nd rfl (.inl rfl) (pe_do o2 (hr.mono (by decide)) (pa_cons (pv 0) pa_nil)))
      (pss_cons (ps_if (pt_not (pt_val (pe_do o3 (hr.mono (by decide)) (pa_cons (pv 1) (pa_cons (pv 2) (pa_cons (pv 2) pa_nil)))))) (pss_one (ps_rz X (hr.mono (by decide)) (takes_of rfl rfl rfl rfl) pe_non)) pss_nil)
      (pss_cons (ps_set (i := 3) nd rfl (.inl rfl) (pe_do o4 (hr.mono (by decide)) (pa_cons (pe_ixT K (pv 0) pe_int) (pa_cons (pv 1) pa_nil))))
      (pss_one (ps_if (pt_cmpR op_lt (pv 3) (pv 2) (nomark _)) (pss_one (ps_rz X (hr.mono (by decide)) (takes_of rfl rfl rfl rfl) (pv 3))) pss_nil))))), ?_⟩
    refine h.need rfl fun t a fc n L e tb ⟨ad, q0, q1⟩ H1 k1 => ?_
    subst e
    have tb1 := tb.kp k1
    have ad1 := ad.kp k1
    obtain ⟨ty, av⟩ := ad1.av
    refine ⟨_, rfl, t, a, fc, n, L, rfl, tb1, _, rfl, _, rfl, _, rfl, y, ty, n, n, rfl, av, _, rfl, ?_⟩
    rw [ad.tupKp k1]
    cases e : tupOf H y with
    | none =>
      rw [e] at q1
      exact iteT ((q1 .non rfl).go k1)
    | some xs =>
      rw [e] at q0 q1
      rw [tupLen_nn]
      unfold standBad at q0 q1
      dsimp only at q0 q1
      by_cases hn : xs.length = n
      · rw [decide_eq_true hn]
        rw [if_pos hn] at q0 q1
        obtain ⟨b, rfl, hb⟩ := tupOf_some e
        refine iteF ⟨_, rfl, t, _, 0, .int fc, rfl, rfl, .of tb1.t, rfl, _, rfl, fc, b, xs, rfl, k1.tup hb, fun z hz => ((ad.items e z hz).kp k1).av, fun H2 k2 => ⟨_, rfl, _, rfl, _, _, rfl, rfl, _, rfl, ?_⟩⟩
        by_cases hw : wface fc xs < n
        · rw [decide_eq_true (by omega)]
          exact iteT ⟨_, rfl, (q1 _ (if_pos hw)).go (k1.trans k2)⟩
        · rw [decide_eq_false (by omega)]
          exact iteF (q0 (if_neg hw) H2 (k1.trans k2))
      · rw [decide_eq_false hn]
        rw [if_neg hn] at q1
        exact iteT ((q1 .non rfl).go k1)
theorem sc_need_turning : FnScope ["table", "thing", "many", "number"] ["table", "thing"] (defScope s_need_turning) := ⟨rfl, rfl, rfl, by decide +kernel, rfl, by decide +kernel, by decide +kernel⟩
def spNeedTurning (Ps : List Addr) (CT CU : Addr) : Sp := fun vs H Q E => ∃ x y, vs = [x, y] ∧ TA1 Ps CT H E x fun f n L => AD H y ∧ Judged Ps H Q E CU "number" (turnBad n (vals L) (tupOf H y))
theorem ok_need_turning (D : Dfn K mg "need_turning" s_need_turning ["table", "thing"]) (X : ExK P w K mg base "BadTurning" "number" CU) (o1 : OkX P w K mg base 7 "need_table" ["thing"] (spNeedTable Ps CT)) (o2 : Okd P w K mg base CX0 1 "seats_of" ["table"] spSeatsOf)
    (o3 : Okd P w K mg base CX0 1 "is_tuple_of" ["thing", "least", "most"] spTupOf) (o4 : Okd P w K mg base CX0 3 "wrong_seat" ["things"] (spSeat Ps)) : OkX P w K mg base 8 "need_turning" ["table", "thing"] (spNeedTurning Ps CT CU) := by
  refine U.Dfn.okX D sc_need_turning (fun vs H Q E h => ?_) (fun f cdv A outer s H vs Q E hr h => ?_)
  · obtain ⟨x, y, rfl, _⟩ := h; rfl
  · obtain ⟨x, y, rfl, h⟩ := h
    have nd := sc_need_turning.nd
    refine ⟨_, pss_cons (ps_expr (pe_doX o1 hr (takes_of rfl rfl rfl rfl) (pa_cons (pv 0) pa_nil)))
      (pss_cons (ps_set (i := 2) nd rfl (.inl rfl) (pe_do o2 (hr.mono (by decide)) (pa_cons (pv 0) pa_nil)))
      (pss_cons (ps_if (pt_not (pt_val (pe_do o3 (hr.mono (by decide)) (pa_cons (pv 1) (pa_cons (pv 2) (pa_cons (pv 2) pa_nil)))))) (pss_one (ps_rz X (hr.mono (by decide)) (takes_of rfl rfl rfl rfl) pe_non)) pss_nil)
      (pss_cons (ps_set (i := 3) nd rfl (.inl rfl) (pe_do o4 (hr.mono (by decide)) (pa_cons (pv 1) pa_nil)))
      (pss_one (ps_if (PW.pt (pw_or (pt_cmpR op_lt (pv 3) (pv 2) (nomark _)) (pw_or1 (pt_notInTT K (pv 1) (pe_ixT K (pv 0) pe_int) (u65 hr))))) (pss_one (ps_rz X (hr.mono (by decide)) (takes_of rfl rfl rfl rfl) (pv 3))) pss_nil))))), ?_⟩
    refine h.need rfl fun t a fc n L e tb ⟨ad, q0, q1⟩ H1 k1 => ?_
    subst e
    have tb1 := tb.kp k1
    have ad1 := ad.kp k1
    obtain ⟨ty, av⟩ := ad1.av
    refine ⟨_, rfl, t, a, fc, n, L, rfl, tb1, _, rfl, _, rfl, _, rfl, y, ty, n, n, rfl, av, _, rfl, ?_⟩
    rw [ad.tupKp k1]
    cases e : tupOf H y with
    | none =>
      rw [e] at q1
      exact iteT ((q1 .non rfl).go k1)
    | some xs =>
      rw [e] at q0 q1
      rw [tupLen_nn]
      unfold turnBad at q0 q1
      dsimp only at q0 q1
      by_cases hn : xs.length = n
      · rw [decide_eq_true hn]
        rw [if_pos hn] at q0 q1
        obtain ⟨b, rfl, hb⟩ := tupOf_some e
        refine iteF ⟨_, rfl, b, xs, rfl, k1.tup hb, fun z hz => ((ad.items e z hz).kp k1).av, fun H2 k2 => ⟨_, rfl, _, rfl, _, _, rfl, rfl, _, rfl, ?_⟩⟩
        have k12 := k1.trans k2
        by_cases hw : wseat xs < n
        · rw [decide_eq_true (by omega)]
          exact iteT (iteT ⟨_, rfl, (q1 _ (if_pos hw)).go k12⟩)
        · rw [decide_eq_false (by omega)]
          rw [if_neg hw] at q0 q1
          have hle := wseat_le xs
          obtain ⟨u, rfl, ou⟩ := (wseat_iff xs).mp (by omega)
          have tb2 := tb1.kp k2
          refine iteF ⟨_, rfl, _, rfl, t, _, 1, .ref a, rfl, rfl, .of tb2.t, rfl, b, a, u, L, rfl, rfl, .of (k12.tup hb), .inr (.of tb2.a), fun p hp => .of (tb2.all p hp), _, rfl, ?_⟩
          show if (!decide (u ∈ vals L)) = true then _ else _
          by_cases hm : u ∈ vals L
          · rw [decide_eq_true hm]
            exact iteF (q0 (if_pos (mem_ints.mpr hm)) H2 k12)
          · rw [decide_eq_false hm]
            exact iteT ⟨_, rfl, (q1 _ (if_neg fun z => hm (mem_ints.mp z))).go k12⟩
      · rw [decide_eq_false hn]
        rw [if_neg hn] at q1
        exact iteT ((q1 .non rfl).go k1)
end
end U
set_option maxHeartbeats 2000000
namespace U
open PySem PySem.Spec PyProof.Rows L2 GxR Bx Gx Ex Sx RZ
theorem walk_zipT {K : PySem.W.Frag} {a b : Addr} {xs ys : List V} (hl : xs.length = ys.length) : Walk (ItzT K a b) xs.length (fun H => SqT K H a xs ∧ SqT K H b ys) (YPair (fun i => xs[i]?) (fun i => ys[i]?)) := by
  refine ⟨fun i H hi q => ⟨xs, ys, xs[i], ys[i], q.1, q.2, List.getElem?_eq_getElem hi, List.getElem?_eq_getElem (by omega)⟩, fun H q => ⟨xs, ys, q.1, q.2, .inl (Nat.le_refl _)⟩, fun i H v H' _ q y => ?_⟩
  obtain ⟨T, x, y, h1, h2, h3, h4, h5⟩ := y
  exact ⟨T, x, y, h1, h2, h3, h4 xs q.1, h5 ys q.2⟩
section
variable {P : Program} {w : World} {K : PySem.W.Frag} {mg : Str → Option Value} {base : Heap} {Ps : List Addr} {CT CS CU CR CN : Addr}
theorem sc_need_row : FnScope ["table", "row", "number", "deed"] ["table", "row"] (defScope s_need_row) := ⟨rfl, rfl, rfl, by decide +kernel, rfl, by decide +kernel, by decide +kernel⟩
def spNeedRow (Ps : List Addr) (CT CR : Addr) : Sp := fun vs H Q E => ∃ x z, vs = [x, z] ∧ TA1 Ps CT H E x fun f n L => AD H z ∧ Judged Ps H Q E CR "number" (rowBad f n H z)
theorem firstBad_cons {p : V → Bool} {k : Nat} {x : V} {r : List V} : firstBad p k (x :: r) = if p x = true then firstBad p (k + 1) r else some (.int k) := rfl
theorem av_none {H : Hp} {x : V} {t : String} (h : AV H x t) : tupOf H x = Option.none → (t == "tuple") = false := fun e => by
  rw [← AV.tupOf h, e]; rfl
theorem ok_need_row (D : Dfn K mg "need_row" s_need_row ["table", "row"]) (B : BN mg) (X : ExK P w K mg base "BadRow" "number" CR) (o1 : OkX P w K mg base 7 "need_table" ["thing"] (spNeedTable Ps CT)) (o2 : Okd P w K mg base CX0 4 "is_stand_of" ["table", "thing"] (spIsStandOf Ps)) :
    OkX P w K mg base 8 "need_row" ["table", "row"] (spNeedRow Ps CT CR) := by
  refine U.Dfn.okX D sc_need_row (fun vs H Q E h => ?_) (fun f cdv A outer s H vs Q E hr h => ?_)
  · obtain ⟨x, y, rfl, _⟩ := h; rfl
  · obtain ⟨x, z, rfl, h⟩ := h
    have nd := sc_need_row.nd
    refine ⟨_, pss_cons (ps_expr (pe_doX o1 hr (takes_of rfl rfl rfl rfl) (pa_cons (pv 0) pa_nil)))
      (pss_cons (ps_if (pt_not (pt_val (pe_isi (pv 1) boot_tuple B.tuple B.isinstance))) (pss_one (ps_rz X (hr.mono (by decide)) (takes_of rfl rfl rfl rfl) pe_non)) pss_nil)
      (pss_one (ps_for (passes_of rfl) rfl (pi_enumT B.enumerate (pa_cons (pv 1) pa_nil))
        (pg_tup rfl (pgs_cons (pg_name (i := 2) nd rfl (.inl rfl)) (pgs_cons (pg_name (i := 3) nd rfl (.inl rfl)) pgs_nil)))
        (pss_one (ps_if (pt_not (pt_val (pe_do o2 (hr.mono (by decide)) (pa_cons (pv 0) (pa_cons (pv 3) pa_nil))))) (pss_one (ps_rz X (hr.mono (by decide)) (takes_of rfl rfl rfl rfl) (pv 2))) pss_nil))))), ?_⟩
    refine h.need rfl fun t a fc n L e tb ⟨ad, q0, q1⟩ H1 k1 => ?_
    subst e
    have tb1 := tb.kp k1
    have ad1 := ad.kp k1
    obtain ⟨ty, av⟩ := ad1.av
    refine ⟨_, rfl, z, .ty "tuple", _, _, _, rfl, .ty _, av.ty, av.isTup, _, rfl, ?_⟩
    unfold rowBad at q0 q1
    cases e : tupOf H z with
    | none =>
      rw [e] at q1
      rw [av_none av (by rw [ad.tupKp k1]; exact e)]
      exact iteT ((q1 .non rfl).go k1)
    | some xs =>
      rw [e] at q0 q1
      dsimp only at q0 q1
      obtain ⟨b, rfl, hb⟩ := tupOf_some e
      have hb1 := k1.tup hb
      have et : (ty == "tuple") = true := by rw [← AV.tupOf av, tupOf_of hb1]; rfl
      rw [et]
      refine iteF ⟨_, rfl, b, xs, rfl, .of hb1, ?_⟩
      refine for_it walk_enumT (fun i σ H' => Kp Ps H1 H' ∧ firstBad (fun y => (standBad fc n (U.tupOf H y)).isNone) i (xs.drop i) = firstBad (fun y => (standBad fc n (U.tupOf H y)).isNone) 0 xs ∧ ∃ u v, σ = [some (.ref t), some (.ref b), u, v]) ⟨.refl H1, rfl, Option.none, Option.none, rfl⟩ (fun i σ H' _ p => p.1.t (.of hb1)) ?_ ?_
      · rintro i x σ H' H'' hi ⟨kp, hw, u, v, rfl⟩ ⟨T, z, y, rfl, nT, rfl, hz, hy⟩
        cases hz
        have hy : xs[i]? = some y := hy
        have ady := ad.items e y (List.mem_of_getElem? hy)
        have kp1 : Kp Ps H1 (upd H' T (.tup [.int (i : Nat), y])) := kp.trans (.new nT)
        have k2 := k1.trans kp1
        rw [drop_cons hy] at hw
        rw [firstBad_cons] at hw
        refine ⟨T, _, rfl, .of upd_same, rfl, _, _, rfl, _, _, rfl, rfl, ?_⟩
        refine ⟨_, rfl, _, rfl, t, a, fc, n, L, y, rfl, tb.kp k2, ady.kp k2, fun H3 k3 => ⟨_, rfl, ?_⟩⟩
        rw [ady.tupKp k2]
        cases e2 : (standBad fc n (U.tupOf H y)).isNone with
        | true =>
          rw [e2, if_pos rfl] at hw
          exact iteF ⟨kp1.trans k3, hw, _, _, rfl⟩
        | false =>
          rw [e2, if_neg Bool.false_ne_true] at hw
          exact iteT ⟨_, rfl, (q1 _ hw.symm).go (k2.trans k3)⟩
      · rintro σ H' ⟨kp, hw, u, v, rfl⟩
        rw [List.drop_length] at hw
        exact q0 hw.symm H' (k1.trans kp)
theorem sc_need_run : FnScope ["table", "run", "row", "stand", "turns", "number", "turning"] ["table", "run", "row"] (defScope s_need_run) := ⟨rfl, rfl, rfl, by decide +kernel, rfl, by decide +kernel, by decide +kernel⟩
def spNeedRun (Ps : List Addr) (CN : Addr) : Sp := fun vs H Q E => ∃ t a f n L y z zs, vs = [.ref t, y, .ref z] ∧ Tab H t a f n L ∧ AD H y ∧ H z = some (.tup zs) ∧ Judged Ps H Q E CN "place" (runBad f n (vals L) zs.length H y)
theorem runBad_not {f n : Nat} {L : List (List Int)} {m : Nat} {H : Hp} {y : V} (h : tupLen 2 2 (tupOf H y) = false) : runBad f n L m H y = some .non := by
  unfold runBad
  cases e : tupOf H y with
  | none => rfl
  | some xs =>
    rw [e] at h
    match xs, h with
    | [], _ => rfl
    | [_], _ => rfl
    | [a, b], h =>
      have z : tupLen 2 2 (some [a, b]) = true := (tupLen_iff (lo := 2) (hi := 2)).mpr ⟨by show 2 ≤ 2; decide, by show 2 ≤ 2; decide⟩
      rw [z] at h
      cases h
    | _ :: _ :: _ :: _, _ => rfl
theorem two_of {H : Hp} {y : V} (h : tupLen 2 2 (tupOf H y) = true) : ∃ s t, tupOf H y = some [s, t] := by
  cases e : tupOf H y with
  | none => rw [e] at h; cases h
  | some xs =>
    rw [e] at h
    obtain ⟨h1, h2⟩ := (tupLen_iff (lo := 2) (hi := 2)).mp h
    match xs, h1, h2 with
    | [s, t], _, _ => exact ⟨s, t, rfl⟩
theorem ok_need_run (D : Dfn K mg "need_run" s_need_run ["table", "run", "row"]) (B : BN mg) (X : ExK P w K mg base "BadRun" "place" CN) (o1 : Okd P w K mg base CX0 1 "is_tuple_of" ["thing", "least", "most"] spTupOf) (o2 : Okd P w K mg base CX0 4 "is_stand_of" ["table", "thing"] (spIsStandOf Ps))
    (o3 : Okd P w K mg base CX0 5 "is_turning_of" ["table", "thing"] (spIsTurningOf Ps)) : OkX P w K mg base 6 "need_run" ["table", "run", "row"] (spNeedRun Ps CN) := by
  refine U.Dfn.okX D sc_need_run (fun vs H Q E h => ?_) (fun f cdv A outer s H vs Q E hr h => ?_)
  · obtain ⟨t, a, f, n, L, y, z, zs, rfl, _⟩ := h; rfl
  · obtain ⟨t, a, fc, n, L, y, z, zs, rfl, tb, ad, hz, q0, q1⟩ := h
    have nd := sc_need_run.nd
    refine ⟨_, pss_cons (ps_if (pt_not (pt_val (pe_do o1 (hr.mono (by decide)) (pa_cons (pv 1) (pa_cons pe_int (pa_cons pe_int pa_nil)))))) (pss_one (ps_rz X (hr.mono (by decide)) (takes_of rfl rfl rfl rfl) pe_non)) pss_nil)
      (pss_cons (ps_asg (pv 1) (pg_tup rfl (pgs_cons (pg_name (i := 3) nd rfl (.inl rfl)) (pgs_cons (pg_name (i := 4) nd rfl (.inl rfl)) pgs_nil))))
      (pss_cons (ps_if (pt_not (pt_val (pe_do o2 (hr.mono (by decide)) (pa_cons (pv 0) (pa_cons (pv 3) pa_nil))))) (pss_one (ps_rz X (hr.mono (by decide)) (takes_of rfl rfl rfl rfl) pe_str)) pss_nil)
      (pss_cons (ps_if (pt_not (pt_val (pe_do o1 (hr.mono (by decide)) (pa_cons (pv 4) (pa_cons (pe_len K B.len (pv 2)) (pa_cons (pe_len K B.len (pv 2)) pa_nil)))))) (pss_one (ps_rz X (hr.mono (by decide)) (takes_of rfl rfl rfl rfl) pe_str)) pss_nil)
      (pss_one (ps_for (passes_of rfl) rfl (pi_enumT B.enumerate (pa_cons (pv 4) pa_nil))
        (pg_tup rfl (pgs_cons (pg_name (i := 5) nd rfl (.inl rfl)) (pgs_cons (pg_name (i := 6) nd rfl (.inl rfl)) pgs_nil)))
        (pss_one (ps_if (pt_not (pt_val (pe_do o3 hr (pa_cons (pv 0) (pa_cons (pv 6) pa_nil))))) (pss_one (ps_rz X (hr.mono (by decide)) (takes_of rfl rfl rfl rfl) (pv 5))) pss_nil))))))), ?_⟩
    obtain ⟨ty, av⟩ := ad.av
    refine ⟨_, rfl, y, ty, 2, 2, rfl, av, _, rfl, ?_⟩
    cases e : tupLen 2 2 (tupOf H y) with
    | false => exact iteT ((q1 _ (runBad_not e)).go (.refl H))
    | true =>
      obtain ⟨sv, tv, e2⟩ := two_of e
      obtain ⟨b, rfl, hb⟩ := tupOf_some e2
      have ads := ad.items e2 sv List.mem_cons_self
      have adt := ad.items e2 tv (List.mem_cons_of_mem _ List.mem_cons_self)
      unfold runBad at q0 q1
      rw [e2] at q0 q1
      dsimp only at q0 q1
      refine iteF ⟨_, rfl, b, _, rfl, .of hb, rfl, _, _, rfl, _, _, rfl, rfl, ?_⟩
      refine ⟨_, rfl, _, rfl, t, a, fc, n, L, sv, rfl, tb, ads, fun H1 k1 => ⟨_, rfl, ?_⟩⟩
      cases e3 : standBad fc n (tupOf H sv) with
      | some v =>
        rw [e3] at q1
        exact iteT ((q1 _ (if_pos rfl)).go k1)
      | none =>
        rw [e3] at q0 q1
        have hno : ((Option.none : Option V).isSome = true) ↔ False := ⟨fun z => Bool.noConfusion z, fun z => z.elim⟩
        have hz1 := k1.tup hz
        have adt1 := adt.kp k1
        obtain ⟨ty2, av2⟩ := adt1.av
        refine iteF ⟨_, rfl, _, rfl, z, zs, rfl, .inr (.of hz1), _, rfl, z, zs, rfl, .inr (.of hz1), tv, ty2, zs.length, zs.length, rfl, av2, _, rfl, ?_⟩
        rw [adt.tupKp k1]
        cases e4 : tupOf H tv with
        | none =>
          rw [e4] at q1
          exact iteT ((q1 _ (if_neg (by decide))).go k1)
        | some ts =>
          rw [e4] at q0 q1
          dsimp only at q0 q1
          rw [tupLen_nn]
          by_cases hn : ts.length = zs.length
          · rw [decide_eq_true hn]
            rw [if_pos hn] at q0 q1
            obtain ⟨c, rfl, hc⟩ := tupOf_some e4
            have hc1 := k1.tup hc
            refine iteF ⟨_, rfl, c, ts, rfl, .of hc1, ?_⟩
            refine for_it walk_enumT (fun i σ H' => Kp Ps H1 H' ∧ firstBad (fun y => (turnBad n (vals L) (U.tupOf H y)).isNone) i (ts.drop i) = firstBad (fun y => (turnBad n (vals L) (U.tupOf H y)).isNone) 0 ts ∧ ∃ u v, σ = [some (.ref t), some (.ref b), some (.ref z), some sv, some (.ref c), u, v])
              ⟨.refl H1, rfl, Option.none, Option.none, rfl⟩ (fun i σ H' _ p => p.1.t (.of hc1)) ?_ ?_
            · rintro i x σ H' H'' hi ⟨kp, hw, u, v, rfl⟩ ⟨T, z, y, rfl, nT, rfl, hz, hy⟩
              cases hz
              have hy : ts[i]? = some y := hy
              have ady := adt.items e4 y (List.mem_of_getElem? hy)
              have kp1 : Kp Ps H1 (upd H' T (.tup [.int (i : Nat), y])) := kp.trans (.new nT)
              have k2 := k1.trans kp1
              rw [drop_cons hy] at hw
              rw [firstBad_cons] at hw
              refine ⟨T, _, rfl, .of upd_same, rfl, _, _, rfl, _, _, rfl, rfl, ?_⟩
              refine ⟨_, rfl, _, rfl, t, a, fc, n, L, y, rfl, tb.kp k2, ady.kp k2, fun H3 k3 => ⟨_, rfl, ?_⟩⟩
              rw [ady.tupKp k2]
              cases e5 : (turnBad n (vals L) (U.tupOf H y)).isNone with
              | true =>
                rw [e5, if_pos rfl] at hw
                exact iteF ⟨kp1.trans k3, hw, _, _, rfl⟩
              | false =>
                rw [e5, if_neg Bool.false_ne_true] at hw
                exact iteT ⟨_, rfl, (q1 _ ((if_neg (by decide)).trans hw.symm)).go (k2.trans k3)⟩
            · rintro σ H' ⟨kp, hw, u, v, rfl⟩
              rw [List.drop_length] at hw
              exact q0 ((if_neg (by decide)).trans hw.symm) H' (k1.trans kp)
          · rw [decide_eq_false hn]
            rw [if_neg hn] at q1
            exact iteT ((q1 _ (if_neg (by decide))).go k1)
end
end U
set_option maxHeartbeats 2000000
namespace U
open PySem PySem.Spec PyProof.Rows L2 GxR Bx Gx Ex Sx RZ
def plusL (f : Int) (s o : List Int) : List Int := List.zipWith (fun x y => (x + y).fmod f) s o
theorem map_get {t : List Int} {i : Nat} {x : V} (h : (t.map V.int)[i]? = some x) : ∃ z, t[i]? = some z ∧ x = .int z := by
  rw [List.getElem?_map] at h
  cases e : t[i]? with
  | none => rw [e] at h; cases h
  | some z => rw [e] at h; cases h; exact ⟨z, rfl, rfl⟩
theorem get_map {t : List Int} {i : Nat} {z : Int} (h : t[i]? = some z) : (t.map V.int)[i]? = some (.int z) := by
  rw [List.getElem?_map, h]; rfl
/-- list(e) -/
def rListOf (K : PySem.W.Frag) : List V → Hp → VK → Prop := fun xs H Q => ∃ p ys, xs = [.ref p] ∧ (SqL K H p ys ∨ SqT K H p ys) ∧ ∀ l, H l = none → Q (.ref l) (upd H l (.lst ys))
theorem pe_listS (K : PySem.W.Frag) {X : Cx} {e : Expr} {te : TE} {p pos : Pos} (hm : X.mg "list" = none) (he : PE X e te) (hg : Gl X "list" := by rfl) (hK : X.K = K := by rfl) (hs : starEach [e] X.env = (false, eval e X.env) :: starEach [] X.env := by rfl) :
    PE X (.Call (.Name "list" p) [e] [] pos) (tCB (rListOf K) (tCons te tNil)) := by
  subst hK
  exact pe_callTy call_list_of hg hm boot_list (pa_cons he pa_nil hs) (by decide) (by decide) hs rfl
section
variable {P : Program} {w : World} {K : PySem.W.Frag} {mg : Str → Option Value} {base : Heap} {Ps : List Addr} {CT CS CU CR CN : Addr}
theorem sc_plus : FnScope ["faces", "stand", "other", "face", "more"] ["faces", "stand", "other"] (defScope s_plus) := ⟨rfl, rfl, rfl, by decide +kernel, rfl, by decide +kernel, by decide +kernel⟩
def spPlus (K : PySem.W.Frag) (Ps : List Addr) : Sp := fun vs H Q _ => ∃ (f : Int) (a b : Addr) (s o : List Int), vs = [.int f, .ref a, .ref b] ∧ f ≠ 0 ∧ SqT K H a (s.map V.int) ∧ SqT K H b (o.map V.int) ∧ s.length = o.length ∧ s.length ≤ 1000 ∧
  ∀ p H', Kp Ps H H' → H p = none → H' p = some (.tup ((plusL f s o).map V.int)) → Q (.ref p) H'
theorem ok_plus (D : Dfn K mg "plus" s_plus ["faces", "stand", "other"]) (B : BN mg) : Okd P w K mg base CX0 1 "plus" ["faces", "stand", "other"] (spPlus K Ps) := by
  refine D.ok sc_plus (fun vs H Q E h => ?_) (fun f cdv A outer s H vs Q E hr h => ?_)
  · obtain ⟨f, a, b, s, o, rfl, _⟩ := h; rfl
  · obtain ⟨fc, a, b, st, o, rfl, h0, ha, hb, hl, hn, q⟩ := h
    have nd := sc_plus.nd
    refine ⟨_, pss_one (ps_ret (pe_tupleOf rfl B.tuple (pe_lc (own := [("face", 3), ("more", 4)]) (g := gTup K 2 (gCons (gName 3) (gCons (gName 4) gNil))) (tt := tYes) rfl nd (pi_zipA rfl B.zip (pa_cons (pv 1) (pa_cons (pv 2) pa_nil))) (blkOk_by (N := ["faces", "stand", "other", "face", "more"]) (sc := defScope s_plus) (by decide +kernel))
      (fun _ _ _ _ _ => pg_tup rfl (pgs_cons (pg_name (i := 3) nd rfl (.inl rfl)) (pgs_cons (pg_name (i := 4) nd rfl (.inl rfl)) pgs_nil))) (fun _ _ _ _ _ => pts_nil) (fun _ _ _ _ _ => pe_op op_modN (pe_op op_add (pv 3) (pv 4)) (pv 0))))), ?_⟩
    refine ⟨_, rfl, _, rfl, a, b, st.map V.int, o.map V.int, rfl, .inr ⟨ha, hb, fun D nD => ?_⟩⟩
    have hlm : (st.map V.int).length = (o.map V.int).length := by rw [List.length_map, List.length_map, hl]
    refine lc_it (walk_zipT hlm) (fun i H' => Kp Ps H H' ∧ H' D = some (.lst (((plusL fc st o).take i).map V.int))) ⟨Kp.new nD, upd_same⟩ (fun i H' _ p => ⟨p.1.t ha, p.1.t hb⟩) ?_ ?_
    · rintro i x H' H'' hi ⟨kp, hD⟩ ⟨T, u, v, rfl, nT, rfl, hu, hv⟩
      obtain ⟨x, hx, rfl⟩ := map_get hu
      obtain ⟨y, hy, rfl⟩ := map_get hv
      have k1 : Kp Ps H (upd H' T (.tup [.int x, .int y])) := kp.trans (.new nT)
      have hD1 : upd H' T (.tup [.int x, .int y]) D = some (.lst (((plusL fc st o).take i).map V.int)) := by rw [upd_ne (ne_of_none hD nT)]; exact hD
      have e3 : (plusL fc st o)[i]? = some ((x + y).fmod fc) := by
        unfold plusL
        rw [List.getElem?_zipWith, hx, hy]
      refine ⟨T, _, rfl, .of upd_same, rfl, _, _, rfl, _, _, rfl, rfl, rfl, _, rfl, _, rfl, _, _, rfl, rfl, _, rfl, _, _, rfl, rfl, h0, _, hD1, ?_, k1.mut nD (fun ps z => by rw [hD1] at z; cases z), ?_⟩
      · rw [List.length_map, List.length_take]
        refine Nat.lt_of_le_of_lt (Nat.min_le_right _ _) ?_
        unfold plusL
        rw [List.length_zipWith]
        exact small1000 (Nat.le_trans (Nat.min_le_left _ _) hn)
      · rw [upd_same, List.take_add_one, e3, List.map_append]
        rfl
    · rintro H' ⟨kp, hD⟩
      have hlen : (plusL fc st o).length = (st.map V.int).length := by
        unfold plusL
        rw [List.length_zipWith, List.length_map, hl, Nat.min_self]
      rw [List.take_of_length_le (by omega)] at hD
      exact .inl ⟨D, _, rfl, .of hD, fun p np => q p _ (kp.trans (.new np)) (kp.fresh np) upd_same⟩
theorem sc_turned : FnScope ["turning", "stand", "found", "seat", "goal"] ["turning", "stand"] (defScope s_turned) := ⟨rfl, rfl, rfl, by decide +kernel, rfl, by decide +kernel, by decide +kernel⟩
/-- r is what the order t makes of s -/
structure Turned (t s r : List Int) : Prop where
  len : r.length = s.length
  at_ : ∀ (i : Nat) (g x : Int), t[i]? = some g → s[i]? = some x → r[g.toNat]? = some x
  mem : ∀ x ∈ r, x ∈ s
def spTurned (K : PySem.W.Frag) (Ps : List Addr) : Sp := fun vs H Q _ => ∃ (a b : Addr) (t s : List Int), vs = [.ref a, .ref b] ∧ SqT K H a (t.map V.int) ∧ SqT K H b (s.map V.int) ∧ Order s.length t ∧ s.length ≤ 1000 ∧
  ∀ p r H', Kp Ps H H' → H p = none → H' p = some (.tup (r.map V.int)) → Turned t s r → Q (.ref p) H'
theorem ok_turned (D : Dfn K mg "turned" s_turned ["turning", "stand"]) (B : BN mg) : Okd P w K mg base CX0 1 "turned" ["turning", "stand"] (spTurned K Ps) := by
  refine D.ok sc_turned (fun vs H Q E h => ?_) (fun f cdv A outer s H vs Q E hr h => ?_)
  · obtain ⟨a, b, t, s, rfl, _⟩ := h; rfl
  · obtain ⟨a, b, t, st, rfl, ha, hb, ho, hn, q⟩ := h
    have nd := sc_turned.nd
    refine ⟨_, pss_cons (ps_set (i := 2) nd rfl (.inl rfl) (pe_listS K B.list (pv 1)))
      (pss_cons (ps_for PassesOwn.never rfl (pi_enumT B.enumerate (pa_cons (pv 0) pa_nil))
        (pg_tup rfl (pgs_cons (pg_name (i := 3) nd rfl (.inl rfl)) (pgs_cons (pg_name (i := 4) nd rfl (.inl rfl)) pgs_nil)))
        (pss_one (ps_asg (pe_ixT K (pv 1) (pv 3)) (pg_sub (pv 2) (pv 4) set_list))))
      (pss_one (ps_ret (pe_tupleOf rfl B.tuple (pv 2))))), ?_⟩
    refine ⟨_, rfl, b, _, rfl, .inr hb, fun F hF => ?_⟩
    have kF : Kp Ps H (upd H F (.lst (st.map V.int))) := .new hF
    refine ⟨_, rfl, a, t.map V.int, rfl, kF.t ha, ?_⟩
    refine for_it walk_enumT (fun i σ H' => Kp Ps H H' ∧ ∃ (r : List Int) (u v : Option V), H' F = some (.lst (r.map V.int)) ∧ r.length = st.length ∧ (∀ x ∈ r, x ∈ st) ∧ (∀ (j : Nat) (g x : Int), j < i → t[j]? = some g → st[j]? = some x → r[g.toNat]? = some x) ∧ σ = [some (.ref a), some (.ref b), some (.ref F), u, v])
      ⟨kF, st, none, none, upd_same, rfl, fun x h => h, fun j g x h => absurd h (Nat.not_lt_zero _), rfl⟩ (fun i σ H' _ p => p.1.t ha) ?_ ?_
    · rintro i x σ H' H'' hi ⟨kp, r, u, v, hr1, hr2, hr3, hr4, rfl⟩ ⟨T, z, y, rfl, nT, rfl, hz, hy⟩
      cases hz
      obtain ⟨g, hg, rfl⟩ := map_get hy
      have hit : i < st.length := by rw [← ho.1]; exact len_of hg
      obtain ⟨x, hx⟩ : ∃ x, st[i]? = some x := ⟨_, List.getElem?_eq_getElem hit⟩
      have g01 := ho.2.1 g (List.mem_of_getElem? hg)
      have k1 : Kp Ps H (upd H' T (.tup [.int (i : Nat), .int g])) := kp.trans (.new nT)
      have hr5 : upd H' T (.tup [.int (i : Nat), .int g]) F = some (.lst (r.map V.int)) := by rw [upd_ne (ne_of_none hr1 nT)]; exact hr1
      have hix : ixN (r.map V.int).length g = some g.toNat := by
        unfold ixN
        rw [List.length_map, if_pos g01.1, if_pos (by omega)]
      refine ⟨T, _, rfl, .of upd_same, rfl, _, _, rfl, _, _, rfl, rfl, ?_⟩
      refine ⟨_, rfl, _, rfl, b, _, _, _, rfl, rfl, k1.t hb, atI_nat (get_map hx), _, rfl, _, rfl, F, _, g, g.toNat, rfl, rfl, hr5, hix, k1.mut hF (fun ps z => by rw [hr5] at z; cases z), r.set g.toNat x, _, _, ?_, by rw [List.length_set, hr2], ?_, ?_, rfl⟩
      · rw [upd_same, List.map_set]
      · intro y hy
        rcases List.mem_or_eq_of_mem_set hy with e | e
        · exact hr3 y e
        · rw [e]; exact List.mem_of_getElem? hx
      · intro j g' x' hj hg' hx'
        rcases Nat.lt_succ_iff_lt_or_eq.mp hj with e | e
        · have ne : g.toNat ≠ g'.toNat := fun z => by
            have g02 := ho.2.1 g' (List.mem_of_getElem? hg')
            have e2 : g = g' := by omega
            subst e2
            have := (List.getElem?_inj (by have := len_of hg'; exact this) ho.2.2).mp (hg'.trans hg.symm)
            omega
          rw [List.getElem?_set_ne ne]
          exact hr4 j g' x' e hg' hx'
        · subst e
          rw [hg] at hg'
          rw [hx] at hx'
          cases hg'
          cases hx'
          rw [List.getElem?_set_self (by omega)]
    · rintro σ H' ⟨kp, r, u, v, hr1, hr2, hr3, hr4, rfl⟩
      refine ⟨_, rfl, .inl ⟨F, _, rfl, .of hr1, fun p np => q p r _ (kp.trans (.new np)) (kp.fresh np) upd_same ⟨hr2, fun i g x hg hx => hr4 i g x ?_ hg hx, hr3⟩⟩⟩
      rw [List.length_map]
      exact len_of hg
end
end U
set_option maxHeartbeats 2000000
namespace U
open PySem PySem.Spec PyProof.Rows L2 GxR Bx Gx Ex Sx RZ
def Stand (f n : Nat) (s : List Int) : Prop := s.length = n ∧ ∀ x ∈ s, 0 ≤ x ∧ x < f
theorem wfFrom_all (n : Int) : ∀ (xs : List V) (k : Nat), wfFrom n k xs = k + xs.length → ∃ s : List Int, xs = s.map V.int ∧ ∀ x ∈ s, 0 ≤ x ∧ x < n
  | [], _, _ => ⟨[], rfl, fun x h => by cases h⟩
  | x :: r, k, h => by
    unfold wfFrom at h
    split at h
    · rename_i c
      obtain ⟨i, rfl, h0, h1⟩ := okV_int c
      obtain ⟨s, rfl, hs⟩ := wfFrom_all n r (k + 1) (by rw [h, List.length_cons]; omega)
      refine ⟨i :: s, rfl, fun y hy => ?_⟩
      rcases List.mem_cons.mp hy with e | e
      · subst e; omega
      · exact hs y e
    · rw [List.length_cons] at h
      omega
theorem standBad_none {f n : Nat} {o : Option (List V)} (h : standBad f n o = none) : ∃ s, o = some (s.map V.int) ∧ Stand f n s := by
  unfold standBad at h
  cases o with
  | none => cases h
  | some xs =>
    dsimp only at h
    split at h
    · rename_i hl
      split at h
      · cases h
      · rename_i hw
        have hle := wface_le f xs
        obtain ⟨s, rfl, hs⟩ := wfFrom_all f xs 0 (by unfold wface at hw hle; omega)
        rw [List.length_map] at hl
        exact ⟨s, rfl, hl, hs⟩
    · cases h
theorem firstBad_none {p : V → Bool} : ∀ {xs : List V} {k : Nat}, firstBad p k xs = none → ∀ x ∈ xs, p x = true
  | [], _, _, x, hx => by cases hx
  | y :: r, k, h, x, hx => by
    rw [firstBad_cons] at h
    split at h
    · rename_i c
      rcases List.mem_cons.mp hx with e | e
      · rw [e]; exact c
      · exact firstBad_none h x e
    · cases h
theorem isNone_iff {o : Option V} : o.isNone = true ↔ o = none := by cases o <;> simp
theorem firstBad_congr {p q : V → Bool} : ∀ {xs : List V} {k : Nat}, (∀ x ∈ xs, p x = q x) → firstBad p k xs = firstBad q k xs
  | [], _, _ => rfl
  | x :: r, k, h => by
    rw [firstBad_cons, firstBad_cons, h x List.mem_cons_self, firstBad_congr (xs := r) fun y hy => h y (List.mem_cons_of_mem _ hy)]
theorem runBad_kp {Ps : List Addr} {f n m : Nat} {L : List (List Int)} {H H1 : Hp} {y : V} (k : Kp Ps H H1) (ad : AD H y) : runBad f n L m H1 y = runBad f n L m H y := by
  cases e : tupLen 2 2 (tupOf H y) with
  | false => rw [runBad_not e, runBad_not (by rw [ad.tupKp k]; exact e)]
  | true =>
    obtain ⟨sv, tv, e2⟩ := two_of e
    have ads := ad.items e2 sv List.mem_cons_self
    have adt := ad.items e2 tv (List.mem_cons_of_mem _ List.mem_cons_self)
    unfold runBad
    rw [ad.tupKp k, e2]
    dsimp only
    rw [ads.tupKp k, adt.tupKp k]
    cases e4 : tupOf H tv with
    | none => rfl
    | some ts =>
      dsimp only
      rw [firstBad_congr (xs := ts) (q := fun y => (turnBad n L (tupOf H y)).isNone) fun u hu => by rw [(adt.items e4 u hu).tupKp k]]
theorem rowBad_none {f n : Nat} {H : Hp} {z : V} (h : rowBad f n H z = none) : ∃ zs, tupOf H z = some zs ∧ ∀ d ∈ zs, standBad f n (tupOf H d) = none := by
  unfold rowBad at h
  cases e : tupOf H z with
  | none => rw [e] at h; cases h
  | some zs =>
    rw [e] at h
    exact ⟨zs, rfl, fun d hd => isNone_iff.mp (firstBad_none h d hd)⟩
theorem runBad_none {f n m : Nat} {L : List (List Int)} {H : Hp} {y : V} (h : runBad f n L m H y = none) : ∃ sv tv ts, tupOf H y = some [sv, tv] ∧ standBad f n (tupOf H sv) = none ∧ tupOf H tv = some ts ∧ ts.length = m ∧ ∀ u ∈ ts, (turnBad n L (tupOf H u)).isNone = true := by
  cases e : tupLen 2 2 (tupOf H y) with
  | false => rw [runBad_not e] at h; cases h
  | true =>
    obtain ⟨sv, tv, e2⟩ := two_of e
    unfold runBad at h
    rw [e2] at h
    dsimp only at h
    split at h
    · cases h
    · rename_i c
      have c2 : standBad f n (tupOf H sv) = none := by
        cases e5 : standBad f n (tupOf H sv) with
        | none => rfl
        | some v => rw [e5] at c; exact absurd rfl c
      split at h
      · rename_i ts e3
        split at h
        · rename_i hl
          exact ⟨sv, tv, ts, e2, c2, e3, hl, fun u hu => firstBad_none h u hu⟩
        · cases h
      · cases h
section
variable {P : Program} {w : World} {K : PySem.W.Frag} {mg : Str → Option Value} {base : Heap} {Ps : List Addr} {CT CS CU CR CN : Addr}
theorem Turned.stand {f n : Nat} {t s r : List Int} (h : Turned t s r) (hs : Stand f n s) : Stand f n r := ⟨by rw [h.len, hs.1], fun x hx => hs.2 x (h.mem x hx)⟩
theorem plus_stand {f n : Nat} {s o : List Int} (hf : 2 ≤ f) (hs : s.length = n) (ho : o.length = n) : Stand f n (plusL f s o) := by
  unfold plusL
  refine ⟨by rw [List.length_zipWith, hs, ho, Nat.min_self], fun x hx => ?_⟩
  obtain ⟨i, hi, rfl⟩ := List.getElem_of_mem hx
  rw [List.getElem_zipWith]
  exact ⟨Int.fmod_nonneg_of_pos _ (by omega), Int.fmod_lt_of_pos _ (by omega)⟩
theorem sc_walked : FnScope ["table", "run", "row", "stand", "turns", "found", "turning", "deed"] ["table", "run", "row"] (defScope s_walked) := ⟨rfl, rfl, rfl, by decide +kernel, rfl, by decide +kernel, by decide +kernel⟩
def spWalked (Ps : List Addr) (CT CR CN : Addr) : Sp := fun vs H Q E => ∃ x y z, vs = [x, y, z] ∧ TA1 Ps CT H E x fun f n L => AD H y ∧ AD H z ∧ (∀ v, rowBad f n H z = some v → Out Ps H E CR "number" v) ∧
  (rowBad f n H z = none → ∀ zs, tupOf H z = some zs → zs.length ≤ 1000 ∧ (∀ v, runBad f n (vals L) zs.length H y = some v → Out Ps H E CN "place" v) ∧ (runBad f n (vals L) zs.length H y = none → ∀ p xs H', Kp Ps H H' → H' p = some (.lst xs) → Q (.ref p) H'))
theorem ok_walked (D : Dfn K mg "walked" s_walked ["table", "run", "row"]) (B : BN mg) (o1 : OkX P w K mg base 8 "need_row" ["table", "row"] (spNeedRow Ps CT CR)) (o2 : OkX P w K mg base 6 "need_run" ["table", "run", "row"] (spNeedRun Ps CN))
    (o3 : Okd P w K mg base CX0 1 "plus" ["faces", "stand", "other"] (spPlus K Ps)) (o4 : Okd P w K mg base CX0 1 "turned" ["turning", "stand"] (spTurned K Ps)) : OkX P w K mg base 9 "walked" ["table", "run", "row"] (spWalked Ps CT CR CN) := by
  refine U.Dfn.okX D sc_walked (fun vs H Q E h => ?_) (fun f cdv A outer s H vs Q E hr h => ?_)
  · obtain ⟨x, y, z, rfl, _⟩ := h; rfl
  · obtain ⟨x, y, z, rfl, tg, h⟩ := h
    have nd := sc_walked.nd
    refine ⟨_, pss_cons (ps_expr (pe_doX o1 hr (takes_of rfl rfl rfl rfl) (pa_cons (pv 0) (pa_cons (pv 2) pa_nil))))
      (pss_cons (ps_expr (pe_doX o2 (hr.mono (by decide)) (takes_of rfl rfl rfl rfl) (pa_cons (pv 0) (pa_cons (pv 1) (pa_cons (pv 2) pa_nil)))))
      (pss_cons (ps_asg (pv 1) (pg_tup rfl (pgs_cons (pg_name (i := 3) nd rfl (.inl rfl)) (pgs_cons (pg_name (i := 4) nd rfl (.inl rfl)) pgs_nil))))
      (pss_cons (ps_set (i := 5) nd rfl (.inl rfl) (pe_lst (pa_cons (pv 3) pa_nil)))
      (pss_cons (ps_for (passes_of rfl) rfl (pi_zipA rfl B.zip (pa_cons (pv 4) (pa_cons (pv 2) pa_nil)))
        (pg_tup rfl (pgs_cons (pg_name (i := 6) nd rfl (.inl rfl)) (pgs_cons (pg_name (i := 7) nd rfl (.inl rfl)) pgs_nil)))
        (pss_one (ps_expr (pe_append K (pv 5) (pe_do o3 (hr.mono (by decide)) (pa_cons (pe_ixT K (pv 0) pe_int) (pa_cons (pe_do o4 (hr.mono (by decide)) (pa_cons (pv 6) (pa_cons (pe_ixL K (pv 5) (pe_un un_neg pe_int)) pa_nil))) (pa_cons (pv 7) pa_nil))))))))
      (pss_one (ps_ret (pv 5))))))), ?_⟩
    rcases h with ⟨t, a, fc, n, L, rfl, tb, ad, adz, q1, q2⟩ | ⟨v, adx, no, out⟩
    · refine ⟨_, rfl, _, rfl, .ref t, z, rfl, tg, .inl ⟨t, a, fc, n, L, rfl, tb, adz, fun e H1 k1 => ?_, fun v e => q1 v e⟩⟩
      obtain ⟨zs, ez, hds⟩ := rowBad_none e
      obtain ⟨hzl, q3, q4⟩ := q2 e zs ez
      obtain ⟨b, rfl, hb⟩ := tupOf_some ez
      have tb1 := tb.kp k1
      have ad1 := ad.kp k1
      have hb1 := k1.tup hb
      have same : runBad fc n (vals L) zs.length H1 y = runBad fc n (vals L) zs.length H y := runBad_kp k1 ad
      refine ⟨_, rfl, _, rfl, _, rfl, t, a, fc, n, L, y, b, zs, rfl, tb1, ad1, hb1, fun e2 H2 k2 => ?_, fun v e2 => (q3 v (same ▸ e2)).kp k1⟩
      rw [same] at e2
      have q5 := q4 e2
      obtain ⟨sv, tv, ts, ey, es, et, el, ets⟩ := runBad_none e2
      obtain ⟨c, rfl, hc⟩ := tupOf_some ey
      obtain ⟨s0, es0, hs0⟩ := standBad_none es
      obtain ⟨sa, rfl, hsa⟩ := tupOf_some es0
      obtain ⟨ta, rfl, hta⟩ := tupOf_some et
      have k12 := k1.trans k2
      refine ⟨_, rfl, c, _, rfl, .of (k12.tup hc), rfl, _, _, rfl, _, _, rfl, rfl, ?_⟩
      refine ⟨_, rfl, (by show 1 ≤ sizeLine; decide), fun F hF => ?_⟩
      have k3 : Kp Ps H (upd H2 F (.lst [.ref sa])) := k12.trans (.new hF)
      have nF : H F = none := k12.fresh hF
      refine ⟨_, rfl, _, rfl, ta, b, ts, zs, rfl, .inr ⟨.of (k3.tup hta), .of (k3.tup hb), ?_⟩⟩
      refine for_it (walk_zipT el) (fun i σ H' => Kp Ps H H' ∧ ∃ (R : List Tup) (l : Tup) (u v : Option V), H' F = some (.lst (refs R ++ [.ref l.1])) ∧ H' l.1 = some (.tup (l.2.map V.int)) ∧ Stand fc n l.2 ∧ R.length = i ∧ σ = [some (.ref t), some (.ref c), some (.ref b), some (.ref sa), some (.ref ta), some (.ref F), u, v])
        ⟨k3, [], (sa, s0), none, none, upd_same, k3.tup hsa, hs0, rfl, rfl⟩ (fun i σ H' _ p => ⟨.of (p.1.tup hta), .of (p.1.tup hb)⟩) ?_ ?_
      · rintro i x σ H' H'' hi ⟨kp, R, l, u, v, hl1, hl2, hl3, hl4, rfl⟩ ⟨T, p, d, rfl, nT, rfl, hp, hd⟩
        have hp : ts[i]? = some p := hp
        have hd : zs[i]? = some d := hd
        obtain ⟨tp, etp, htp⟩ := (turnBad_none tb.T _).mp (ets p (List.mem_of_getElem? hp))
        obtain ⟨pa, rfl, hpa⟩ := tupOf_some etp
        obtain ⟨sd, esd, hsd⟩ := standBad_none (hds d (List.mem_of_getElem? hd))
        obtain ⟨da, rfl, hda⟩ := tupOf_some esd
        have k4 : Kp Ps H' (upd H' T (.tup [.ref pa, .ref da])) := .new nT
        have kp4 := kp.trans k4
        have hF4 := k4.lst hl1
        have ht4 := kp4.tup tb.t
        refine ⟨T, _, rfl, .of upd_same, rfl, _, _, rfl, _, _, rfl, rfl, ?_⟩
        refine ⟨_, rfl, .inl ⟨rfl, _, .of hF4⟩, _, rfl, t, _, 0, .int fc, rfl, rfl, .of ht4, rfl, _, rfl, _, rfl, _, rfl, F, _, -1, .ref l.1, rfl, rfl, .of hF4, atI_last _ _, pa, l.1, tp, l.2, rfl, .of (kp4.tup hpa), .of (k4.tup hl2), ?_, ?_, fun q1 r H5 k5 n5 h5 tr => ?_⟩
        · rw [hl3.1]; exact tb.T.ord tp htp
        · rw [hl3.1]; have := tb.T.n8; omega
        · have kp5 := kp4.trans k5
          refine ⟨_, rfl, fc, q1, da, r, sd, rfl, by have := tb.f2; omega, .of h5, .of (kp5.tup hda), by rw [(tr.stand hl3).1, hsd.1], by rw [(tr.stand hl3).1]; have := tb.T.n8; omega, fun q2 H6 k6 n6 h6 => ?_⟩
          have kp6 := kp5.trans k6
          have hF6 := k6.lst (k5.lst hF4)
          refine ⟨F, _, .ref q2, rfl, rfl, hF6, ?_, ?_⟩
          · rw [List.length_append, refs_len, hl4]
            exact small1000 (by show i + 1 ≤ 1000; omega)
          · refine ⟨kp6.mut nF (fun ps z => by rw [hF6] at z; cases z), R ++ [l], (q2, plusL fc r sd), _, _, ?_, ?_, plus_stand tb.f2 (tr.stand hl3).1 hsd.1, by rw [List.length_append, hl4]; rfl, rfl⟩
            · rw [upd_same]
              unfold refs
              rw [List.map_append]; rfl
            · rw [upd_ne (ne_of h6 hF6 (by intro z; cases z))]
              exact h6
      · rintro σ H' ⟨kp, R, l, u, v, hl1, hl2, hl3, hl4, rfl⟩
        exact ⟨_, rfl, q5 F _ H' kp hl1⟩
    · exact ⟨_, rfl, _, rfl, x, z, rfl, tg, .inr ⟨v, adx, no, out⟩⟩
end
end U
set_option maxHeartbeats 2000000
namespace U
open PySem PySem.Spec PyProof.Rows L2 GxR Bx Gx Ex Sx RZ
/-! all is kept but the state at s -/
structure Ke (Ps : List Addr) (s : Addr) (H H' : Hp) : Prop where
  old : ∀ b o, b ≠ s → H b = some o → (∀ ps, o ≠ .tbl ps) → H' b = some o
  tab : Tg Ps H → Tg Ps H'
  tb : ∀ b ps, H b = some (.tbl ps) → ∃ ps', H' b = some (.tbl ps') ∧ (b ∉ Ps → ps' = ps)
  at_ : (H s).isSome → (H' s).isSome
section
variable {Ps : List Addr} {K : PySem.W.Frag} {H H1 H2 : Hp} {s a p : Addr} {o : HO} {xs : List V}
theorem Ke.of (k : Kp Ps H H1) : Ke Ps s H H1 := ⟨fun b o _ e n => k.old b o e n, k.tab, k.tb, fun h => by
  obtain ⟨o, e⟩ := Option.isSome_iff_exists.mp h
  by_cases ht : ∃ ps, o = .tbl ps
  · obtain ⟨ps, rfl⟩ := ht
    obtain ⟨ps', z, _⟩ := k.tb s ps e
    rw [z]; rfl
  · rw [k.old s o e fun ps z => ht ⟨ps, z⟩]; rfl⟩
theorem Ke.trans (x : Ke Ps s H H1) (y : Ke Ps s H1 H2) : Ke Ps s H H2 := ⟨fun b o h e n => y.old b o h (x.old b o h e n) n, fun t => y.tab (x.tab t), fun b ps e => by
  obtain ⟨ps1, e1, r1⟩ := x.tb b ps e
  obtain ⟨ps2, e2, r2⟩ := y.tb b ps1 e1
  exact ⟨ps2, e2, fun n => (r2 n).trans (r1 n)⟩, fun h => y.at_ (x.at_ h)⟩
theorem Ke.then (x : Ke Ps s H H1) (y : Kp Ps H1 H2) : Ke Ps s H H2 := x.trans (.of y)
/-- the state itself is written -/
theorem Ke.put (h : ∀ ps, H s ≠ some (.tbl ps)) : Ke Ps s H (upd H s o) := ⟨fun b u hb e _ => by rw [upd_ne hb]; exact e, fun t P hP => tabg_upd (t P hP) fun z => by
    obtain ⟨ps, e, _⟩ := t P hP
    rw [z] at e
    exact h ps e, fun b ps e => by
    by_cases hb : b = s
    · rw [hb] at e; exact (h ps e).elim
    · exact ⟨ps, by rw [upd_ne hb]; exact e, fun _ => rfl⟩, fun _ => by rw [upd_same]; rfl⟩
theorem Kp.ke (x : Kp Ps H H1) (n : H s = none) (y : Ke Ps s H1 H2) : Kp Ps H H2 := ⟨fun b o e ne => y.old b o (ne_of_none e n) (x.old b o e ne) ne, fun t => y.tab (x.tab t), fun b ps e => by
  obtain ⟨ps1, e1, r1⟩ := x.tb b ps e
  obtain ⟨ps2, e2, r2⟩ := y.tb b ps1 e1
  exact ⟨ps2, e2, fun n => (r2 n).trans (r1 n)⟩⟩
theorem Ke.lst (x : Ke Ps s H H1) (h : a ≠ s) (e : H a = some (.lst xs)) : H1 a = some (.lst xs) := x.old a _ h e fun ps z => by cases z
theorem Ke.tup (x : Ke Ps s H H1) (h : a ≠ s) (e : H a = some (.tup xs)) : H1 a = some (.tup xs) := x.old a _ h e fun ps z => by cases z
theorem Ke.fresh (x : Ke Ps s H H1) (hs : (H s).isSome) (h : H1 p = none) : H p = none := by
  cases e : H p with
  | none => rfl
  | some o =>
    by_cases hp : p = s
    · rw [hp] at h
      have := x.at_ hs
      rw [h] at this; cases this
    · by_cases ht : ∃ ps, o = .tbl ps
      · obtain ⟨ps, rfl⟩ := ht
        obtain ⟨ps', z, _⟩ := x.tb p ps e
        rw [h] at z; cases z
      · have z := x.old p o hp e (fun ps z => ht ⟨ps, z⟩)
        rw [h] at z; cases z
/-- an object that H doesn't know -/
theorem Ke.mut (x : Ke Ps s H H1) (n : H p = none) (hs : (H s).isSome) (hp : ∀ ps, H1 p ≠ some (.tbl ps)) : Ke Ps s H (upd H1 p o) := by
  have np : p ≠ s := fun z => by rw [z] at n; rw [n] at hs; cases hs
  refine ⟨fun b u hb e ne => ?_, fun t P hP => ?_, fun b ps e => ?_, fun h => ?_⟩
  · rw [upd_ne (ne_of_none e n)]; exact x.old b u hb e ne
  · have t1 := x.tab t P hP
    refine tabg_upd t1 fun z => ?_
    obtain ⟨ps, e, _⟩ := t1
    rw [z] at e
    exact hp ps e
  · rw [upd_ne (ne_of_none e n)]; exact x.tb b ps e
  · rw [upd_ne (Ne.symm np)]; exact x.at_ h
end
/-- the state: what is left, the cell, turns at most b -/
def St (H : Hp) (s : Addr) (b : Int) : Prop := ∃ l c t : Int, H s = some (.dK [(Sum.inr "left", .int l), (Sum.inr "cell", .int c), (Sum.inr "turns", .int t)]) ∧ 0 ≤ l ∧ 0 ≤ t ∧ t ≤ b
theorem St.kp {Ps : List Addr} {H H1 : Hp} {s : Addr} {b : Int} (k : Kp Ps H H1) (h : St H s b) : St H1 s b := by
  obtain ⟨l, c, t, e, r⟩ := h
  exact ⟨l, c, t, k.dk e, r⟩
theorem St.some {H : Hp} {s : Addr} {b : Int} (h : St H s b) : (H s).isSome := by
  obtain ⟨l, c, t, e, r⟩ := h
  rw [e]; rfl
theorem St.tbl {H : Hp} {s : Addr} {b : Int} (h : St H s b) : ∀ ps, H s ≠ Option.some (.tbl ps) := fun ps z => by
  obtain ⟨l, c, t, e, r⟩ := h
  rw [e] at z; cases z
theorem St.le {H : Hp} {s : Addr} {b b' : Int} (h : St H s b) (hb : b ≤ b') : St H s b' := by
  obtain ⟨l, c, t, e, r1, r2, r3⟩ := h
  exact ⟨l, c, t, e, r1, r2, by omega⟩
theorem St.ne {H : Hp} {s a : Addr} {b : Int} {xs : List V} (h : St H s b) (e : H a = Option.some (.lst xs)) : a ≠ s := fun z => by
  obtain ⟨l, c, t, e2, r⟩ := h
  rw [z, e2] at e; cases e
theorem St.neT {H : Hp} {s a : Addr} {b : Int} {xs : List V} (h : St H s b) (e : H a = Option.some (.tup xs)) : a ≠ s := fun z => by
  obtain ⟨l, c, t, e2, r⟩ := h
  rw [z, e2] at e; cases e
section
variable {P : Program} {w : World} {K : PySem.W.Frag} {mg : Str → Option Value} {base : Heap} {Ps : List Addr}
theorem sc_mixed : FnScope ["cell", "k", "mixed"] ["cell", "k"] (defScope s_law_mixed) := ⟨rfl, rfl, rfl, by decide +kernel, rfl, by decide +kernel, by decide +kernel⟩
def spMixed (Ps : List Addr) : Sp := fun vs H Q _ => ∃ c k : Int, vs = [.int c, .int k] ∧ 0 ≤ k ∧ k < 2 ^ 40 ∧ ∀ r H', Kp Ps H H' → 0 ≤ r → r < 2147483647 → Q (.int r) H'
theorem ok_mixed (D : Dfn K mg "_law_mixed" s_law_mixed ["cell", "k"]) : Okd P w K mg base CX0 1 "_law_mixed" ["cell", "k"] (spMixed Ps) := by
  refine D.ok sc_mixed (fun vs H Q E h => ?_) (fun f cdv A outer s H vs Q E hr h => ?_)
  · obtain ⟨c, k, rfl, _⟩ := h; rfl
  · obtain ⟨c, k, rfl, h0, h1, q⟩ := h
    refine ⟨_, pss_cons (ps_set (i := 2) sc_mixed.nd rfl (.inl rfl) (pe_op op_add (pe_op op_add (pe_op op_modN (pv 0) (pe_ixL K (pe_lst (pa_cons pe_int (pa_cons pe_int (pa_cons pe_int (pa_cons pe_int pa_nil))))) (pe_op op_modN (pv 1) pe_int))) (pe_op op_mul pe_int (pv 1))) pe_int))
      (pss_one (ps_ret (pe_op op_modN (pe_op op_mul (pe_op op_modN (pe_op op_mul (pv 2) (pv 2)) pe_int) pe_int) pe_int))), ?_⟩
    refine ⟨_, rfl, (by show 4 ≤ sizeLine; decide), fun p np => ?_⟩
    have hm : k.fmod 4 = k % 4 := Int.fmod_eq_emod_of_nonneg _ (by decide)
    have m0 : 0 ≤ k % 4 := Int.emod_nonneg _ (by decide)
    have m1 : k % 4 < 4 := Int.emod_lt_of_pos _ (by decide)
    refine ⟨_, rfl, _, _, rfl, rfl, (by show (4 : Int) ≠ 0; decide), ?_⟩
    obtain ⟨z, hz, hp⟩ : ∃ z : Int, atI [V.int 1000000007, V.int 998244353, V.int 2147483629, V.int 1000000009] (k.fmod 4) = some (.int z) ∧ (0 < z ∧ z < 2 ^ 31) := by
      rw [hm]
      have : k % 4 = 0 ∨ k % 4 = 1 ∨ k % 4 = 2 ∨ k % 4 = 3 := by omega
      rcases this with e | e | e | e <;> rw [e]
      · exact ⟨1000000007, rfl, by decide⟩
      · exact ⟨998244353, rfl, by decide⟩
      · exact ⟨2147483629, rfl, by decide⟩
      · exact ⟨1000000009, rfl, by decide⟩
    refine ⟨p, _, _, _, rfl, rfl, .inl (.inl upd_same), hz, _, _, rfl, rfl, (by show z ≠ 0; omega), ?_⟩
    have d0 : 0 ≤ c.fmod z := Int.fmod_nonneg_of_pos _ hp.1
    have d1 : c.fmod z < z := Int.fmod_lt_of_pos _ hp.1
    refine ⟨_, rfl, _, _, rfl, rfl, .inl ⟨by decide, by decide⟩, _, _, rfl, rfl, _, _, rfl, rfl, ?_⟩
    have e0 : 0 ≤ c.fmod z + 7919 * k + 13 := by omega
    have e1 : c.fmod z + 7919 * k + 13 < 2 ^ 64 := by omega
    refine ⟨_, rfl, _, rfl, _, _, rfl, rfl, .inl ⟨by omega, by omega⟩, _, _, rfl, rfl, (by show (2147483647 : Int) ≠ 0; decide), ?_⟩
    have f0 : 0 ≤ ((c.fmod z + 7919 * k + 13) * (c.fmod z + 7919 * k + 13)).fmod 2147483647 := Int.fmod_nonneg_of_pos _ (by decide)
    have f1 : ((c.fmod z + 7919 * k + 13) * (c.fmod z + 7919 * k + 13)).fmod 2147483647 < 2147483647 := Int.fmod_lt_of_pos _ (by decide)
    refine ⟨_, _, rfl, rfl, .inl ⟨by omega, by omega⟩, _, _, rfl, rfl, (by show (2147483647 : Int) ≠ 0; decide), ?_⟩
    exact q _ _ (.new np) (Int.fmod_nonneg_of_pos _ (by decide)) (Int.fmod_lt_of_pos _ (by decide))
theorem sc_draw : FnScope ["cell", "k"] ["cell", "k"] (defScope s_law_draw) := ⟨rfl, rfl, rfl, by decide +kernel, rfl, by decide +kernel, by decide +kernel⟩
def spDraw (Ps : List Addr) : Sp := fun vs H Q _ => ∃ c k : Int, vs = [.int c, .int k] ∧ 0 ≤ k ∧ k < 1000 ∧ ∀ p H', Kp Ps H H' → H p = none → St H' p (1000 * k) → Q (.ref p) H'
theorem ok_draw (D : Dfn K mg "_law_draw" s_law_draw ["cell", "k"]) : Okd P w K mg base CX0 1 "_law_draw" ["cell", "k"] (spDraw Ps) := by
  refine D.ok sc_draw (fun vs H Q E h => ?_) (fun f cdv A outer s H vs Q E hr h => ?_)
  · obtain ⟨c, k, rfl, _⟩ := h; rfl
  · obtain ⟨c, k, rfl, h0, h1, q⟩ := h
    refine ⟨_, pss_one (ps_ret (pe_disp (pps_cons pe_str (pe_ifExp (pt_cmpR op_ge (pv 0) (pe_op op_pow pe_int pe_int) (nomark _)) (pv 0) pe_int) (pps_cons pe_str (pv 0) (pps_cons pe_str (pe_op op_mul pe_int (pv 1)) pps_nil))) rfl rfl (by decide) (by decide))), ?_⟩
    have fin : ∀ (p : Addr) (l : Int), H p = none → 0 ≤ l → Q (.ref p) (upd (upd H p (.dK [])) p (.dK (mergeK [] [(Sum.inr "left", .int l), (Sum.inr "cell", .int c), (Sum.inr "turns", .int (1000 * k))]))) := fun p l np hl => by
      refine q p _ ((Kp.new np).mut np fun ps z => by rw [upd_same] at z; cases z) np ⟨l, c, 1000 * k, ?_, hl, by omega, Int.le_refl _⟩
      rw [upd_same]
      rfl
    have e18 : (10 : Int) ^ (18 : Int).toNat = 1000000000000000000 := by decide
    refine fun p np => ⟨_, rfl, _, _, rfl, rfl, ⟨by decide, by decide, by decide⟩, _, _, rfl, rfl, _, rfl, ?_⟩
    rw [e18]
    by_cases hc : (1000000000000000000 : Int) ≤ c
    · rw [decide_eq_true hc]
      refine iteT ⟨_, rfl, _, rfl, _, rfl, _, _, rfl, rfl, .inl ⟨by decide, by decide⟩, upd_same, [(Sum.inr "left", .int c), (Sum.inr "cell", .int c), (Sum.inr "turns", .int (1000 * k))], rfl, (by show 3 ≤ 15; decide), fin p c np (by omega)⟩
    · rw [decide_eq_false hc]
      refine iteF ⟨_, rfl, _, rfl, _, _, rfl, rfl, .inl ⟨by decide, by decide⟩, upd_same, [(Sum.inr "left", .int 0), (Sum.inr "cell", .int c), (Sum.inr "turns", .int (1000 * k))], rfl, (by show 3 ≤ 15; decide), fin p 0 np (by omega)⟩
def dk3 (l c t : Int) : List (Key × V) := [(Sum.inr "left", .int l), (Sum.inr "cell", .int c), (Sum.inr "turns", .int t)]
theorem get_left {H : Hp} {s : Addr} {l c t : Int} (e : H s = some (.dK (dk3 l c t))) : DGet H s (.str "left") (some (.int l)) := .inl ⟨_, Sum.inr "left", .inl e, rfl, rfl⟩
theorem get_cell {H : Hp} {s : Addr} {l c t : Int} (e : H s = some (.dK (dk3 l c t))) : DGet H s (.str "cell") (some (.int c)) := .inl ⟨_, Sum.inr "cell", .inl e, rfl, rfl⟩
theorem get_turns {H : Hp} {s : Addr} {l c t : Int} (e : H s = some (.dK (dk3 l c t))) : DGet H s (.str "turns") (some (.int t)) := .inl ⟨_, Sum.inr "turns", .inl e, rfl, rfl⟩
theorem put_left {H : Hp} {s : Addr} {l c t : Int} (l' : Int) (e : H s = some (.dK (dk3 l c t))) : DPut H s (.str "left") (.int l') (upd H s (.dK (dk3 l' c t))) := .inl ⟨_, Sum.inr "left", e, rfl, (by show 3 < sizeLine; decide), rfl⟩
theorem put_turns {H : Hp} {s : Addr} {l c t : Int} (t' : Int) (e : H s = some (.dK (dk3 l c t))) : DPut H s (.str "turns") (.int t') (upd H s (.dK (dk3 l c t'))) := .inl ⟨_, Sum.inr "turns", e, rfl, (by show 3 < sizeLine; decide), rfl⟩
theorem sc_digit : FnScope ["state", "size", "j", "found"] ["state", "size"] (defScope s_law_digit) := ⟨rfl, rfl, rfl, by decide +kernel, rfl, by decide +kernel, by decide +kernel⟩
/-- a digit below n; the state goes on -/
def spDigit (Ps : List Addr) : Sp := fun vs H Q _ => ∃ (s : Addr) (n b : Int), vs = [.ref s, .int n] ∧ 1 ≤ n ∧ n < 1000 ∧ St H s b ∧ b < 1000000000000 ∧ ∀ d H', Ke Ps s H H' → St H' s (b + 4) → 0 ≤ d → d < n → Q (.int d) H'
theorem ok_digit (D : Dfn K mg "_law_digit" s_law_digit ["state", "size"]) (B : BN mg) (o1 : Okd P w K mg base CX0 1 "_law_mixed" ["cell", "k"] (spMixed Ps)) : Okd P w K mg base CX0 2 "_law_digit" ["state", "size"] (spDigit Ps) := by
  refine D.ok sc_digit (fun vs H Q E h => ?_) (fun f cdv A outer s H vs Q E hr h => ?_)
  · obtain ⟨s, n, b, rfl, _⟩ := h; rfl
  · obtain ⟨sa, n, b, rfl, n1, n2, st, hb, q⟩ := h
    have nd := sc_digit.nd
    have hu := hu_of hr
    refine ⟨_, pss_cons (ps_if (pt_cmpR op_eq (pe_dget hu (pv 0) pe_str (fun _ _ => rfl)) pe_int (nomark _))
        (pss_one (ps_for PassesOwn.never rfl (pi_range1 rfl B.range (pa_cons pe_int pa_nil)) (pg_name (i := 2) nd rfl (.inl rfl))
          (pss_cons (ps_dput hu (pv 0) pe_str (pe_op op_add (pe_dget hu (pv 0) pe_str (fun _ _ => rfl)) pe_int) rfl)
          (pss_one (ps_dput hu (pv 0) pe_str (pe_op op_add (pe_op op_mul (pe_dget hu (pv 0) pe_str (fun _ _ => rfl)) pe_int) (pe_do o1 hr (pa_cons (pe_dget hu (pv 0) pe_str (fun _ _ => rfl)) (pa_cons (pe_dget hu (pv 0) pe_str (fun _ _ => rfl)) pa_nil)))) rfl))))) pss_nil)
      (pss_cons (ps_set (i := 3) nd rfl (.inl rfl) (pe_op op_modN (pe_dget hu (pv 0) pe_str (fun _ _ => rfl)) (pv 1)))
      (pss_cons (ps_dput hu (pv 0) pe_str (pe_op op_fdivN (pe_dget hu (pv 0) pe_str (fun _ _ => rfl)) (pv 1)) rfl)
      (pss_one (ps_ret (pv 3))))), ?_⟩
    obtain ⟨l, c, t, e, hl, ht, htb⟩ := st
    have e : H sa = some (.dK (dk3 l c t)) := e
    have tbl : ∀ {G : Hp} {l c t : Int}, G sa = some (.dK (dk3 l c t)) → ∀ ps, G sa ≠ some (.tbl ps) := fun e ps z => by rw [e] at z; cases z
    have tail : ∀ {H' : Hp} {l c t : Int} {u v : Option V}, Ke Ps sa H H' → H' sa = some (.dK (dk3 l c t)) → 0 ≤ l → 0 ≤ t → t ≤ b + 4 → (tSeq (tAsg (tOp (rI (fun x j => j ≠ 0) fun i j => V.int (i.fmod j)) (tDGet (tVar 0) (tC (V.str "left"))) (tVar 1)) (gName 3))
        (tSeq (sDPut (tVar 0) (tC (V.str "left")) (tOp (rI CDivN fun i j => V.int (i.fdiv j)) (tDGet (tVar 0) (tC (V.str "left"))) (tVar 1))) (tRet (tVar 3)))) { nx := fun x H' => Q V.non H', rt := Q } [some (.ref sa), some (.int n), u, v] H' := by
      intro H' l c t u v ke e hl ht htb
      refine ⟨_, rfl, sa, _, rfl, get_left e, _, rfl, _, _, rfl, rfl, by omega, ?_⟩
      refine ⟨_, rfl, sa, _, rfl, get_left e, _, rfl, _, _, rfl, rfl, ⟨by omega, by omega⟩, _, rfl, sa, _, rfl, put_left _ e, _, rfl, ?_⟩
      refine q _ _ (ke.trans (.put (tbl e))) ⟨l.fdiv n, c, t, upd_same, Int.fdiv_nonneg hl (by omega), ht, htb⟩ (Int.fmod_nonneg_of_pos _ (by omega)) (Int.fmod_lt_of_pos _ (by omega))
    refine ⟨_, rfl, sa, _, rfl, get_left e, rfl, _, rfl, ?_⟩
    by_cases h0 : V.int l = V.int 0
    · rw [decide_eq_true h0]
      refine iteT ⟨4, rfl, by decide, by decide, for_range (lo := 0) (n := 4) (fun i σ H' => Ke Ps sa H H' ∧ ∃ (l c t : Int) (u v : Option V), H' sa = some (.dK (dk3 l c t)) ∧ 0 ≤ l ∧ 0 ≤ t ∧ t ≤ b + i ∧ σ = [some (.ref sa), some (.int n), u, v]) ⟨.of (.refl H), l, c, t, none, none, e, hl, ht, by omega, rfl⟩ ?_ ?_⟩
      · rintro i σ H' hi ⟨ke, l, c, t, u, v, e, hl, ht, htb, rfl⟩
        refine ⟨_, rfl, sa, _, rfl, get_turns e, _, _, rfl, rfl, _, rfl, sa, _, rfl, put_turns _ e, ?_⟩
        have e1 : upd H' sa (.dK (dk3 l c (t + 1))) sa = some (.dK (dk3 l c (t + 1))) := upd_same
        have k1 : Ke Ps sa H (upd H' sa (.dK (dk3 l c (t + 1)))) := ke.trans (.put (tbl e))
        refine ⟨_, rfl, sa, _, rfl, get_left e1, _, _, rfl, rfl, .inr ⟨by decide, by decide⟩, _, rfl, sa, _, rfl, get_cell e1, _, rfl, sa, _, rfl, get_turns e1, c, t + 1, rfl, by omega, by omega, fun r H2 k2 r0 r1 => ?_⟩
        have e2 := k2.dk e1
        refine ⟨_, _, rfl, rfl, _, rfl, sa, _, rfl, put_left _ e2, ?_⟩
        exact ⟨(k1.then k2).trans (.put (tbl e2)), _, c, t + 1, _, _, upd_same, by omega, by omega, by omega, rfl⟩
      · rintro σ H' ⟨ke, l, c, t, u, v, e, hl, ht, htb, rfl⟩
        exact tail ke e hl ht htb
    · rw [decide_eq_false h0]
      exact iteF (tail (.of (.refl H)) e hl ht (by omega))
end
end U
set_option maxHeartbeats 2000000
namespace U
open PySem PySem.Spec PyProof.Rows L2 GxR Bx Gx Ex Sx RZ
/-! orders behind one another -/
theorem after_get {a b : List Int} {i : Nat} {x : Int} (h : a[i]? = some x) : (after a b)[i]? = some (b.getD x.toNat 0) := by
  unfold after
  rw [List.getElem?_map, h]; rfl
theorem after_len (a b : List Int) : (after a b).length = a.length := by unfold after; rw [List.length_map]
theorem order_after {n : Nat} {a b : List Int} (ha : Order n a) (hb : Order n b) : Order n (after a b) := by
  refine ⟨by rw [after_len, ha.1], fun x hx => ?_, ?_⟩
  · unfold after at hx
    obtain ⟨y, hy, rfl⟩ := List.mem_map.mp hx
    have := ha.2.1 y hy
    have e := order_get hb.1 this.1 this.2
    exact hb.2.1 _ (List.mem_of_getElem? e)
  · unfold after
    refine List.nodup_iff_pairwise_ne.mpr (List.pairwise_map.mpr ?_)
    refine List.Pairwise.imp_of_mem (fun {x y} hx hy h z => ?_) (List.nodup_iff_pairwise_ne.mp ha.2.2)
    have h1 := ha.2.1 x hx
    have h2 := ha.2.1 y hy
    have e1 := order_get hb.1 h1.1 h1.2
    have e2 := order_get hb.1 h2.1 h2.2
    rw [← z] at e2
    have := (List.getElem?_inj (by have := len_of e1; exact this) hb.2.2).mp (e1.trans e2.symm)
    omega
theorem after_assoc {n : Nat} {a b c : List Int} (ha : Order n a) (hb : Order n b) (hc : Order n c) : after a (after b c) = after (after a b) c := by
  refine List.ext_getElem? fun i => ?_
  by_cases hi : i < a.length
  · have e := List.getElem?_eq_getElem hi
    have h1 := ha.2.1 _ (List.mem_of_getElem? e)
    rw [after_get e, after_get (after_get e)]
    have e2 := order_get hb.1 h1.1 h1.2
    rw [List.getD_eq_getElem?_getD, after_get e2]
    rfl
  · rw [List.getElem?_eq_none (by rw [after_len]; omega), List.getElem?_eq_none (by rw [after_len, after_len]; omega)]
theorem after_calm {n : Nat} {a : List Int} (ha : Order n a) : after a (calm n) = a := by
  refine List.ext_getElem? fun i => ?_
  by_cases hi : i < a.length
  · have e := List.getElem?_eq_getElem hi
    have h1 := ha.2.1 _ (List.mem_of_getElem? e)
    rw [after_get e, e]
    have e2 : (calm n)[(a[i]).toNat]? = some a[i] := by
      unfold calm
      rw [List.getElem?_map, List.getElem?_eq_getElem (by rw [List.length_range]; omega), List.getElem_range]
      show some (((a[i]).toNat : Nat) : Int) = some a[i]
      rw [Int.toNat_of_nonneg h1.1]
    rw [List.getD_eq_getElem?_getD, e2]; rfl
  · rw [List.getElem?_eq_none (by rw [after_len]; omega), List.getElem?_eq_none (by omega)]
theorem Spread.shut {n : Nat} {M R : List (List Int)} (s : Spread n M R) (ho : ∀ m ∈ M, Order n m) : (∀ t ∈ R, Order n t) ∧ ∀ a ∈ R, ∀ b ∈ R, after a b ∈ R := by
  have o : ∀ t ∈ R, Order n t := s.least (Order n) (calm_order n) fun z m hz hm => order_after hz (ho m hm)
  refine ⟨o, fun a ha => ?_⟩
  have := s.least (fun z => Order n z ∧ after a z ∈ R) ⟨calm_order n, by rw [after_calm (o a ha)]; exact ha⟩ fun z m hz hm => ⟨order_after hz.1 (ho m hm), by
    rw [after_assoc (o a ha) hz.1 (ho m hm)]
    exact s.step _ hz.2 m hm⟩
  exact fun b hb => (this b hb).2
/-! sorted -/
theorem lex_of_code {B : Int} : ∀ {n m : List Int}, n.length = m.length → TS.Bd B n → TS.Bd B m → TS.code B n ≤ TS.code B m → n ≠ m → HT.lexLt n m = true
  | [], [], _, _, _, _, h => absurd rfl h
  | [], _ :: _, hl, _, _, _, _ => by cases hl
  | _ :: _, [], hl, _, _, _, _ => by cases hl
  | x :: n, y :: m, hl, hn, hm, hc, hne => by
    rw [HT.lexLt_cons]
    have hl2 : n.length = m.length := by injection hl
    have hn2 : TS.Bd B n := fun z hz => hn z (List.mem_cons_of_mem _ hz)
    have hm2 : TS.Bd B m := fun z hz => hm z (List.mem_cons_of_mem _ hz)
    by_cases h : x = y
    · subst h
      rw [if_pos rfl]
      refine lex_of_code hl2 hn2 hm2 ?_ fun z => hne (by rw [z])
      exact Int.not_lt.mp fun z => absurd ((TS.code_same (d := x) hl2.symm).mpr z) (Int.not_lt.mpr hc)
    · rw [if_neg h]
      refine decide_eq_true ?_
      rcases Int.lt_or_gt_of_ne h with z | z
      · exact z
      · exact absurd (TS.code_lt hl2.symm hm2 hn2 z) (Int.not_lt.mpr hc)
def toI : V → Int
  | .int i => i
  | _ => 0
def intsAt (H : Hp) (v : V) : List Int := ((tupOf H v).getD []).map toI
theorem intsAt_of {H : Hp} {p : Addr} {t : List Int} (e : H p = some (.tup (t.map V.int))) : intsAt H (.ref p) = t := by
  unfold intsAt
  rw [tupOf_of e]
  show (t.map V.int).map toI = t
  rw [List.map_map]
  exact List.map_id _
theorem refs_ints {H : Hp} {L : List Tup} (h : AllT H L) : (refs L).map (intsAt H) = vals L := by
  unfold refs
  rw [List.map_map]
  exact List.map_congr_left fun p hp => intsAt_of (h p hp)
/-- a sorted list of what R has -/
theorem sorted_vals {K : PySem.W.Frag} {H : Hp} {R : List Tup} {ys : List V} {B : Int} {d : Nat} (h : AllT H R) (py : ys.Perm (refs R)) (nd : (vals R).Nodup) (hd : ∀ t ∈ vals R, t.length = d ∧ TS.Bd B t)
    (sy : ys.Pairwise (fun x y => ∀ n m, TupI K H x n → TupI K H y m → TS.code B n ≤ TS.code B m)) : ∃ L : List Tup, ys = refs L ∧ AllT H L ∧ (vals L).Perm (vals R) ∧ Rises (vals L) := by
  obtain ⟨L, rfl, hL, hF⟩ := gather (H := H) (F := fun t => t ∈ vals R) (xs := ys) fun y hy => by
    obtain ⟨p, hp, rfl⟩ := List.mem_map.mp (py.mem_iff.mp hy)
    exact ⟨p, rfl, h p hp, vals_mem hp⟩
  have pv : (vals L).Perm (vals R) := by
    rw [← refs_ints hL, ← refs_ints h]
    exact py.map _
  refine ⟨L, rfl, hL, pv, fun i x y hx hy => ?_⟩
  have ndL := pv.nodup_iff.mpr nd
  obtain ⟨p, hp, rfl⟩ := vals_get hx
  obtain ⟨q, hq, rfl⟩ := vals_get hy
  have h1 := hd p.2 (pv.mem_iff.mp (List.mem_of_getElem? hx))
  have h2 := hd q.2 (pv.mem_iff.mp (List.mem_of_getElem? hy))
  refine lex_of_code (by rw [h1.1, h2.1]) h1.2 h2.2 ?_ fun e => ?_
  · have hi := len_of (refs_get hp)
    have hj := len_of (refs_get hq)
    have := List.pairwise_iff_getElem.mp sy i (i + 1) hi hj (Nat.lt_succ_self i) p.2 q.2
    refine this ?_ ?_
    · have e := refs_get hp
      rw [List.getElem?_eq_getElem hi] at e
      injection e with e
      rw [e]
      exact ⟨p.1, rfl, .of (hL p (List.mem_of_getElem? hp))⟩
    · have e := refs_get hq
      rw [List.getElem?_eq_getElem hj] at e
      injection e with e
      rw [e]
      exact ⟨q.1, rfl, .of (hL q (List.mem_of_getElem? hq))⟩
  · rw [e] at hx
    have := (List.getElem?_inj (len_of hx) ndL).mp (hx.trans hy.symm)
    omega
/-! the search of _law_made -/
structure Bfs (n : Nat) (M T More Fr : List (List Int)) : Prop where
  nd : T.Nodup
  calm : calm n ∈ T
  exp : ∀ t ∈ T, t ∈ More ∨ t ∈ Fr ∨ ∀ m ∈ M, after t m ∈ T
  least : ∀ Z : List Int → Prop, Z (U.calm n) → (∀ z m, Z z → m ∈ M → Z (after z m)) → ∀ t ∈ T, Z t
theorem Bfs.start (n : Nat) (M : List (List Int)) : Bfs n M [U.calm n] [U.calm n] [] :=
  ⟨List.nodup_cons.mpr ⟨List.not_mem_nil, List.nodup_nil⟩, List.mem_cons_self, fun t ht => .inl ht, fun Z z0 _ t h => by rw [List.mem_singleton.mp h]; exact z0⟩
theorem Bfs.swap {n : Nat} {M T G : List (List Int)} (b : Bfs n M T G []) : Bfs n M T [] G := ⟨b.nd, b.calm, fun t ht => by
  rcases b.exp t ht with h | h | h
  · exact .inr (.inl h)
  · cases h
  · exact .inr (.inr h), b.least⟩
theorem Bfs.ended {n : Nat} {M T : List (List Int)} (b : Bfs n M T [] []) : Spread n M T := ⟨b.nd, b.calm, fun t ht m hm => by
  rcases b.exp t ht with h | h | h
  · cases h
  · cases h
  · exact h m hm, b.least⟩
theorem Bfs.one {n : Nat} {M T More Fr : List (List Int)} {t : List Int} (b : Bfs n M T More (t :: Fr)) (h : ∀ m ∈ M, after t m ∈ T) : Bfs n M T More Fr := ⟨b.nd, b.calm, fun u hu => by
  rcases b.exp u hu with z | z | z
  · exact .inl z
  · rcases List.mem_cons.mp z with e | e
    · rw [e]; exact .inr (.inr h)
    · exact .inr (.inl e)
  · exact .inr (.inr z), b.least⟩
theorem Bfs.add {n : Nat} {M T More Fr : List (List Int)} {t m : List Int} (b : Bfs n M T More Fr) (ht : t ∈ T) (hm : m ∈ M) (h : after t m ∉ T) : Bfs n M (T ++ [after t m]) (More ++ [after t m]) Fr := by
  refine ⟨List.nodup_append.mpr ⟨b.nd, List.nodup_cons.mpr ⟨List.not_mem_nil, List.nodup_nil⟩, fun a ha c hc e => ?_⟩, List.mem_append_left _ b.calm, fun u hu => ?_, fun Z z0 zs u hu => ?_⟩
  · rw [List.mem_singleton.mp hc] at e
    rw [e] at ha
    exact h ha
  · rcases List.mem_append.mp hu with z | z
    · rcases b.exp u z with y | y | y
      · exact .inl (List.mem_append_left _ y)
      · exact .inr (.inl y)
      · exact .inr (.inr fun m' hm' => List.mem_append_left _ (y m' hm'))
    · exact .inl (List.mem_append_right _ z)
  · rcases List.mem_append.mp hu with z | z
    · exact b.least Z z0 zs u z
    · rw [List.mem_singleton.mp z]
      exact zs t m (b.least Z z0 zs t ht) hm
end U
set_option maxHeartbeats 2000000
namespace U
open PySem PySem.Spec PyProof.Rows L2 GxR Bx Gx Ex Sx RZ
structure MadeH (Ps : List Addr) (H : Hp) (F mo : Addr) (R Mo : List Tup) (H' : Hp) : Prop where
  kp : Kp Ps H H'
  f : H' F = some (.lst (refs R))
  m : H' mo = some (.lst (refs Mo))
  all : AllT H' R
  sub : ∀ p ∈ Mo, p ∈ R
theorem MadeH.kp2 {Ps : List Addr} {H H1 H2 : Hp} {F mo : Addr} {R Mo : List Tup} (h : MadeH Ps H F mo R Mo H1) (k : Kp Ps H1 H2) : MadeH Ps H F mo R Mo H2 := ⟨h.kp.trans k, k.lst h.f, k.lst h.m, h.all.kp k, h.sub⟩
theorem refs_snoc (R : List Tup) (p : Tup) : refs R ++ [V.ref p.1] = refs (R ++ [p]) := by unfold refs; rw [List.map_append]; rfl
theorem MadeH.add {Ps : List Addr} {H H1 : Hp} {F mo : Addr} {R Mo : List Tup} {p : Tup} (h : MadeH Ps H F mo R Mo H1) (nF : H F = none) (nm : H mo = none) (ne : F ≠ mo) (hp : H1 p.1 = some (.tup (p.2.map V.int))) :
    MadeH Ps H F mo (R ++ [p]) (Mo ++ [p]) (upd (upd H1 F (.lst (refs R ++ [.ref p.1]))) mo (.lst (refs Mo ++ [.ref p.1]))) := by
  have no : ∀ q xs, H1 q = some (.tup xs) → q ≠ F ∧ q ≠ mo := fun q xs e => ⟨(fun z => by rw [z, h.f] at e; cases e), (fun z => by rw [z, h.m] at e; cases e)⟩
  have k1 : Kp Ps H (upd H1 F (.lst (refs R ++ [.ref p.1]))) := h.kp.mut nF fun ps z => by rw [h.f] at z; cases z
  refine ⟨k1.mut nm fun ps z => ?_, ?_, ?_, fun q hq => ?_, fun q hq => ?_⟩
  · rw [upd_ne (Ne.symm ne), h.m] at z; cases z
  · rw [upd_ne ne, upd_same, refs_snoc]
  · rw [upd_same, refs_snoc]
  · have e : H1 q.1 = some (.tup (q.2.map V.int)) := by
      rcases List.mem_append.mp hq with z | z
      · exact h.all q z
      · rw [List.mem_singleton.mp z]; exact hp
    rw [upd_ne (no _ _ e).2, upd_ne (no _ _ e).1]
    exact e
  · rcases List.mem_append.mp hq with z | z
    · exact List.mem_append_left _ (h.sub q z)
    · exact List.mem_append_right _ z
def rNe (K : PySem.W.Frag) : R2 := rNeD K
theorem pt_neD (K : PySem.W.Frag) {X : Cx} {a b : Expr} {ta tb : TE} {pos : Pos} (ha : PE X a ta) (hb : PE X b tb) (hu : X.A.units + 64 < cLine) (hK : X.K = K := by rfl) (hm : behindInMarks .NotEq b = false := by first | rfl | exact nomark _) : PT X (.Compare a [.NotEq] [b] pos) (tTest (tOp (rNeD K) ta tb)) := by
  subst hK
  exact pt_cmpR (op_neD hu) ha hb hm
theorem pe_sortedT (K : PySem.W.Frag) (d : Nat) (B : Int) {X : Cx} {e : Expr} {te : TE} {p pos : Pos} (hd : 1 ≤ d) (hm : X.mg "sorted" = none) (he : PE X e te) (hg : Gl X "sorted" := by rfl) (hK : X.K = K := by rfl) (hs : starEach [e] X.env = (false, eval e X.env) :: starEach [] X.env := by rfl) :
    PE X (.Call (.Name "sorted" p) [e] [] pos) (tCB (rSortU K d B) (tCons te tNil)) := by
  subst hK
  exact pe_callB (cr_sortT hd) hg hm boot_sorted (pa_cons he pa_nil hs) (by decide) (by decide) hs rfl
section
variable {P : Program} {w : World} {K : PySem.W.Frag} {mg : Str → Option Value} {base : Heap} {Ps : List Addr}
theorem sc_made : FnScope ["size", "moves", "most", "calm", "found", "fresh", "more", "one", "move", "both", "seat"] ["size", "moves", "most"] (defScope s_law_made) := ⟨rfl, rfl, rfl, by decide +kernel, rfl, by decide +kernel, by decide +kernel⟩
def spMade (K : PySem.W.Frag) (Ps : List Addr) : Sp := fun vs H Q _ => ∃ (n : Nat) (ml : Addr) (most : Nat) (M : List Tup), vs = [.int n, .ref ml, .int most] ∧ 1 ≤ n ∧ n ≤ 8 ∧ SqL K H ml (refs M) ∧ AllT H M ∧ (∀ m ∈ M, Order n m.2) ∧ M.length ≤ 10 ∧ 1 ≤ most ∧ most ≤ 60 ∧
  ∀ p L H', Kp Ps H H' → H p = none → H' p = some (.tup (refs L)) → AllT H' L → Turns n (vals L) → L.length ≤ most → Q (.ref p) H'
theorem ok_made (D : Dfn K mg "_law_made" s_law_made ["size", "moves", "most"]) (B : BN mg) : Okd P w K mg base CX0 1 "_law_made" ["size", "moves", "most"] (spMade K Ps) := by
  refine D.ok sc_made (fun vs H Q E h => ?_) (fun f cdv A outer s H vs Q E hr h => ?_)
  · obtain ⟨n, ml, most, M, rfl, _⟩ := h; rfl
  · obtain ⟨n, ml, most, M, rfl, h1, h8, hml, hM, hMo, hMl, hm1, hm2, q⟩ := h
    have nd := sc_made.nd
    refine ⟨_, pss_cons (ps_set (i := 3) nd rfl (.inl rfl) (pe_tupRg rfl rfl B.tuple (prg_1 rfl B.range (pv 0))))
      (pss_cons (ps_par (i := 4) (j := 5) rfl nd rfl rfl (by decide) rfl rfl (pa_cons (pe_lst (pa_cons (pv 3) pa_nil)) (pa_cons (pe_lst (pa_cons (pv 3) pa_nil)) pa_nil)) rfl)
      (pss_cons (ps_while PassesOwn.never (PW.pt (pw_and (pt_neD K (pv 5) (pe_lst pa_nil) (u64 hr)) (pw_and1 (pt_cmpR op_le (pe_len K B.len (pv 4)) (pv 2) (nomark _)))))
        (pss_cons (ps_set (i := 6) nd rfl (.inl rfl) (pe_lst pa_nil))
        (pss_cons (ps_for PassesOwn.never rfl (pi_list (pv 5)) (pg_name (i := 7) nd rfl (.inl rfl))
          (pss_one (ps_for PassesOwn.never rfl (pi_list (pv 1)) (pg_name (i := 8) nd rfl (.inr rfl))
            (pss_cons (ps_set (i := 9) nd rfl (.inl rfl) (pe_tupleOf rfl B.tuple (pe_lc (own := [("seat", 10)]) (g := gName 10) (tt := tYes) rfl nd (pi_tup (pv 7)) (blkOk_by (N := ["size", "moves", "most", "calm", "found", "fresh", "more", "one", "move", "both", "seat"]) (sc := defScope s_law_made) (by decide +kernel))
              (fun _ _ _ _ _ => pg_name (i := 10) nd rfl (.inl rfl)) (fun _ _ _ _ _ => pts_nil) (fun _ _ _ _ _ => pe_ixT K (pv 8) (pv 10)))))
            (pss_one (ps_if (pt_notInTT K (pv 9) (pv 4) (u65 hr))
              (pss_cons (ps_expr (pe_append K (pv 4) (pv 9))) (pss_one (ps_expr (pe_append K (pv 6) (pv 9))))) pss_nil))))))
        (pss_one (ps_set (i := 5) nd rfl (.inl rfl) (pv 6))))))
      (pss_one (ps_ret (pe_ifExp (pt_cmpR op_le (pe_len K B.len (pv 4)) (pv 2) (nomark _)) (pe_tupleOf rfl B.tuple (pe_sortedT K n 8 h1 B.sorted (pv 4))) (pe_tup (pa_cons (pv 3) pa_nil))))))), ?_⟩
    refine ⟨_, rfl, n, rfl, .of_le (by omega) (by omega) (by omega) (by omega), fun c hc => ?_⟩
    rw [rg_calm]
    have kc : Kp Ps H (upd H c (.tup ((calm n).map V.int))) := .new hc
    refine ⟨_, rfl, (by show 1 ≤ sizeLine; decide), fun F hF => ⟨_, rfl, (by show 1 ≤ sizeLine; decide), fun fr hfr => ⟨_, _, rfl, ?_⟩⟩⟩
    have kF := kc.trans (.new (o := .lst [.ref c]) hF)
    have kfr := kF.trans (.new (o := .lst [.ref c]) hfr)
    have nF : H F = none := kc.fresh hF
    have c0 : upd (upd (upd H c (.tup ((calm n).map V.int))) F (.lst [.ref c])) fr (.lst [.ref c]) c = some (.tup ((calm n).map V.int)) := by
      exact ((Kp.new (Ps := Ps) hF).trans (Kp.new hfr)).tup upd_same
    have Ffr : F ≠ fr := ne_of_none upd_same hfr
    have ordM : ∀ m ∈ vals M, Order n m := fun m hm => by
      obtain ⟨m', hm', rfl⟩ := List.mem_map.mp hm
      exact hMo m' hm'
    have hvM : (vals M).length = M.length := List.length_map ..
    -- the while
    refine ⟨fun μ σ H' => ∃ (R G : List Tup) (fr : Addr) (u1 u2 u3 u4 u5 : Option V), μ = 2 * (most + 1 - R.length) + (if G = [] then 0 else 1) ∧ σ = [some (.int n), some (.ref ml), some (.int most), some (.ref c), some (.ref F), some (.ref fr), u1, u2, u3, u4, u5] ∧
        Kp Ps H H' ∧ H' F = some (.lst (refs R)) ∧ H' fr = some (.lst (refs G)) ∧ fr ≠ F ∧ AllT H' R ∧ (∀ p ∈ G, p ∈ R) ∧ G.length ≤ R.length ∧ H' c = some (.tup ((calm n).map V.int)) ∧ Bfs n (vals M) (vals R) (vals G) [] ∧ R.length ≤ 900,
      ⟨_, [(c, calm n)], [(c, calm n)], fr, none, none, none, none, none, rfl, rfl, kfr, ?_, upd_same, Ne.symm Ffr, fun p hp => ?_, fun p hp => hp, Nat.le_refl _, c0, Bfs.start n _, (by show 1 ≤ 900; decide)⟩, ?_⟩
    · rw [upd_ne Ffr, upd_same]; rfl
    · rw [List.mem_singleton.mp hp]; exact c0
    · rintro μ σ H' ⟨R, G, fr, u1, u2, u3, u4, u5, rfl, rfl, kp, hFR, hfG, hne, aR, hGR, hGl, hcc, bf, hR9⟩
      have test : ∀ (Q' : Bool → Hp → Prop), (∀ e, H' e = none → Q' (decide (G ≠ [] ∧ R.length ≤ most)) (upd H' e (.lst []))) → tAnd (tTest (tOp (rNeD K) (tVar 5) (tLst tNil))) (tTest (tOp (rI0 fun i j => V.bl (decide (i ≤ j))) (tCB (rLen K) (tCons (tVar 4) tNil)) (tVar 2)))
          [some (.int n), some (.ref ml), some (.int most), some (.ref c), some (.ref F), some (.ref fr), u1, u2, u3, u4, u5] H' Q' := by
        intro Q' hQ
        refine ⟨_, rfl, (by show 0 ≤ sizeLine; decide), fun e he => ?_⟩
        have k1 : Kp Ps H' (upd H' e (.lst [])) := .new he
        refine ⟨.list ((vals G).map dT), .list [], .lst (.of (k1.lst hfG)) (dp_Ts fun p hp => .of ((aR.kp k1) p (hGR p hp))), .lst (.of upd_same) .nil, shaped_L _, shaped_L [], _, rfl, ?_⟩
        have hq := hQ e he
        cases G with
        | nil =>
          have z : PyData.eqv (.list ((vals ([] : List Tup)).map dT)) (.list []) = true := by simp only [PyData.eqv, List.map_nil, PyData.eqvAll]
          rw [z]
          rw [decide_eq_false (fun z => z.1 rfl)] at hq
          exact iteF hq
        | cons g G =>
          have z : PyData.eqv (.list ((vals (g :: G)).map dT)) (.list []) = false := by simp only [PyData.eqv, List.map_cons, PyData.eqvAll]
          rw [z]
          refine iteT ⟨_, rfl, F, refs R, rfl, .inl (.of (k1.lst hFR)), _, rfl, _, _, rfl, rfl, _, rfl, ?_⟩
          have z2 : decide ((((refs R).length : Nat) : Int) ≤ (most : Int)) = decide ((g :: G : List Tup) ≠ [] ∧ R.length ≤ most) := by
            rw [refs_len]
            exact decide_eq_decide.mpr ⟨fun h => ⟨fun z => (by cases z), by omega⟩, fun h => by have := h.2; omega⟩
          rw [z2]
          exact hq
      refine test _ fun e he => ?_
      have ke : Kp Ps H' (upd H' e (.lst [])) := .new he
      have kpe := kp.trans ke
      have aR1 := aR.kp ke
      by_cases hcond : G ≠ [] ∧ R.length ≤ most
      · rw [decide_eq_true hcond]
        refine iteT ⟨_, fun σ' H' z => z, ?_⟩
        obtain ⟨hG, hRm⟩ := hcond
        refine ⟨(by show 0 ≤ sizeLine; decide), fun mo hmo => ?_⟩
        have kmo : Kp Ps (upd H' e (.lst [])) (upd (upd H' e (.lst [])) mo (.lst [])) := .new hmo
        have nmo : H mo = none := kpe.fresh hmo
        have Fmo : F ≠ mo := ne_of_none (ke.lst hFR) hmo
        have frmo : fr ≠ mo := ne_of_none (ke.lst hfG) hmo
        have st : MadeH Ps H F mo R [] (upd (upd H' e (.lst [])) mo (.lst [])) := ⟨kpe.trans kmo, kmo.lst (ke.lst hFR), upd_same, aR1.kp kmo, fun p hp => by cases hp⟩
        refine ⟨_, rfl, fr, rfl, ⟨_, .of (kmo.lst (ke.lst hfG))⟩, for_list (xs := refs G) (fun i σ' H2 => ∃ (R2 Mo : List Tup) (v2 v3 v4 v5 : Option V), σ' = [some (.int n), some (.ref ml), some (.int most), some (.ref c), some (.ref F), some (.ref fr), some (.ref mo), v2, v3, v4, v5] ∧
            MadeH Ps H F mo R2 Mo H2 ∧ H2 fr = some (.lst (refs G)) ∧ H2 c = some (.tup ((calm n).map V.int)) ∧ Bfs n (vals M) (vals R2) (vals Mo) (vals (G.drop i)) ∧ (∀ g ∈ G, g ∈ R2) ∧ R2.length = R.length + Mo.length ∧ Mo.length ≤ i * M.length)
            ⟨R, [], u2, u3, u4, u5, rfl, st, kmo.lst (ke.lst hfG), kmo.tup (ke.tup hcc), bf.swap, hGR, rfl, Nat.zero_le _⟩ (fun i σ' H2 _ ⟨_, _, _, _, _, _, _, _, hh, _⟩ => .of hh) ?_ ?_⟩
        · rintro i x σ' H2 hx ⟨R2, Mo, v2, v3, v4, v5, rfl, mh, hf2, hc2, bf2, hg2, hl2, hi2⟩
          obtain ⟨g, hg, rfl⟩ : ∃ g, G[i]? = some g ∧ x = .ref g.1 := by
            unfold refs at hx
            rw [List.getElem?_map] at hx
            cases e : G[i]? with
            | none => rw [e] at hx; cases hx
            | some m => rw [e] at hx; cases hx; exact ⟨m, rfl, rfl⟩
          have hiG := len_of hg
          have gG := List.mem_of_getElem? hg
          have dg : vals (G.drop i) = g.2 :: vals (G.drop (i + 1)) := by rw [drop_cons hg]; rfl
          refine ⟨_, rfl, ml, rfl, ⟨_, mh.kp.l hml⟩, for_list (xs := refs M) (fun j σ' H3 => ∃ (R3 Mo3 : List Tup) (v3 v4 v5 : Option V), σ' = [some (.int n), some (.ref ml), some (.int most), some (.ref c), some (.ref F), some (.ref fr), some (.ref mo), some (.ref g.1), v3, v4, v5] ∧
            MadeH Ps H F mo R3 Mo3 H3 ∧ H3 fr = some (.lst (refs G)) ∧ H3 c = some (.tup ((calm n).map V.int)) ∧ Bfs n (vals M) (vals R3) (vals Mo3) (vals (G.drop i)) ∧ (∀ g ∈ G, g ∈ R3) ∧ R3.length = R.length + Mo3.length ∧ Mo3.length ≤ i * M.length + j ∧ ∀ m ∈ (vals M).take j, after g.2 m ∈ vals R3)
            ⟨R2, Mo, v3, v4, v5, rfl, mh, hf2, hc2, bf2, hg2, hl2, hi2, fun m hm => by cases hm⟩ (fun j σ' H3 _ ⟨_, _, _, _, _, _, mh, _⟩ => mh.kp.l hml) ?_ ?_⟩
          · rintro j x σ' H3 hx ⟨R3, Mo3, w3, w4, w5, rfl, mh3, hf3, hc3, bf3, hg3, hl3, hi3, hd3⟩
            obtain ⟨m, hm, rfl⟩ : ∃ m, M[j]? = some m ∧ x = .ref m.1 := by
              unfold refs at hx
              rw [List.getElem?_map] at hx
              cases e : M[j]? with
              | none => rw [e] at hx; cases hx
              | some m => rw [e] at hx; cases hx; exact ⟨m, rfl, rfl⟩
            have mM := List.mem_of_getElem? hm
            have hjM := len_of hm
            have gR := hg3 g gG
            have og : Order n g.2 := bf3.least (Order n) (calm_order n) (fun z m hz hm => order_after hz (ordM m hm)) g.2 (vals_mem gR)
            have om := hMo m mM
            have hg1 := mh3.all g gR
            have hm1' := mh3.kp.tup (hM m mM)
            have hm2' : (vals M)[j]? = some m.2 := by rw [List.getElem?_map, hm]; rfl
            refine ⟨_, rfl, g.1, rfl, ⟨_, .of hg1⟩, fun D nD => lc_tup (xs := g.2.map V.int) (fun k H4 => Kp Ps H3 H4 ∧ H4 D = some (.lst (((after g.2 m.2).take k).map V.int))) ⟨.new nD, upd_same⟩ (fun k H4 _ p => .of (p.1.tup hg1)) ?_ ?_⟩
            · rintro k x H4 hx ⟨k4, hD⟩
              obtain ⟨z, hz, rfl⟩ := map_get hx
              have hzr := og.2.1 z (List.mem_of_getElem? hz)
              have hzm := order_get om.1 hzr.1 hzr.2
              refine ⟨rfl, _, rfl, _, rfl, m.1, m.2.map V.int, z, .int (m.2.getD z.toNat 0), rfl, rfl, .of (k4.tup hm1'), ?_, _, hD, ?_, k4.mut nD (fun ps z => by rw [hD] at z; cases z), ?_⟩
              · have e2 : z = ((z.toNat : Nat) : Int) := by omega
                rw [e2]
                exact atI_nat (by rw [← e2]; exact get_map hzm)
              · rw [List.length_map, List.length_take, after_len, og.1]
                exact small1000 (Nat.le_trans (Nat.min_le_right _ _) (by omega))
              · rw [upd_same, List.take_add_one, after_get hz, List.map_append]
                rfl
            · rintro H4 ⟨k4, hD⟩
              rw [List.length_map, List.take_of_length_le (by rw [after_len]; exact Nat.le_refl _)] at hD
              refine .inl ⟨D, _, rfl, .of hD, fun p np => ?_⟩
              have kp5 : Kp Ps H3 (upd H4 p (.tup ((after g.2 m.2).map V.int))) := k4.trans (.new np)
              have mh5 := mh3.kp2 kp5
              have hp5 : upd H4 p (.tup ((after g.2 m.2).map V.int)) p = some (.tup ((after g.2 m.2).map V.int)) := upd_same
              refine ⟨_, rfl, _, rfl, p, F, after g.2 m.2, R3, rfl, rfl, .of hp5, .inl (.of mh5.f), fun q hq => .of (mh5.all q hq), _, rfl, ?_⟩
              have hMo3 : Mo3.length ≤ 700 := by
                have : i * M.length ≤ 60 * 10 := Nat.mul_le_mul (by omega) hMl
                omega
              by_cases hmem : after g.2 m.2 ∈ vals R3
              · show if (!decide _) = true then _ else _
                rw [decide_eq_true hmem]
                refine iteF ⟨R3, Mo3, _, _, _, rfl, mh5, kp5.lst hf3, kp5.tup hc3, bf3, hg3, hl3, by omega, fun t ht => ?_⟩
                rw [take_snoc hm2'] at ht
                rcases List.mem_append.mp ht with z | z
                · exact hd3 t z
                · rw [List.mem_singleton.mp z]; exact hmem
              · show if (!decide _) = true then _ else _
                rw [decide_eq_false hmem]
                have mh6 := mh5.add (p := (p, after g.2 m.2)) nF nmo Fmo hp5
                have m6 : upd (upd H4 p (.tup ((after g.2 m.2).map V.int))) F (.lst (refs R3 ++ [.ref p])) mo = some (.lst (refs Mo3)) := by rw [upd_ne (Ne.symm Fmo)]; exact mh5.m
                have cF : c ≠ F := ne_of (kp5.tup hc3) mh5.f (by intro z; cases z)
                have cmo : c ≠ mo := ne_of (kp5.tup hc3) mh5.m (by intro z; cases z)
                refine iteT ⟨_, rfl, .inl ⟨rfl, _, .of mh5.f⟩, _, rfl, F, refs R3, .ref p, rfl, rfl, mh5.f, by rw [refs_len]; exact small1000 (by omega), ?_⟩
                refine ⟨_, rfl, .inl ⟨rfl, _, .of m6⟩, _, rfl, mo, refs Mo3, .ref p, rfl, rfl, m6, by rw [refs_len]; exact small1000 (by omega), ?_⟩
                refine ⟨R3 ++ [(p, after g.2 m.2)], Mo3 ++ [(p, after g.2 m.2)], _, _, _, rfl, mh6, ?_, ?_, ?_, fun q hq => List.mem_append_left _ (hg3 q hq), by rw [List.length_append, List.length_append, List.length_singleton]; omega, by rw [List.length_append, List.length_singleton]; omega, fun t ht => ?_⟩
                · rw [upd_ne frmo, upd_ne hne]
                  exact kp5.lst hf3
                · rw [upd_ne cmo, upd_ne cF]
                  exact kp5.tup hc3
                · have z := bf3.add (vals_mem gR) (List.mem_of_getElem? hm2') hmem
                  unfold vals
                  rw [List.map_append, List.map_append]
                  exact z
                · unfold vals
                  rw [List.map_append]
                  rw [take_snoc hm2'] at ht
                  rcases List.mem_append.mp ht with z | z
                  · exact List.mem_append_left _ (hd3 t z)
                  · rw [List.mem_singleton.mp z]; exact List.mem_append_right _ List.mem_cons_self
          · rintro σ' H3 ⟨R3, Mo3, w3, w4, w5, rfl, mh3, hf3, hc3, bf3, hg3, hl3, hi3, hd3⟩
            rw [refs_len, ← hvM, List.take_length] at hd3
            rw [dg] at bf3
            refine ⟨R3, Mo3, _, _, _, _, rfl, mh3, hf3, hc3, bf3.one hd3, hg3, hl3, ?_⟩
            rw [refs_len] at hi3
            rw [Nat.succ_mul]
            exact hi3
        · rintro σ' H2 ⟨R2, Mo, v2, v3, v4, v5, rfl, mh, hf2, hc2, bf2, hg2, hl2, hi2⟩
          rw [refs_len, List.drop_length] at bf2
          have hMl2 : Mo.length ≤ 600 := by
            rw [refs_len] at hi2
            have : G.length * M.length ≤ 60 * 10 := Nat.mul_le_mul (by omega) hMl
            omega
          refine ⟨_, rfl, 2 * (most + 1 - R2.length) + (if Mo = [] then 0 else 1), ?_, R2, Mo, mo, _, _, _, _, _, rfl, rfl, mh.kp, mh.f, mh.m, Ne.symm Fmo, mh.all, mh.sub, by omega, hc2, bf2, by omega⟩
          rw [if_neg hG]
          cases Mo with
          | nil =>
            rw [if_pos rfl]
            rw [List.length_nil] at hl2
            omega
          | cons m Mo =>
            rw [if_neg (by intro z; cases z)]
            rw [List.length_cons] at hl2
            omega
      · rw [decide_eq_false hcond]
        refine iteF ⟨_, rfl, F, refs R, rfl, .inl (.of (ke.lst hFR)), _, rfl, _, _, rfl, rfl, _, rfl, ?_⟩
        rw [refs_len]
        by_cases hl : R.length ≤ most
        · have hG : G = [] := by
            cases G with
            | nil => rfl
            | cons g G => exact absurd ⟨(fun z => by cases z), hl⟩ hcond
          subst hG
          rw [decide_eq_true (by omega)]
          have sp := bf.ended
          obtain ⟨so, ss⟩ := sp.shut ordM
          refine iteT ⟨_, rfl, F, refs R, rfl, .of (ke.lst hFR), by rw [refs_len]; omega, fun x hx => ?_, fun ys p py sy np => ?_⟩
          · obtain ⟨t, ht, rfl⟩ := List.mem_map.mp hx
            have o := so t.2 (vals_mem ht)
            exact ⟨t.2, ⟨t.1, rfl, .of (aR1 t ht)⟩, o.1, fun y hy => ⟨(o.2.1 y hy).1, by have := (o.2.1 y hy).2; omega⟩⟩
          · obtain ⟨L, rfl, hL, pv, rise⟩ := sorted_vals aR1 py sp.nd (fun t ht => ⟨(so t ht).1, fun y hy => ⟨((so t ht).2.1 y hy).1, by have := ((so t ht).2.1 y hy).2; omega⟩⟩) sy
            have k2 : Kp Ps (upd H' e (.lst [])) (upd (upd H' e (.lst [])) p (.lst (refs L))) := .new np
            refine .inl ⟨p, _, rfl, .of upd_same, fun p2 np2 => q p2 L _ ((kpe.trans k2).trans (.new np2)) ((kpe.trans k2).fresh np2) upd_same (hL.kp (k2.trans (.new np2))) ⟨h1, h8, fun m hm => so m (pv.mem_iff.mp hm), pv.mem_iff.mpr sp.calm, fun a ha b hb => pv.mem_iff.mpr (ss a (pv.mem_iff.mp ha) b (pv.mem_iff.mp hb)), pv.nodup_iff.mpr sp.nd, rise⟩ ?_⟩
            have := pv.length_eq
            rw [List.length_map, List.length_map] at this
            omega
        · rw [decide_eq_false (by omega)]
          refine iteF ⟨_, rfl, (by show 1 ≤ sizeLine; decide), fun p np => ?_⟩
          have hc1 := ke.tup hcc
          refine q p [(c, calm n)] _ (kpe.trans (.new np)) (kpe.fresh np) upd_same (fun t ht => ?_) ?_ hm1
          · rw [List.mem_singleton.mp ht, upd_ne (ne_of_none hc1 np)]
            exact hc1
          · refine ⟨h1, h8, fun m hm => by rw [List.mem_singleton.mp hm]; exact calm_order n, List.mem_cons_self, fun a ha b hb => ?_, List.nodup_cons.mpr ⟨List.not_mem_nil, List.nodup_nil⟩, fun i x y hx hy => ?_⟩
            · rw [List.mem_singleton.mp ha, List.mem_singleton.mp hb, after_calm (calm_order n)]
              exact List.mem_cons_self
            · have := len_of hy
              have z : (vals [(c, calm n)]).length = 1 := rfl
              omega
end
end U
set_option maxHeartbeats 2000000
namespace U
open PySem PySem.Spec PyProof.Rows L2 GxR Bx Gx Ex Sx RZ
/-! orders by sums -/
theorem fmod_up {n x : Int} (h0 : 0 ≤ x) (h1 : x < 2 * n) : x.fmod n = if x < n then x else x - n := by
  rw [Int.fmod_eq_emod_of_nonneg _ (by omega)]
  split
  · exact Int.emod_eq_of_lt h0 (by omega)
  · rw [← Int.sub_emod_right x n]
    exact Int.emod_eq_of_lt (by omega) (by omega)
theorem fmod_dn {n x : Int} (h0 : -n < x) (h1 : x < n) : x.fmod n = if 0 ≤ x then x else x + n := by
  rw [Int.fmod_eq_emod_of_nonneg _ (by omega)]
  split
  · exact Int.emod_eq_of_lt (by omega) h1
  · rw [← Int.add_emod_right x n]
    exact Int.emod_eq_of_lt (by omega) (by omega)
theorem order_fn {n : Nat} {g : Int → Int} (h : ∀ i : Int, 0 ≤ i → i < n → 0 ≤ g i ∧ g i < n) (inj : ∀ i j : Int, 0 ≤ i → i < n → 0 ≤ j → j < n → g i = g j → i = j) : Order n ((calm n).map g) := by
  have c := calm_order n
  refine ⟨by rw [List.length_map, c.1], fun x hx => ?_, ?_⟩
  · obtain ⟨y, hy, rfl⟩ := List.mem_map.mp hx
    exact h y (c.2.1 y hy).1 (c.2.1 y hy).2
  · refine List.nodup_iff_pairwise_ne.mpr (List.pairwise_map.mpr ?_)
    exact List.Pairwise.imp_of_mem (fun {x y} hx hy hne z => hne (inj x y (c.2.1 x hx).1 (c.2.1 x hx).2 (c.2.1 y hy).1 (c.2.1 y hy).2 z)) (List.nodup_iff_pairwise_ne.mp c.2.2)
theorem order_up {n : Nat} {s : Int} (h0 : 0 ≤ s) (h1 : s < n) : Order n ((calm n).map fun i => (i + s).fmod n) := by
  refine order_fn (fun i a b => ?_) (fun i j a b c d e => ?_)
  · rw [fmod_up (by omega) (by omega)]
    split <;> omega
  · rw [fmod_up (by omega) (by omega), fmod_up (by omega) (by omega)] at e
    split at e <;> split at e <;> omega
theorem order_dn {n : Nat} {s : Int} (h0 : 0 ≤ s) (h1 : s < n) : Order n ((calm n).map fun i => (s - i).fmod n) := by
  refine order_fn (fun i a b => ?_) (fun i j a b c d e => ?_)
  · rw [fmod_dn (by omega) (by omega)]
    split <;> omega
  · rw [fmod_dn (by omega) (by omega), fmod_dn (by omega) (by omega)] at e
    split at e <;> split at e <;> omega
theorem calm_get {n i : Nat} (h : i < n) : (calm n)[i]? = some (i : Int) := by
  unfold calm
  rw [List.getElem?_map, List.getElem?_eq_getElem (by rw [List.length_range]; exact h), List.getElem_range]
  rfl
theorem calm_len (n : Nat) : (calm n).length = n := (calm_order n).1
/-- two seats exchanged -/
theorem order_swap {n : Nat} {a b : Nat} (ha : a < n) (hb : b < n) : Order n (((calm n).set a (b : Int)).set b (a : Int)) := by
  have len : (((calm n).set a (b : Int)).set b (a : Int)).length = n := by rw [List.length_set, List.length_set, calm_len]
  have at_ : ∀ i : Nat, i < n → (((calm n).set a (b : Int)).set b (a : Int))[i]? = some (if b = i then (a : Int) else if a = i then (b : Int) else (i : Int)) := fun i hi => by
    by_cases h1 : b = i
    · subst h1
      rw [List.getElem?_set_self (by rw [List.length_set, calm_len]; exact hb), if_pos rfl]
    · rw [List.getElem?_set_ne h1, if_neg h1]
      by_cases h2 : a = i
      · subst h2
        rw [List.getElem?_set_self (by rw [calm_len]; exact ha), if_pos rfl]
      · rw [List.getElem?_set_ne h2, if_neg h2]
        exact calm_get hi
  refine ⟨len, fun x hx => ?_, List.nodup_iff_pairwise_ne.mpr (List.pairwise_iff_getElem.mpr fun i j hi hj hij e => ?_)⟩
  · obtain ⟨i, hi, rfl⟩ := List.getElem_of_mem hx
    have e := at_ i (by omega)
    rw [List.getElem?_eq_getElem hi] at e
    injection e with e
    rw [e]
    split
    · omega
    · split <;> omega
  · have e1 := at_ i (by omega)
    have e2 := at_ j (by omega)
    rw [List.getElem?_eq_getElem hi] at e1
    rw [List.getElem?_eq_getElem hj] at e2
    injection e1 with e1
    injection e2 with e2
    rw [e1, e2] at e
    split at e <;> split at e <;> (try split at e) <;> (try split at e) <;> omega
theorem order_perm {n : Nat} {t : List Int} (h : t.Perm (calm n)) : Order n t :=
  ⟨by rw [h.length_eq, calm_len], fun x hx => (calm_order n).2.1 x (h.mem_iff.mp hx), h.nodup_iff.mpr (calm_order n).2.2⟩
theorem pop_perm {f r : List Int} {k : Nat} {y : Int} {c : List Int} (h : (f ++ r).Perm c) (e : r[k]? = some y) : ((f ++ [y]) ++ r.eraseIdx k).Perm c := by
  refine List.Perm.trans ?_ h
  rw [List.append_assoc]
  refine List.Perm.append_left f ?_
  have e1 : r = r.take k ++ y :: r.drop (k + 1) := by rw [← drop_cons e, List.take_append_drop]
  rw [List.eraseIdx_eq_take_drop_succ]
  conv => rhs; rw [e1]
  show (y :: (r.take k ++ r.drop (k + 1))).Perm _
  exact List.perm_middle.symm
theorem erase_map {α β : Type} (f : α → β) : ∀ (l : List α) (k : Nat), (l.map f).eraseIdx k = (l.eraseIdx k).map f
  | [], _ => rfl
  | _ :: _, 0 => rfl
  | x :: l, k + 1 => by
    show f x :: (l.map f).eraseIdx k = f x :: (l.eraseIdx k).map f
    rw [erase_map f l k]
theorem St.upd {H : Hp} {s p : Addr} {b : Int} {o : HO} (h : St H s b) (n : s ≠ p) : St (L2.upd H p o) s b := by
  obtain ⟨l, c, t, e, r⟩ := h
  exact ⟨l, c, t, by rw [upd_ne n]; exact e, r⟩
theorem rg_vals (n : Nat) : rgV 0 (n : Int) = (calm n).map V.int := rg_calm n
section
variable {P : Program} {w : World} {K : PySem.W.Frag} {mg : Str → Option Value} {base : Heap} {Ps : List Addr}
theorem pe_pop (K : PySem.W.Frag) {X : Cx} {o e : Expr} {to te : TE} {apos cpos : Pos} (ho : PE X o to) (he : PE X e te) (hK : X.K = K := by rfl)
    (hbase : attributeBase o "pop" X.env (eval o X.env) = eval o X.env := by rfl)
    (hfew : ((backTo cpos (starEach [e] X.env)).all (fun x => !x.1) && (backToKw cpos (keywordEach [] X.env)).all (fun x => x.1.isSome) && decide (([e] : List Expr).length + ([] : List Keyword).length + (if ([] : List Keyword).isEmpty then 0 else 1) < 30)) = true := by rfl)
    (hline : (apos.endLine == cpos.line) = true := by rfl) (hs : starEach [e] X.env = (false, eval e X.env) :: starEach [] X.env := by rfl) (hplain : (backTo cpos (starEach [] X.env)).any (·.1) = false := by rfl) :
    PE X (.Call (.Attribute o "pop" apos) [e] [] cpos) (tBM K "list" rPopAt to (tCons te tNil)) := by
  subst hK
  exact pe_bm PySem.F.plainAttrs_list PySem.F.slot_list_pop PySem.F.type_list_pop mt_popAt ho (pa_cons he pa_nil hs) hbase hfew hline hs hplain
theorem sc_turning : FnScope ["state", "size", "way", "rest", "found", "j", "step", "spot", "shifted", "swap", "seat"] ["state", "size"] (defScope s_law_turning) := ⟨rfl, rfl, rfl, by decide +kernel, rfl, by decide +kernel, by decide +kernel⟩
def spTurning (Ps : List Addr) : Sp := fun vs H Q _ => ∃ (s : Addr) (n : Nat) (b : Int), vs = [.ref s, .int n] ∧ 1 ≤ n ∧ n ≤ 8 ∧ St H s b ∧ b < 900000000000 ∧
  ∀ p t H', Ke Ps s H H' → St H' s (b + 44) → H p = none → H' p = some (.tup (t.map V.int)) → Order n t → Q (.ref p) H'
theorem ok_turning (D : Dfn K mg "_law_turning" s_law_turning ["state", "size"]) (B : BN mg) (o1 : Okd P w K mg base CX0 2 "_law_digit" ["state", "size"] (spDigit Ps)) : Okd P w K mg base CX0 3 "_law_turning" ["state", "size"] (spTurning Ps) := by
  refine D.ok sc_turning (fun vs H Q E h => ?_) (fun f cdv A outer s H vs Q E hr h => ?_)
  · obtain ⟨s, n, b, rfl, _⟩ := h; rfl
  · obtain ⟨sa, n, b, rfl, n1, n8, st, hb, q⟩ := h
    have nd := sc_turning.nd
    refine ⟨_, pss_cons (ps_par3 (i := 2) (j := 3) (l := 4) rfl nd rfl rfl rfl (by decide) (by decide) (by decide) rfl rfl rfl (pa_cons (pe_do o1 hr (pa_cons (pv 0) (pa_cons pe_int pa_nil))) (pa_cons (pe_listRg rfl rfl B.list (prg_1 rfl B.range (pv 1))) (pa_cons (pe_lst pa_nil) pa_nil))) rfl)
      (pss_cons (ps_for PassesOwn.never rfl (pi_range1 rfl B.range (pa_cons (pv 1) pa_nil)) (pg_name (i := 5) nd rfl (.inl rfl))
        (pss_one (ps_expr (pe_append K (pv 4) (pe_pop K (pv 3) (pe_do o1 hr (pa_cons (pv 0) (pa_cons (pe_len K B.len (pv 3)) pa_nil))))))))
      (pss_cons (ps_asg (pe_tup (pa_cons (pe_do o1 hr (pa_cons (pv 0) (pa_cons (pv 1) pa_nil))) (pa_cons (pe_do o1 hr (pa_cons (pv 0) (pa_cons (pv 1) pa_nil))) pa_nil))) (pg_tup rfl (pgs_cons (pg_name (i := 6) nd rfl (.inr rfl)) (pgs_cons (pg_name (i := 7) nd rfl (.inl rfl)) pgs_nil))))
      (pss_cons (ps_setLc (i := 8) (own := [("seat", 10)]) (g := gName 10) (tt := tYes) rfl nd rfl rfl (sw_true rfl rfl rfl (by decide +kernel)) (pi_range1 rfl B.range (pa_cons (pv 1) pa_nil)) (blkOk_by (N := ["state", "size", "way", "rest", "found", "j", "step", "spot", "shifted", "swap", "seat"]) (sc := defScope s_law_turning) (by decide +kernel))
          (fun _ _ _ _ _ => pg_name (i := 10) nd rfl (.inl rfl)) (fun _ _ _ _ _ => pts_nil) (fun _ _ _ _ _ => pe_op op_modN (pe_op op_add (pv 10) (pv 6)) (pv 1)))
      (pss_cons (ps_set (i := 9) nd rfl (.inl rfl) (pe_listRg rfl rfl B.list (prg_1 rfl B.range (pv 1))))
      (pss_cons (ps_asg (pe_tup (pa_cons (pv 7) (pa_cons (pv 6) pa_nil))) (pg_tup rfl (pgs_cons (pg_sub (pv 9) (pv 6) set_list) (pgs_cons (pg_sub (pv 9) (pv 7) set_list) pgs_nil))))
      (pss_one (ps_ret (pe_tupleOf rfl B.tuple (pe_ixL K (pe_lst (pa_cons (pv 4) (pa_cons (pv 8) (pa_cons
        (pe_lc (own := [("seat", 10)]) (g := gName 10) (tt := tYes) rfl nd (pi_range1 rfl B.range (pa_cons (pv 1) pa_nil)) (blkOk_by (N := ["state", "size", "way", "rest", "found", "j", "step", "spot", "shifted", "swap", "seat"]) (sc := defScope s_law_turning) (by decide +kernel))
          (fun _ _ _ _ _ => pg_name (i := 10) nd rfl (.inl rfl)) (fun _ _ _ _ _ => pts_nil) (fun _ _ _ _ _ => pe_op op_modN (pe_op op_sub (pv 6) (pv 10)) (pv 1)))
        (pa_cons (pv 9) pa_nil))))) (pv 2)))))))))), ?_⟩
    have stS := st.some
    refine ⟨_, rfl, sa, 4, b, rfl, by decide, by decide, st, by omega, fun way H1 ke1 st1 w0 w1 => ?_⟩
    refine ⟨_, rfl, n, rfl, .of_le (by omega) (by omega) (by omega) (by omega), fun re hre => ⟨(by show 0 ≤ sizeLine; decide), fun fo hfo => ⟨_, _, _, rfl, ?_⟩⟩⟩
    rw [rg_vals] at hfo ⊢
    have ke2 : Ke Ps sa H (upd H1 re (.lst ((calm n).map V.int))) := ke1.then (.new hre)
    have ke3 : Ke Ps sa H (upd (upd H1 re (.lst ((calm n).map V.int))) fo (.lst [])) := ke2.then (.new hfo)
    have nre : H re = none := ke1.fresh stS hre
    have nfo : H fo = none := ke2.fresh stS hfo
    have rf : re ≠ fo := ne_of_none upd_same hfo
    have st3 : St (upd (upd H1 re (.lst ((calm n).map V.int))) fo (.lst [])) sa (b + 4) := ((st1.kp (Ps := Ps) (.new hre))).kp (Ps := Ps) (.new hfo)
    refine ⟨_, rfl, n, rfl, by omega, by omega, ?_⟩
    rw [Int.toNat_natCast]
    refine for_range (lo := 0) (n := n) (fun i σ H' => Ke Ps sa H H' ∧ ∃ (r fl : List Int) (u v : Option V), H' re = some (.lst (r.map V.int)) ∧ H' fo = some (.lst (fl.map V.int)) ∧ (fl ++ r).Perm (calm n) ∧ fl.length = i ∧ St H' sa (b + 4 + 4 * i) ∧
        σ = [some (.ref sa), some (.int n), some (.int way), some (.ref re), some (.ref fo), u, none, none, none, none, v]) ⟨ke3, calm n, [], none, none, ?_, upd_same, List.Perm.refl _, rfl, by rw [show b + 4 + 4 * ((0 : Nat) : Int) = b + 4 by omega]; exact st3, rfl⟩ ?_ ?_
    · rw [upd_ne rf, upd_same]
    · rintro i σ H' hi ⟨ke, r, fl, u, v, hr1, hf1, pm, hl, stt, rfl⟩
      have lr : r.length + i = n := by
        have := pm.length_eq
        rw [List.length_append, calm_len] at this
        omega
      have fs : fo ≠ sa := stt.ne hf1
      have rs : re ≠ sa := stt.ne hr1
      refine ⟨_, rfl, .inl ⟨rfl, _, .of hf1⟩, _, rfl, .inl ⟨rfl, _, .of hr1⟩, _, rfl, _, rfl, re, _, rfl, .inl (.of hr1), sa, _, b + 4 + 4 * i, rfl, by rw [List.length_map]; omega, by rw [List.length_map]; omega, stt, by omega, fun d H2 k2 st2 d0 d1 => ?_⟩
      rw [List.length_map] at d1
      have hr2 := k2.lst rs hr1
      have hf2 := k2.lst fs hf1
      have hix : ixN (r.map V.int).length d = some d.toNat := by
        unfold ixN
        rw [List.length_map, if_pos d0, if_pos (by omega)]
      obtain ⟨y, hy⟩ : ∃ y, r[d.toNat]? = some y := ⟨_, List.getElem?_eq_getElem (by omega)⟩
      refine ⟨re, _, d, d.toNat, .int y, rfl, rfl, hr2, by omega, by omega, (ixN_seq hix).1, get_map hy, ?_⟩
      have hf3 : upd H2 re (.lst ((r.map V.int).eraseIdx d.toNat)) fo = some (.lst (fl.map V.int)) := by rw [upd_ne (Ne.symm rf)]; exact hf2
      have ke4 : Ke Ps sa H (upd H2 re (.lst ((r.map V.int).eraseIdx d.toNat))) := (ke.trans k2).mut nre stS fun ps z => by rw [hr2] at z; cases z
      refine ⟨fo, _, .int y, rfl, rfl, hf3, by rw [List.length_map]; exact small1000 (by omega), ?_⟩
      refine ⟨ke4.mut nfo stS (fun ps z => by rw [hf3] at z; cases z), r.eraseIdx d.toNat, fl ++ [y], _, _, ?_, ?_, pop_perm pm hy, by rw [List.length_append, hl]; rfl, ?_, rfl⟩
      · rw [upd_ne rf, upd_same, erase_map]
      · rw [upd_same, List.map_append]; rfl
      · obtain ⟨l, c, t, e, h0, h1, h2⟩ := st2
        refine ⟨l, c, t, ?_, h0, h1, by omega⟩
        rw [upd_ne (Ne.symm fs), upd_ne (Ne.symm rs)]
        exact e
    · rintro σ H' ⟨ke, r, fl, u, v, hr1, hf1, pm, hl, stt, rfl⟩
      have lr : r.length = 0 := by
        have := pm.length_eq
        rw [List.length_append, calm_len] at this
        omega
      have r0 : r = [] := List.length_eq_zero_iff.mp lr
      subst r0
      rw [List.append_nil] at pm
      have ofl := order_perm pm
      have fs : fo ≠ sa := stt.ne hf1
      refine ⟨_, rfl, _, rfl, sa, n, b + 4 + 4 * n, rfl, by omega, by omega, stt, by omega, fun step H2 k2 st2 s0 s1 => ?_⟩
      refine ⟨_, rfl, _, rfl, sa, n, b + 4 + 4 * n + 4, rfl, by omega, by omega, st2, by omega, fun spot H3 k3 st3 p0 p1 => ?_⟩
      have ke3 := (ke.trans k2).trans k3
      have hf3 := k3.lst fs (k2.lst fs hf1)
      refine ⟨(by show 2 ≤ sizeLine; decide), fun T nT => ⟨T, _, rfl, .of upd_same, rfl, _, _, rfl, _, _, rfl, rfl, ?_⟩⟩
      have kT : Kp Ps H3 (upd H3 T (.tup [.int step, .int spot])) := .new nT
      have ke4 : Ke Ps sa H (upd H3 T (.tup [.int step, .int spot])) := ke3.then kT
      have hf4 := kT.lst hf3
      refine ⟨_, rfl, n, rfl, by omega, by omega, fun D nD => ?_⟩
      rw [Int.toNat_natCast]
      refine lc_it walk_range (fun i H' => Kp Ps (upd H3 T (.tup [.int step, .int spot])) H' ∧ H' D = some (.lst ((((calm n).map fun i => (i + step).fmod n).take i).map V.int))) ⟨.new nD, upd_same⟩ (fun _ _ _ _ => trivial) ?_ ?_
      · rintro i x H5 H6 hi ⟨kp, hD⟩ ⟨rfl, rfl⟩
        have e3 : ((calm n).map fun i => (i + step).fmod n)[i]? = some (((i : Int) + step).fmod n) := by rw [List.getElem?_map, calm_get hi]; rfl
        refine ⟨rfl, _, rfl, _, rfl, _, _, rfl, rfl, _, rfl, _, _, rfl, rfl, by omega, _, hD, ?_, kp.mut nD (fun ps z => by rw [hD] at z; cases z), ?_⟩
        · rw [List.length_map, List.length_take, List.length_map, calm_len]
          exact small1000 (Nat.le_trans (Nat.min_le_right _ _) (by omega))
        · rw [upd_same, List.take_add_one, e3, List.map_append, Int.zero_add]
          rfl
      · rintro H5 ⟨k5, hD⟩
        rw [List.take_of_length_le (by rw [List.length_map, calm_len]; exact Nat.le_refl _)] at hD
        have ke5 := ke4.then k5
        have hf5 := k5.lst hf4
        refine ⟨_, rfl, n, rfl, .of_le (by omega) (by omega) (by omega) (by omega), fun sw nsw => ?_⟩
        rw [rg_vals]
        have k6 : Kp Ps H5 (upd H5 sw (.lst ((calm n).map V.int))) := .new nsw
        have ke6 := ke5.then k6
        have nsw0 : H sw = none := ke5.fresh stS nsw
        refine ⟨_, rfl, _, rfl, (by show 2 ≤ sizeLine; decide), fun T2 nT2 => ⟨T2, _, rfl, .of upd_same, rfl, _, _, rfl, ?_⟩⟩
        have k7 : Kp Ps (upd H5 sw (.lst ((calm n).map V.int))) (upd (upd H5 sw (.lst ((calm n).map V.int))) T2 (.tup [.int spot, .int step])) := .new nT2
        have ke7 := ke6.then k7
        have hsw7 : upd (upd H5 sw (.lst ((calm n).map V.int))) T2 (.tup [.int spot, .int step]) sw = some (.lst ((calm n).map V.int)) := k7.lst upd_same
        have ix1 : ixN ((calm n).map V.int).length step = some step.toNat := by
          unfold ixN
          rw [List.length_map, calm_len, if_pos s0, if_pos (by omega)]
        refine ⟨_, rfl, _, rfl, sw, _, step, step.toNat, rfl, rfl, hsw7, ix1, _, _, rfl, _, rfl, _, rfl, sw, _, spot, spot.toNat, rfl, rfl, upd_same, ?_, rfl, ?_⟩
        · unfold ixN
          rw [List.length_set, List.length_map, calm_len, if_pos p0, if_pos (by omega)]
        · have sws : sa ≠ sw := fun z => by rw [← z] at nsw0; rw [nsw0] at stS; cases stS
          have swf : fo ≠ sw := ne_of_none hf5 nsw
          have swD : D ≠ sw := ne_of_none hD nsw
          have a1 : step.toNat < n := by omega
          have a2 : spot.toNat < n := by omega
          have e1 : ((step.toNat : Nat) : Int) = step := by omega
          have e2 : ((spot.toNat : Nat) : Int) = spot := by omega
          have osw := order_swap a1 a2
          rw [e1, e2] at osw
          generalize hG : upd (upd (upd (upd H5 sw (.lst ((calm n).map V.int))) T2 (.tup [.int spot, .int step])) sw (.lst (((calm n).map V.int).set step.toNat (.int spot)))) sw (.lst ((((calm n).map V.int).set step.toNat (.int spot)).set spot.toNat (.int step))) = G
          have gsw : G sw = some (.lst ((((calm n).set step.toNat spot).set spot.toNat step).map V.int)) := by
            rw [← hG, upd_same, List.map_set, List.map_set]
          have gf : G fo = some (.lst (fl.map V.int)) := by
            rw [← hG, upd_ne swf, upd_ne swf]
            exact k7.lst (k6.lst hf5)
          have gD : G D = some (.lst (((calm n).map fun i => (i + step).fmod n).map V.int)) := by
            rw [← hG, upd_ne swD, upd_ne swD]
            exact k7.lst (k6.lst hD)
          have keG : Ke Ps sa H G := by
            rw [← hG]
            exact (ke7.mut nsw0 stS fun ps z => by rw [hsw7] at z; cases z).mut nsw0 stS fun ps z => by rw [upd_same] at z; cases z
          have stG : St G sa (b + 44) := by
            rw [← hG]
            exact (((((((st3.kp kT).kp k5).kp k6).kp k7).upd sws).upd sws)).le (by omega)
          clear hG
          refine ⟨_, rfl, _, rfl, _, rfl, n, rfl, by omega, by omega, fun D3 nD3 => ?_⟩
          rw [Int.toNat_natCast]
          refine lc_it walk_range (fun i H' => Kp Ps G H' ∧ H' D3 = some (.lst ((((calm n).map fun i => (step - i).fmod n).take i).map V.int))) ⟨.new nD3, upd_same⟩ (fun _ _ _ _ => trivial) ?_ ?_
          · rintro i x H5 H6 hi ⟨kp, hD⟩ ⟨rfl, rfl⟩
            have e3 : ((calm n).map fun i => (step - i).fmod n)[i]? = some ((step - (i : Int)).fmod n) := by rw [List.getElem?_map, calm_get hi]; rfl
            refine ⟨rfl, _, rfl, _, rfl, _, _, rfl, rfl, _, rfl, _, _, rfl, rfl, by omega, _, hD, ?_, kp.mut nD3 (fun ps z => by rw [hD] at z; cases z), ?_⟩
            · rw [List.length_map, List.length_take, List.length_map, calm_len]
              exact small1000 (Nat.le_trans (Nat.min_le_right _ _) (by omega))
            · rw [upd_same, List.take_add_one, e3, List.map_append, Int.zero_add]
              rfl
          · rintro H9 ⟨k9, hD9⟩
            rw [List.take_of_length_le (by rw [List.length_map, calm_len]; exact Nat.le_refl _)] at hD9
            refine ⟨_, rfl, (by show 4 ≤ sizeLine; decide), fun LL nLL => ?_⟩
            have k10 : Kp Ps H9 (upd H9 LL (.lst [.ref fo, .ref D, .ref D3, .ref sw])) := .new nLL
            have kk := k9.trans k10
            obtain ⟨qa, t, hat, hqa, oq⟩ : ∃ (qa : Addr) (t : List Int), atI [V.ref fo, V.ref D, V.ref D3, V.ref sw] way = some (.ref qa) ∧ upd H9 LL (.lst [.ref fo, .ref D, .ref D3, .ref sw]) qa = some (.lst (t.map V.int)) ∧ Order n t := by
              have : way = 0 ∨ way = 1 ∨ way = 2 ∨ way = 3 := by omega
              rcases this with e | e | e | e <;> subst e
              · exact ⟨fo, fl, rfl, kk.lst gf, ofl⟩
              · exact ⟨D, _, rfl, kk.lst gD, order_up s0 s1⟩
              · exact ⟨D3, _, rfl, k10.lst hD9, order_dn s0 s1⟩
              · exact ⟨sw, _, rfl, kk.lst gsw, osw⟩
            refine ⟨_, rfl, LL, _, way, .ref qa, rfl, rfl, .of upd_same, hat, .inl ⟨qa, _, rfl, .of hqa, fun p np => ?_⟩⟩
            exact q p t _ ((keG.then kk).then (.new np)) ((stG.kp kk).kp (Ps := Ps) (.new np)) ((keG.then kk).fresh stS np) upd_same oq
end
end U
set_option maxHeartbeats 2000000
namespace U
open PySem PySem.Spec PyProof.Rows L2 GxR Bx Gx Ex Sx RZ
section
variable {P : Program} {w : World} {K : PySem.W.Frag} {mg : Str → Option Value} {base : Heap} {Ps : List Addr}
theorem sc_table : FnScope ["state", "most_stands", "most_turnings", "faces", "size", "wide", "j", "moves"] ["state", "most_stands", "most_turnings"] (defScope s_law_table) := ⟨rfl, rfl, rfl, by decide +kernel, rfl, by decide +kernel, by decide +kernel⟩
def spTable (Ps : List Addr) : Sp := fun vs H Q _ => ∃ (s : Addr) (ms mt : Nat) (b : Int), vs = [.ref s, .int ms, .int mt] ∧ 9 ≤ ms ∧ ms ≤ 729 ∧ 1 ≤ mt ∧ mt ≤ 60 ∧ St H s b ∧ b < 800000000000 ∧
  ∀ t a f n L H', Ke Ps s H H' → St H' s (b + 200) → Tab H' t a f n L → Q (.ref t) H'
theorem ok_table (D : Dfn K mg "_law_table" s_law_table ["state", "most_stands", "most_turnings"]) (B : BN mg) (o1 : Okd P w K mg base CX0 2 "_law_digit" ["state", "size"] (spDigit Ps)) (o2 : Okd P w K mg base CX0 3 "_law_turning" ["state", "size"] (spTurning Ps))
    (o3 : Okd P w K mg base CX0 1 "_law_made" ["size", "moves", "most"] (spMade K Ps)) : Okd P w K mg base CX0 4 "_law_table" ["state", "most_stands", "most_turnings"] (spTable Ps) := by
  refine D.ok sc_table (fun vs H Q E h => ?_) (fun f cdv A outer s H vs Q E hr h => ?_)
  · obtain ⟨s, ms, mt, b, rfl, _⟩ := h; rfl
  · obtain ⟨sa, ms, mt, b, rfl, hms1, hms2, hmt1, hmt2, st, hb, q⟩ := h
    have nd := sc_table.nd
    have hr2 := hr.mono (show 2 ≤ 3 by decide)
    refine ⟨_, pss_cons (ps_set (i := 3) nd rfl (.inl rfl) (pe_ixL K (pe_lst (pa_cons pe_int (pa_cons pe_int (pa_cons pe_int (pa_cons pe_int (pa_cons pe_int (pa_cons pe_int (pa_cons pe_int (pa_cons (pe_op op_add pe_int (pe_do o1 hr2 (pa_cons (pv 0) (pa_cons pe_int pa_nil)))) pa_nil)))))))))
        (pe_do o1 hr2 (pa_cons (pv 0) (pa_cons pe_int pa_nil)))))
      (pss_cons (ps_asg (pe_tup (pa_cons pe_int (pa_cons (pv 3) pa_nil))) (pg_tup rfl (pgs_cons (pg_name (i := 4) nd rfl (.inr rfl)) (pgs_cons (pg_name (i := 5) nd rfl (.inl rfl)) pgs_nil))))
      (pss_cons (ps_for PassesOwn.never rfl (pi_range1 rfl B.range (pa_cons (pe_ixL K (pe_lst (pa_cons pe_int (pa_cons (pe_do o1 hr2 (pa_cons (pv 0) (pa_cons pe_int pa_nil))) pa_nil))) (pe_do o1 hr2 (pa_cons (pv 0) (pa_cons pe_int pa_nil)))) pa_nil)) (pg_name (i := 6) nd rfl (.inl rfl))
        (pss_one (ps_if (pt_cmpR op_le (pe_op op_mul (pv 5) (pv 3)) (pv 1) (nomark _))
          (pss_one (ps_asg (pe_tup (pa_cons (pe_op op_add (pv 4) pe_int) (pa_cons (pe_op op_mul (pv 5) (pv 3)) pa_nil))) (pg_tup rfl (pgs_cons (pg_name (i := 4) nd rfl (.inr rfl)) (pgs_cons (pg_name (i := 5) nd rfl (.inl rfl)) pgs_nil))))) pss_nil)))
      (pss_cons (ps_setLc (i := 7) (own := [("j", 6)]) (g := gName 6) (tt := tYes) rfl nd rfl rfl (sw_true rfl rfl rfl (by decide +kernel)) (pi_range1 rfl B.range (pa_cons (pe_op op_add pe_int (pe_do o1 hr2 (pa_cons (pv 0) (pa_cons pe_int pa_nil)))) pa_nil)) (blkOk_by (N := ["state", "most_stands", "most_turnings", "faces", "size", "wide", "j", "moves"]) (sc := defScope s_law_table) (by decide +kernel))
          (fun _ _ _ _ _ => pg_name (i := 6) nd rfl (.inl rfl)) (fun _ _ _ _ _ => pts_nil) (fun _ _ _ _ _ => pe_do o2 hr (pa_cons (pv 0) (pa_cons (pv 4) pa_nil))))
      (pss_one (ps_ret (pe_tup (pa_cons (pv 3) (pa_cons (pe_do o3 (hr.mono (by decide)) (pa_cons (pv 4) (pa_cons (pv 7) (pa_cons (pv 2) pa_nil)))) pa_nil)))))))), ?_⟩
    have stS := st.some
    -- the faces
    refine ⟨_, rfl, sa, 8, b, rfl, by decide, by decide, st, by omega, fun d1 H1 ke1 st1 x0 x1 => ⟨_, _, rfl, rfl, (by show 8 ≤ sizeLine; decide), fun l nl => ?_⟩⟩
    have k1 : Kp Ps H1 (upd H1 l (.lst [.int 2, .int 2, .int 3, .int 2, .int 4, .int 5, .int 6, .int (2 + d1)])) := .new nl
    have st1' := st1.kp k1
    have ls : l ≠ sa := st1'.ne upd_same
    refine ⟨_, rfl, sa, 8, b + 4, rfl, by decide, by decide, st1', by omega, fun d2 H2 ke2 st2 y0 y1 => ?_⟩
    have kb := (ke1.then k1).trans ke2
    obtain ⟨fc, hat, f2, f9⟩ : ∃ fc : Nat, atI [V.int 2, V.int 2, V.int 3, V.int 2, V.int 4, V.int 5, V.int 6, V.int (2 + d1)] d2 = some (.int fc) ∧ 2 ≤ fc ∧ fc ≤ 9 := by
      have : d2 = 0 ∨ d2 = 1 ∨ d2 = 2 ∨ d2 = 3 ∨ d2 = 4 ∨ d2 = 5 ∨ d2 = 6 ∨ d2 = 7 := by omega
      rcases this with e | e | e | e | e | e | e | e <;> subst e
      · exact ⟨2, rfl, by decide, by decide⟩
      · exact ⟨2, rfl, by decide, by decide⟩
      · exact ⟨3, rfl, by decide, by decide⟩
      · exact ⟨2, rfl, by decide, by decide⟩
      · exact ⟨4, rfl, by decide, by decide⟩
      · exact ⟨5, rfl, by decide, by decide⟩
      · exact ⟨6, rfl, by decide, by decide⟩
      · refine ⟨(2 + d1).toNat, ?_, by omega, by omega⟩
        rw [Int.toNat_of_nonneg (by omega)]
        rfl
    refine ⟨l, _, d2, .int fc, rfl, rfl, .of (ke2.lst ls upd_same), hat, ?_⟩
    refine ⟨_, rfl, (by show 2 ≤ sizeLine; decide), fun T nT => ⟨T, _, rfl, .of upd_same, rfl, _, _, rfl, _, _, rfl, rfl, ?_⟩⟩
    have kT : Kp Ps H2 (upd H2 T (.tup [.int 1, .int fc])) := .new nT
    have st3 := st2.kp kT
    have kb3 := kb.then kT
    -- how many more seats are tried
    refine ⟨_, rfl, sa, 6, b + 4 + 4, rfl, by decide, by decide, st3, by omega, fun d3 H3 ke3 st3 z0 z1 => ⟨(by show 2 ≤ sizeLine; decide), fun l2 nl2 => ?_⟩⟩
    have k3 : Kp Ps H3 (upd H3 l2 (.lst [.int 5, .int d3])) := .new nl2
    have st3' := st3.kp k3
    have l2s : l2 ≠ sa := st3'.ne upd_same
    refine ⟨_, rfl, sa, 2, b + 4 + 4 + 4, rfl, by decide, by decide, st3', by omega, fun d4 H4 ke4 st4 v0 v1 => ?_⟩
    have kb4 := ((kb3.trans ke3).then k3).trans ke4
    obtain ⟨m, hat2, m5⟩ : ∃ m : Nat, atI [V.int 5, V.int d3] d4 = some (.int m) ∧ m ≤ 5 := by
      have : d4 = 0 ∨ d4 = 1 := by omega
      rcases this with e | e <;> subst e
      · exact ⟨5, rfl, by decide⟩
      · refine ⟨d3.toNat, ?_, by omega⟩
        rw [Int.toNat_of_nonneg z0]
        rfl
    refine ⟨l2, _, d4, .int m, rfl, rfl, .of (ke4.lst l2s upd_same), hat2, m, rfl, by omega, by omega, ?_⟩
    rw [Int.toNat_natCast]
    refine for_range (lo := 0) (n := m) (fun i σ H' => Kp Ps H4 H' ∧ ∃ (n : Nat) (v : Option V), 1 ≤ n ∧ n ≤ 1 + i ∧ fc ^ n ≤ ms ∧ σ = [some (.ref sa), some (.int ms), some (.int mt), some (.int fc), some (.int n), some (.int ((fc ^ n : Nat) : Int)), v, none]) ⟨.refl H4, 1, none, by decide, by decide, by rw [Nat.pow_one]; omega, by rw [Nat.pow_one]; rfl⟩ ?_ ?_
    · rintro i σ H' hi ⟨kp, n, v, h1, hn, hw, rfl⟩
      have e : ((fc ^ n : Nat) : Int) * (fc : Int) = ((fc ^ (n + 1) : Nat) : Int) := by rw [Nat.pow_succ]; push_cast; rfl
      refine ⟨_, rfl, _, rfl, _, _, rfl, rfl, .inr ⟨by omega, by omega⟩, _, rfl, _, _, rfl, rfl, _, rfl, ?_⟩
      rw [e]
      by_cases hle : fc ^ (n + 1) ≤ ms
      · rw [decide_eq_true (by omega)]
        refine iteT ⟨_, rfl, _, _, rfl, rfl, _, rfl, _, rfl, _, _, rfl, rfl, .inr ⟨by omega, by omega⟩, (by show 2 ≤ sizeLine; decide), fun T nT => ⟨T, _, rfl, .of upd_same, rfl, _, _, rfl, _, _, rfl, rfl, ?_⟩⟩
        refine ⟨kp.trans (.new nT), n + 1, some (.int (0 + (i : Int))), by omega, by omega, hle, ?_⟩
        rw [← e]
        rfl
      · rw [decide_eq_false (by omega)]
        exact iteF ⟨kp, n, _, h1, by omega, hw, rfl⟩
    · rintro σ H' ⟨kp, n, v, h1, hn, hw, rfl⟩
      have st5 := st4.kp kp
      have kb5 := kb4.then kp
      refine ⟨_, rfl, sa, 3, b + 4 + 4 + 4 + 4, rfl, by decide, by decide, st5, by omega, fun d5 H5 ke5 st5 w0 w1 => ⟨_, _, rfl, rfl, _, rfl, by omega, by omega, fun D nD => ?_⟩⟩
      have kb6 := kb5.trans ke5
      have nD0 : H D = none := kb6.fresh stS nD
      refine lc_it walk_range (fun i H' => Ke Ps sa H H' ∧ St H' sa (b + 20 + 44 * i) ∧ ∃ M : List Tup, H' D = some (.lst (refs M)) ∧ AllT H' M ∧ (∀ m ∈ M, Order n m.2) ∧ M.length = i) ⟨kb6.then (.new nD), (st5.kp (Ps := Ps) (.new nD)).le (by omega), [], upd_same, (fun p hp => by cases hp), (fun p hp => by cases hp), rfl⟩ (fun _ _ _ _ => trivial) ?_ ?_
      · rintro i x H6 H7 hi ⟨ke, stt, M, hD, hM, hO, hl⟩ ⟨rfl, rfl⟩
        have Ds : D ≠ sa := stt.ne hD
        refine ⟨rfl, _, rfl, _, rfl, sa, n, b + 20 + 44 * i, rfl, h1, by omega, stt, by omega, fun p t H8 k8 st8 np ht ot => ?_⟩
        have hD8 := k8.lst Ds hD
        have ke8 := ke.trans k8
        have ne : ∀ q xs, H8 q = some (.tup xs) → q ≠ D := fun q xs e z => by rw [z, hD8] at e; cases e
        refine ⟨_, hD8, by rw [refs_len]; exact small1000 (by omega), ke8.mut nD0 stS (fun ps z => by rw [hD8] at z; cases z), ((st8.upd (Ne.symm Ds)).le (by omega)), M ++ [(p, t)], ?_, fun q hq => ?_, fun q hq => ?_, by rw [List.length_append, hl]; rfl⟩
        · rw [upd_same]
          exact congrArg (fun z => some (HO.lst z)) (refs_snoc M (p, t))
        · have e : H8 q.1 = some (.tup (q.2.map V.int)) := by
            rcases List.mem_append.mp hq with z | z
            · exact k8.tup (stt.neT (hM q z)) (hM q z)
            · rw [List.mem_singleton.mp z]; exact ht
          rw [upd_ne (ne _ _ e)]
          exact e
        · rcases List.mem_append.mp hq with z | z
          · exact hO q z
          · rw [List.mem_singleton.mp z]; exact ot
      · rintro H6 ⟨ke, stt, M, hD, hM, hO, hl⟩
        refine ⟨_, rfl, _, rfl, _, rfl, _, rfl, n, D, mt, M, rfl, h1, by omega, .of hD, hM, hO, by omega, hmt1, hmt2, fun p L H7 k7 np hp hL T hLm => ?_⟩
        refine ⟨(by show 2 ≤ sizeLine; decide), fun tt ntt => ?_⟩
        have k8 : Kp Ps H7 (upd H7 tt (.tup [.int fc, .ref p])) := .new ntt
        refine q tt p fc n L _ ((ke.then k7).then k8) (((stt.kp k7).kp k8).le (by omega)) ⟨upd_same, k8.tup hp, hL.kp k8, T, f2, f9, by omega, by omega⟩
end
end U
set_option maxHeartbeats 4000000
namespace Kx
open PySem PySem.Spec PyProof.Rows L2
/-- a caught exception, kept: of the class cls, its own dict at d -/
def EXO (a : Addr) (cls : Value) (d : Option Addr) : HO := .ext fun h => ∃ (oe : Obj) (vs : Array Value), h.get? a = some oe ∧ Zc cls d oe ∧ oe.data = .fields vs
theorem exo1 {P : Program} {w : World} {H : Hp} {h : Heap} {a : Addr} {cls : Value} {d : Option Addr} {oe : Obj} {vs : Array Value} (e : h.get? a = some oe) (z : Zc cls d oe) (q : oe.data = .fields vs) : ObjOk P w H h a (EXO a cls d) :=
  ⟨⟨oe, vs, e, z, q⟩, ⟨oe, e⟩, fun _ _ ⟨o, v, q1, r⟩ k => ⟨o, v, k o q1, r⟩⟩
section
variable {X : Cx} {pins : List (Addr × Obj)} {σ : L2.St} {H : Hp} {s : Shared}
/-- an object of ours that nobody tracks is tracked from now on -/
theorem track {a : Addr} {o : HO} (I : Inv X pins σ H s) (na : H a = none) (old : X.s_0.heap.get? a = none) (np : ∀ p ∈ X.pn ++ pins, p.1 ≠ a) (nl : a ≠ X.env.locals) (nc : ∀ y c, X.env.cells.lookup y = some c → c ≠ a) (new : ObjOk X.prog X.w (upd H a o) s.heap a o) :
    Inv X pins σ (upd H a o) s where
  ok := I.ok
  os := I.os
  bare := I.bare
  base := ⟨I.base.keep, I.base.slot, fun b u e n hx => by
      have hb : b ≠ a := fun z => by rw [z, old] at e; cases e
      rw [upd_ne hb]; exact I.base.free b u e n hx, I.base.there, fun b xs e => by rw [upd_ne (ne_of_none (I.base.tups b xs e) na)]; exact I.base.tups b xs e,
    fun b u v e => by rw [upd_ne (ne_of_none (I.base.frzs b u v e) na)]; exact I.base.frzs b u v e, fun b ps e => by
      obtain ⟨more, z⟩ := I.base.tbls b ps e
      exact ⟨more, by rw [upd_ne (ne_of_none z na)]; exact z⟩⟩
  loc := I.loc
  cell := I.cell
  free := by rw [upd_ne (Ne.symm nl)]; exact I.free
  freeC := fun y c e => by rw [upd_ne (nc y c e)]; exact I.freeC y c e
  pin := fun p hp => by
    obtain ⟨h1, h2, h3⟩ := I.pin p hp
    exact ⟨h1, by rw [upd_ne (np p hp)]; exact h2, h3⟩
  hok := I.hok.laidN (fun _ _ q => q) na new
  len := I.len
end
/-- what is wished where a clause 'except x as n' keeps what it caught; whatever comes is of the named class -/
def wKeep (K : PySem.W.Frag) (c : Value) (i : Nat) (ts : Addr → Value → Option Addr → TS) (D : Ends) : WX := fun cls d σ H => PySem.W.exmOne K cls c = some true ∧
  ∀ a, H a = none → ts a cls d ⟨fun σ' H' => D.nx (σ'.set i none) (upd H' a (EXO a cls d)), D.rt, fun σ' H' => D.bk (σ'.set i none) H', fun σ' H' => D.ct (σ'.set i none) H'⟩ (σ.set i (some (.ref a))) H
section
variable {X : Cx} {x n : Str} {c : Value} {i : Nat} {body more : List Stmt} {b1 : Stmt} {np pos pos' : Pos} {tb : WX → TS} {ts : Addr → Value → Option Addr → TS}
theorem ps_try_keep (hs : X.stack = X.env :: X.outer) (hf : X.env.frame = some X.env.locals) (hex : X.ex = []) (hN : X.N.Nodup) (hi : X.N[i]? = some n) (hln : X.env.kindOf n = some .local) (hc : Names X x c)
    (hb : ∀ (W : WX) (pn : List (Addr × Obj)) (xe : Value → Shared → Prop), Takes (X.tr pn xe) W → PassesOwn (model X.prog X.w) X.A X.env xe → PSs (X.tr pn xe) body (tb W)) (hsu : ∀ (a : Addr) (oe : Obj) (cls : Value) (d : Option Addr) (pn : List (Addr × Obj)), Zc cls d oe → (∃ vs, oe.data = .fields vs) → PSs (X.suite a ((a, oe) :: pn)) (b1 :: more) (ts a cls d)) :
    PS X (.Try body [.ExceptHandler (some (.Name x np)) (some n) (b1 :: more) pos'] [] [] pos) (fun D σ H => tb (wKeep X.K c i ts D) D σ H) := by
  refine ⟨fun pins s σ H D I h => wpAny_Try_except ?_⟩
  have kok := I.ok
  have frm : X.A.frames = some (X.env :: X.outer) := kok.frames.trans (congrArg some hs)
  refine wpAny_mono ((hb (wKeep X.K c i ts D) (X.pn ++ pins) (fun e s₁ => wpAny (model X.prog X.w) X.A (noteFrame e X.env) (fun _ s₂ => wpAny (model X.prog X.w) X.A (setFlight e none) (fun _ s₃ => wpAny (model X.prog X.w) X.A (handleBy e X.env [.ExceptHandler (some (.Name x np)) (some n) (b1 :: more) pos']) (SP X pins D) X.xe s₃) X.xe s₂) X.xe s₁)
    (fun u s2 air => ?_) PassesOwn.looking).run [] s σ H D (I.toTry _) h) (fun fl s2 sp => ?_) (fun _ _ z => z)
  · obtain ⟨a, B, sI, qs, σ2, H2, cls, d, rfl, I2', gr, upS, sk, na, eos, bare, yes, hts⟩ := air
    have I2 : Inv X pins σ2 H2 sI := I2'.ofTry kok
    have sk2 : Sky B (X.env :: X.outer) a (Zc cls d) X.env.locals s2.heap := hs ▸ sk
    have nB : B.get? a = none := by
      rcases sk2 with z | z | z
      · exact z.2.1
      · exact z.2.1
      · exact z.2.1
    show wpAny (model X.prog X.w) X.A (noteFrame (.ref a) X.env) _ _ _
    refine Sky.land Zc.steady frm hf sk2 fun hA flA upA => ?_
    have IA : Inv X pins σ2 H2 { s2 with heap := hA } := I2.landed gr flA.1 (upS.trans upA) eos bare
    obtain ⟨oA, vA, gA, zA, dA⟩ := flA.there
    have nfr : a ∉ frs (X.env :: X.outer) := fun hm => by
      obtain ⟨_, o', e', no⟩ := flA.2.2.1.mem hm
      rw [gA] at e'
      cases e'
      exact no _ dA
    have nloc : a ≠ X.env.locals := fun z => nfr (List.mem_filterMap.mpr ⟨X.env, List.mem_cons_self, hf.trans (congrArg some z.symm)⟩)
    have nfs : a ∉ X.fs := fun hm => by
      obtain ⟨e, he, q⟩ := List.mem_filterMap.mp hm
      exact nfr (List.mem_filterMap.mpr ⟨e, List.mem_cons_of_mem _ he, q⟩)
    have nsI : ∀ o, sI.heap.get? a ≠ some o := fun o e => by
      have z := gr a o e (hs ▸ nfr)
      rw [nB] at z
      cases z
    have old : X.s_0.heap.get? a = none := by
      cases e : X.s_0.heap.get? a with
      | none => rfl
      | some o =>
        obtain ⟨o', e'⟩ := I2.base.there a o e (by rw [hex]; intro z; cases z)
        exact (nsI o' e').elim
    have npin : ∀ p ∈ X.pn ++ pins, p.1 ≠ a := fun p hp z => nsI p.2 (z ▸ (I2.pin p hp).1)
    have ncell : ∀ y k, X.env.cells.lookup y = some k → k ≠ a := fun y k e z => by
      obtain ⟨v, q⟩ := I2.cell y k e
      obtain ⟨o, e1, _⟩ := q
      exact nsI o (z ▸ e1)
    have SA := IA.suite gA dA na nloc nfs
    refine wpAny_handleBy_cons (codeAny_handlers_test ?_) (by intro q; cases q)
    have ty : PySem.W.Looks (model X.prog X.w) hA (typeOf (.ref a)) cls := fun A Q E s k q => wpAny_typeOf_ref (k _ _ gA) (zA.1.symm ▸ q)
    have lm := PySem.W.exm_one (M := model X.prog X.w) IA.kIn ty yes
    have tst : ∀ {Q : Value → Shared → Prop} {E : Value → Shared → Prop}, Q c { s2 with heap := hA } → wpAny (model X.prog X.w) (X.A.mark (some (.ref a))) (eval (.Name x np) X.env) Q E { s2 with heap := hA } := fun {Q E} q => by
      obtain ⟨g1, g2, g3 | ⟨g3, g4, g5⟩⟩ := hc
      · exact ld_glob (X := X.suite a ((a, oA) :: (X.pn ++ pins))) SA g1 g3 q g2
      · exact ld_blt (X := X.suite a ((a, oA) :: (X.pn ++ pins))) SA g1 g3 g4 q g5 g2
    refine tst (lm.here (codeAny_handlers_suite_as ?_))
    refine HandSPX.lands_againZ flA fun hB flB upB => ?_
    have IB : Inv X pins σ2 H2 { s2 with heap := hB } := I2.landed gr flB.1 ((upS.trans upA).trans upB) eos bare
    obtain ⟨oB, vB, gB, zB, dB⟩ := flB.there
    have SB := IB.suite gB dB na nloc nfs
    refine store_ok (X := X.suite a ((a, oB) :: (X.pn ++ pins))) (v := .ref a) SB hN hi (.inl hln) rfl (fun s5 S5 => ?_) (.inr hln)
    refine wpAny_mono ((hsu a oB cls d (X.pn ++ pins) zB ⟨_, dB⟩).run [] s5 _ H2 _ S5 (hts a na)) (fun fl s6 hsp => ?_) (fun _ _ z => z.elim)
    cases fl with
    | next =>
      obtain ⟨σ6, H6, S6, q6⟩ := hsp
      obtain ⟨p1, p2, _⟩ := S6.pin (a, oB) (List.mem_append_left _ List.mem_cons_self)
      exact gone_ok (track (S6.unsuite kok) p2 old npin nloc ncell (exo1 p1 zB dB)) hN hi hln fun s7 J7 => ⟨_, _, J7, q6⟩
    | brk =>
      obtain ⟨σ6, H6, S6, q6⟩ := hsp
      exact gone_ok (S6.unsuite kok) hN hi hln fun s7 J7 => ⟨_, _, J7, q6⟩
    | cont =>
      obtain ⟨σ6, H6, S6, q6⟩ := hsp
      exact gone_ok (S6.unsuite kok) hN hi hln fun s7 J7 => ⟨_, _, J7, q6⟩
    | ret u =>
      obtain ⟨v6, σ6, H6, S6, r6, q6⟩ := hsp
      exact gone_ok (S6.unsuite kok) hN hi hln fun s7 J7 => ⟨_, _, _, J7, r6, q6⟩
  · cases fl with
    | next =>
      obtain ⟨σ2, H2, I2, q⟩ := sp
      exact wpAny_execs_nil ⟨σ2, H2, I2.ofTry kok, q⟩
    | brk =>
      obtain ⟨σ2, H2, I2, q⟩ := sp
      exact ⟨σ2, H2, I2.ofTry kok, q⟩
    | cont =>
      obtain ⟨σ2, H2, I2, q⟩ := sp
      exact ⟨σ2, H2, I2.ofTry kok, q⟩
    | ret u =>
      obtain ⟨v, σ2, H2, I2, r, q⟩ := sp
      exact ⟨v, σ2, H2, I2.ofTry kok, r, q⟩
end
end Kx
set_option maxHeartbeats 4000000
namespace PySem.W
open PySem PySem.Spec PySem.Calls PyProof.Rows
section
variable {prog : Program} {w : World} {A : Around} {E : Value → Shared → Prop} {s : Shared} {K : Frag} {x D : Addr} {ox od : Obj}
/-- e.__class__ of an own exception with a dict of its own -/
theorem kept_class {Q : Option Value → Shared → Prop} (C : L2.ExcC K D) (X : K.In s.heap) (I : InstAt s.heap x ox D (some od)) (h : Q (some (.ref D)) { s with toks := s.toks + 1 }) : wpAny (model prog w) A (getAttr? (.ref x) "__class__") Q E s := by
  have fo : findObj K D (some od) "__class__" = some (.bind (.builtin "getset_descriptor.__get__") (.builtin "object.__class__")) := by
    obtain ⟨cd, hc, _⟩ := any_some C.hd
    exact findObj_data (by rw [hc]; rfl) C.ha C.hn C.ht
  obtain ⟨h0, gs, dr, tk, ost⟩ := s
  have l0 := I.type (M := model prog w)
  have l1 := looks_findIn (M := model prog w) X C.hg
  have l2 := looks_findIn (M := model prog w) X C.hk
  have l3 := looks_find (M := model prog w) X I fo
  have isB : Looks (model prog w) h0 (isInstance (.ref x) (.type "BaseException")) true := l0.andThen (looks_subIn X C.hs)
  have other : (onTheHeap (Value.ref D) && Value.builtin "BaseException.__getattribute__" == Value.builtin "object.__getattribute__") = false := by
    have z : (Value.builtin "BaseException.__getattribute__" == Value.builtin "object.__getattribute__") = false := by decide +kernel
    rw [z, Bool.and_false]
  unfold getAttr? getAttrBy? getAttrBy
  refine wpAny_bind (wpAny_mkText (wpAny_bind (wpAny_attempt (wpAny_holding (wpAny_bind (l0.at (wpAny_bind (l1.at ?_))))))))
  show wpAny _ _ (ite ((onTheHeap (Value.ref D) && Value.builtin "BaseException.__getattribute__" == Value.builtin "object.__getattribute__") = true) _ _) _ _ _
  rw [other, if_neg (show ¬ false = true from Bool.false_ne_true)]
  unfold getAttrByItsOwn hookBefore
  refine wpAny_bind ?_
  have onH : onTheHeap (Value.ref D) = true := rfl
  rw [if_pos onH]
  refine l2.at (wpAny_bind (wpAny_attempt (wpAny_holding ?_)))
  unfold callGetattribute
  rw [show (false && onTheHeap (Value.builtin "BaseException.__getattribute__")) = false from rfl, if_neg (show ¬ false = true from Bool.false_ne_true)]
  unfold boundAndCalled
  rw [PySem.F.excAttr_ValueError.ga.bind (.ref x)]
  refine wpAny_bind (wpAny_pure ?_)
  show wpAny _ _ (call (.builtin "BaseException.__getattribute__") [.ref x, .str "__class__" tk]) _ _ _
  refine wpAny_call (codeAny_call_builtin PySem.F.excAttr_ValueError.ga.plain PySem.F.entry_bexc_ga (@check_slot (model prog w) _ _ ⟨h0, gs, dr, tk + 1, ost⟩ "BaseException.__getattribute__" "BaseException" "__getattribute__" (.ref x) [.str "__class__" tk] [] _ (by decide +kernel) (by decide +kernel) isB (PySem.F.args_bexc_ga (.ref x) (.str "__class__" tk)) ?_))
  unfold Builtin.«object.__getattribute__»
  refine wpAny_bind (wpAny_of_eq (a := ((Value.ref x : Value), [Value.str "__class__" tk])) (by first | rfl | (simp only [slotArgs]; rfl)) (wpAny_bind (wpAny_pure (wpAny_bind (l0.at (wpAny_bind (l3.at ?_)))))))
  show wpAny _ _ (holding [Value.builtin "object.__class__"] (call (.builtin "getset_descriptor.__get__") [.builtin "object.__class__", .ref x, .ref D]) >>= ret) _ _ _
  refine wpAny_bind (wpAny_holding (wpAny_call (class_get (s := ⟨h0, gs, dr, tk + 1, ost⟩) (ox := ox) (od := some od) X I C.hm (wpAny_pure ?_))))
  show wpAny _ _ (handedOut (.ref D)) _ _ _
  rw [handedOut_of (v := .ref D) (by rfl)]
  first | exact wpAny_pure (wpAny_pure h) | exact wpAny_pure h | exact wpAny_pure (wpAny_bind (wpAny_pure (wpAny_pure h)))
theorem kept_at (C : L2.ExcC K D) : ∃ c d cd sl, K.lookup D = some ⟨c, d, .cls cd, sl⟩ := by
  obtain ⟨cd, hc, _⟩ := any_some C.hd
  unfold clsIn at hc
  split at hc
  · rename_i c d cd' sl e
    exact ⟨c, d, cd', sl, e⟩
  · cases hc
theorem kitx_kept (C : L2.ExcC K D) : KitX K (.ref x) (.ref D) (fun h => InstAt h x ox D (some od)) where
  ty := fun _ _ _ I => I.type
  it := fun _ _ X _ => by
    obtain ⟨c, d, cd, sl, e⟩ := kept_at C
    intro A' Q' E' s' k q
    unfold isType loadHead
    exact wpAny_bind (wpAny_loadPart (k _ _ (X _ _ e)) (wpAny_pure q))
  ne := fun h tp dd its n sl X e => by
    obtain ⟨c, d, cd, sl', e'⟩ := kept_at C
    refine Bool.eq_false_iff.mpr fun q => ?_
    have z : D = tp := Value.ref.inj (beq_iff_eq.mp q)
    rw [← z, X _ _ e'] at e
    cases e
  ca := fun X I k => kept_class C X I k
end
end PySem.W
namespace Kx
open PySem PySem.Spec PyProof.Rows L2
section
variable {X : Cx} {pins : List (Addr × Obj)} {σ : L2.St} {H : Hp} {s : Shared}
/-- a kept exception and its dict -/
structure Kept (H : Hp) (a D dd : Addr) (fs : List (Str × V)) : Prop where
  e : H a = some (EXO a (.ref D) (some dd))
  d : H dd = some (.xd fs)
theorem Kept.inst {a D dd : Addr} {fs : List (Str × V)} (k : Kept H a D dd fs) (I : Inv X pins σ H s) : ∃ oe od, PySem.W.InstAt s.heap a oe D (some od) := by
  obtain ⟨oe, vs, h1, h2, h3⟩ := (I.hok a _ k.e).1
  obtain ⟨mA, hns, _⟩ : ObjOk X.prog X.w H s.heap dd (.xd fs) := I.hok dd _ k.d
  obtain ⟨od, ho, _⟩ := lookIn_ns hns
  exact ⟨oe, od, h1, h2.1, by unfold PySem.W.notCls; rw [h3] <;> rfl, by rw [h2.2]; exact ho⟩
def rIsK (K : PySem.W.Frag) : List V → Hp → VK → Prop := fun xs H Q => ∃ (a D dd : Addr) (fs : List (Str × V)) (c : V) (cv : Value) (b : Bool), xs = [.ref a, c] ∧ ClsV c cv ∧ Kept H a D dd fs ∧ ExcC K D ∧ PySem.W.kitOne K (.ref D) cv = some b ∧ Q (.bl b) H
theorem call_isK : CallR X (.builtin "isinstance") (rIsK X.K) := by
  intro pins s σ H xs us Q I r h
  obtain ⟨a, D, dd, fs, c, cv, b, rfl, hc, kp, C, e, q⟩ := h
  obtain ⟨u1, u2, rfl, r1, r2⟩ := vals2 r
  have e2 := hc.eq r2
  subst e2
  obtain rfl : u1 = Value.ref a := r1
  obtain ⟨oe, od, J⟩ := kp.inst I
  exact PySem.W.kia_one (PySem.W.kitx_kept C) I.kIn J e (fun z => nomatch z) fun tk => ⟨.bl b, H, I.tok tk, rfl, q⟩
/-- e.f of a kept exception -/
def tKf (K : PySem.W.Frag) (f : Str) (te : TE) : TE := fun σ H Q => te σ H fun x H1 => ∃ (a C dd : Addr) (fs : List (Str × V)) (v : V), x = .ref a ∧ XfC K C ∧ PySem.W.findIn K (.ref C) f = some none ∧ Kept H1 a C dd fs ∧ fs.lookup f = some v ∧ Q v H1
theorem pe_keptF {e : Expr} {te : TE} {f : Str} {pos : Pos} (he : PE X e te) (hb : attributeBase e f X.env (eval e X.env) = eval e X.env := by rfl) : PE X (.Attribute e f pos) (tKf X.K f te) := by
  refine ⟨fun pins s σ H Q I h => attr_of hb (thn (he.run pins s σ H _ I h) fun u s1 hh => ?_)⟩
  obtain ⟨x, H1, I1, rx, a, C, dd, fs, v, rfl, T, no, kp, lk, q⟩ := hh
  obtain rfl : u = Value.ref a := rx
  obtain ⟨oe, vs, g1, g2, g3⟩ := (I1.hok a _ kp.e).1
  obtain ⟨mA, hns, hr⟩ : ObjOk X.prog X.w H1 s1.heap dd (.xd fs) := I1.hok dd _ kp.d
  obtain ⟨od, ho, hl⟩ := lookIn_ns hns
  obtain ⟨u, hu, ru⟩ := RelO.some_of (v := v) (o := mA f) (by rw [← lk]; exact hr f)
  have J : PySem.W.InstAt s1.heap a oe C (some od) := ⟨g1, g2.1, by unfold PySem.W.notCls; rw [g3] <;> rfl, by rw [g2.2]; exact ho⟩
  exact HandSPX.exc_get I1.kIn J T.ga T.gg T.exC (PySem.W.findObj_own T.hdC no rfl (by rw [hl, hu])) (handed_of ru) ⟨v, H1, I1.tok _, ru, q⟩
end
end Kx
set_option maxHeartbeats 4000000
namespace Dx
open PySem PyProof.Rows SeqAt MeetsSeq
open AutoSeq1 (wpAny_loadPart')
theorem dict_int (l : Addr) (es : Array DictEntry) (ep : Nat) (dd : Option Addr) (sl : Array (Option Value)) (b : Int) (u : Tok) :
    Meets (Builtin.«dict.__eq__» ⟨[.ref l, .int b u], []⟩) (fun _ R s => s.heap.get? l = some { cls := .type "dict", dict := dd, data := .dict es ep, slots := sl } ∧ R (.ok (.ret .notImplemented)) s) :=
  .of_wp fun prog w A R s h => by
    obtain ⟨hp, g, d, tk, os⟩ := s
    obtain ⟨hl, h⟩ := h
    have f1 := F.sub_int_dict
    wp_walk using wpAny_loadPart' hl
    exact ⟨_, rfl, h⟩
theorem int_dict (b : Int) (u : Tok) (l : Addr) (c : Value) (es : Array DictEntry) (ep : Nat) (dd : Option Addr) (sl : Array (Option Value)) :
    Meets (Builtin.«int.__eq__» ⟨[.int b u, .ref l], []⟩) (fun _ R s => s.heap.get? l = some { cls := c, dict := dd, data := .dict es ep, slots := sl } ∧ R (.ok (.ret .notImplemented)) s) :=
  .of_wp fun prog w A R s h => by
    obtain ⟨hp, g, d, tk, os⟩ := s
    obtain ⟨hl, h⟩ := h
    wp_walk using wpAny_loadPart' hl, wpAny_load hl
    exact ⟨_, rfl, h⟩
theorem dict_int_at {A : Around} {s : Shared} {l : Addr} {es : Array DictEntry} {ep : Nat} {dd : Option Addr} {sl : Array (Option Value)} (b : Int) (u : Tok) (ho : s.heap.get? l = some { cls := .type "dict", dict := dd, data := .dict es ep, slots := sl }) (hu : A.units < cLine) :
    EqAt A s (.ref l) (.int b u) false := fun prog w E Q h => by
  unfold eqBool
  refine wpAny_holding (wpAny_ite_split (fun z => absurd (eq_of_beq z) nofun) fun _ => wpAny_bind ?_)
  exact rc_eq_decline_or (k := false) ⟨_, ho, rfl⟩ (typeIs_int s b u) (by decide) F.sub_int_dict F.slot_dict_eq F.slot_int_eq_refl
    (fun _ hq => call_meets F.slot_dict_eq ⟨_, ho, rfl⟩ F.entry_dict_eq (F.args_dict_eq_2 _ _) (dict_int l es ep dd sl b u) ⟨ho, hq⟩) (fun _ hq => call_meets F.slot_int_eq_refl (typeIs_int s b u) F.entry_int_eq (F.args_int_eq_2 _ _) (int_dict b u l (.type "dict") es ep dd sl) ⟨ho, hq⟩)
    (fun _ hq => wpAny_of_eq (rfl : isSame (.ref l) (.int b u) = pure false) hq) (.inr hu) (wpAny_truthy_bool h)
def eI (i : Int) : Value → Bool
  | .int j _ => j == i
  | .bool b => (if b then 1 else 0) == i
  | _ => false
end Dx
namespace U
open PySem PySem.Spec PyProof.Rows L2 GxR Bx Gx Ex Sx RZ Kx Dx
section
variable {X : Cx} {pins : List (Addr × Obj)} {σ : L2.St} {H : Hp} {s : Shared}
theorem eq_int {A : Around} {v : V} {u : Value} (I : Inv X pins σ H s) (ad : AD H v) (r : RelV v u) (i : Int) (t : Tok) (hu : A.units < cLine) : SeqAt.EqAt A s u (.int i t) (eI i u) ∧ eI i u = eqV v (.int i) := by
  cases ad with
  | non => cases r; exact ⟨.none_int i t, rfl⟩
  | bl b => cases r; exact ⟨.bool_int b i t, rfl⟩
  | int j => obtain ⟨k, rfl⟩ := r; exact ⟨.int_int j k i t, rfl⟩
  | str z => obtain ⟨k, rfl⟩ := r; exact ⟨.str_int z k i t, rfl⟩
  | tup e _ =>
    cases r
    obtain ⟨its, rv, p, _⟩ := I.tuple (SqT.of e)
    exact ⟨.tuple_int i t p hu, rfl⟩
  | lst e =>
    cases r
    obtain ⟨its, rv, p, _⟩ := I.list (SqL.of e)
    exact ⟨.list_int i t p.isList hu, rfl⟩
  | @dk a kvs e =>
    cases r
    obtain ⟨_, _, vs, _, o, es, ep, h1, h2, h3, h4⟩ : ObjOk X.prog X.w H s.heap a (.dK kvs) := I.hok a _ e
    obtain ⟨cls, dd, data, sl⟩ := o
    have hc : cls = .type "dict" := h2.1
    have h3 : data = .dict es ep := h3
    subst hc h3
    exact ⟨dict_int_at i t h1 hu, rfl⟩
/-- an int in a tuple of anything -/
def rInAD (K : PySem.W.Frag) : R2 := fun x y H Q => ∃ (i : Int) (a : Addr) (xs : List V), x = .int i ∧ y = .ref a ∧ SqT K H a xs ∧ (∀ v ∈ xs, AD H v) ∧ Q (.bl (inV (.int i) xs)) H
theorem any_eq : ∀ {A : Around} {vs : List V} {us : List Value} {i : Int} {t : Tok}, Inv X pins σ H s → (∀ v ∈ vs, AD H v) → Vals vs us → A.units < cLine → (∀ u ∈ us, SeqAt.EqAt A s u (.int i t) (eI i u)) ∧ us.any (eI i) = inV (.int i) vs
  | _, [], _, _, _, _, _, .nil, _ => ⟨(fun u h => by cases h), rfl⟩
  | _, v :: vs, _, i, t, I, h, .cons r rr, hu => by
    obtain ⟨e1, e2⟩ := eq_int I (h v List.mem_cons_self) r i t hu
    obtain ⟨e3, e4⟩ := any_eq (t := t) I (fun v hv => h v (List.mem_cons_of_mem _ hv)) rr hu
    refine ⟨fun u hu => ?_, ?_⟩
    · rcases List.mem_cons.mp hu with z | z
      · rw [z]; exact e1
      · exact e3 u z
    · rw [List.any_cons, e2, e4]
      rfl
theorem op_inAD (hu : X.A.units + 1 < cLine) : OpR X (compareOp .In) (rInAD X.K) := by
  intro pins s σ H x y v u Q I rx ry h
  obtain ⟨i, a, xs, rfl, rfl, ha, hx, q⟩ := h
  obtain ⟨t, rfl⟩ := rx
  cases ry
  obtain ⟨its, rv, p, _⟩ := I.tuple ha
  obtain ⟨e1, e2⟩ := any_eq (A := X.A.in1) (t := t) I hx rv hu
  refine SeqAt.in_tupleAt (eI i) (show s.heap.IsTuple a its.toArray from p) (fun y hy => e1 y (by simpa using hy)) ⟨.bl _, H, I, ?_, q⟩
  show Value.bool _ = Value.bool _
  rw [← Array.any_toList, ← e2]
theorem pt_inAD (K : PySem.W.Frag) {a b : Expr} {ta tb : TE} {pos : Pos} (ha : PE X a ta) (hb : PE X b tb) (hu : X.A.units + 1 < cLine) (hK : X.K = K := by rfl) (hm : behindInMarks .In b = false := by rfl) : PT X (.Compare a [.In] [b] pos) (tTest (tOp (rInAD K) ta tb)) := by
  subst hK
  exact pt_cmpR (op_inAD hu) ha hb hm
end
end U
set_option maxHeartbeats 2000000
namespace U
open PySem PySem.Spec PyProof.Rows L2 GxR Bx Gx Ex Sx RZ Kx Dx
/-- none: nothing is wrong; the number told -/
def optL : Option V → List V
  | none => []
  | some v => [v]
/-- all places that are wrong -/
def badIdx (p : V → Bool) : Nat → List V → List V
  | _, [] => []
  | k, x :: r => if p x = true then badIdx p (k + 1) r else .int k :: badIdx p (k + 1) r
theorem badIdx_one (p : V → Bool) : ∀ (xs : List V) (k : Nat), (badIdx p k xs).take 1 = optL (firstBad p k xs)
  | [], _ => rfl
  | x :: r, k => by
    unfold badIdx
    rw [firstBad_cons]
    split
    · exact badIdx_one p r (k + 1)
    · rfl
theorem badIdx_len (p : V → Bool) : ∀ (xs : List V) (k : Nat), (badIdx p k xs).length ≤ xs.length
  | [], _ => Nat.le_refl _
  | x :: r, k => by
    unfold badIdx
    have := badIdx_len p r (k + 1)
    split
    · rw [List.length_cons]; omega
    · rw [List.length_cons, List.length_cons]; omega
/-- so far, and what comes -/
theorem badIdx_snoc (p : V → Bool) : ∀ (xs : List V) (k : Nat) (x : V), badIdx p k (xs ++ [x]) = badIdx p k xs ++ (if p x = true then [] else [.int ((k + xs.length : Nat) : Int)])
  | [], k, x => by
    show badIdx p k [x] = _
    unfold badIdx badIdx
    split <;> rfl
  | y :: r, k, x => by
    have ih := badIdx_snoc p r (k + 1) x
    show badIdx p k (y :: (r ++ [x])) = _
    unfold badIdx
    have e : k + 1 + r.length = k + (y :: r).length := by rw [List.length_cons]; omega
    rw [ih, e]
    split
    · rfl
    · rfl
theorem wface_first (n : Int) : ∀ (xs : List V) (k : Nat), firstBad (okV 0 (n - 1)) k xs = if wfFrom n k xs < k + xs.length then some (.int (wfFrom n k xs)) else none
  | [], k => by
    show none = if k < k + 0 then _ else _
    rw [if_neg (by omega)]
  | x :: r, k => by
    rw [firstBad_cons]
    unfold wfFrom
    split
    · rw [wface_first n r (k + 1), List.length_cons]
      have e : k + 1 + r.length = k + (r.length + 1) := by omega
      rw [e]
    · rw [if_pos (by rw [List.length_cons]; omega)]
/-- standBad, by the first place -/
theorem standBad_first (f n : Nat) (xs : List V) (h : xs.length = n) : standBad f n (some xs) = firstBad (okV 0 ((f : Int) - 1)) 0 xs := by
  unfold standBad
  dsimp only
  rw [if_pos h, wface_first, Nat.zero_add, h]
  rfl
section
variable {P : Program} {w : World} {K : PySem.W.Frag} {mg : Str → Option Value} {base : Heap} {Ps : List Addr}
theorem sc_law_whole : FnScope ["thing", "most"] ["thing", "most"] (defScope s_law_whole) := ⟨rfl, rfl, rfl, by decide +kernel, rfl, by decide +kernel, by decide +kernel⟩
def spLawWhole : Sp := fun vs H Q _ => ∃ x t hi, vs = [x, .int hi] ∧ AV H x t ∧ Q (.bl (okV 0 hi x)) H
theorem ok_law_whole (D : Dfn K mg "_law_whole" s_law_whole ["thing", "most"]) (B : BN mg) : Okd P w K mg base CX0 1 "_law_whole" ["thing", "most"] spLawWhole := by
  refine D.ok sc_law_whole (fun vs H Q E h => ?_) (fun f cdv A outer s H vs Q E hr h => ?_)
  · obtain ⟨x, t, hi, rfl, _⟩ := h; rfl
  · obtain ⟨x, t, hi, rfl, av, q⟩ := h
    refine ⟨_, pss_one (ps_ret (pe_and (pe_isi (pv 0) boot_int B.int B.isinstance) (pe_and (pe_not (pe_isi (pv 0) boot_bool B.bool B.isinstance)) (pe_one (pe_chain op_le op_le pe_int (pv 0) (pv 1)))))), ?_⟩
    refine ⟨_, rfl, x, .ty "int", _, _, _, rfl, .ty _, av.ty, av.isInt, _, rfl, ?_⟩
    cases av with
    | int i =>
      refine iteT ⟨_, rfl, _, .ty "bool", _, _, _, rfl, .ty _, AV.ty (.int i), AV.isBool (H := H) (.int i), _, rfl, _, rfl, iteT ⟨_, rfl, _, _, rfl, rfl, _, rfl, ?_⟩⟩
      have q : Q (.bl (decide ((0 : Int) ≤ i) && decide (i ≤ hi))) H := q
      by_cases h : (0 : Int) ≤ i
      · rw [decide_eq_true h, Bool.true_and] at q
        rw [decide_eq_true h]
        exact iteT ⟨_, rfl, _, _, rfl, rfl, q⟩
      · rw [decide_eq_false h, Bool.false_and] at q
        rw [decide_eq_false h]
        exact iteF q
    | bl b => exact iteT ⟨_, rfl, _, .ty "bool", _, _, _, rfl, .ty _, AV.ty (.bl b), AV.isBool (H := H) (.bl b), _, rfl, _, rfl, iteF q⟩
    | _ => exact iteF q
theorem sc_law_stand_bad : FnScope ["table", "thing", "wrong", "k", "face"] ["table", "thing"] (defScope s_law_stand_bad) := ⟨rfl, rfl, rfl, by decide +kernel, rfl, by decide +kernel, by decide +kernel⟩
def spStandBad (Ps : List Addr) : Sp := fun vs H Q _ => ∃ t a f n L x, vs = [.ref t, x] ∧ Tab H t a f n L ∧ AD H x ∧ ∀ p H', Kp Ps H H' → H p = none → H' p = some (.lst (optL (standBad f n (tupOf H x)))) → Q (.ref p) H'
theorem cutV_one (xs : List V) : cutV xs none (some (1 : Int)) = xs.take 1 := by
  unfold cutV
  rw [HT.sIx_none, show (some (1 : Int)) = some ((1 : Nat) : Int) from rfl, HT.sIx_nat]
  cases xs with
  | nil => rfl
  | cons x r =>
    rw [List.length_cons, Nat.min_eq_left (by omega)]
    rfl
theorem ok_stand_bad (D : Dfn K mg "_law_stand_bad" s_law_stand_bad ["table", "thing"]) (B : BN mg) (o1 : Okd P w K mg base CX0 1 "_law_whole" ["thing", "most"] spLawWhole) : Okd P w K mg base CX0 2 "_law_stand_bad" ["table", "thing"] (spStandBad Ps) := by
  refine D.ok sc_law_stand_bad (fun vs H Q E h => ?_) (fun f cdv A outer s H vs Q E hr h => ?_)
  · obtain ⟨t, a, f, n, L, x, rfl, _⟩ := h; rfl
  · obtain ⟨t, a, fc, n, L, x, rfl, tb, ad, q⟩ := h
    have nd := sc_law_stand_bad.nd
    refine ⟨_, pss_cons (ps_if (PW.pt (pw_or (pt_not (pt_val (pe_isi (pv 1) boot_tuple B.tuple B.isinstance))) (pw_or1 (pt_cmpR op_ne (pe_len K B.len (pv 1)) (pe_len K B.len (pe_ixT K (pe_ixT K (pv 0) pe_int) pe_int)) (nomark _)))))
        (pss_one (ps_ret (pe_lst (pa_cons pe_non pa_nil)))) pss_nil)
      (pss_cons (ps_setLc (i := 2) (own := [("k", 3), ("face", 4)]) (g := gTup K 2 (gCons (gName 3) (gCons (gName 4) gNil))) rfl nd rfl rfl (sw_true rfl rfl rfl (by decide +kernel)) (pi_enumT B.enumerate (pa_cons (pv 1) pa_nil)) (blkOk_by (N := ["table", "thing", "wrong", "k", "face"]) (sc := defScope s_law_stand_bad) (by decide +kernel))
        (fun _ _ _ _ _ => pg_tup rfl (pgs_cons (pg_name (i := 3) nd rfl (.inl rfl)) (pgs_cons (pg_name (i := 4) nd rfl (.inl rfl)) pgs_nil)))
        (fun _ _ _ _ _ => pts_one (pt_not (pt_val (pe_do o1 hr (pa_cons (pv 4) (pa_cons (pe_op op_sub (pe_ixT K (pv 0) pe_int) pe_int) pa_nil)))))) (fun _ _ _ _ _ => pv 3))
      (pss_one (ps_ret (pe_slice sl_list (pv 2) po_none (po_some pe_int))))), ?_⟩
    obtain ⟨ty, av⟩ := ad.av
    obtain ⟨p0, hp0, hpL, hp1, hpn⟩ := tb.head
    have bad0 : ∀ {o : Option (List V)}, standBad fc n o = some .non → tupOf H x = o → ∀ p, H p = none → Q (.ref p) (upd H p (.lst [.non])) := fun e eo p np => q p _ (.new np) np (by rw [upd_same, eo, e]; rfl)
    refine ⟨_, rfl, x, .ty "tuple", _, _, _, rfl, .ty _, av.ty, av.isTup, _, rfl, ?_⟩
    cases e : tupOf H x with
    | none =>
      rw [av_none av e]
      exact iteT (iteT ⟨(by show 1 ≤ sizeLine; decide), bad0 (o := none) rfl e⟩)
    | some xs =>
      obtain ⟨b, rfl, hb⟩ := tupOf_some e
      have et : (ty == "tuple") = true := by rw [← AV.tupOf av, e]; rfl
      rw [et]
      refine iteF ⟨_, rfl, b, xs, rfl, .inr (.of hb), _, rfl, t, _, 1, .ref a, rfl, rfl, .of tb.t, rfl, a, refs L, 0, _, rfl, rfl, .of tb.a, atI_nat (j := 0) (refs_get hp0), p0.1, _, rfl, .inr (.of hp1), rfl, _, rfl, ?_⟩
      have z : (!decide (V.int ((xs.length : Nat) : Int) = V.int (((p0.2.map V.int).length : Nat) : Int))) = !decide (xs.length = n) := by
        congr 1
        rw [List.length_map, hpn]
        exact decide_eq_decide.mpr ⟨fun h => by injection h; omega, fun h => by rw [h]⟩
      rw [z]
      by_cases hn : xs.length = n
      · rw [decide_eq_true hn]
        have hn8 : xs.length ≤ 8 := by rw [hn]; exact tb.T.n8
        refine iteF ⟨_, rfl, b, xs, rfl, .of hb, fun D nD => ?_⟩
        refine lc_it walk_enumT (fun i H' => Kp Ps H H' ∧ H' D = some (.lst (badIdx (okV 0 ((fc : Int) - 1)) 0 (xs.take i)))) ⟨.new nD, upd_same⟩ (fun i H' _ p => p.1.t (.of hb)) ?_ ?_
        · rintro i y H1 H2 hi ⟨kp, hD⟩ ⟨T, u, v, rfl, nT, rfl, hu, hv⟩
          cases hu
          have hv : xs[i]? = some v := hv
          obtain ⟨tv, avv⟩ := (ad.items e v (List.mem_of_getElem? hv)).av
          have k1 : Kp Ps H (upd H1 T (.tup [.int (i : Nat), v])) := kp.trans (.new nT)
          have hD1 : upd H1 T (.tup [.int (i : Nat), v]) D = some (.lst (badIdx (okV 0 ((fc : Int) - 1)) 0 (xs.take i))) := by rw [upd_ne (ne_of_none hD nT)]; exact hD
          refine ⟨T, _, rfl, .of upd_same, rfl, _, _, rfl, _, _, rfl, rfl, rfl, _, rfl, _, rfl, t, _, 0, .int fc, rfl, rfl, .of (k1.tup tb.t), rfl, _, _, rfl, rfl, v, tv, (fc : Int) - 1, rfl, avv.kp k1, _, rfl, ?_⟩
          rw [take_snoc hv, badIdx_snoc]
          cases ev : okV 0 ((fc : Int) - 1) v with
          | true =>
            rw [if_pos rfl, List.append_nil]
            exact iteF ⟨k1, hD1⟩
          | false =>
            rw [if_neg Bool.false_ne_true]
            refine iteT ⟨_, rfl, _, hD1, ?_, k1.mut nD (fun ps z => by rw [hD1] at z; cases z), ?_⟩
            · have := badIdx_len (okV 0 ((fc : Int) - 1)) (xs.take i) 0
              rw [List.length_take] at this
              exact small1000 (by omega)
            · rw [upd_same, List.length_take, Nat.min_eq_left (Nat.le_of_lt hi), Nat.zero_add]
        · rintro H1 ⟨kp, hD⟩
          rw [List.take_length] at hD
          refine ⟨_, rfl, _, rfl, D, _, rfl, .of hD, fun p np => ?_⟩
          rw [cutV_one, badIdx_one, ← standBad_first fc n xs hn]
          exact q p _ (kp.trans (.new np)) (kp.fresh np) (by rw [upd_same, e])
      · rw [decide_eq_false hn]
        refine iteT ⟨(by show 1 ≤ sizeLine; decide), bad0 (o := some xs) ?_ e⟩
        unfold standBad
        dsimp only
        rw [if_neg hn]
end
end U
set_option maxHeartbeats 2000000
namespace U
open PySem PySem.Spec PyProof.Rows L2 GxR Bx Gx Ex Sx RZ Kx Dx
/-- the places that are wrong in an order -/
def badS (n : Int) (pre : List V) : List V → List Int
  | [] => []
  | x :: r => if (okV 0 (n - 1) x && !inV x pre) = true then badS n (pre ++ [x]) r else (pre.length : Int) :: badS n (pre ++ [x]) r
theorem badS_one (n : Int) : ∀ (xs pre : List V), (badS n pre xs).take 1 = if wsFrom n pre xs < pre.length + xs.length then [((wsFrom n pre xs : Nat) : Int)] else []
  | [], pre => by
    show [] = if pre.length < pre.length + 0 then _ else _
    rw [if_neg (by omega)]
  | x :: r, pre => by
    unfold badS wsFrom
    split
    · rw [badS_one n r (pre ++ [x]), List.length_append, List.length_singleton, List.length_cons]
      have e : pre.length + 1 + r.length = pre.length + (r.length + 1) := by omega
      rw [e]
    · rw [if_pos (by rw [List.length_cons]; omega)]
      rfl
theorem badS_len (n : Int) : ∀ (xs pre : List V), (badS n pre xs).length ≤ xs.length
  | [], _ => Nat.le_refl _
  | x :: r, pre => by
    unfold badS
    have := badS_len n r (pre ++ [x])
    split
    · rw [List.length_cons]; omega
    · rw [List.length_cons, List.length_cons]; omega
theorem badS_snoc (n : Int) : ∀ (xs pre : List V) (x : V), badS n pre (xs ++ [x]) = badS n pre xs ++ (if (okV 0 (n - 1) x && !inV x (pre ++ xs)) = true then [] else [((pre.length + xs.length : Nat) : Int)])
  | [], pre, x => by
    show badS n pre [x] = _
    rw [List.append_nil]
    unfold badS badS
    split <;> rfl
  | y :: r, pre, x => by
    have ih := badS_snoc n r (pre ++ [y]) x
    show badS n pre (y :: (r ++ [x])) = _
    unfold badS
    have e : (pre ++ [y]).length + r.length = pre.length + (y :: r).length := by simp only [List.length_append, List.length_cons, List.length_nil]; omega
    have e2 : pre ++ [y] ++ r = pre ++ y :: r := by rw [List.append_assoc]; rfl
    rw [ih, e, e2]
    split
    · rfl
    · rfl
/-! lists beside [] -/
theorem shaped_I (t : List Int) : SeqAt.shaped (.list (dI t)) = true := by
  have := depthAll_I t
  have h : PyData.depth (.list (dI t)) ≤ 64 := by simp only [PyData.depth]; omega
  have h2 : PyData.canLay0 (.list (dI t)) = true := by simp only [PyData.canLay0]; exact layAll_I t
  unfold SeqAt.shaped
  rw [h2, decide_eq_true h]
  rfl
theorem eqv_nil (d : List PyData) : PyData.eqv (.list d) (.list []) = decide (d = []) := by
  cases d with
  | nil => simp [PyData.eqv, PyData.eqvAll]
  | cons x d => simp [PyData.eqv, PyData.eqvAll]
/-- what a number told may be -/
inductive Tol : Option V → Prop
  | none : Tol none
  | non : Tol (some .non)
  | int (i : Int) : Tol (some (.int i))
  | str (z : Str) (h : PyData.strOk z = true) : Tol (some (.str z))
theorem Tol.dp {K : PySem.W.Frag} {H : Hp} {o : Option V} (h : Tol o) : ∃ d, DpAll K H (optL o) d ∧ SeqAt.shaped (.list d) = true ∧ (d = [] ↔ o = Option.none) := by
  have sh : ∀ d : PyData, d.canLay0 = true → d.depth = 0 → SeqAt.shaped (.list [d]) = true := fun d h1 h2 => by
    have h : PyData.depth (.list [d]) ≤ 64 := by simp only [PyData.depth, PyData.depthAll]; omega
    have h3 : PyData.canLay0 (.list [d]) = true := by simp only [PyData.canLay0, PyData.canLayAll0, h1, Bool.and_self]
    unfold SeqAt.shaped
    rw [h3, decide_eq_true h]
    rfl
  cases h with
  | none => exact ⟨[], .nil, shaped_I [], ⟨fun _ => rfl, fun _ => rfl⟩⟩
  | non => exact ⟨[.none], .cons .non .nil, sh _ (by simp [PyData.canLay0]) (by simp [PyData.depth]), ⟨(fun h => by cases h), (fun h => by cases h)⟩⟩
  | int i => exact ⟨[.int i], .cons (.int i) .nil, sh _ (by simp [PyData.canLay0]) (by simp [PyData.depth]), ⟨(fun h => by cases h), (fun h => by cases h)⟩⟩
  | str z h => exact ⟨[.str z], .cons (.str z) .nil, sh _ (by simp only [PyData.canLay0]; exact h) (by simp [PyData.depth]), ⟨(fun h => by cases h), (fun h => by cases h)⟩⟩
theorem tol_stand (f n : Nat) (o : Option (List V)) : Tol (standBad f n o) := by
  unfold standBad
  split
  · split
    · split
      · exact .int _
      · exact .none
    · exact .non
  · exact .non
theorem tol_turn (n : Nat) (L : List (List Int)) (o : Option (List V)) : Tol (turnBad n L o) := by
  unfold turnBad
  split
  · split
    · split
      · exact .int _
      · split
        · exact .none
        · exact .int _
    · exact .non
  · exact .non
section
variable {P : Program} {w : World} {K : PySem.W.Frag} {mg : Str → Option Value} {base : Heap} {Ps : List Addr}
theorem sc_law_turning_bad : FnScope ["table", "thing", "size", "wrong", "k", "seat"] ["table", "thing"] (defScope s_law_turning_bad) := ⟨rfl, rfl, rfl, by decide +kernel, rfl, by decide +kernel, by decide +kernel⟩
def spTurnBad (Ps : List Addr) : Sp := fun vs H Q _ => ∃ t a f n L x, vs = [.ref t, x] ∧ Tab H t a f n L ∧ AD H x ∧ ∀ p H', Kp Ps H H' → H p = none → H' p = some (.lst (optL (turnBad n (vals L) (tupOf H x)))) → Q (.ref p) H'
theorem ok_turning_bad (D : Dfn K mg "_law_turning_bad" s_law_turning_bad ["table", "thing"]) (B : BN mg) (o1 : Okd P w K mg base CX0 1 "_law_whole" ["thing", "most"] spLawWhole) : Okd P w K mg base CX0 2 "_law_turning_bad" ["table", "thing"] (spTurnBad Ps) := by
  refine D.ok sc_law_turning_bad (fun vs H Q E h => ?_) (fun f cdv A outer s H vs Q E hr h => ?_)
  · obtain ⟨t, a, f, n, L, x, rfl, _⟩ := h; rfl
  · obtain ⟨t, a, fc, n, L, x, rfl, tb, ad, q⟩ := h
    have nd := sc_law_turning_bad.nd
    refine ⟨_, pss_cons (ps_set (i := 2) nd rfl (.inr rfl) (pe_len K B.len (pe_ixT K (pe_ixT K (pv 0) pe_int) pe_int)))
      (pss_cons (ps_if (PW.pt (pw_or (pt_not (pt_val (pe_isi (pv 1) boot_tuple B.tuple B.isinstance))) (pw_or1 (pt_cmpR op_ne (pe_len K B.len (pv 1)) (pv 2) (nomark _)))))
        (pss_one (ps_ret (pe_lst (pa_cons pe_non pa_nil)))) pss_nil)
      (pss_cons (ps_setLc (i := 3) (own := [("k", 4), ("seat", 5)]) (g := gTup K 2 (gCons (gName 4) (gCons (gName 5) gNil))) rfl nd rfl rfl (sw_true rfl rfl rfl (by decide +kernel)) (pi_enumT B.enumerate (pa_cons (pv 1) pa_nil)) (blkOk_by (N := ["table", "thing", "size", "wrong", "k", "seat"]) (sc := defScope s_law_turning_bad) (by decide +kernel))
        (fun _ _ _ _ _ => pg_tup rfl (pgs_cons (pg_name (i := 4) nd rfl (.inl rfl)) (pgs_cons (pg_name (i := 5) nd rfl (.inl rfl)) pgs_nil)))
        (fun _ _ _ _ _ => pts_one (PW.pt (pw_or (pt_not (pt_val (pe_do o1 hr (pa_cons (pv 5) (pa_cons (pe_op op_sub (pv 2) pe_int) pa_nil))))) (pw_or1 (pt_inAD K (pv 5) (pe_slice (show SlR _ (rSlA K) from sl_tupA) (pv 1) po_none (po_some (pv 4))) (hu_of hr)))))) (fun _ _ _ _ _ => pv 4))
      (pss_one (ps_ret (pe_ifExp (PW.pt (pw_or (pt_neD K (pv 3) (pe_lst pa_nil) (u64 hr)) (pw_or1 (pt_inTT K (pv 1) (pe_ixT K (pv 0) pe_int) (u65 hr))))) (pe_slice sl_list (pv 3) po_none (po_some pe_int)) (pe_lst (pa_cons (pv 2) pa_nil))))))), ?_⟩
    obtain ⟨ty, av⟩ := ad.av
    obtain ⟨p0, hp0, hpL, hp1, hpn⟩ := tb.head
    have bad0 : ∀ {o : Option (List V)}, turnBad n (vals L) o = some .non → tupOf H x = o → ∀ p, H p = none → Q (.ref p) (upd H p (.lst [.non])) := fun e eo p np => q p _ (.new np) np (by rw [upd_same, eo, e]; rfl)
    have lp : (((p0.2.map V.int).length : Nat) : Int) = (n : Int) := by rw [List.length_map, hpn]
    refine ⟨_, rfl, t, _, 1, .ref a, rfl, rfl, .of tb.t, rfl, a, refs L, 0, _, rfl, rfl, .of tb.a, atI_nat (j := 0) (refs_get hp0), p0.1, _, rfl, .inr (.of hp1), ?_⟩
    rw [lp]
    refine ⟨_, rfl, x, .ty "tuple", _, _, _, rfl, .ty _, av.ty, av.isTup, _, rfl, ?_⟩
    cases e : tupOf H x with
    | none =>
      rw [av_none av e]
      exact iteT (iteT ⟨(by show 1 ≤ sizeLine; decide), bad0 (o := none) rfl e⟩)
    | some xs =>
      obtain ⟨b, rfl, hb⟩ := tupOf_some e
      have et : (ty == "tuple") = true := by rw [← AV.tupOf av, e]; rfl
      rw [et]
      refine iteF ⟨_, rfl, b, xs, rfl, .inr (.of hb), _, rfl, rfl, _, rfl, ?_⟩
      have z : (!decide (V.int ((xs.length : Nat) : Int) = V.int ((n : Nat) : Int))) = !decide (xs.length = n) := by
        congr 1
        exact decide_eq_decide.mpr ⟨fun h => by injection h; omega, fun h => by rw [h]⟩
      rw [z]
      by_cases hn : xs.length = n
      · rw [decide_eq_true hn]
        have hn8 : xs.length ≤ 8 := by rw [hn]; exact tb.T.n8
        refine iteF ⟨_, rfl, b, xs, rfl, .of hb, fun D nD => ?_⟩
        refine lc_it walk_enumT (fun i H' => Kp Ps H H' ∧ H' D = some (.lst ((badS n [] (xs.take i)).map V.int))) ⟨.new nD, upd_same⟩ (fun i H' _ p => p.1.t (.of hb)) ?_ ?_
        · rintro i y H1 H2 hi ⟨kp, hD⟩ ⟨T, u, v, rfl, nT, rfl, hu, hv⟩
          cases hu
          have hv : xs[i]? = some v := hv
          have adv := ad.items e v (List.mem_of_getElem? hv)
          obtain ⟨tv, avv⟩ := adv.av
          have k1 : Kp Ps H (upd H1 T (.tup [.int (i : Nat), v])) := kp.trans (.new nT)
          have hD1 : upd H1 T (.tup [.int (i : Nat), v]) D = some (.lst ((badS n [] (xs.take i)).map V.int)) := by rw [upd_ne (ne_of_none hD nT)]; exact hD
          have put : ∀ {G : Hp}, Kp Ps H G → G D = some (.lst ((badS n [] (xs.take i)).map V.int)) → (okV 0 ((n : Int) - 1) v && !inV v (xs.take i)) = false → ∃ acc, G D = some (.lst acc) ∧ acc.length < sizeLine ∧ Kp Ps H (upd G D (.lst (acc ++ [.int (i : Nat)]))) ∧ upd G D (.lst (acc ++ [.int (i : Nat)])) D = some (.lst ((badS n [] (xs.take (i + 1))).map V.int)) := by
            intro G kG hG hno
            refine ⟨_, hG, ?_, kG.mut nD (fun ps z => by rw [hG] at z; cases z), ?_⟩
            · have := badS_len n (xs.take i) []
              rw [List.length_take] at this
              rw [List.length_map]
              exact small1000 (by omega)
            · rw [upd_same, take_snoc hv, badS_snoc, List.nil_append, hno, if_neg Bool.false_ne_true, List.map_append, List.length_nil, Nat.zero_add, List.length_take, Nat.min_eq_left (Nat.le_of_lt hi)]
              rfl
          refine ⟨T, _, rfl, .of upd_same, rfl, _, _, rfl, _, _, rfl, rfl, rfl, _, rfl, _, rfl, _, _, rfl, rfl, v, tv, (n : Int) - 1, rfl, avv.kp k1, _, rfl, ?_⟩
          cases ev : okV 0 ((n : Int) - 1) v with
          | false => exact iteT (iteT ⟨_, rfl, put k1 hD1 (by rw [ev]; rfl)⟩)
          | true =>
            obtain ⟨j, rfl, _⟩ := okV_int ev
            refine iteF ⟨_, rfl, _, rfl, _, rfl, _, rfl, sl_pre (Ps := Ps) (k1.t (.of hb)) (Nat.le_of_lt hi) fun p G hp kG => ?_⟩
            have kk := k1.trans kG
            refine ⟨j, p, xs.take i, rfl, rfl, hp, fun w hw => (ad.items e w (List.mem_of_mem_take hw)).kp kk, _, rfl, ?_⟩
            cases e2 : inV (.int j) (xs.take i) with
            | true => exact iteT ⟨_, rfl, put kk (kG.lst hD1) (by rw [ev, e2]; rfl)⟩
            | false =>
              refine iteF ⟨kk, ?_⟩
              rw [take_snoc hv, badS_snoc, List.nil_append, ev, e2, if_pos (by rfl), List.append_nil]
              exact kG.lst hD1
        · rintro H1 ⟨kp, hD⟩
          rw [List.take_length] at hD
          have one := badS_one n xs []
          rw [List.length_nil, Nat.zero_add] at one
          have ws : wseat xs = wsFrom n [] xs := by unfold wseat; rw [hn]
          rw [← ws, hn] at one
          refine ⟨_, rfl, (by show 0 ≤ sizeLine; decide), fun e0 ne0 => ?_⟩
          have k1 : Kp Ps H1 (upd H1 e0 (.lst [])) := .new ne0
          have hD1 := k1.lst hD
          have kk := kp.trans k1
          refine ⟨.list (dI (badS n [] xs)), .list [], .lst (.of hD1) (dp_I _), .lst (.of upd_same) .nil, shaped_I _, shaped_I [], _, rfl, ?_⟩
          rw [eqv_nil]
          have cut : ∀ {o : Option V}, (badS n [] xs).take 1 = (optL o).map toI → (∀ v, o = some v → ∃ i, v = .int i) → turnBad n (vals L) (some xs) = o → ∀ p, upd H1 e0 (.lst []) p = none → Q (.ref p) (upd (upd H1 e0 (.lst [])) p (.lst (cutV ((badS n [] xs).map V.int) none (some (1 : Int))))) := by
            intro o h1 h2 h3 p np
            refine q p _ (kk.trans (.new np)) (kk.fresh np) ?_
            rw [upd_same, cutV_one, ← List.map_take, h1, e, h3]
            cases o with
            | none => rfl
            | some v =>
              obtain ⟨i, rfl⟩ := h2 v rfl
              rfl
          by_cases hw : wseat xs < n
          · rw [if_pos hw] at one
            have ne : dI (badS n [] xs) ≠ [] := fun z => by
              have z2 : badS n [] xs = [] := List.map_eq_nil_iff.mp z
              rw [z2] at one
              cases one
            rw [decide_eq_false ne]
            refine iteT (iteT ⟨_, rfl, _, rfl, D, _, rfl, .of hD1, cut (o := some (.int (wseat xs))) one (fun v h => ⟨_, (Option.some.inj h).symm⟩) ?_⟩)
            unfold turnBad
            dsimp only
            rw [if_pos hn, if_pos hw]
          · rw [if_neg hw] at one
            have nil : badS n [] xs = [] := by
              cases h : badS n [] xs with
              | nil => rfl
              | cons y r => rw [h] at one; cases one
            have z3 : dI (badS n [] xs) = [] := by rw [nil]; rfl
            rw [decide_eq_true z3]
            have hle := wseat_le xs
            obtain ⟨u, rfl, ou⟩ := (wseat_iff xs).mp (by omega)
            have tb1 := tb.kp kk
            refine iteF ⟨_, rfl, _, rfl, t, _, 1, .ref a, rfl, rfl, .of tb1.t, rfl, b, a, u, L, rfl, rfl, .of (kk.tup hb), .inr (.of tb1.a), fun p hp => .of (tb1.all p hp), _, rfl, ?_⟩
            show if decide (u ∈ vals L) = true then _ else _
            by_cases hm : u ∈ vals L
            · rw [decide_eq_true hm]
              refine iteT ⟨_, rfl, _, rfl, D, _, rfl, .of hD1, cut (o := none) one (fun v h => by cases h) ?_⟩
              unfold turnBad
              dsimp only
              rw [if_pos hn, if_neg hw, if_pos (mem_ints.mpr hm)]
            · rw [decide_eq_false hm]
              refine iteF ⟨_, rfl, (by show 1 ≤ sizeLine; decide), fun p np => q p _ (kk.trans (.new np)) (kk.fresh np) ?_⟩
              rw [upd_same, e]
              unfold turnBad
              dsimp only
              rw [if_pos hn, if_neg hw, if_neg (fun z => hm (mem_ints.mp z))]
              have : wseat (u.map V.int) = n := by omega
              rw [this]
              rfl
      · rw [decide_eq_false hn]
        refine iteT ⟨(by show 1 ≤ sizeLine; decide), bad0 (o := some xs) ?_ e⟩
        unfold turnBad
        dsimp only
        rw [if_neg hn]
end
end U
set_option maxHeartbeats 2000000
namespace U
open PySem PySem.Spec PyProof.Rows L2 GxR Bx Gx Ex Sx RZ Kx Dx
section
variable {P : Program} {w : World} {K : PySem.W.Frag} {mg : Str → Option Value} {base : Heap} {Ps : List Addr}
theorem sc_law_row_bad : FnScope ["table", "thing", "k", "deed"] ["table", "thing"] (defScope s_law_row_bad) := ⟨rfl, rfl, rfl, by decide +kernel, rfl, by decide +kernel, by decide +kernel⟩
def spRowBad (Ps : List Addr) : Sp := fun vs H Q _ => ∃ t a f n L x, vs = [.ref t, x] ∧ Tab H t a f n L ∧ AD H x ∧ (∀ xs, tupOf H x = some xs → xs.length ≤ 900) ∧ ∀ p H', Kp Ps H H' → H p = none → H' p = some (.lst (optL (rowBad f n H x))) → Q (.ref p) H'
/-- the test `bad(..) != []` -/
theorem ne_nil {K : PySem.W.Frag} {G : Hp} {p : Addr} {o : Option V} {Q : VK} (tol : Tol o) (hp : G p = some (.lst (optL o))) (q : ∀ e, G e = none → Q (.bl (!o.isNone)) (upd G e (.lst []))) : ∀ e, G e = none → rNeD K (.ref p) (.ref e) (upd G e (.lst [])) Q := fun e ne => by
  obtain ⟨d, h1, h2, h3⟩ := tol.dp (K := K) (H := upd G e (.lst []))
  refine ⟨.list d, .list [], .lst (.of (by rw [upd_ne (ne_of_none hp ne)]; exact hp)) h1, .lst (.of upd_same) .nil, h2, shaped_I [], ?_⟩
  rw [eqv_nil]
  have z : decide (d = []) = o.isNone := by
    cases o with
    | none => exact decide_eq_true (h3.mpr rfl)
    | some v => exact decide_eq_false fun z => by cases h3.mp z
  rw [z]
  exact q e ne
theorem ok_row_bad (D : Dfn K mg "_law_row_bad" s_law_row_bad ["table", "thing"]) (B : BN mg) (o1 : Okd P w K mg base CX0 2 "_law_stand_bad" ["table", "thing"] (spStandBad Ps)) : Okd P w K mg base CX0 3 "_law_row_bad" ["table", "thing"] (spRowBad Ps) := by
  refine D.ok sc_law_row_bad (fun vs H Q E h => ?_) (fun f cdv A outer s H vs Q E hr h => ?_)
  · obtain ⟨t, a, f, n, L, x, rfl, _⟩ := h; rfl
  · obtain ⟨t, a, fc, n, L, x, rfl, tb, ad, hlen, q⟩ := h
    have nd := sc_law_row_bad.nd
    refine ⟨_, pss_cons (ps_if (pt_not (pt_val (pe_isi (pv 1) boot_tuple B.tuple B.isinstance))) (pss_one (ps_ret (pe_lst (pa_cons pe_non pa_nil)))) pss_nil)
      (pss_one (ps_ret (pe_slice sl_list (pe_lc (own := [("k", 2), ("deed", 3)]) (g := gTup K 2 (gCons (gName 2) (gCons (gName 3) gNil))) rfl nd (pi_enumT B.enumerate (pa_cons (pv 1) pa_nil)) (blkOk_by (N := ["table", "thing", "k", "deed"]) (sc := defScope s_law_row_bad) (by decide +kernel))
        (fun _ _ _ _ _ => pg_tup rfl (pgs_cons (pg_name (i := 2) nd rfl (.inl rfl)) (pgs_cons (pg_name (i := 3) nd rfl (.inl rfl)) pgs_nil)))
        (fun _ _ _ _ _ => pts_one (pt_neD K (pe_do o1 hr (pa_cons (pv 0) (pa_cons (pv 3) pa_nil))) (pe_lst pa_nil) (u64 hr))) (fun _ _ _ _ _ => pv 2)) po_none (po_some pe_int)))), ?_⟩
    obtain ⟨ty, av⟩ := ad.av
    refine ⟨_, rfl, x, .ty "tuple", _, _, _, rfl, .ty _, av.ty, av.isTup, _, rfl, ?_⟩
    unfold rowBad at q
    cases e : tupOf H x with
    | none =>
      rw [e] at q
      rw [av_none av e]
      exact iteT ⟨(by show 1 ≤ sizeLine; decide), fun p np => q p _ (.new np) np (by rw [upd_same]; rfl)⟩
    | some xs =>
      rw [e] at q
      dsimp only at q
      have hl9 := hlen xs e
      obtain ⟨b, rfl, hb⟩ := tupOf_some e
      have et : (ty == "tuple") = true := by rw [← AV.tupOf av, e]; rfl
      rw [et]
      refine iteF ⟨_, rfl, b, xs, rfl, .of hb, fun D nD => ?_⟩
      refine lc_it walk_enumT (fun i H' => Kp Ps H H' ∧ H' D = some (.lst (badIdx (fun y => (standBad fc n (tupOf H y)).isNone) 0 (xs.take i)))) ⟨.new nD, upd_same⟩ (fun i H' _ p => p.1.t (.of hb)) ?_ ?_
      · rintro i y H1 H2 hi ⟨kp, hD⟩ ⟨T, u, v, rfl, nT, rfl, hu, hv⟩
        cases hu
        have hv : xs[i]? = some v := hv
        have adv := ad.items e v (List.mem_of_getElem? hv)
        have k1 : Kp Ps H (upd H1 T (.tup [.int (i : Nat), v])) := kp.trans (.new nT)
        have hD1 : upd H1 T (.tup [.int (i : Nat), v]) D = some (.lst (badIdx (fun y => (standBad fc n (tupOf H y)).isNone) 0 (xs.take i))) := by rw [upd_ne (ne_of_none hD nT)]; exact hD
        refine ⟨T, _, rfl, .of upd_same, rfl, _, _, rfl, _, _, rfl, rfl, rfl, _, rfl, _, rfl, t, a, fc, n, L, v, rfl, tb.kp k1, adv.kp k1, fun p G kG np hp => ⟨(by show 0 ≤ sizeLine; decide), fun e0 ne0 => ?_⟩⟩
        rw [adv.tupKp k1] at hp
        refine ne_nil (tol_stand fc n _) hp (fun e1 ne1 => ?_) e0 ne0
        have kk : Kp Ps H (upd G e1 (.lst [])) := (k1.trans kG).trans (.new ne1)
        have hD2 : upd G e1 (.lst []) D = some (.lst (badIdx (fun y => (standBad fc n (tupOf H y)).isNone) 0 (xs.take i))) := (kG.trans (Kp.new ne1)).lst hD1
        refine ⟨_, rfl, ?_⟩
        rw [take_snoc hv, badIdx_snoc]
        cases ev : (standBad fc n (tupOf H v)).isNone with
        | true =>
          refine iteF ⟨kk, ?_⟩
          rw [if_pos rfl, List.append_nil]
          exact hD2
        | false =>
          refine iteT ⟨_, rfl, _, hD2, ?_, kk.mut nD (fun ps z => by rw [hD2] at z; cases z), ?_⟩
          · have := badIdx_len (fun y => (standBad fc n (tupOf H y)).isNone) (xs.take i) 0
            rw [List.length_take] at this
            exact small1000 (by omega)
          · rw [upd_same, if_neg Bool.false_ne_true, List.length_take, Nat.min_eq_left (Nat.le_of_lt hi), Nat.zero_add]
      · rintro H1 ⟨kp, hD⟩
        rw [List.take_length] at hD
        refine ⟨_, rfl, D, _, rfl, .of hD, fun p np => ?_⟩
        rw [cutV_one, badIdx_one]
        exact q p _ (kp.trans (.new np)) (kp.fresh np) upd_same
theorem sc_law_run_bad : FnScope ["table", "thing", "row", "k", "turning"] ["table", "thing", "row"] (defScope s_law_run_bad) := ⟨rfl, rfl, rfl, by decide +kernel, rfl, by decide +kernel, by decide +kernel⟩
def spRunBad (Ps : List Addr) : Sp := fun vs H Q _ => ∃ t a f n L x z zs, vs = [.ref t, x, .ref z] ∧ Tab H t a f n L ∧ AD H x ∧ H z = some (.tup zs) ∧ zs.length ≤ 900 ∧ ∀ p H', Kp Ps H H' → H p = none → H' p = some (.lst (optL (runBad f n (vals L) zs.length H x))) → Q (.ref p) H'
theorem ok_run_bad (D : Dfn K mg "_law_run_bad" s_law_run_bad ["table", "thing", "row"]) (B : BN mg) (o1 : Okd P w K mg base CX0 2 "_law_stand_bad" ["table", "thing"] (spStandBad Ps)) (o2 : Okd P w K mg base CX0 2 "_law_turning_bad" ["table", "thing"] (spTurnBad Ps)) :
    Okd P w K mg base CX0 3 "_law_run_bad" ["table", "thing", "row"] (spRunBad Ps) := by
  refine D.ok sc_law_run_bad (fun vs H Q E h => ?_) (fun f cdv A outer s H vs Q E hr h => ?_)
  · obtain ⟨t, a, f, n, L, x, z, zs, rfl, _⟩ := h; rfl
  · obtain ⟨t, a, fc, n, L, x, z, zs, rfl, tb, ad, hz, hzl, q⟩ := h
    have nd := sc_law_run_bad.nd
    refine ⟨_, pss_cons (ps_if (PW.pt (pw_or (pt_not (pt_val (pe_isi (pv 1) boot_tuple B.tuple B.isinstance))) (pw_or1 (pt_cmpR op_ne (pe_len K B.len (pv 1)) pe_int (nomark _))))) (pss_one (ps_ret (pe_lst (pa_cons pe_non pa_nil)))) pss_nil)
      (pss_cons (ps_if (pt_neD K (pe_do o1 hr (pa_cons (pv 0) (pa_cons (pe_ixT K (pv 1) pe_int) pa_nil))) (pe_lst pa_nil) (u64 hr)) (pss_one (ps_ret (pe_lst (pa_cons pe_str pa_nil)))) pss_nil)
      (pss_cons (ps_if (PW.pt (pw_or (pt_not (pt_val (pe_isi (pe_ixT K (pv 1) pe_int) boot_tuple B.tuple B.isinstance))) (pw_or1 (pt_cmpR op_ne (pe_len K B.len (pe_ixT K (pv 1) pe_int)) (pe_len K B.len (pv 2)) (nomark _))))) (pss_one (ps_ret (pe_lst (pa_cons pe_str pa_nil)))) pss_nil)
      (pss_one (ps_ret (pe_slice sl_list (pe_lc (own := [("k", 3), ("turning", 4)]) (g := gTup K 2 (gCons (gName 3) (gCons (gName 4) gNil))) rfl nd (pi_enumT B.enumerate (pa_cons (pe_ixT K (pv 1) pe_int) pa_nil)) (blkOk_by (N := ["table", "thing", "row", "k", "turning"]) (sc := defScope s_law_run_bad) (by decide +kernel))
        (fun _ _ _ _ _ => pg_tup rfl (pgs_cons (pg_name (i := 3) nd rfl (.inl rfl)) (pgs_cons (pg_name (i := 4) nd rfl (.inl rfl)) pgs_nil)))
        (fun _ _ _ _ _ => pts_one (pt_neD K (pe_do o2 hr (pa_cons (pv 0) (pa_cons (pv 4) pa_nil))) (pe_lst pa_nil) (u64 hr))) (fun _ _ _ _ _ => pv 3)) po_none (po_some pe_int)))))), ?_⟩
    obtain ⟨ty, av⟩ := ad.av
    refine ⟨_, rfl, x, .ty "tuple", _, _, _, rfl, .ty _, av.ty, av.isTup, _, rfl, ?_⟩
    have done : ∀ {G : Hp} {v : V}, Kp Ps H G → runBad fc n (vals L) zs.length H x = some v → ∀ p, G p = none → Q (.ref p) (upd G p (.lst [v])) := fun k e p np => q p _ (k.trans (.new np)) (k.fresh np) (by rw [upd_same, e]; rfl)
    cases e : tupOf H x with
    | none =>
      rw [av_none av e]
      exact iteT (iteT ⟨(by show 1 ≤ sizeLine; decide), done (.refl H) (by unfold runBad; rw [e])⟩)
    | some xs =>
      obtain ⟨b, rfl, hb⟩ := tupOf_some e
      have et : (ty == "tuple") = true := by rw [← AV.tupOf av, e]; rfl
      rw [et]
      refine iteF ⟨_, rfl, b, xs, rfl, .inr (.of hb), rfl, _, rfl, ?_⟩
      cases e2 : tupLen 2 2 (tupOf H (.ref b)) with
      | false =>
        have hn : ¬ xs.length = 2 := fun z => by
          rw [e] at e2
          rw [show tupLen 2 2 (some xs) = true from (tupLen_iff (lo := 2) (hi := 2)).mpr ⟨by omega, by omega⟩] at e2
          cases e2
        rw [decide_eq_false (fun z => by injection z; omega)]
        exact iteT ⟨(by show 1 ≤ sizeLine; decide), done (.refl H) (runBad_not e2)⟩
      | true =>
        obtain ⟨sv, tv, e3⟩ := two_of e2
        rw [e] at e3
        injection e3 with e3
        subst e3
        have ads := ad.items e sv List.mem_cons_self
        have adt := ad.items e tv (List.mem_cons_of_mem _ List.mem_cons_self)
        have rb : runBad fc n (vals L) zs.length H (.ref b) = if (standBad fc n (tupOf H sv)).isSome = true then some (.str "stand") else match tupOf H tv with
            | some ts => if ts.length = zs.length then firstBad (fun y => (turnBad n (vals L) (tupOf H y)).isNone) 0 ts else some (.str "turns")
            | none => some (.str "turns") := by
          unfold runBad
          rw [e] <;> rfl
        rw [decide_eq_true (show V.int (([sv, tv].length : Nat) : Int) = V.int 2 from rfl)]
        refine iteF ⟨_, rfl, _, rfl, b, _, 0, sv, rfl, rfl, .of hb, rfl, t, a, fc, n, L, sv, rfl, tb, ads, fun p G kG np hp => ⟨(by show 0 ≤ sizeLine; decide), ne_nil (tol_stand fc n _) hp fun e1 ne1 => ⟨_, rfl, ?_⟩⟩⟩
        have kk : Kp Ps H (upd G e1 (.lst [])) := kG.trans (.new ne1)
        cases e4 : standBad fc n (tupOf H sv) with
        | some v => exact iteT ⟨(by show 1 ≤ sizeLine; decide), done kk (by rw [rb, e4]; rfl)⟩
        | none =>
          have rb2 : runBad fc n (vals L) zs.length H (.ref b) = match tupOf H tv with
            | some ts => if ts.length = zs.length then firstBad (fun y => (turnBad n (vals L) (tupOf H y)).isNone) 0 ts else some (.str "turns")
            | none => some (.str "turns") := by
            rw [rb, e4]
            rfl
          have hb1 := kk.tup hb
          have adt1 := adt.kp kk
          obtain ⟨ty2, av2⟩ := adt1.av
          have et2 := adt.tupKp kk
          refine iteF ⟨_, rfl, b, _, 1, tv, rfl, rfl, .of hb1, rfl, tv, .ty "tuple", _, _, _, rfl, .ty _, av2.ty, av2.isTup, _, rfl, ?_⟩
          cases e5 : tupOf H tv with
          | none =>
            rw [av_none av2 (by rw [et2, e5])]
            exact iteT (iteT ⟨(by show 1 ≤ sizeLine; decide), done kk (by rw [rb2, e5])⟩)
          | some ts =>
            rw [e5] at rb2
            dsimp only at rb2
            obtain ⟨c, rfl, hc⟩ := tupOf_some e5
            have hc1 := kk.tup hc
            have et3 : (ty2 == "tuple") = true := by rw [← AV.tupOf av2, tupOf_of hc1]; rfl
            rw [et3]
            refine iteF ⟨_, rfl, b, _, 1, _, rfl, rfl, .of hb1, rfl, c, ts, rfl, .inr (.of hc1), _, rfl, z, zs, rfl, .inr (.of (kk.tup hz)), rfl, _, rfl, ?_⟩
            have z2 : (!decide (V.int ((ts.length : Nat) : Int) = V.int ((zs.length : Nat) : Int))) = !decide (ts.length = zs.length) := by
              congr 1
              exact decide_eq_decide.mpr ⟨fun h => by injection h; omega, fun h => by rw [h]⟩
            rw [z2]
            by_cases hn : ts.length = zs.length
            · rw [decide_eq_true hn]
              rw [if_pos hn] at rb2
              refine iteF ⟨_, rfl, b, _, 1, _, rfl, rfl, .of hb1, rfl, c, ts, rfl, .of hc1, fun D nD => ?_⟩
              have nD0 := kk.fresh nD
              refine lc_it walk_enumT (fun i H' => Kp Ps H H' ∧ H' D = some (.lst (badIdx (fun y => (turnBad n (vals L) (tupOf H y)).isNone) 0 (ts.take i)))) ⟨kk.trans (.new nD), upd_same⟩ (fun i H' _ p => p.1.t (.of hc)) ?_ ?_
              · rintro i y H1 H2 hi ⟨kp, hD⟩ ⟨T, u, v, rfl, nT, rfl, hu, hv⟩
                cases hu
                have hv : ts[i]? = some v := hv
                have adv := adt.items e5 v (List.mem_of_getElem? hv)
                have k1 : Kp Ps H (upd H1 T (.tup [.int (i : Nat), v])) := kp.trans (.new nT)
                have hD1 : upd H1 T (.tup [.int (i : Nat), v]) D = some (.lst (badIdx (fun y => (turnBad n (vals L) (tupOf H y)).isNone) 0 (ts.take i))) := by rw [upd_ne (ne_of_none hD nT)]; exact hD
                refine ⟨T, _, rfl, .of upd_same, rfl, _, _, rfl, _, _, rfl, rfl, rfl, _, rfl, _, rfl, t, a, fc, n, L, v, rfl, tb.kp k1, adv.kp k1, fun p G kG np hp => ⟨(by show 0 ≤ sizeLine; decide), fun e0 ne0 => ?_⟩⟩
                rw [adv.tupKp k1] at hp
                refine ne_nil (tol_turn n _ _) hp (fun e1 ne1 => ?_) e0 ne0
                have kk : Kp Ps H (upd G e1 (.lst [])) := (k1.trans kG).trans (.new ne1)
                have hD2 : upd G e1 (.lst []) D = some (.lst (badIdx (fun y => (turnBad n (vals L) (tupOf H y)).isNone) 0 (ts.take i))) := (kG.trans (Kp.new ne1)).lst hD1
                refine ⟨_, rfl, ?_⟩
                rw [take_snoc hv, badIdx_snoc]
                cases ev : (turnBad n (vals L) (tupOf H v)).isNone with
                | true =>
                  refine iteF ⟨kk, ?_⟩
                  rw [if_pos rfl, List.append_nil]
                  exact hD2
                | false =>
                  refine iteT ⟨_, rfl, _, hD2, ?_, kk.mut nD0 (fun ps z => by rw [hD2] at z; cases z), ?_⟩
                  · have := badIdx_len (fun y => (turnBad n (vals L) (tupOf H y)).isNone) (ts.take i) 0
                    rw [List.length_take] at this
                    exact small1000 (by omega)
                  · rw [upd_same, if_neg Bool.false_ne_true, List.length_take, Nat.min_eq_left (Nat.le_of_lt hi), Nat.zero_add]
              · rintro H1 ⟨kp, hD⟩
                rw [List.take_length] at hD
                refine ⟨_, rfl, D, _, rfl, .of hD, fun p np => ?_⟩
                rw [cutV_one, badIdx_one]
                exact q p _ (kp.trans (.new np)) (kp.fresh np) (by rw [upd_same, rb2])
            · rw [decide_eq_false hn]
              rw [if_neg hn] at rb2
              exact iteT ⟨(by show 1 ≤ sizeLine; decide), done kk rb2⟩
end
end U
set_option maxHeartbeats 2000000
namespace U
open PySem PySem.Spec PyProof.Rows L2 GxR Bx Gx Ex Sx RZ Kx Dx
/-- whatever may be handed in, without the state at s -/
inductive ADn (s : Addr) (H : Hp) : V → Prop
  | non : ADn s H .non
  | bl (b : Bool) : ADn s H (.bl b)
  | int (i : Int) : ADn s H (.int i)
  | str (z : Str) : ADn s H (.str z)
  | tup {a : Addr} {xs : List V} (n : a ≠ s) (e : H a = some (.tup xs)) (h : ∀ y ∈ xs, ADn s H y) : ADn s H (.ref a)
  | lst {a : Addr} {xs : List V} (n : a ≠ s) (e : H a = some (.lst xs)) : ADn s H (.ref a)
  | dk {a : Addr} {kvs : List (Key × V)} (n : a ≠ s) (e : H a = some (.dK kvs)) : ADn s H (.ref a)
theorem ADn.ad {s : Addr} {H : Hp} {v : V} (h : ADn s H v) : AD H v := by
  induction h with
  | non => exact .non
  | bl b => exact .bl b
  | int i => exact .int i
  | str z => exact .str z
  | tup _ e _ ih => exact .tup e ih
  | lst _ e => exact .lst e
  | dk _ e => exact .dk e
theorem ADn.ke {Ps : List Addr} {s : Addr} {H H1 : Hp} {v : V} (k : Ke Ps s H H1) (h : ADn s H v) : ADn s H1 v := by
  induction h with
  | non => exact .non
  | bl b => exact .bl b
  | int i => exact .int i
  | str z => exact .str z
  | tup n e _ ih => exact .tup n (k.tup n e) ih
  | lst n e => exact .lst n (k.lst n e)
  | dk n e => exact .dk n (k.old _ _ n e fun ps z => by cases z)
theorem ADn.items {s : Addr} {H : Hp} {x : V} {xs : List V} (h : ADn s H x) (e0 : tupOf H x = some xs) : ∀ y ∈ xs, ADn s H y := by
  obtain ⟨a, rfl, e⟩ := tupOf_some e0
  cases h with
  | tup _ e2 h2 => rw [e] at e2; cases e2; exact h2
  | lst _ e2 => rw [e] at e2; cases e2
  | dk _ e2 => rw [e] at e2; cases e2
theorem ADn.tupKe {Ps : List Addr} {s : Addr} {H H1 : Hp} {x : V} (k : Ke Ps s H H1) (h : ADn s H x) : tupOf H1 x = tupOf H x := by
  cases h with
  | tup n e _ => rw [tupOf_of e, tupOf_of (k.tup n e)]
  | lst n e => rw [tupOf_lst e, tupOf_lst (k.lst n e)]
  | dk n e => rw [tupOf_dk e, tupOf_dk (k.old _ _ n e fun ps z => by cases z)]
  | _ => rfl
theorem adn_int {s : Addr} {H : Hp} {xs : List Int} : ∀ y ∈ xs.map V.int, ADn s H y := fun y h => by
  obtain ⟨i, _, rfl⟩ := List.mem_map.mp h
  exact .int i
/-- how many items, where it is a tuple -/
def Few (m : Nat) (H : Hp) (v : V) : Prop := ∀ xs, tupOf H v = some xs → xs.length ≤ m
section
variable {P : Program} {w : World} {K : PySem.W.Frag} {mg : Str → Option Value} {base : Heap} {Ps : List Addr}
theorem sc_law_odd : FnScope ["state", "some"] ["state"] (defScope s_law_odd) := ⟨rfl, rfl, rfl, by decide +kernel, rfl, by decide +kernel, by decide +kernel⟩
/-- an odd thing: of few kinds -/
def spOdd (Ps : List Addr) : Sp := fun vs H Q _ => ∃ (s : Addr) (b : Int), vs = [.ref s] ∧ St H s b ∧ b < 900000000000 ∧ ∀ v H', Ke Ps s H H' → St H' s (b + 4) → ADn s H' v → Few 3 H' v → Q v H'
theorem ok_odd (D : Dfn K mg "_law_odd" s_law_odd ["state"]) (o1 : Okd P w K mg base CX0 2 "_law_digit" ["state", "size"] (spDigit Ps)) : Okd P w K mg base CX0 3 "_law_odd" ["state"] (spOdd Ps) := by
  refine D.ok sc_law_odd (fun vs H Q E h => ?_) (fun f cdv A outer s H vs Q E hr h => ?_)
  · obtain ⟨s, b, rfl, _⟩ := h; rfl
  · obtain ⟨sa, b, rfl, st, hb, q⟩ := h
    have nd := sc_law_odd.nd
    refine ⟨_, pss_cons (ps_set (i := 1) nd rfl (.inl rfl) (pe_lst (pa_cons pe_non (pa_cons pe_bl (pa_cons (pe_un un_neg pe_int) (pa_cons pe_int (pa_cons pe_int (pa_cons pe_int (pa_cons pe_int (pa_cons pe_str (pa_cons (pe_tup pa_nil) (pa_cons (pe_lst pa_nil) (pa_cons pe_dnewK
        (pa_cons (pe_tup (pa_cons pe_int pa_nil)) (pa_cons (pe_tup (pa_cons pe_int (pa_cons pe_int pa_nil))) (pa_cons (pe_tup (pa_cons pe_int (pa_cons pe_int pa_nil))) (pa_cons (pe_tup (pa_cons pe_int (pa_cons pe_int (pa_cons pe_int pa_nil)))) (pa_cons (pe_op op_pow pe_int pe_int) pa_nil))))))))))))))))))
      (pss_one (ps_ret (pe_ixL K (pv 1) (pe_do o1 hr (pa_cons (pv 0) (pa_cons pe_int pa_nil)))))), ?_⟩
    have stS := st.some
    refine ⟨_, rfl, (by show 0 ≤ sizeLine; decide), fun p1 n1 => ⟨(by show 0 ≤ sizeLine; decide), fun p2 n2 => fun p3 n3 => ⟨(by show 1 ≤ sizeLine; decide), fun p4 n4 => ⟨(by show 2 ≤ sizeLine; decide), fun p5 n5 => ⟨(by show 2 ≤ sizeLine; decide), fun p6 n6 => ⟨(by show 3 ≤ sizeLine; decide), fun p7 n7 =>
      ⟨_, _, rfl, rfl, ⟨by decide, by decide, by decide⟩, (by show 16 ≤ sizeLine; decide), fun l nl => ?_⟩⟩⟩⟩⟩⟩⟩
    have k1 := Kp.new (Ps := Ps) (o := .tup []) n1
    have k2 := Kp.new (Ps := Ps) (o := .lst []) n2
    have k3 := Kp.new (Ps := Ps) (o := .dK []) n3
    have k4 := Kp.new (Ps := Ps) (o := .tup [.int 0]) n4
    have k5 := Kp.new (Ps := Ps) (o := .tup [.int 1, .int 0]) n5
    have k6 := Kp.new (Ps := Ps) (o := .tup [.int 0, .int 0]) n6
    have k7 := Kp.new (Ps := Ps) (o := .tup [.int 0, .int 1, .int 2]) n7
    have k8 := Kp.new (Ps := Ps) (o := .lst [.non, .bl true, .int (-1), .int 0, .int 1, .int 2, .int 9, .str "0", .ref p1, .ref p2, .ref p3, .ref p4, .ref p5, .ref p6, .ref p7, .int ((10 : Int) ^ (30 : Int).toNat)]) nl
    have s2 := (st.kp k1).kp k2
    have s8 := (((((s2.kp k3).kp k4).kp k5).kp k6).kp k7).kp k8
    have k78 := k7.trans k8
    have k68 := k6.trans k78
    have k58 := k5.trans k68
    have k48 := k4.trans k58
    have k38 := k3.trans k48
    have k28 := k2.trans k38
    have h1 := k28.tup (a := p1) (xs := []) upd_same
    have h2 := k38.lst (a := p2) (xs := []) upd_same
    have h3 := k48.dk (a := p3) (kvs := []) upd_same
    have h4 := k58.tup (a := p4) (xs := [.int 0]) upd_same
    have h5 := k68.tup (a := p5) (xs := [.int 1, .int 0]) upd_same
    have h6 := k78.tup (a := p6) (xs := [.int 0, .int 0]) upd_same
    have h7 := k8.tup (a := p7) (xs := [.int 0, .int 1, .int 2]) upd_same
    have e3 : p3 ≠ sa := by
      obtain ⟨o, eo⟩ := Option.isSome_iff_exists.mp s2.some
      exact (ne_of_none eo n3).symm
    refine ⟨_, rfl, _, rfl, sa, 16, b, rfl, by decide, by decide, s8, by omega, fun d H2 ke st2 d0 d1 => ?_⟩
    have keA : Ke Ps sa H H2 := (Ke.of (k1.trans k28)).trans ke
    have tp : ∀ {p : Addr} {ns : List Int} {G : Hp}, G p = some (.tup (ns.map V.int)) → p ≠ sa → ns.length ≤ 3 → Ke Ps sa G H2 → ADn sa H2 (.ref p) ∧ Few 3 H2 (.ref p) := fun e n hl k => ⟨.tup n (k.tup n e) adn_int, fun xs z => by rw [tupOf_of (k.tup n e)] at z; cases z; rw [List.length_map]; exact hl⟩
    have flat : ∀ {v : V}, ADn sa H2 v → tupOf H2 v = none → ADn sa H2 v ∧ Few 3 H2 v := fun h e => ⟨h, fun xs z => by rw [e] at z; cases z⟩
    obtain ⟨v, hat, hv⟩ : ∃ v, atI [.non, .bl true, .int (-1), .int 0, .int 1, .int 2, .int 9, .str "0", .ref p1, .ref p2, .ref p3, .ref p4, .ref p5, .ref p6, .ref p7, .int ((10 : Int) ^ (30 : Int).toNat)] d = some v ∧ (ADn sa H2 v ∧ Few 3 H2 v) := by
      have : d = 0 ∨ d = 1 ∨ d = 2 ∨ d = 3 ∨ d = 4 ∨ d = 5 ∨ d = 6 ∨ d = 7 ∨ d = 8 ∨ d = 9 ∨ d = 10 ∨ d = 11 ∨ d = 12 ∨ d = 13 ∨ d = 14 ∨ d = 15 := by omega
      rcases this with e | e | e | e | e | e | e | e | e | e | e | e | e | e | e | e <;> subst e
      · exact ⟨_, rfl, flat .non rfl⟩
      · exact ⟨_, rfl, flat (.bl _) rfl⟩
      · exact ⟨_, rfl, flat (.int _) rfl⟩
      · exact ⟨_, rfl, flat (.int _) rfl⟩
      · exact ⟨_, rfl, flat (.int _) rfl⟩
      · exact ⟨_, rfl, flat (.int _) rfl⟩
      · exact ⟨_, rfl, flat (.int _) rfl⟩
      · exact ⟨_, rfl, flat (.str _) rfl⟩
      · exact ⟨_, rfl, tp (ns := []) h1 (s8.neT h1) (by decide) ke⟩
      · exact ⟨_, rfl, flat (.lst (s8.ne h2) (ke.lst (s8.ne h2) h2)) (tupOf_lst (ke.lst (s8.ne h2) h2))⟩
      · have h := ke.old _ _ e3 h3 (fun ps z => by cases z)
        exact ⟨_, rfl, flat (.dk e3 h) (tupOf_dk h)⟩
      · exact ⟨_, rfl, tp (ns := [0]) h4 (s8.neT h4) (by decide) ke⟩
      · exact ⟨_, rfl, tp (ns := [1, 0]) h5 (s8.neT h5) (by decide) ke⟩
      · exact ⟨_, rfl, tp (ns := [0, 0]) h6 (s8.neT h6) (by decide) ke⟩
      · exact ⟨_, rfl, tp (ns := [0, 1, 2]) h7 (s8.neT h7) (by decide) ke⟩
      · exact ⟨_, rfl, flat (.int _) rfl⟩
    exact ⟨l, _, d, v, rfl, rfl, .of (ke.lst (s8.ne upd_same) upd_same), hat, q v H2 keA st2 hv.1 hv.2⟩
end
end U
set_option maxHeartbeats 2000000
namespace U
open PySem PySem.Spec PyProof.Rows L2 GxR Bx Gx Ex Sx RZ Kx Dx
theorem sl_any {K : PySem.W.Frag} {Ps : List Addr} {H : Hp} {a : Addr} {xs : List V} {lo hi : Option Int} {Q : VK} (ha : H a = some (.tup xs)) (q : ∀ p H', Kp Ps H H' → H' p = some (.tup (cutV xs lo hi)) → Q (.ref p) H') : rSlA K (.ref a) lo hi H Q := by
  refine ⟨a, xs, rfl, .of ha, fun ⟨h1, h2⟩ => q a H (.refl H) ?_, fun _ p np => q p _ (.new np) upd_same⟩
  unfold cutV
  rw [h1, h2, Nat.sub_zero, List.drop_zero, List.take_length]
  exact ha
theorem cat_any {K : PySem.W.Frag} {Ps : List Addr} {H : Hp} {a b : Addr} {xs ys : List V} {Q : VK} (ha : H a = some (.tup xs)) (hb : H b = some (.tup ys)) (hl : xs.length + ys.length ≤ 1000) (q : ∀ p H', Kp Ps H H' → H' p = some (.tup (xs ++ ys)) → Q (.ref p) H') : rCatA K (.ref a) (.ref b) H Q := by
  refine ⟨a, b, xs, ys, rfl, rfl, .of ha, .of hb, Nat.le_of_lt (small1000 hl), fun e => ?_, fun _ e => ?_, fun _ _ p np => q p _ (.new np) upd_same⟩
  · refine q b H (.refl H) ?_
    rw [e]
    exact hb
  · refine q a H (.refl H) ?_
    rw [e, List.append_nil]
    exact ha
theorem cutV_mem {xs : List V} {lo hi : Option Int} {v : V} (h : v ∈ cutV xs lo hi) : v ∈ xs := by
  unfold cutV at h
  exact List.mem_of_mem_drop (List.mem_of_mem_take h)
theorem cutV_len (xs : List V) (lo hi : Option Int) : (cutV xs lo hi).length ≤ xs.length := by
  unfold cutV
  rw [List.length_take, List.length_drop]
  exact Nat.le_trans (Nat.min_le_right _ _) (Nat.sub_le _ _)
section
variable {P : Program} {w : World} {K : PySem.W.Frag} {mg : Str → Option Value} {base : Heap} {Ps : List Addr}
theorem sc_law_bent : FnScope ["state", "things", "at", "odd", "way", "far", "thing"] ["state", "things"] (defScope s_law_bent) := ⟨rfl, rfl, rfl, by decide +kernel, rfl, by decide +kernel, by decide +kernel⟩
def spBent (Ps : List Addr) : Sp := fun vs H Q _ => ∃ (s a : Addr) (xs : List V) (b : Int), vs = [.ref s, .ref a] ∧ H a = some (.tup xs) ∧ (∀ y ∈ xs, ADn s H y) ∧ xs.length ≤ 10 ∧ St H s b ∧ b < 800000000000 ∧ ∀ v H', Ke Ps s H H' → St H' s (b + 60) → ADn s H' v → Few 21 H' v → Q v H'
theorem ok_bent (D : Dfn K mg "_law_bent" s_law_bent ["state", "things"]) (B : BN mg) (o1 : Okd P w K mg base CX0 2 "_law_digit" ["state", "size"] (spDigit Ps)) (o2 : Okd P w K mg base CX0 3 "_law_odd" ["state"] (spOdd Ps)) : Okd P w K mg base CX0 4 "_law_bent" ["state", "things"] (spBent Ps) := by
  refine D.ok sc_law_bent (fun vs H Q E h => ?_) (fun f cdv A outer s H vs Q E hr h => ?_)
  · obtain ⟨s, a, xs, b, rfl, _⟩ := h; rfl
  · obtain ⟨sa, a, xs, b, rfl, ha, hx, hl, st, hb, q⟩ := h
    have nd := sc_law_bent.nd
    have hr2 := hr.mono (show 2 ≤ 3 by decide)
    refine ⟨_, pss_cons (ps_asg (pe_tup (pa_cons (pe_do o1 hr2 (pa_cons (pv 0) (pa_cons (pe_op op_add (pe_len K B.len (pv 1)) pe_int) pa_nil))) (pa_cons (pe_do o2 hr (pa_cons (pv 0) pa_nil)) (pa_cons (pe_do o1 hr2 (pa_cons (pv 0) (pa_cons pe_int pa_nil))) pa_nil))))
        (pg_tup rfl (pgs_cons (pg_name (i := 2) nd rfl (.inl rfl)) (pgs_cons (pg_name (i := 3) nd rfl (.inr rfl)) (pgs_cons (pg_name (i := 4) nd rfl (.inl rfl)) pgs_nil)))))
      (pss_cons (ps_set (i := 5) nd rfl (.inl rfl) (pe_slice sl_tupA (pv 1) (po_some (pe_op op_add (pv 2) pe_int)) po_none))
      (pss_cons (ps_if (pt_cmpR op_gt (pv 4) pe_int (nomark _)) (pss_one (ps_ret (pe_tupleOf rfl B.tuple (pe_lc (own := [("thing", 6)]) (g := gName 6) (tt := tYes) rfl nd (pi_tup (pv 1)) (blkOk_by (N := ["state", "things", "at", "odd", "way", "far", "thing"]) (sc := defScope s_law_bent) (by decide +kernel))
          (fun _ _ _ _ _ => pg_name (i := 6) nd rfl (.inl rfl)) (fun _ _ _ _ _ => pts_nil) (fun _ _ _ _ _ => pe_ixL K (pe_lst (pa_cons (pv 6) (pa_cons (pv 3) (pa_cons (pv 6) pa_nil)))) (pe_do o1 hr2 (pa_cons (pv 0) (pa_cons pe_int pa_nil)))))))) pss_nil)
      (pss_cons (ps_if (pt_cmpR op_lt (pv 4) pe_int (nomark _)) (pss_one (ps_ret (pe_op op_catA (pe_op op_catA (pe_slice sl_tupA (pv 1) po_none (po_some (pv 2))) (pe_tup (pa_cons (pv 3) pa_nil))) (pv 5)))) pss_nil)
      (pss_one (ps_ret (pe_ixL K (pe_lst (pa_cons (pe_op op_catA (pe_slice sl_tupA (pv 1) po_none (po_some (pv 2))) (pv 5)) (pa_cons (pe_op op_catA (pe_op op_catA (pe_slice sl_tupA (pv 1) po_none (po_some (pv 2))) (pe_tup (pa_cons (pv 3) pa_nil))) (pe_slice sl_tupA (pv 1) (po_some (pv 2)) po_none))
        (pa_cons (pe_listS K B.list (pv 1)) (pa_cons (pv 1) pa_nil))))) (pe_op op_sub (pv 4) pe_int))))))), ?_⟩
    have stS := st.some
    have as : a ≠ sa := st.neT ha
    refine ⟨_, rfl, _, rfl, a, xs, rfl, .inr (.of ha), _, _, rfl, rfl, sa, (xs.length : Int) + 1, b, rfl, by omega, by omega, st, by omega, fun at_ H1 ke1 st1 a0 a1 => ?_⟩
    refine ⟨_, rfl, sa, b + 4, rfl, st1, by omega, fun odd H2 ke2 st2 adO fewO => ?_⟩
    refine ⟨_, rfl, sa, 9, b + 4 + 4, rfl, by decide, by decide, st2, by omega, fun way H3 ke3 st3 w0 w1 => ?_⟩
    refine ⟨(by show 3 ≤ sizeLine; decide), fun T nT => ⟨T, _, rfl, .of upd_same, rfl, _, _, rfl, _, _, rfl, _, _, rfl, rfl, ?_⟩⟩
    have kT : Kp Ps H3 (upd H3 T (.tup [.int at_, odd, .int way])) := .new nT
    have ke0 : Ke Ps sa H (upd H3 T (.tup [.int at_, odd, .int way])) := ((ke1.trans ke2).trans ke3).then kT
    have st0 := st3.kp kT
    have kO : Ke Ps sa H2 (upd H3 T (.tup [.int at_, odd, .int way])) := ke3.then kT
    refine ⟨_, rfl, _, rfl, _, _, rfl, rfl, _, rfl, ?_⟩
    dsimp only [tNoPart]
    refine sl_any (Ps := Ps) (ke0.tup as ha) fun fa G1 kf hfa => ?_
    have keG := ke0.then kf
    have stG := st0.kp kf
    have kOG := kO.then kf
    have haG := keG.tup as ha
    -- what a tuple of these is
    have fin : ∀ {p : Addr} {ys : List V} {G : Hp}, Ke Ps sa H G → Ke Ps sa H2 G → St G sa (b + 60) → G p = some (.tup ys) → (∀ y ∈ ys, y ∈ xs ∨ y = odd) → ys.length ≤ 21 → Q (.ref p) G := fun k k2 st hp hy hl => by
      refine q _ _ k st (.tup (st.neT hp) hp fun y h => ?_) fun zs z => ?_
      · rcases hy y h with e | e
        · exact (hx y e).ke k
        · rw [e]; exact adO.ke k2
      · rw [tupOf_of hp] at z
        cases z
        exact hl
    have cm : ∀ {lo hi : Option Int} {y : V}, y ∈ cutV xs lo hi → y ∈ xs ∨ y = odd := fun h => .inl (cutV_mem h)
    have cl := cutV_len xs
    have hfar := cl (some (at_ + 1)) none
    refine ⟨_, rfl, _, _, rfl, rfl, _, rfl, ?_⟩
    by_cases h6 : (6 : Int) < way
    · rw [decide_eq_true h6]
      refine iteT ⟨_, rfl, a, rfl, ⟨_, .of haG⟩, fun D nD => ?_⟩
      have nD0 : H D = none := keG.fresh stS nD
      have nD2 : H2 D = none := kOG.fresh st2.some nD
      refine lc_tup (xs := xs) (fun i H' => Ke Ps sa H H' ∧ Ke Ps sa H2 H' ∧ St H' sa (b + 12 + 4 * i) ∧ ∃ ws : List V, H' D = some (.lst ws) ∧ (∀ y ∈ ws, y ∈ xs ∨ y = odd) ∧ ws.length = i) ⟨keG.then (.new nD), kOG.then (.new nD), ((stG.kp (Ps := Ps) (.new nD))).le (by omega), [], upd_same, (fun y h => by cases h), rfl⟩ (fun i H' _ p => .of (p.1.tup as ha)) ?_ ?_
      · rintro i x H' hi ⟨k1, k2, stt, ws, hD, hw, hl2⟩
        have hil := len_of hi
        refine ⟨rfl, _, rfl, _, rfl, _, rfl, (by show 3 ≤ sizeLine; decide), fun l nl => ?_⟩
        have kl : Kp Ps H' (upd H' l (.lst [x, odd, x])) := .new nl
        have stl := stt.kp kl
        refine ⟨_, rfl, sa, 3, b + 12 + 4 * i, rfl, by decide, by decide, stl, by omega, fun d H5 k5 st5 d0 d1 => ?_⟩
        obtain ⟨v, hat, hv⟩ : ∃ v, atI [x, odd, x] d = some v ∧ (v ∈ xs ∨ v = odd) := by
          have hxm := List.mem_of_getElem? hi
          have : d = 0 ∨ d = 1 ∨ d = 2 := by omega
          rcases this with e | e | e <;> subst e
          · exact ⟨x, rfl, .inl hxm⟩
          · exact ⟨odd, rfl, .inr rfl⟩
          · exact ⟨x, rfl, .inl hxm⟩
        have Ds : D ≠ sa := stl.ne (kl.lst hD)
        have hD5 := k5.lst Ds (kl.lst hD)
        refine ⟨l, _, d, v, rfl, rfl, .of (k5.lst (stl.ne upd_same) upd_same), hat, _, hD5, by rw [hl2]; exact small1000 (by omega), ?_⟩
        have tb : ∀ ps, H5 D ≠ some (.tbl ps) := fun ps z => by rw [hD5] at z; cases z
        refine ⟨((k1.then kl).trans k5).mut nD0 stS tb, ((k2.then kl).trans k5).mut nD2 st2.some tb, (st5.upd (Ne.symm Ds)).le (by omega), ws ++ [v], upd_same, fun y hy => ?_, by rw [List.length_append, hl2]; rfl⟩
        rcases List.mem_append.mp hy with z | z
        · exact hw y z
        · rw [List.mem_singleton.mp z]; exact hv
      · rintro H' ⟨k1, k2, stt, ws, hD, hw, hl2⟩
        refine .inl ⟨D, ws, rfl, .of hD, fun p np => fin (k1.then (.new np)) (k2.then (.new np)) ((stt.kp (Ps := Ps) (.new np)).le (by omega)) upd_same hw (by omega)⟩
    · rw [decide_eq_false h6]
      refine iteF ⟨_, rfl, _, _, rfl, rfl, _, rfl, ?_⟩
      have h0 := cl none (some at_)
      by_cases h3 : way < 3
      · rw [decide_eq_true h3]
        refine iteT ⟨_, rfl, _, rfl, _, rfl, sl_any (Ps := Ps) haG fun p1 G2 k2 hp1 => ⟨_, rfl, (by show 1 ≤ sizeLine; decide), fun p2 np2 => ?_⟩⟩
        have k3 := k2.trans (Kp.new (o := .tup [odd]) np2)
        refine cat_any (Ps := Ps) ((Kp.new (Ps := Ps) np2).tup hp1) upd_same (by rw [List.length_singleton]; omega) fun p3 G4 k4 hp3 => ⟨_, rfl, cat_any (Ps := Ps) hp3 ((k3.trans k4).tup hfa) (by rw [List.length_append, List.length_singleton]; omega) fun p5 G5 k5 hp5 => ?_⟩
        have kk := (k3.trans k4).trans k5
        refine fin (keG.then kk) (kOG.then kk) ((stG.kp kk).le (by omega)) hp5 (fun y hy => ?_) (by rw [List.length_append, List.length_append, List.length_singleton]; omega)
        rcases List.mem_append.mp hy with z | z
        · rcases List.mem_append.mp z with z | z
          · exact cm z
          · exact .inr (List.mem_singleton.mp z)
        · exact cm z
      · rw [decide_eq_false h3]
        have h4 := cl (some at_) none
        refine iteF ⟨_, rfl, _, rfl, _, rfl, sl_any (Ps := Ps) haG fun p1 G2 k2 hp1 => ⟨_, rfl, cat_any (Ps := Ps) hp1 (k2.tup hfa) (by omega) fun q1 G3 k3 hq1 => ?_⟩⟩
        have k23 := k2.trans k3
        refine ⟨_, rfl, _, rfl, _, rfl, sl_any (Ps := Ps) (k23.tup haG) fun p2 G4 k4 hp2 => ⟨_, rfl, (by show 1 ≤ sizeLine; decide), fun p3 n3 => ?_⟩⟩
        have kn := Kp.new (Ps := Ps) (o := .tup [odd]) n3
        refine cat_any (Ps := Ps) (kn.tup hp2) upd_same (by rw [List.length_singleton]; omega) fun q2 G6 k6 hq2 => ⟨_, rfl, _, rfl, _, rfl, ?_⟩
        have k26 := ((k23.trans k4).trans kn).trans k6
        dsimp only [tNoPart]
        refine sl_any (Ps := Ps) (k26.tup haG) fun p4 G7 k7 hp4 => ?_
        refine cat_any (Ps := Ps) (k7.tup hq2) hp4 (by rw [List.length_append, List.length_singleton]; omega) fun q3 G8 k8 hq3 => ?_
        have k28 := (k26.trans k7).trans k8
        refine ⟨_, rfl, a, xs, rfl, .inr (.of (k28.tup haG)), fun li nli => ⟨_, rfl, (by show 4 ≤ sizeLine; decide), fun LL nLL => ?_⟩⟩
        have kli := Kp.new (Ps := Ps) (o := .lst xs) nli
        have kLL := Kp.new (Ps := Ps) (o := .lst [.ref q1, .ref q3, .ref li, .ref a]) nLL
        have kk := (k28.trans kli).trans kLL
        have keE := keG.then kk
        have kOE := kOG.then kk
        have stE := (stG.kp kk).le (show b + 4 + 4 + 4 ≤ b + 60 by omega)
        have hq1E := ((((((k4.trans kn).trans k6).trans k7).trans k8).trans kli).trans kLL).tup hq1
        have hq3E := (kli.trans kLL).tup hq3
        have hliE := kLL.lst (a := li) (xs := xs) upd_same
        have haE := kk.tup haG
        have : way - 3 = 0 ∨ way - 3 = 1 ∨ way - 3 = 2 ∨ way - 3 = 3 := by omega
        obtain ⟨v, hat, hv⟩ : ∃ v, atI [V.ref q1, V.ref q3, V.ref li, V.ref a] (way - 3) = some v ∧ Q v (upd (upd G8 li (.lst xs)) LL (.lst [.ref q1, .ref q3, .ref li, .ref a])) := by
          rcases this with e | e | e | e <;> rw [e]
          · refine ⟨.ref q1, rfl, fin keE kOE stE hq1E (fun y hy => ?_) (by rw [List.length_append]; omega)⟩
            rcases List.mem_append.mp hy with z | z
            · exact cm z
            · exact cm z
          · refine ⟨.ref q3, rfl, fin keE kOE stE hq3E (fun y hy => ?_) (by rw [List.length_append, List.length_append, List.length_singleton]; omega)⟩
            rcases List.mem_append.mp hy with z | z
            · rcases List.mem_append.mp z with z | z
              · exact cm z
              · exact .inr (List.mem_singleton.mp z)
            · exact cm z
          · refine ⟨.ref li, rfl, q _ _ keE stE (.lst (stE.ne hliE) hliE) fun zs z => ?_⟩
            rw [tupOf_lst hliE] at z
            cases z
          · exact ⟨.ref a, rfl, fin keE kOE stE haE (fun y hy => .inl hy) (by omega)⟩
        exact ⟨_, rfl, _, _, rfl, rfl, LL, _, way - 3, v, rfl, rfl, .of upd_same, hat, hv⟩
end
end U
set_option maxHeartbeats 4000000
namespace U
open PySem PySem.Spec PyProof.Rows L2 GxR Bx Gx Ex Sx RZ Kx Dx
theorem bootValueError : bootBuiltins "ValueError" = some (.type "ValueError") := by decide +kernel
theorem bootLookupError : bootBuiltins "LookupError" = some (.type "LookupError") := by decide +kernel
theorem bootRuntimeError : bootBuiltins "RuntimeError" = some (.type "RuntimeError") := by decide +kernel
/-- where the text's own classes stand -/
structure ClN (mg : Str → Option Value) (cl : Str → Addr) : Prop where
  own : ∀ x, x ∈ ownNames → mg x = some (.ref (cl x))
  ValueError : mg "ValueError" = none
  LookupError : mg "LookupError" = none
  RuntimeError : mg "RuntimeError" = none
section
variable {X : Cx}
theorem pe_isO (K : PySem.W.Frag) {T : Str} {c : Addr} {e : Expr} {te : TE} {p p2 pos : Pos} (hT : X.mg T = some (.ref c)) (hm : X.mg "isinstance" = none) (he : PE X e te) (hK : X.K = K := by rfl) (hg : Gl X "isinstance" := by rfl) (hgT : Gl X T := by rfl)
    (hs : starEach [e, .Name T p2] X.env = (false, eval e X.env) :: starEach [.Name T p2] X.env := by rfl) (hs2 : starEach [.Name T p2] X.env = (false, eval (.Name T p2) X.env) :: starEach [] X.env := by rfl) (hpl : (backTo pos (starEach [.Name T p2] X.env)).any (·.1) = false := by rfl) (hd : (T == ("__debug__" : Str)) = false := by decide) :
    PE X (.Call (.Name "isinstance" p) [e, .Name T p2] [] pos) (tCB (rIsK K) (tCons te (tCons (tC (.ref c)) tNil))) := by
  subst hK
  exact pe_callB call_isK hg hm boot_isinstance (pa_cons he (pa_cons (pe_glob (v := .ref c) hgT hT rfl hd) pa_nil hs2) hs) (by decide) (by decide) hs hpl
theorem pe_isB (K : PySem.W.Frag) {T : Str} {n : String} {e : Expr} {te : TE} {p p2 pos : Pos} (hT : bootBuiltins T = some (.type n)) (hm : X.mg "isinstance" = none) (hmT : X.mg T = none) (he : PE X e te) (hK : X.K = K := by rfl) (hg : Gl X "isinstance" := by rfl) (hgT : Gl X T := by rfl)
    (hs : starEach [e, .Name T p2] X.env = (false, eval e X.env) :: starEach [.Name T p2] X.env := by rfl) (hs2 : starEach [.Name T p2] X.env = (false, eval (.Name T p2) X.env) :: starEach [] X.env := by rfl) (hpl : (backTo pos (starEach [.Name T p2] X.env)).any (·.1) = false := by rfl) (hd : (T == ("__debug__" : Str)) = false := by decide) (hn : T ≠ "__name__" := by decide) :
    PE X (.Call (.Name "isinstance" p) [e, .Name T p2] [] pos) (tCB (rIsK K) (tCons te (tCons (tC (.ty n)) tNil))) := by
  subst hK
  exact pe_callB call_isK hg hm boot_isinstance (pa_cons he (pa_cons (pe_bltn hgT hmT hT rfl hn hd) pa_nil hs2) hs) (by decide) (by decide) hs hpl
end
section
variable {P : Program} {w : World} {K : PySem.W.Frag} {mg : Str → Option Value} {base : Heap} {Ps : List Addr}
theorem sc_law_kinds : FnScope ["error", "kinds", "kind", "suits"] ["error"] (defScope s_law_kinds) := ⟨rfl, rfl, rfl, by decide +kernel, rfl, by decide +kernel, by decide +kernel⟩
def kindPairs : List (Str × Str) := [("table", "BadTable"), ("stand", "BadStand"), ("turning", "BadTurning"), ("wish", "BadWish"), ("lot", "BadLot"), ("row", "BadRow"), ("pattern", "BadPattern"), ("felt", "BadFelt"), ("hearing", "BadHearing"), ("run", "BadRun"), ("paper", "BadPaper"), ("even", "NotEven"), ("place", "OutOfPlace"), ("great", "TooGreat"), ("never", "Never"), ("unsure", "NotSure"), ("inside", "Inside"), ("rung", "Rung"), ("untimely", "Untimely"), ("ours", "UnseenError"), ("value", "ValueError"), ("miss", "MissError"), ("lookup", "LookupError"), ("state", "StateError"), ("runtime", "RuntimeError")]
theorem Kept.kp {H H1 : Hp} {a D dd : Addr} {fs : List (Str × V)} (k : Kp Ps H H1) (h : Kept H a D dd fs) : Kept H1 a D dd fs := ⟨k.old _ _ h.e (fun ps z => by unfold EXO at z; cases z), k.old _ _ h.d (fun ps z => by cases z)⟩
/-- the class named x, and whether D is below it -/
structure Kits (K : PySem.W.Frag) (cl : Str → Addr) (D : Addr) (b : Str → Bool) : Prop where
  own : ∀ x, x ∈ ownNames → PySem.W.kitOne K (.ref D) (.ref (cl x)) = some (b x)
  v : PySem.W.kitOne K (.ref D) (.type "ValueError") = some (b "ValueError")
  l : PySem.W.kitOne K (.ref D) (.type "LookupError") = some (b "LookupError")
  r : PySem.W.kitOne K (.ref D) (.type "RuntimeError") = some (b "RuntimeError")
/-- a list of pairs (kind, whether) -/
def KL (H : Hp) (l : Addr) (ks : List (Str × Bool)) : Prop := ∃ L : List (Addr × Str × Bool), H l = some (.lst (L.map fun p => V.ref p.1)) ∧ (∀ p ∈ L, H p.1 = some (.tup [.str p.2.1, .bl p.2.2])) ∧ L.map (·.2) = ks
abbrev tK (K : PySem.W.Frag) (n : Str) (c : V) : TE := tTup (tCons (tC (.str n)) (tCons (tCB (rIsK K) (tCons (tVar 0) (tCons (tC c) tNil))) tNil))
theorem tK_ok {H : Hp} {σ : L2.St} {a D dd : Addr} {fs : List (Str × V)} {n : Str} {c : V} {cv : Value} {b : Bool} {Q : VK} (hσ : σ[0]? = some (some (.ref a))) (kp : Kept H a D dd fs) (ec : ExcC K D) (hc : ClsV c cv) (hk : PySem.W.kitOne K (.ref D) cv = some b)
    (q : ∀ p, H p = none → Q (.ref p) (upd H p (.tup [.str n, .bl b]))) : tK K n c σ H Q := ⟨_, hσ, a, D, dd, fs, c, cv, b, rfl, hc, kp, ec, hk, (by show 2 ≤ sizeLine; decide), q⟩
theorem two_kinds {H : Hp} {σ : L2.St} {E : Ends} {a D dd l : Addr} {fs : List (Str × V)} {ks : List (Str × Bool)} {n1 n2 : Str} {c1 c2 : V} {v1 v2 : Value} {b1 b2 : Bool} {u v : Option V} (hσ : σ = [some (.ref a), some (.ref l), u, v]) (kp : Kept H a D dd fs) (ec : ExcC K D) (hl : KL H l ks) (hks : ks.length ≤ 100)
    (hc1 : ClsV c1 v1) (hk1 : PySem.W.kitOne K (.ref D) v1 = some b1) (hc2 : ClsV c2 v2) (hk2 : PySem.W.kitOne K (.ref D) v2 = some b2)
    (q : ∀ l' H', Kp Ps H H' → KL H' l' (ks ++ [(n1, b1), (n2, b2)]) → E.nx [some (.ref a), some (.ref l'), u, v] H') : tAsg (tOp rCat (tVar 1) (tLst (tCons (tK K n1 c1) (tCons (tK K n2 c2) tNil)))) (gName 1) E σ H := by
  subst hσ
  obtain ⟨L, h1, h2, h3⟩ := hl
  refine ⟨_, rfl, _, rfl, a, D, dd, fs, c1, v1, b1, rfl, hc1, kp, ec, hk1, (by show 2 ≤ sizeLine; decide), fun p1 n1' => ?_⟩
  have k1 := Kp.new (Ps := Ps) (o := .tup [.str n1, .bl b1]) n1'
  refine ⟨_, rfl, a, D, dd, fs, c2, v2, b2, rfl, hc2, U.Kept.kp k1 kp, ec, hk2, (by show 2 ≤ sizeLine; decide), fun p2 n2' => ⟨(by show 2 ≤ sizeLine; decide), fun m nm => ?_⟩⟩
  have k2 := Kp.new (Ps := Ps) (o := .tup [.str n2, .bl b2]) n2'
  have k3 := Kp.new (Ps := Ps) (o := .lst [.ref p1, .ref p2]) nm
  have hlen : L.length = ks.length := by rw [← h3, List.length_map]
  refine ⟨l, m, _, _, rfl, rfl, k3.lst (k2.lst (k1.lst h1)), upd_same, by rw [List.length_map, hlen]; exact Nat.le_of_lt (small1000 (by show ks.length + 2 ≤ 1000; omega)), fun r nr => ?_⟩
  have k4 := Kp.new (Ps := Ps) (o := .lst ((L.map fun p => V.ref p.1) ++ [.ref p1, .ref p2])) nr
  have kk := ((k1.trans k2).trans k3).trans k4
  refine q r _ kk ⟨L ++ [(p1, n1, b1), (p2, n2, b2)], by rw [upd_same, List.map_append]; rfl, fun p hp => ?_, by rw [List.map_append, h3]; rfl⟩
  rcases List.mem_append.mp hp with z | z
  · exact kk.tup (h2 p z)
  · rcases List.mem_cons.mp z with z | z
    · rw [z]; exact ((k2.trans k3).trans k4).tup upd_same
    · rw [List.mem_singleton.mp z]; exact (k3.trans k4).tup upd_same
def spKinds (K : PySem.W.Frag) (Ps : List Addr) (cl : Str → Addr) : Sp := fun vs H Q _ => ∃ (a D dd : Addr) (fs : List (Str × V)) (b : Str → Bool), vs = [.ref a] ∧ Kept H a D dd fs ∧ ExcC K D ∧ Kits K cl D b ∧
  ∀ p H', Kp Ps H H' → H p = none → H' p = some (.lst ((kindPairs.filter fun q => b q.2).map fun q => V.str q.1)) → Q (.ref p) H'
theorem refsK_len (L : List (Addr × Str × Bool)) : (L.map fun p => V.ref p.1).length = L.length := List.length_map ..
theorem start_kinds {H : Hp} {E : Ends} {a D dd : Addr} {fs : List (Str × V)} {n1 n2 : Str} {c1 c2 : V} {v1 v2 : Value} {b1 b2 : Bool} (kp : Kept H a D dd fs) (ec : ExcC K D) (hc1 : ClsV c1 v1) (hk1 : PySem.W.kitOne K (.ref D) v1 = some b1) (hc2 : ClsV c2 v2) (hk2 : PySem.W.kitOne K (.ref D) v2 = some b2)
    (q : ∀ l' H', Kp Ps H H' → KL H' l' [(n1, b1), (n2, b2)] → E.nx [some (.ref a), some (.ref l'), none, none] H') : tAsg (tLst (tCons (tK K n1 c1) (tCons (tK K n2 c2) tNil))) (gName 1) E [some (.ref a), none, none, none] H := by
  refine ⟨_, rfl, a, D, dd, fs, c1, v1, b1, rfl, hc1, kp, ec, hk1, (by show 2 ≤ sizeLine; decide), fun p1 n1' => ?_⟩
  have k1 := Kp.new (Ps := Ps) (o := .tup [.str n1, .bl b1]) n1'
  refine ⟨_, rfl, a, D, dd, fs, c2, v2, b2, rfl, hc2, U.Kept.kp k1 kp, ec, hk2, (by show 2 ≤ sizeLine; decide), fun p2 n2' => ⟨(by show 2 ≤ sizeLine; decide), fun m nm => ?_⟩⟩
  have k2 := Kp.new (Ps := Ps) (o := .tup [.str n2, .bl b2]) n2'
  have k3 := Kp.new (Ps := Ps) (o := .lst [.ref p1, .ref p2]) nm
  refine q m _ ((k1.trans k2).trans k3) ⟨[(p1, n1, b1), (p2, n2, b2)], upd_same, fun p hp => ?_, rfl⟩
  rcases List.mem_cons.mp hp with z | z
  · rw [z]; exact (k2.trans k3).tup upd_same
  · rw [List.mem_singleton.mp z]; exact k3.tup upd_same
theorem one_kind {H : Hp} {σ : L2.St} {E : Ends} {a D dd l : Addr} {fs : List (Str × V)} {ks : List (Str × Bool)} {n1 : Str} {c1 : V} {v1 : Value} {b1 : Bool} {u v : Option V} (hσ : σ = [some (.ref a), some (.ref l), u, v]) (kp : Kept H a D dd fs) (ec : ExcC K D) (hl : KL H l ks) (hks : ks.length ≤ 100)
    (hc1 : ClsV c1 v1) (hk1 : PySem.W.kitOne K (.ref D) v1 = some b1) (q : ∀ l' H', Kp Ps H H' → KL H' l' (ks ++ [(n1, b1)]) → E.nx [some (.ref a), some (.ref l'), u, v] H') : tAsg (tOp rCat (tVar 1) (tLst (tCons (tK K n1 c1) tNil))) (gName 1) E σ H := by
  subst hσ
  obtain ⟨L, h1, h2, h3⟩ := hl
  refine ⟨_, rfl, _, rfl, a, D, dd, fs, c1, v1, b1, rfl, hc1, kp, ec, hk1, (by show 2 ≤ sizeLine; decide), fun p1 n1' => ⟨(by show 1 ≤ sizeLine; decide), fun m nm => ?_⟩⟩
  have k1 := Kp.new (Ps := Ps) (o := .tup [.str n1, .bl b1]) n1'
  have k3 := Kp.new (Ps := Ps) (o := .lst [.ref p1]) nm
  have hlen : L.length = ks.length := by rw [← h3, List.length_map]
  refine ⟨l, m, _, _, rfl, rfl, k3.lst (k1.lst h1), upd_same, by rw [List.length_map, hlen]; exact Nat.le_of_lt (small1000 (by show ks.length + 1 ≤ 1000; omega)), fun r nr => ?_⟩
  have k4 := Kp.new (Ps := Ps) (o := .lst ((L.map fun p => V.ref p.1) ++ [.ref p1])) nr
  have kk := (k1.trans k3).trans k4
  refine q r _ kk ⟨L ++ [(p1, n1, b1)], by rw [upd_same, List.map_append]; rfl, fun p hp => ?_, by rw [List.map_append, h3]; rfl⟩
  rcases List.mem_append.mp hp with z | z
  · exact kk.tup (h2 p z)
  · rw [List.mem_singleton.mp z]; exact (k3.trans k4).tup upd_same
theorem ok_kinds {cl : Str → Addr} (D : Dfn K mg "_law_kinds" s_law_kinds ["error"]) (B : BN mg) (N : ClN mg cl) : Okd P w K mg base CX0 1 "_law_kinds" ["error"] (spKinds K Ps cl) := by
  refine D.ok sc_law_kinds (fun vs H Q E h => ?_) (fun f cdv A outer s H vs Q E hr h => ?_)
  · obtain ⟨a, D, dd, fs, b, rfl, _⟩ := h; rfl
  · obtain ⟨a, D, dd, fs, b, rfl, kp, ec, kt, q⟩ := h
    have nd := sc_law_kinds.nd
    refine ⟨_, pss_cons (ps_set (i := 1) nd rfl (.inl rfl) (pe_lst (pa_cons (pe_tup (pa_cons pe_str (pa_cons (pe_isO K (N.own "BadTable" (by decide)) B.isinstance (pv 0)) pa_nil))) (pa_cons (pe_tup (pa_cons pe_str (pa_cons (pe_isO K (N.own "BadStand" (by decide)) B.isinstance (pv 0)) pa_nil))) pa_nil))))
      (pss_cons (ps_set (i := 1) nd rfl (.inl rfl) (pe_op op_cat (pv 1) (pe_lst (pa_cons (pe_tup (pa_cons pe_str (pa_cons (pe_isO K (N.own "BadTurning" (by decide)) B.isinstance (pv 0)) pa_nil))) (pa_cons (pe_tup (pa_cons pe_str (pa_cons (pe_isO K (N.own "BadWish" (by decide)) B.isinstance (pv 0)) pa_nil))) pa_nil)))))
      (pss_cons (ps_set (i := 1) nd rfl (.inl rfl) (pe_op op_cat (pv 1) (pe_lst (pa_cons (pe_tup (pa_cons pe_str (pa_cons (pe_isO K (N.own "BadLot" (by decide)) B.isinstance (pv 0)) pa_nil))) (pa_cons (pe_tup (pa_cons pe_str (pa_cons (pe_isO K (N.own "BadRow" (by decide)) B.isinstance (pv 0)) pa_nil))) pa_nil)))))
      (pss_cons (ps_set (i := 1) nd rfl (.inl rfl) (pe_op op_cat (pv 1) (pe_lst (pa_cons (pe_tup (pa_cons pe_str (pa_cons (pe_isO K (N.own "BadPattern" (by decide)) B.isinstance (pv 0)) pa_nil))) (pa_cons (pe_tup (pa_cons pe_str (pa_cons (pe_isO K (N.own "BadFelt" (by decide)) B.isinstance (pv 0)) pa_nil))) pa_nil)))))
      (pss_cons (ps_set (i := 1) nd rfl (.inl rfl) (pe_op op_cat (pv 1) (pe_lst (pa_cons (pe_tup (pa_cons pe_str (pa_cons (pe_isO K (N.own "BadHearing" (by decide)) B.isinstance (pv 0)) pa_nil))) (pa_cons (pe_tup (pa_cons pe_str (pa_cons (pe_isO K (N.own "BadRun" (by decide)) B.isinstance (pv 0)) pa_nil))) pa_nil)))))
      (pss_cons (ps_set (i := 1) nd rfl (.inl rfl) (pe_op op_cat (pv 1) (pe_lst (pa_cons (pe_tup (pa_cons pe_str (pa_cons (pe_isO K (N.own "BadPaper" (by decide)) B.isinstance (pv 0)) pa_nil))) (pa_cons (pe_tup (pa_cons pe_str (pa_cons (pe_isO K (N.own "NotEven" (by decide)) B.isinstance (pv 0)) pa_nil))) pa_nil)))))
      (pss_cons (ps_set (i := 1) nd rfl (.inl rfl) (pe_op op_cat (pv 1) (pe_lst (pa_cons (pe_tup (pa_cons pe_str (pa_cons (pe_isO K (N.own "OutOfPlace" (by decide)) B.isinstance (pv 0)) pa_nil))) (pa_cons (pe_tup (pa_cons pe_str (pa_cons (pe_isO K (N.own "TooGreat" (by decide)) B.isinstance (pv 0)) pa_nil))) pa_nil)))))
      (pss_cons (ps_set (i := 1) nd rfl (.inl rfl) (pe_op op_cat (pv 1) (pe_lst (pa_cons (pe_tup (pa_cons pe_str (pa_cons (pe_isO K (N.own "Never" (by decide)) B.isinstance (pv 0)) pa_nil))) (pa_cons (pe_tup (pa_cons pe_str (pa_cons (pe_isO K (N.own "NotSure" (by decide)) B.isinstance (pv 0)) pa_nil))) pa_nil)))))
      (pss_cons (ps_set (i := 1) nd rfl (.inl rfl) (pe_op op_cat (pv 1) (pe_lst (pa_cons (pe_tup (pa_cons pe_str (pa_cons (pe_isO K (N.own "Inside" (by decide)) B.isinstance (pv 0)) pa_nil))) (pa_cons (pe_tup (pa_cons pe_str (pa_cons (pe_isO K (N.own "Rung" (by decide)) B.isinstance (pv 0)) pa_nil))) pa_nil)))))
      (pss_cons (ps_set (i := 1) nd rfl (.inl rfl) (pe_op op_cat (pv 1) (pe_lst (pa_cons (pe_tup (pa_cons pe_str (pa_cons (pe_isO K (N.own "Untimely" (by decide)) B.isinstance (pv 0)) pa_nil))) (pa_cons (pe_tup (pa_cons pe_str (pa_cons (pe_isO K (N.own "UnseenError" (by decide)) B.isinstance (pv 0)) pa_nil))) pa_nil)))))
      (pss_cons (ps_set (i := 1) nd rfl (.inl rfl) (pe_op op_cat (pv 1) (pe_lst (pa_cons (pe_tup (pa_cons pe_str (pa_cons (pe_isB K bootValueError B.isinstance (N.ValueError) (pv 0)) pa_nil))) (pa_cons (pe_tup (pa_cons pe_str (pa_cons (pe_isO K (N.own "MissError" (by decide)) B.isinstance (pv 0)) pa_nil))) pa_nil)))))
      (pss_cons (ps_set (i := 1) nd rfl (.inl rfl) (pe_op op_cat (pv 1) (pe_lst (pa_cons (pe_tup (pa_cons pe_str (pa_cons (pe_isB K bootLookupError B.isinstance (N.LookupError) (pv 0)) pa_nil))) (pa_cons (pe_tup (pa_cons pe_str (pa_cons (pe_isO K (N.own "StateError" (by decide)) B.isinstance (pv 0)) pa_nil))) pa_nil)))))
      (pss_cons (ps_set (i := 1) nd rfl (.inl rfl) (pe_op op_cat (pv 1) (pe_lst (pa_cons (pe_tup (pa_cons pe_str (pa_cons (pe_isB K bootRuntimeError B.isinstance (N.RuntimeError) (pv 0)) pa_nil))) pa_nil))))
      (pss_one (ps_ret (pe_lc (own := [("kind", 2), ("suits", 3)]) (g := gTup K 2 (gCons (gName 2) (gCons (gName 3) gNil))) rfl nd (pi_list (pv 1)) (blkOk_by (N := ["error", "kinds", "kind", "suits"]) (sc := defScope s_law_kinds) (by decide +kernel))
        (fun _ _ _ _ _ => pg_tup rfl (pgs_cons (pg_name (i := 2) nd rfl (.inl rfl)) (pgs_cons (pg_name (i := 3) nd rfl (.inl rfl)) pgs_nil))) (fun _ _ _ _ _ => pts_one (pt_val (pv 3))) (fun _ _ _ _ _ => pv 2)))))))))))))))), ?_⟩
    refine start_kinds (Ps := Ps) kp ec (.own _) (kt.own "BadTable" (by decide)) (.own _) (kt.own "BadStand" (by decide)) fun l0 G0 k0 z0 => ?_
    refine two_kinds (Ps := Ps) rfl (U.Kept.kp k0 kp) ec z0 (by simp only [List.length_append, List.length_cons, List.length_nil]; omega) (.own _) (kt.own "BadTurning" (by decide)) (.own _) (kt.own "BadWish" (by decide)) fun l1 G1 k1 z1 => ?_
    have c1 := k0.trans k1
    refine two_kinds (Ps := Ps) rfl (U.Kept.kp c1 kp) ec z1 (by simp only [List.length_append, List.length_cons, List.length_nil]; omega) (.own _) (kt.own "BadLot" (by decide)) (.own _) (kt.own "BadRow" (by decide)) fun l2 G2 k2 z2 => ?_
    have c2 := c1.trans k2
    refine two_kinds (Ps := Ps) rfl (U.Kept.kp c2 kp) ec z2 (by simp only [List.length_append, List.length_cons, List.length_nil]; omega) (.own _) (kt.own "BadPattern" (by decide)) (.own _) (kt.own "BadFelt" (by decide)) fun l3 G3 k3 z3 => ?_
    have c3 := c2.trans k3
    refine two_kinds (Ps := Ps) rfl (U.Kept.kp c3 kp) ec z3 (by simp only [List.length_append, List.length_cons, List.length_nil]; omega) (.own _) (kt.own "BadHearing" (by decide)) (.own _) (kt.own "BadRun" (by decide)) fun l4 G4 k4 z4 => ?_
    have c4 := c3.trans k4
    refine two_kinds (Ps := Ps) rfl (U.Kept.kp c4 kp) ec z4 (by simp only [List.length_append, List.length_cons, List.length_nil]; omega) (.own _) (kt.own "BadPaper" (by decide)) (.own _) (kt.own "NotEven" (by decide)) fun l5 G5 k5 z5 => ?_
    have c5 := c4.trans k5
    refine two_kinds (Ps := Ps) rfl (U.Kept.kp c5 kp) ec z5 (by simp only [List.length_append, List.length_cons, List.length_nil]; omega) (.own _) (kt.own "OutOfPlace" (by decide)) (.own _) (kt.own "TooGreat" (by decide)) fun l6 G6 k6 z6 => ?_
    have c6 := c5.trans k6
    refine two_kinds (Ps := Ps) rfl (U.Kept.kp c6 kp) ec z6 (by simp only [List.length_append, List.length_cons, List.length_nil]; omega) (.own _) (kt.own "Never" (by decide)) (.own _) (kt.own "NotSure" (by decide)) fun l7 G7 k7 z7 => ?_
    have c7 := c6.trans k7
    refine two_kinds (Ps := Ps) rfl (U.Kept.kp c7 kp) ec z7 (by simp only [List.length_append, List.length_cons, List.length_nil]; omega) (.own _) (kt.own "Inside" (by decide)) (.own _) (kt.own "Rung" (by decide)) fun l8 G8 k8 z8 => ?_
    have c8 := c7.trans k8
    refine two_kinds (Ps := Ps) rfl (U.Kept.kp c8 kp) ec z8 (by simp only [List.length_append, List.length_cons, List.length_nil]; omega) (.own _) (kt.own "Untimely" (by decide)) (.own _) (kt.own "UnseenError" (by decide)) fun l9 G9 k9 z9 => ?_
    have c9 := c8.trans k9
    refine two_kinds (Ps := Ps) rfl (U.Kept.kp c9 kp) ec z9 (by simp only [List.length_append, List.length_cons, List.length_nil]; omega) (.ty _) kt.v (.own _) (kt.own "MissError" (by decide)) fun l10 G10 k10 z10 => ?_
    have c10 := c9.trans k10
    refine two_kinds (Ps := Ps) rfl (U.Kept.kp c10 kp) ec z10 (by simp only [List.length_append, List.length_cons, List.length_nil]; omega) (.ty _) kt.l (.own _) (kt.own "StateError" (by decide)) fun l11 G11 k11 z11 => ?_
    have c11 := c10.trans k11
    refine one_kind (Ps := Ps) rfl (U.Kept.kp c11 kp) ec z11 (by simp only [List.length_append, List.length_cons, List.length_nil]; omega) (.ty _) kt.r fun l12 G12 k12 z12 => ?_
    have c12 := c11.trans k12
    generalize hks : (([] : List (Str × Bool)) ++ kindPairs.map fun q => (q.1, b q.2)) = ks
    have z12 : KL G12 l12 ks := by rw [← hks]; exact z12
    obtain ⟨L, h1, h2, h3⟩ := z12
    have hL : L.length = ks.length := by rw [← h3, List.length_map]
    have hk25 : ks.length = 25 := by rw [← hks]; rfl
    have hR := refsK_len L
    refine ⟨_, rfl, l12, rfl, ⟨_, .of h1⟩, fun F nF => lc_list (xs := L.map fun p => V.ref p.1) (fun i H' => Kp Ps G12 H' ∧ H' F = some (.lst (((ks.take i).filter (·.2)).map fun q => V.str q.1))) ⟨.new nF, upd_same⟩ (fun i H' _ p => .of (p.1.lst h1)) ?_ ?_⟩
    · rintro i x H1 hx ⟨kp1, hF⟩
      rw [List.getElem?_map] at hx
      cases e : L[i]? with
      | none => rw [e] at hx; cases hx
      | some t =>
        rw [e] at hx
        cases hx
        have ht := kp1.tup (h2 t (List.mem_of_getElem? e))
        have e2 : ks[i]? = some t.2 := by rw [← h3, List.getElem?_map, e]; rfl
        refine ⟨t.1, _, rfl, .of ht, rfl, _, _, rfl, _, _, rfl, rfl, rfl, _, rfl, _, rfl, ?_⟩
        rw [take_snoc e2, List.filter_append, List.map_append]
        cases eb : t.2.2 with
        | false =>
          refine iteF ⟨kp1, ?_⟩
          have z : [t.2].filter (·.2) = [] := by simp [eb]
          rw [z]
          exact hF.trans (by rw [List.map_nil, List.append_nil])
        | true =>
          have z : [t.2].filter (·.2) = [t.2] := by simp [eb]
          rw [z]
          refine iteT ⟨_, rfl, _, hF, ?_, kp1.mut nF (fun ps z => by rw [hF] at z; cases z), by rw [upd_same]; rfl⟩
          rw [List.length_map]
          have := List.length_filter_le (fun q : Str × Bool => q.2) (ks.take i)
          rw [List.length_take] at this
          exact small1000 (by omega)
    · rintro H1 ⟨kp1, hF⟩
      rw [hR, hL, List.take_length] at hF
      refine q F _ (c12.trans kp1) (c12.fresh nF) ?_
      rw [hF, ← hks, List.nil_append, List.filter_map, List.map_map]
      rfl
end
end U
set_option maxHeartbeats 2000000
namespace U
open PySem PySem.Spec PyProof.Rows L2 GxR Bx Gx Ex Sx RZ Kx Dx
section
variable {P : Program} {w : World} {K : PySem.W.Frag} {mg : Str → Option Value} {base : Heap} {Ps : List Addr}
/-- what the head must tell of a class with one field -/
structure ClsI (K : PySem.W.Frag) (mg : Str → Option Value) (x f qual : Str) (st : Stmt) (C : Addr) : Prop where
  T : OexC K C
  g : mg x = some (.ref C)
  no : PySem.W.findIn K (.ref C) f = some none
  ini : ∃ fI fd, PySem.W.findIn K (.ref C) "__init__" = some (some (.ref fI)) ∧ PySem.W.typeIn K (.ref fI) = some (.type "function") ∧ FunD K "__init__" qual (defArgs st) (defBody st) (defScope st) [.non] [] fI fd
theorem exk_BadTable {C : Addr} (D : ClsI K mg "BadTable" "place" "BadTable.__init__" (initOf s_BadTable) C) : ExK P w K mg base "BadTable" "place" C := by
  obtain ⟨fI, fd, h1, h2, F⟩ := D.ini
  obtain ⟨ds, v, b⟩ := F.binds1 (ps := ["self", "place"]) 2 1 (by decide) rfl fun T kV doc pm an cdv ct us its hu hi => match us, its, hu, hi with
    | [_, _], [_], _, _ => ⟨_, rfl, rfl⟩
  cases v
  have S : FnScope ["self", "place"] ["self", "place"] (defScope (initOf s_BadTable)) := ⟨rfl, rfl, rfl, by decide +kernel, rfl, by decide +kernel, by decide +kernel⟩
  refine ⟨D.T, ⟨fI, fd, h1, h2, b, F.ok S (fun vs H Q E h => ?_) fun cdv A outer s H vs Q E hr h => ?_⟩, D.g⟩
  · obtain ⟨a, v, rfl, _⟩ := h; rfl
  · obtain ⟨a, v, rfl, e, q⟩ := h
    refine ⟨_, pss_one (ps_ost (pv 0) (pv 1)), ?_⟩
    exact ⟨_, rfl, _, rfl, a, C, rfl, D.T, D.no, .inl ⟨e, q⟩⟩
theorem exk_BadStand {C : Addr} (D : ClsI K mg "BadStand" "number" "BadStand.__init__" (initOf s_BadStand) C) : ExK P w K mg base "BadStand" "number" C := by
  obtain ⟨fI, fd, h1, h2, F⟩ := D.ini
  obtain ⟨ds, v, b⟩ := F.binds1 (ps := ["self", "number"]) 2 1 (by decide) rfl fun T kV doc pm an cdv ct us its hu hi => match us, its, hu, hi with
    | [_, _], [_], _, _ => ⟨_, rfl, rfl⟩
  cases v
  have S : FnScope ["self", "number"] ["self", "number"] (defScope (initOf s_BadStand)) := ⟨rfl, rfl, rfl, by decide +kernel, rfl, by decide +kernel, by decide +kernel⟩
  refine ⟨D.T, ⟨fI, fd, h1, h2, b, F.ok S (fun vs H Q E h => ?_) fun cdv A outer s H vs Q E hr h => ?_⟩, D.g⟩
  · obtain ⟨a, v, rfl, _⟩ := h; rfl
  · obtain ⟨a, v, rfl, e, q⟩ := h
    refine ⟨_, pss_one (ps_ost (pv 0) (pv 1)), ?_⟩
    exact ⟨_, rfl, _, rfl, a, C, rfl, D.T, D.no, .inl ⟨e, q⟩⟩
theorem exk_BadTurning {C : Addr} (D : ClsI K mg "BadTurning" "number" "BadTurning.__init__" (initOf s_BadTurning) C) : ExK P w K mg base "BadTurning" "number" C := by
  obtain ⟨fI, fd, h1, h2, F⟩ := D.ini
  obtain ⟨ds, v, b⟩ := F.binds1 (ps := ["self", "number"]) 2 1 (by decide) rfl fun T kV doc pm an cdv ct us its hu hi => match us, its, hu, hi with
    | [_, _], [_], _, _ => ⟨_, rfl, rfl⟩
  cases v
  have S : FnScope ["self", "number"] ["self", "number"] (defScope (initOf s_BadTurning)) := ⟨rfl, rfl, rfl, by decide +kernel, rfl, by decide +kernel, by decide +kernel⟩
  refine ⟨D.T, ⟨fI, fd, h1, h2, b, F.ok S (fun vs H Q E h => ?_) fun cdv A outer s H vs Q E hr h => ?_⟩, D.g⟩
  · obtain ⟨a, v, rfl, _⟩ := h; rfl
  · obtain ⟨a, v, rfl, e, q⟩ := h
    refine ⟨_, pss_one (ps_ost (pv 0) (pv 1)), ?_⟩
    exact ⟨_, rfl, _, rfl, a, C, rfl, D.T, D.no, .inl ⟨e, q⟩⟩
theorem exk_BadRow {C : Addr} (D : ClsI K mg "BadRow" "number" "BadRow.__init__" (initOf s_BadRow) C) : ExK P w K mg base "BadRow" "number" C := by
  obtain ⟨fI, fd, h1, h2, F⟩ := D.ini
  obtain ⟨ds, v, b⟩ := F.binds1 (ps := ["self", "number"]) 2 1 (by decide) rfl fun T kV doc pm an cdv ct us its hu hi => match us, its, hu, hi with
    | [_, _], [_], _, _ => ⟨_, rfl, rfl⟩
  cases v
  have S : FnScope ["self", "number"] ["self", "number"] (defScope (initOf s_BadRow)) := ⟨rfl, rfl, rfl, by decide +kernel, rfl, by decide +kernel, by decide +kernel⟩
  refine ⟨D.T, ⟨fI, fd, h1, h2, b, F.ok S (fun vs H Q E h => ?_) fun cdv A outer s H vs Q E hr h => ?_⟩, D.g⟩
  · obtain ⟨a, v, rfl, _⟩ := h; rfl
  · obtain ⟨a, v, rfl, e, q⟩ := h
    refine ⟨_, pss_one (ps_ost (pv 0) (pv 1)), ?_⟩
    exact ⟨_, rfl, _, rfl, a, C, rfl, D.T, D.no, .inl ⟨e, q⟩⟩
theorem exk_BadRun {C : Addr} (D : ClsI K mg "BadRun" "place" "BadRun.__init__" (initOf s_BadRun) C) : ExK P w K mg base "BadRun" "place" C := by
  obtain ⟨fI, fd, h1, h2, F⟩ := D.ini
  obtain ⟨ds, v, b⟩ := F.binds1 (ps := ["self", "place"]) 2 1 (by decide) rfl fun T kV doc pm an cdv ct us its hu hi => match us, its, hu, hi with
    | [_, _], [_], _, _ => ⟨_, rfl, rfl⟩
  cases v
  have S : FnScope ["self", "place"] ["self", "place"] (defScope (initOf s_BadRun)) := ⟨rfl, rfl, rfl, by decide +kernel, rfl, by decide +kernel, by decide +kernel⟩
  refine ⟨D.T, ⟨fI, fd, h1, h2, b, F.ok S (fun vs H Q E h => ?_) fun cdv A outer s H vs Q E hr h => ?_⟩, D.g⟩
  · obtain ⟨a, v, rfl, _⟩ := h; rfl
  · obtain ⟨a, v, rfl, e, q⟩ := h
    refine ⟨_, pss_one (ps_ost (pv 0) (pv 1)), ?_⟩
    exact ⟨_, rfl, _, rfl, a, C, rfl, D.T, D.no, .inl ⟨e, q⟩⟩
end
end U
set_option maxHeartbeats 2000000
namespace Kx
open PySem PySem.Spec PyProof.Rows L2
/-- a promise that sees where it is asked, and the state at the entry -/
abbrev SpS := Around → Shared → Sp
structure FnP (P : Program) (w : World) (K : PySem.W.Frag) (mg : Str → Option Value) (base : Heap) (CX : CXT) (k : Nat) (f : Addr) (fd : FuncData) (ps : List Str) (sp : SpS) : Prop where
  len : ∀ A s vs H Q E, sp A s vs H Q E → vs.length = ps.length
  run : ∀ (A : Around) (outer : List Env) (s : Shared) (H : Hp) (args : Args) (us : List Value) (vs : List V) (Q : VK) (E : XK), Room k A → Env0 P w K mg base A outer s H → BindsTo s fd args (ps.zip us) → Vals vs us → sp A s vs H Q E → codeAny (model P w) A (.call (.ref f) args) (CR CX outer P w H s Q E) s
section
variable {P : Program} {w : World} {K : PySem.W.Frag} {mg : Str → Option Value} {base : Heap} {CX : CXT} {k : Nat}
theorem fnp_of {f : Addr} {name qual : Str} {params : Arguments} {body : List Stmt} {scope : Scope} {dV kV doc pm cdv ct oc : Value} {an od : Option Addr} {osl : Array (Option Value)} {N ps : List Str} {sp : SpS}
    (lk : K.lookup f = some ⟨oc, od, .func (PySem.W.fnOf name qual params body scope dV kV doc pm an cdv ct), osl⟩) (hcd : PySem.W.codeIn K cdv qual = true) (S : FnScope N ps scope) (len : ∀ A s vs H Q E, sp A s vs H Q E → vs.length = ps.length)
    (hbody : ∀ (A : Around) (outer : List Env) (s : Shared) (H : Hp) (vs : List V) (Q : VK) (E : XK), Room k (A.deeper (envOfC qual scope s.heap.objs.size f cdv)) → sp A s vs H Q E → ∃ t, PSs (cxOf CX P w K mg base N qual scope f cdv A outer s H E) body t ∧ t { nx := fun _ H' => Q .non H', rt := Q } (start N vs) H) :
    FnP P w K mg base CX (k + 1) f (PySem.W.fnOf name qual params body scope dV kV doc pm an cdv ct) ps sp := by
  refine ⟨len, fun A outer s H args us vs Q E hr e0 hb r hsp => ?_⟩
  have kin : K.In s.heap := e0.mod.kin.keeps fun b o e => (e0.bs b o e).1
  have nolim : s.heap.NoLimit := e0.mod.nolimit.keeps fun b o e => (e0.bs b o e).1
  have kinds : ∀ y ∈ ps.zip us, scope.names.lookup y.1 = some .local ∨ (scope.names.lookup y.1 = some .cell ∧ ((cellsFrom (s.heap.objs.size + 1) scope.names []).lookup y.1).isSome = true) := fun y hy => (S.par y.1 (List.of_mem_zip hy).1).imp id fun q => ⟨q, PySem.W.cellsFrom_some _ _ _ (.inl q)⟩
  refine codeAny_call_function hr.depth (kin _ _ lk) rfl S.co S.gen rfl (PySem.W.codeRec_of kin hcd) (hb _ _ _ _ (wpAny_newFunctionEnv_cells S.kind kinds fun env he s1 x => ?_))
  subst he
  refine ⟨nolim.keeps x.toInCall.keep, codeAny_func ?_⟩
  obtain ⟨t, ht, hq⟩ := hbody A outer s H vs Q E (hr.deeper _) hsp
  have I : Inv (cxOf CX P w K mg base N qual scope f cdv A outer s H E) [] (start N vs) H s1 := inv_start S hr.hd e0 (len _ _ _ _ _ _ hsp) r x
  refine wpAny_mono (ht.run [] s1 (start N vs) H _ I hq) (fun fl s' hs => ?_) fun e s' hs => hs
  have fin : ∀ {σ' : L2.St} {H' : Hp} {v : V} {u : Value}, Inv (cxOf CX P w K mg base N qual scope f cdv A outer s H E) [] σ' H' s' → RelV v u → Q v H' → CE outer P w H s Q u s' := fun {_ H' v _} J rv q => ⟨v, H', J.os, J.bare, J.base, J.hok, rv, q⟩
  cases fl with
  | ret u =>
    obtain ⟨v, σ', H', J, rv, q⟩ := hs
    exact fin J rv q
  | next =>
    obtain ⟨σ', H', J, q⟩ := hs
    exact fin (v := V.non) (u := Value.none) J rfl q
  | brk => exact hs.choose_spec.choose_spec.2.elim
  | cont => exact hs.choose_spec.choose_spec.2.elim
/-- by its name -/
structure OkP (P : Program) (w : World) (K : PySem.W.Frag) (mg : Str → Option Value) (base : Heap) (CX : CXT) (k : Nat) (x : Str) (ps : List Str) (sp : SpS) : Prop where
  ex : ∃ f fd, mg x = some (.ref f) ∧ PySem.W.keepIn K (.ref f) = true ∧ Binds K fd ps [] ∧ FnP P w K mg base CX k f fd ps sp
theorem okP {x : Str} {st : Stmt} {N ps : List Str} {sp : SpS} (D : Bx.Dfn K mg x st ps) (S : FnScope N ps (defScope st)) (len : ∀ A s vs H Q E, sp A s vs H Q E → vs.length = ps.length)
    (hbody : ∀ (f : Addr) (cdv : Value) (A : Around) (outer : List Env) (s : Shared) (H : Hp) (vs : List V) (Q : VK) (E : XK), Room k (A.deeper (envOfC x (defScope st) s.heap.objs.size f cdv)) → sp A s vs H Q E →
      ∃ t, PSs (cxOf CX P w K mg base N x (defScope st) f cdv A outer s H E) (defBody st) t ∧ t { nx := fun _ H' => Q .non H', rt := Q } (start N vs) H) : OkP P w K mg base CX (k + 1) x ps sp := by
  obtain ⟨f, fd, g, F, b⟩ := D.ex
  obtain ⟨oc, od, kV, doc, pm, an, cdv, ct, osl, rfl, lk, hcd⟩ := F.ex
  exact ⟨f, _, g, F.kp, b, fnp_of lk hcd S len fun A outer s H vs Q E hr hsp => hbody f cdv A outer s H vs Q E hr hsp⟩
end
section
variable {X : Cx} {CX : CXT} {k : Nat} {x : Str} {ps : List Str} {sp : SpS} {E : L2.St → XK} {e : Expr} {es : List Expr} {t : TA} {p pos : Pos}
/-- the call: rd is what is asked of the values and the abstract heap; the rest comes of the state itself -/
theorem pe_doP (o : OkP X.prog X.w X.K X.mg X.base CX k x ps sp) (rd : L2.St → List V → Hp → VK → Prop) (hrd : ∀ (pins : List (Addr × Obj)) (σ : L2.St) (H : Hp) (s : Shared) (vs : List V) (Q : VK), Inv X pins σ H s → rd σ vs H Q → sp X.A s vs H Q (E σ)) (hr : Room k X.A) (hx : ∀ σ, PassesAt CX X σ (E σ)) (ha : PA X (e :: es) t)
    (hg : Gl X x := by rfl) (hdb : (x == ("__debug__" : Str)) = false := by decide) (he : starEach (e :: es) X.env = (false, eval e X.env) :: starEach es X.env := by rfl) (hpl : (backTo pos (starEach es X.env)).any (·.1) = false := by rfl) :
    PE X (.Call (.Name x p) (e :: es) [] pos) (fun σ H Q => t σ H fun vs H1 => rd σ vs H1 Q) := by
  obtain ⟨f, fd, g, kp, b, F⟩ := o.ex
  refine ⟨fun pins s σ H Q I h => wpAny_Call_Name_kw (ld_glob I hg g (PySem.W.callWith_K (h₀ := X.base) I.ok.mod.kin kp (thn (ha.run pos pins s σ H _ I h) fun us s1 hq => ?_) he hpl) hdb)⟩
  obtain ⟨vs, H1, I1, r, q⟩ := hq
  refine ⟨I1.kIn, ?_⟩
  have hs := hrd pins σ H1 s1 vs Q I1 q
  have hl : us.length = ps.length := by rw [← r.length]; exact F.len _ _ _ _ _ _ hs
  have bt := b s1 us I1.kIn (by rw [List.append_nil]; exact hl)
  rw [List.append_nil] at bt
  refine wpAny_call (codeAny_mono (F.run X.A X.stack s1 H1 ⟨us, []⟩ us vs Q (E σ) hr I1.env0 bt r hs) fun rr s' hq => ?_)
  cases rr with
  | error er => exact hx σ pins H1 s1 er s' I1 hq
  | ok fl =>
    cases fl with
    | ret u => exact I1.after hq
    | next => exact hq.elim
    | brk => exact hq.elim
    | cont => exact hq.elim
end
end Kx
set_option maxHeartbeats 2000000
namespace Kx
open PySem PySem.Spec PyProof.Rows L2 LamX NdefX
/-- a function that a lambda makes -/
structure LF where
  qual : Str
  params : Arguments
  body : Expr
  scope : Scope
  cl : List (Str × Addr)
  c : Addr
abbrev LF.nf (F : LF) : NF := ⟨"<lambda>", F.qual, F.params, [], F.scope, F.cl, F.c⟩
abbrev LF.fd (F : LF) (pm ctv : Value) : FuncData := PySem.W.kla_fn "<lambda>" F.qual F.params F.body F.scope F.cl pm (.ref F.c) ctv
def LFo (f : Addr) (F : LF) : HO := .ext fun h => ∃ (od : Option Addr) (sl : Array (Option Value)) (pm ctv : Value), h.get? f = some (⟨.type "function", od, .func (F.fd pm ctv), sl⟩ : Obj)
theorem lfo_ne {f : Addr} {F : LF} (ps : Array Value) : LFo f F ≠ .tbl ps := by unfold LFo; exact nofun
/-- the promise of a lambda's function at any call -/
structure LOk (P : Program) (w : World) (K : PySem.W.Frag) (mg : Str → Option Value) (base : Heap) (CX : CXT) (k : Nat) (f : Addr) (F : LF) (fr : List Str) (sp : List (Option V) → Sp) : Prop where
  run : ∀ (A : Around) (outer : List Env) (s : Shared) (H : Hp) (ws : List (Option V)) (Q : VK) (E : XK), Room k A → Env0 P w K mg base A outer s H → H f = some (LFo f F) → H F.c = some (CodeO F.c F.qual) →
    CellsAt F.cl fr ws s.heap H → sp ws [] H Q E → codeAny (model P w) A (.call (.ref f) ⟨[], []⟩) (CR CX outer P w H s Q E) s
section
variable {P : Program} {w : World} {K : PySem.W.Frag} {mg : Str → Option Value} {base : Heap} {CX : CXT} {k : Nat} {N fr : List Str} {F : LF} {f : Addr} {sp : List (Option V) → Sp}
theorem lok_of (S : NScope N [] fr F.scope) (hb : ∀ pm ctv, bindArgs (F.fd pm ctv) ⟨[], []⟩ = pure [])
    (hbody : ∀ (A : Around) (outer : List Env) (s : Shared) (H : Hp) (ws : List (Option V)) (Q : VK) (E : XK), Room k (A.deeper (envF F.nf f s.heap.objs.size)) → ws.length = fr.length → sp ws [] H Q E → ∃ t, PE (ncx CX P w K mg base N F.nf f A outer s H E) F.body t ∧ t (startF N [] ws) H Q) : LOk P w K mg base CX (k + 1) f F fr sp := by
  refine ⟨fun A outer s H ws Q E hr e0 hf hc C hsp => ?_⟩
  have lim : s.heap.NoLimit := e0.mod.nolimit.keeps fun b o z => (e0.bs b o z).1
  obtain ⟨⟨od, sl, pm, ctv, ho⟩, _⟩ := e0.hok f _ hf
  refine PySem.W.kla_callFunE hr.depth ho rfl S.co S.gen rfl (codeO_at e0.hok hc) ?_
  rw [hb pm ctv]
  refine wpAny_pure (wpAny_newFunctionEnv S.nocell (fun y hy => absurd hy (by simp)) (fun h₁ hns hsb => ⟨lim.fresh _ hsb, ?_⟩) S.kind)
  show codeAny _ _ (.expr F.body (envF F.nf f s.heap.objs.size)) _ _
  obtain ⟨t, ht, hq⟩ := hbody A outer s H ws Q E (hr.deeper _) C.len hsp
  have I : Inv (ncx CX P w K mg base N F.nf f A outer s H E) [] (startF N [] ws) H { s with heap := h₁, toks := s.toks + ([] : List (Str × Value)).length } := inv_startN (us := []) S hr.hd e0 rfl .nil C hns fun b o z => hsb.extBut b o (Nat.ne_of_lt (Heap.lt_size z)) (Heap.get?_push_of_some _ z)
  refine PySem.W.kla_codeExpr (wpAny_mono (ht.run [] _ _ H Q I hq) (fun v s' h => ?_) fun e s' h => h)
  obtain ⟨x, H', J, rv, q⟩ := h
  exact ⟨x, H', J.os, J.bare, J.base, J.hok, rv, q⟩
end
section
variable {X : Cx} {CX : CXT} {F : LF} {cl : List (Str × Addr)} {fr : List Str} {ws : List (Option V)} {f : Addr} {i j k : Nat} {x : Str} {sp : List (Option V) → Sp} {E : L2.St → XK} {p pos : Pos} {pins : List (Addr × Obj)} {σ : L2.St} {H : Hp} {s : Shared}
/-- cells that were there at the entry, and not tracked, hold what they held -/
theorem caps_keep (I : Inv X pins σ H s) (hex : X.ex = []) (C : CellsAt cl fr ws X.s_0.heap X.H_0) : CellsAt cl fr ws s.heap H := by
  have go : ∀ {c : Addr} {v : Option Value}, X.H_0 c = none → X.s_0.heap.IsCell c v → s.heap.IsCell c v := fun {c v} n ⟨o, ho, hd⟩ => by
    obtain ⟨sl, q⟩ := I.base.any ho n (by rw [hex]; intro z; cases z)
    exact ⟨_, q, hd⟩
  refine ⟨C.len, fun y c e => ?_, C.inj, fun i y e => ?_⟩
  · obtain ⟨n, v, o, ho, hd⟩ := C.all y c e
    exact ⟨I.base.free c o ho n (by rw [hex]; intro z; cases z), v, go n ⟨o, ho, hd⟩⟩
  · obtain ⟨c, e1, e2⟩ := C.has i y e
    refine ⟨c, e1, fun v hv => ?_⟩
    obtain ⟨u, r, q⟩ := e2 v hv
    exact ⟨u, r, go (C.all y c e1).1 q⟩
/-- x(), x a name that holds a closure whose cells were there at the entry -/
theorem pe_clos0 (Fn : LOk X.prog X.w X.K X.mg X.base CX k f F fr sp) (C : CellsAt F.cl fr ws X.s_0.heap X.H_0) (hex : X.ex = []) (hr : Room j X.A) (hk : k ≤ j) (hx : ∀ σ, PassesAt CX X σ (E σ)) (hN : X.N[i]? = some x) (hv : Vis X.env.scope x)
    (hd : (x == ("__debug__" : Str)) = false := by decide) (hcd : (x == ("__classdict__" : Str)) = false := by decide) :
    PE X (.Call (.Name x p) [] [] pos) (fun σ H Q => σ[i]? = some (some (.ref f)) ∧ H f = some (LFo f F) ∧ H F.c = some (CodeO F.c F.qual) ∧ sp ws [] H Q (E σ)) := by
  refine ⟨fun pins s σ H Q I ⟨e1, e2, e3, q⟩ => wpAny_Call_Name_kw (thn ((pe_var (pos := p) hN hv hd hcd).run pins s σ H (fun v H1 => v = .ref f ∧ H1 = H) I ⟨.ref f, e1, rfl, rfl⟩) fun u s1 hq => ?_)⟩
  obtain ⟨v, H1, I1, r1, rfl, rfl⟩ := hq
  obtain rfl : u = Value.ref f := r1
  obtain ⟨⟨od, sl, pm, ctv, ho⟩, _⟩ := I1.hok f _ e2
  refine PySem.W.callWith_F0 (first := []) ⟨_, _, _, _, ho⟩ ?_
  show wpAny _ _ (call (.ref f) []) _ _ _
  refine wpAny_call (codeAny_mono (Fn.run X.A X.stack s1 H1 ws Q (E σ) (hr.mono hk) I1.env0 e2 e3 (caps_keep I1 hex C) q) fun r s' hq => ?_)
  cases r with
  | error e => exact hx σ pins H1 s1 e s' I1 hq
  | ok fl =>
    cases fl with
    | ret u => exact I1.after hq
    | next => exact hq.elim
    | brk => exact hq.elim
    | cont => exact hq.elim
end
end Kx
set_option maxHeartbeats 4000000
namespace U
open PySem PySem.Spec PyProof.Rows L2 GxR Bx Gx Ex Sx RZ Kx Dx
/-- a class that comes: its kind, its field -/
structure CF (K : PySem.W.Frag) (cl : Str → Addr) (D : Addr) (kind fld : Str) : Prop where
  ec : ExcC K D
  kits : ∃ b, Kits K cl D b ∧ ((kindPairs.filter fun q => b q.2).map fun q => V.str q.1) = [.str kind, .str "ours", .str "value"]
  xf : XfC K D
  no : PySem.W.findIn K (.ref D) fld = some none
  ex : PySem.W.exmOne K (.ref D) (.ref (cl "UnseenError")) = some true
  fit : (kind = "table" ∨ kind = "run") ∧ fld = "place" ∨ (kind ≠ "table" ∧ kind ≠ "run") ∧ fld = "number"
section
variable {P : Program} {w : World} {K : PySem.W.Frag} {mg : Str → Option Value} {base : Heap} {Ps : List Addr}
theorem shaped_ov : SeqAt.shaped (.list [.str ("ours" : Str), .str ("value" : Str)]) = true := by decide +kernel
theorem inTR {k : Str} (h : k = "table" ∨ k = "run") : inV (V.str k) [V.str "table", V.str "run"] = true := by
  rcases h with rfl | rfl
  · decide +kernel
  · decide +kernel
theorem inTR' {k : Str} (h : k ≠ "table" ∧ k ≠ "run") : inV (V.str k) [V.str "table", V.str "run"] = false := by
  unfold inV
  rw [List.any_cons, List.any_cons, List.any_nil, Bool.or_false, Bool.or_eq_false_iff]
  exact ⟨beq_eq_false_iff_ne.mpr h.1.symm, beq_eq_false_iff_ne.mpr h.2.symm⟩
theorem sc_law_told : FnScope ["deed", "wrong", "told", "e", "kinds"] ["deed"] (defScope s_law_told) := ⟨rfl, rfl, rfl, by decide +kernel, rfl, by decide +kernel, by decide +kernel⟩
/-- what told makes of a deed -/
def ToldQ (Ps : List Addr) (H : Hp) (Q : VK) : VK := fun v H' => Kp Ps H H' ∧ Q v H'
def ToldE (K : PySem.W.Frag) (Ps : List Addr) (cl : Str → Addr) (H : Hp) (Q : VK) : XK := fun cls d H' => ∃ D dd kind fld v, cls = .ref D ∧ d = some dd ∧ Kp Ps H H' ∧ H' dd = some (.xd [(fld, v)]) ∧ CF K cl D kind fld ∧ ∀ p H'', Kp Ps H H'' → H'' p = some (.tup [.str kind, v]) → Q (.ref p) H''
def spTold (P : Program) (w : World) (K : PySem.W.Frag) (mg : Str → Option Value) (base : Heap) (Ps : List Addr) (cl : Str → Addr) (k : Nat) : SpS := fun _ s vs H Q _ => ∃ (f : Addr) (F : LF) (fr : List Str) (ws : List (Option V)) (sp : List (Option V) → Sp), vs = [.ref f] ∧ H f = some (LFo f F) ∧ H F.c = some (LamX.CodeO F.c F.qual) ∧
  NdefX.CellsAt F.cl fr ws s.heap H ∧ LOk P w K mg base (L2.CX P w) k f F fr sp ∧ ∀ H1 Q' E', Kp Ps H H1 → (∀ v H', ToldQ Ps H Q v H' → Q' v H') → (∀ c d H', ToldE K Ps cl H Q c d H' → E' c d H') → sp ws [] H1 Q' E'
theorem ok_told {cl : Str → Addr} {k : Nat} (D : Dfn K mg "_law_told" s_law_told ["deed"]) (B : BN mg) (N : ClN mg cl) (o1 : Okd P w K mg base CX0 1 "_law_kinds" ["error"] (spKinds K Ps cl)) (hk1 : 1 ≤ k) :
    OkP P w K mg base CX0 (k + 1) "_law_told" ["deed"] (spTold P w K mg base Ps cl k) := by
  refine okP D sc_law_told (fun A s vs H Q E h => ?_) (fun f cdv A outer s H vs Q E hr h => ?_)
  · obtain ⟨f, F, fr, ws, sp, rfl, _⟩ := h; rfl
  · obtain ⟨df, F, fr, ws, sp, rfl, hf, hc, C, Fn, q⟩ := h
    have nd := sc_law_told.nd
    refine ⟨_, pss_cons (ps_asg (pe_tup (pa_cons pe_non (pa_cons pe_non pa_nil))) (pg_tup rfl (pgs_cons (pg_name (i := 1) nd rfl (.inl rfl)) (pgs_cons (pg_name (i := 2) nd rfl (.inl rfl)) pgs_nil))))
      (pss_cons (ps_try_keep (i := 3) rfl rfl rfl nd rfl rfl ⟨rfl, by decide, .inl (N.own "UnseenError" (by decide))⟩ (fun W pn xe tk _ => pss_one (ps_set (i := 2) nd rfl (.inl rfl) (pe_clos0 (i := 0) (E := WE W) Fn C rfl hr (Nat.le_refl _) (fun σ => passAt tk σ) rfl (.inl rfl))))
        (fun a oe cls d pn _ _ => pss_one (ps_set (i := 1) nd rfl (.inl rfl) (pv 3))))
      (pss_cons (ps_if (pt_cmp (pc_isN (pv 1))) (pss_one (ps_ret (pv 2))) pss_nil)
      (pss_cons (ps_set (i := 4) nd rfl (.inl rfl) (pe_do o1 (hr.mono hk1) (pa_cons (pv 1) pa_nil)))
      (pss_cons (ps_if (pt_neD K (pe_slice sl_list (pv 4) (po_some pe_int) po_none) (pe_lst (pa_cons pe_str (pa_cons pe_str pa_nil))) (u64 hr)) (pss_one (ps_ret (pe_tup (pa_cons pe_str (pa_cons pe_int pa_nil))))) pss_nil)
      (pss_one (ps_ret (pe_tup (pa_cons (pe_ixL K (pv 4) pe_int) (pa_cons (pe_ifExp (pt_cmpR op_in_seq (pe_ixL K (pv 4) pe_int) (pe_tup (pa_cons pe_str (pa_cons pe_str pa_nil))) rfl) (pe_keptF (pv 1)) (pe_keptF (pv 1))) pa_nil))))))))), ?_⟩
    refine ⟨by decide, fun p1 n1 => ⟨p1, _, rfl, .inl (.of upd_same), rfl, _, _, rfl, _, _, rfl, rfl, ?_⟩⟩
    have k1 : Kp Ps H (upd H p1 (.tup [V.non, V.non])) := Kp.new n1
    refine ⟨rfl, k1.old _ _ hf (fun ps z => by cases z), k1.old _ _ hc (fun ps z => by cases z), q _ _ _ k1 (fun v H' h => ?_) fun c d H' h => ?_⟩
    · obtain ⟨_, qv⟩ := h
      exact ⟨_, rfl, _, rfl, iteT ⟨_, rfl, qv⟩⟩
    · obtain ⟨D, dd, kind, fld, v, rfl, rfl, k2, hd, cf, qv⟩ := h
      refine ⟨cf.ex, fun a na => ⟨_, rfl, ?_⟩⟩
      have k3 : Kp Ps H' (upd H' a (EXO a (.ref D) (some dd))) := Kp.new na
      have kp : Kept (upd H' a (EXO a (.ref D) (some dd))) a D dd [(fld, v)] := ⟨upd_same, by rw [upd_ne (ne_of_none hd na)]; exact hd⟩
      obtain ⟨b, kits, hk⟩ := cf.kits
      refine ⟨_, rfl, _, rfl, iteF ?_⟩
      refine ⟨_, rfl, a, D, dd, _, b, rfl, kp, cf.ec, kits, fun p H4 k4 n4 h4 => ?_⟩
      rw [hk] at h4
      refine ⟨_, rfl, _, rfl, ?_⟩
      dsimp only [tNoPart]
      refine ⟨p, _, rfl, .inl (.of h4), fun p5 n5 => ⟨by decide, fun p6 n6 => ?_⟩⟩
      have hcut : cutV [V.str kind, V.str "ours", V.str "value"] (some 1) none = [V.str "ours", V.str "value"] := rfl
      have k5 := Kp.new (Ps := Ps) (o := .lst (cutV [V.str kind, V.str "ours", V.str "value"] (some 1) none)) n5
      have k6 := Kp.new (Ps := Ps) (o := .lst [V.str "ours", V.str "value"]) n6
      have k36 := ((k3.trans k4).trans k5).trans k6
      have kp6 := Kept.kp ((k4.trans k5).trans k6) kp
      have h6 := (k5.trans k6).lst h4
      have e5 := k6.lst (xs := cutV [V.str kind, V.str "ours", V.str "value"] (some 1) none) (a := p5) upd_same
      rw [hcut] at e5
      refine ⟨.list [.str "ours", .str "value"], .list [.str "ours", .str "value"], .lst (.inl (.of e5)) (.cons (.str _) (.cons (.str _) .nil)), .lst (.inl (.of upd_same)) (.cons (.str _) (.cons (.str _) .nil)), shaped_ov, shaped_ov, false, congrArg V.bl (by decide +kernel), iteF ?_⟩
      refine ⟨_, rfl, p, _, 0, V.str kind, rfl, rfl, .inl (.of h6), rfl, ?_⟩
      refine ⟨_, rfl, p, _, 0, V.str kind, rfl, rfl, .inl (.of h6), rfl, by decide, fun p7 n7 => ⟨p7, _, rfl, .inr (.inl (.of upd_same)), rfl, rfl, _, rfl, ?_⟩⟩
      have k7 := Kp.new (Ps := Ps) (o := .tup [V.str "table", V.str "run"]) n7
      have kp7 := Kept.kp k7 kp6
      have fin : ∀ f, f = fld → PySem.W.findIn K (.ref D) f = some none → tKf K f (tVar 1) [some (.ref df), some (.ref a), some .non, none, some (.ref p)] (upd _ p7 (.tup [V.str "table", V.str "run"])) (fun x H1 => [V.str kind, x].length ≤ sizeLine ∧ ∀ q, H1 q = none → Q (.ref q) (upd H1 q (.tup [V.str kind, x]))) := fun f hf no => by
        subst hf
        exact ⟨_, rfl, a, D, dd, _, v, rfl, cf.xf, no, kp7, by rw [List.lookup_cons_self], (by show 2 ≤ sizeLine; decide), fun q n8 => qv q _ (((k2.trans k36).trans k7).trans (Kp.new n8)) upd_same⟩
      show (if inV (V.str kind) [V.str "table", V.str "run"] = true then _ else _)
      rcases cf.fit with ⟨h, hf⟩ | ⟨h, hf⟩
      · rw [if_pos (inTR h)]
        exact fin _ hf.symm (hf ▸ cf.no)
      · rw [if_neg (by rw [inTR' h]; exact Bool.false_ne_true)]
        exact fin _ hf.symm (hf ▸ cf.no)
end
end U
set_option maxHeartbeats 4000000
namespace U
open PySem PySem.Spec PyProof.Rows L2 GxR Bx Gx Ex Sx RZ Kx Dx
/-- repr of data, where no repr is under way -/
def rRpr (K : PySem.W.Frag) : List V → Hp → VK → Prop := fun xs H Q => ∃ p d, xs = [.ref p] ∧ Dp K H (.ref p) d ∧ PyData.showable d = true ∧ PyData.hasDict d = false ∧ d.depth ≤ 32 ∧ d.shown.length ≤ sizeLine ∧ Q (.str d.shown) H
theorem call_reprD {X : Cx} (hg : X.A.guards = some []) (hu : X.A.units + 64 < cLine) : CallR X (.builtin "repr") (rRpr X.K) := by
  intro pins s σ H xs us Q I r h
  obtain ⟨p, d, rfl, hd, sh, nd, dp, hz, q⟩ := h
  obtain ⟨u, rfl, ru⟩ := vals1 r
  obtain ⟨as, rr⟩ := Dp.reads I d _ u hd ru
  obtain rfl : u = Value.ref p := ru
  exact repr_of_reads' rr sh (fun e => by rw [nd] at e; cases e) hg (by omega) (fun _ _ e => e) (fun h' u tk hk => ⟨.str d.shown, H, I.kept hk, ⟨u, rfl⟩, q⟩) hz
theorem pe_repr (K : PySem.W.Frag) {X : Cx} {e : Expr} {te : TE} {p pos : Pos} (hg : X.A.guards = some []) (hu : X.A.units + 64 < cLine) (hm : X.mg "repr" = none) (he : PE X e te) (hgl : Gl X "repr" := by rfl) (hK : X.K = K := by rfl)
    (hs : starEach [e] X.env = (false, eval e X.env) :: starEach [] X.env := by rfl) (hpl : (backTo pos (starEach [] X.env)).any (·.1) = false := by rfl) :
    PE X (.Call (.Name "repr" p) [e] [] pos) (tCB (rRpr K) (tCons te tNil)) := by
  subst hK
  exact pe_callB (call_reprD hg hu) hgl hm boot_repr (pa_cons he pa_nil hs) (by decide) (by decide) hs hpl
section
variable {P : Program} {w : World} {K : PySem.W.Frag} {mg : Str → Option Value} {base : Heap} {Ps : List Addr}
theorem sc_law_refused_right : FnScope ["kind", "bad", "deed", "told"] ["kind", "bad", "deed"] (defScope s_law_refused_right) := ⟨rfl, rfl, rfl, by decide +kernel, rfl, by decide +kernel, by decide +kernel⟩
/-- v is no tuple -/
def NoTup (K : PySem.W.Frag) (H : Hp) (v : V) : Prop := ∃ t, TyX K H v t ∧ PySem.W.kitOne K t (.type "tuple") = some false
/-- the pair told is shown -/
structure Shows (kind : Str) (x : V) (d : PyData) : Prop where
  dp : ∀ (K : PySem.W.Frag) (H : Hp), Dp K H x d
  sh : PyData.showable (.tuple [.str kind, d]) = true
  nd : PyData.hasDict (.tuple [.str kind, d]) = false
  de : PyData.depth (.tuple [.str kind, d]) ≤ 32
  sz : (PyData.shown (.tuple [.str kind, d])).length ≤ sizeLine
def RRE (K : PySem.W.Frag) (Ps : List Addr) (cl : Str → Addr) (H : Hp) (kind : Str) (o : Option V) : XK := fun c d H' => ∃ D dd fld x, o = some x ∧ c = .ref D ∧ d = some dd ∧ Kp Ps H H' ∧ H' dd = some (.xd [(fld, x)]) ∧ CF K cl D kind fld
def spRR (P : Program) (w : World) (K : PySem.W.Frag) (mg : Str → Option Value) (base : Heap) (Ps : List Addr) (cl : Str → Addr) (k : Nat) : SpS := fun A s vs H Q _ => ∃ (kind : Str) (bp f : Addr) (o : Option V) (F : LF) (fr : List Str) (ws : List (Option V)) (sp : List (Option V) → Sp), vs = [.str kind, .ref bp, .ref f] ∧
  A.guards = some [] ∧ H bp = some (.lst (optL o)) ∧ Tol o ∧ (∀ x, o = some x → ∃ d, Shows kind x d) ∧ H f = some (LFo f F) ∧ H F.c = some (LamX.CodeO F.c F.qual) ∧ NdefX.CellsAt F.cl fr ws s.heap H ∧ LOk P w K mg base (L2.CX P w) k f F fr sp ∧
  (∀ H1 Q' E', Kp Ps H H1 → (∀ v H', o = none → Kp Ps H H' → (∀ H2, Kp Ps H' H2 → NoTup K H2 v) → Q' v H') → (∀ c d H', RRE K Ps cl H kind o c d H' → E' c d H') → sp ws [] H1 Q' E') ∧ ∀ H', Kp Ps H H' → Q (.bl true) H'
theorem ok_refused_right {cl : Str → Addr} {k : Nat} (D : Dfn K mg "_law_refused_right" s_law_refused_right ["kind", "bad", "deed"]) (B : BN mg) (hrp : mg "repr" = none) (o1 : OkP P w K mg base CX0 (k + 1) "_law_told" ["deed"] (spTold P w K mg base Ps cl k)) :
    OkP P w K mg base CX0 (k + 2) "_law_refused_right" ["kind", "bad", "deed"] (spRR P w K mg base Ps cl k) := by
  refine okP D sc_law_refused_right (fun A s vs H Q E h => ?_) (fun f cdv A outer s H vs Q E hr h => ?_)
  · obtain ⟨kind, bp, f, o, F, fr, ws, sp, rfl, _⟩ := h; rfl
  · obtain ⟨kind, bp, df, o, F, fr, ws, sp, rfl, hgd, hbp, tol, shw, hf, hc, C, Fn, q, qq⟩ := h
    have nd := sc_law_refused_right.nd
    have hgd' : (A.deeper (envOfC "_law_refused_right" (defScope s_law_refused_right) s.heap.objs.size f cdv)).guards = some [] := hgd
    refine ⟨_, pss_cons (ps_set (i := 3) nd rfl (.inl rfl) (pe_doP o1 (fun _ vs H1 Q' => vs = [.ref df] ∧ H1 df = some (LFo df F) ∧ H1 F.c = some (LamX.CodeO F.c F.qual) ∧ ∀ H2 Q2 E2, Kp Ps H1 H2 → (∀ v H', ToldQ Ps H1 Q' v H' → Q2 v H') → (∀ c d H', ToldE K Ps cl H1 Q' c d H' → E2 c d H') → sp ws [] H2 Q2 E2)
        (fun pins σ H1 s1 vs Q' I h => ⟨df, F, fr, ws, sp, h.1, h.2.1, h.2.2.1, caps_keep I rfl C, Fn, h.2.2.2⟩) hr (E := fun _ => E0) (fun σ pins H1 s1 e s' I c => c.elim) (pa_cons (pv 2) pa_nil)))
      (pss_one (ps_ret (pe_ifExp (pt_neD K (pv 1) (pe_lst pa_nil) (u64 hr))
        (pe_cmpR op_eq (pe_repr K hgd' (u64 hr) hrp (pv 3)) (pe_repr K hgd' (u64 hr) hrp (pe_tup (pa_cons (pv 0) (pa_cons (pe_ixL K (pv 1) pe_int) pa_nil)))) rfl)
        (pe_not (pe_isi (pv 3) boot_tuple B.tuple B.isinstance))))), ?_⟩
    refine ⟨_, rfl, rfl, hf, hc, fun H2 Q2 E2 k2 wa wb => q H2 Q2 E2 k2 (fun v H' ho k' nt => wa v H' ⟨k', ?_⟩) fun c d H' he => ?_⟩
    · subst ho
      refine ⟨_, rfl, by decide, ne_nil tol (k'.lst hbp) fun e ne => ⟨_, rfl, iteF ?_⟩⟩
      have ke := Kp.new (Ps := Ps) (o := .lst []) ne
      obtain ⟨t, ty, kt⟩ := nt _ ke
      refine ⟨_, rfl, _, .ty "tuple", _, _, _, rfl, .ty _, ty, kt, ?_⟩
      exact ⟨_, rfl, qq _ (k'.trans ke)⟩
    · obtain ⟨D, dd, fld, x, rfl, rfl, rfl, k', hd, cf⟩ := he
      refine wb _ _ _ ⟨D, dd, kind, fld, x, rfl, rfl, k', hd, cf, fun p H3 k3 hp => ?_⟩
      obtain ⟨dx, sh⟩ := shw x rfl
      have tl : Dp K H3 (.ref p) (.tuple [.str kind, dx]) := .tup (.inl (.of hp)) (.cons (.str _) (.cons (sh.dp _ _) .nil))
      refine ⟨_, rfl, by decide, ne_nil tol (k3.lst hbp) fun e ne => ⟨_, rfl, iteT ?_⟩⟩
      have ke := Kp.new (Ps := Ps) (o := .lst []) ne
      refine ⟨_, rfl, p, .tuple [.str kind, dx], rfl, .tup (.inl (.of (ke.tup hp))) (.cons (.str _) (.cons (sh.dp _ _) .nil)), sh.sh, sh.nd, sh.de, sh.sz, ?_⟩
      refine ⟨_, rfl, _, rfl, _, _, 0, x, rfl, rfl, .inl (.of (ke.lst (k3.lst hbp))), rfl, (by show 2 ≤ sizeLine; decide), fun p2 n2 => ?_⟩
      have k2' := Kp.new (Ps := Ps) (o := .tup [.str kind, x]) n2
      refine ⟨p2, .tuple [.str kind, dx], rfl, .tup (.inl (.of upd_same)) (.cons (.str _) (.cons (sh.dp _ _) .nil)), sh.sh, sh.nd, sh.de, sh.sz, rfl, ?_⟩
      rw [decide_eq_true rfl]
      exact qq _ ((k3.trans ke).trans k2')
end
end U
set_option maxHeartbeats 2000000
namespace Kx
open PySem PySem.Spec PyProof.Rows L2 LamX NdefX
section
variable {X : Cx} {pins : List (Addr × Obj)} {σ : L2.St} {H : Hp} {s : Shared}
theorem inv_lf {F : LF} {o : Obj} {t' : Nat} {pm ctv : Value} (I : Inv X pins σ H s) (ho : o = { cls := .type "function", data := .func (F.fd pm ctv) }) : Inv X pins σ (upd H s.heap.objs.size (LFo s.heap.objs.size F)) { s with heap := s.heap.push o, toks := t' } := by
  cases ho
  have z : (s.heap.push ({ cls := .type "function", data := .func (F.fd pm ctv) } : Obj)).get? s.heap.objs.size = some ({ cls := .type "function", data := .func (F.fd pm ctv) } : Obj) := Heap.get?_push_size _ rfl
  exact I.laid (a := s.heap.objs.size) (fun b u q => Heap.get?_push_of_some _ q) (Nat.le_refl _) ⟨⟨_, _, pm, ctv, z⟩, ⟨_, z⟩, fun h1 h2 ⟨od, sl, p, t, q⟩ st => ⟨od, sl, p, t, st _ q⟩⟩
/-- the function that a lambda of the running frame makes -/
abbrev lamL (X : Cx) (params : Arguments) (body : Expr) (scope : Scope) (c : Addr) : LF := ⟨X.env.qual ++ "<lambda>", params, body, scope, cloFrom X.env.cells scope.names [], c⟩
theorem lamv_make {T : List NTab} {nm : Nat → Nat → Str} {c P : Addr} {params : Arguments} {body : Expr} {scope : Scope} {pos : Pos} {E : Value → Shared → Prop} {Q : Value → Shared → Prop} (I : Inv X pins σ H s) (TB : TabB X.base X.mg c P) (hcode : X.env.code = .ref c) (hm : (P, nm) ∈ T) (hn : nm pos.line pos.col = X.env.qual ++ "<lambda>")
    (hu : ∀ p ∈ T, p.1 = P → p.2 = nm) (hT : TabsN T H) (hdef : defaultsOf params X.env = ([], [])) (hfree : ∀ y ∈ scope.names, y.2 = .free → ∃ c, X.env.cells.lookup y.1 = some c)
    (h : ∀ (f c' : Addr) (H1 : Hp) (s' : Shared), Inv X pins σ H1 s' → (∀ b o, b ≠ P → H b = some o → H1 b = some o) → (∀ b, H1 b = none → H b = none) → TabsN T H1 → H f = none → H1 f = some (LFo f (lamL X params body scope c')) → H1 c' = some (CodeO c' (X.env.qual ++ "<lambda>")) → Q (.ref f) s') :
    wpAny (model X.prog X.w) X.A (eval (.Lambda params body scope pos) X.env) Q E s := by
  have tn : TabN H P nm := hT (P, nm) hm
  obtain ⟨ps, hP, ht, ha⟩ := tn
  refine PySem.W.kla_eval hdef ?_
  have bP := TB.bm.keeps I.bk
  have hP' := I.hok P _ hP
  cases hc : codeAmong pos ps.toList with
  | some cv =>
    obtain ⟨c', rfl, hco⟩ := ha pos cv hc
    rw [hn] at hco
    refine PySem.W.kla_makeFunctionHit (mg := X.mg) (c := c) (P := P) (ps := ps) (closure_ok hfree) I.ok.glob (I.mod.glob.keeps I.bk) hcode (TB.code.keeps I.bk) hP' ht hc bP fun ctv h' tk hx hsz => ?_
    have I1 : Inv X pins σ H { s with heap := h', toks := tk } := I.kept hx
    have nF := I1.hok.fresh (Nat.le_refl _)
    have up : ∀ b o, H b = some o → upd H h'.objs.size (LFo h'.objs.size (lamL X params body scope c')) b = some o := fun b o z => (upd_ne (ne_of_none z nF)).trans z
    exact h h'.objs.size c' _ _ (inv_lf (F := lamL X params body scope c') (t' := tk) (pm := (X.mg "__name__").getD .none) (ctv := ctv) I1 rfl) (fun b o _ z => up b o z) (fun b z => upd_none z) (hT.ext up) nF upd_same (up _ _ hco)
  | none =>
    refine PySem.W.kla_makeFunction (mg := X.mg) (c := c) (P := P) (ps := ps) (closure_ok hfree) I.ok.glob (I.mod.glob.keeps I.bk) hcode (TB.code.keeps I.bk) hP' ht hc TB.gP bP fun c' ctv h' tk hx hge hlt hrec htb => ?_
    obtain ⟨c2, oc, vs, t, e2, hoc, hd, hv⟩ := hrec
    cases e2
    have nC : H c' = none := I.hok.fresh hge
    have hG : ∀ b o, b ≠ P → H b = some o → (upd (upd H P (.tbl (ps ++ #[rawInt pos.line, rawInt pos.col, .ref c']))) c' (CodeO c' (X.env.qual ++ "<lambda>"))) b = some o := fun b o hb z => by rw [upd_ne (ne_of_none z nC), upd_ne hb]; exact z
    have hE : ∀ c0 (q : Str), H c0 = some (CodeO c0 q) → (upd (upd H P (.tbl (ps ++ #[rawInt pos.line, rawInt pos.col, .ref c']))) c' (CodeO c' (X.env.qual ++ "<lambda>"))) c0 = some (CodeO c0 q) := fun c0 q z => hG _ _ (fun e => codeO_ne ps (Option.some.inj (z.symm.trans (e ▸ hP)))) z
    have I1 := inv_table (t' := tk) (more := #[rawInt pos.line, rawInt pos.col, .ref c']) (h' := h') I hP (fun b o hb z => hx b o hb z) htb hge ⟨oc, vs, t, hoc, hd, hv⟩
    have eL : (ps ++ #[rawInt pos.line, rawInt pos.col, .ref c']).toList = ps.toList ++ [rawInt pos.line, rawInt pos.col, .ref c'] := by simp
    have T1 : TabsN T (upd (upd H P (.tbl (ps ++ #[rawInt pos.line, rawInt pos.col, .ref c']))) c' (CodeO c' (X.env.qual ++ "<lambda>"))) := fun p hp => by
      by_cases hb : p.1 = P
      · rw [hu p hp hb, hb]
        refine ⟨_, by rw [upd_ne (ne_of_none hP nC), upd_same], by rw [eL]; exact PySem.TriplesOk_snoc _ _ _ _ ht, fun p' cv hcv => ?_⟩
        rw [eL] at hcv
        rcases among_app2 _ ht hcv with z | ⟨z, z1, z2⟩
        · obtain ⟨c0, a1, a2⟩ := ha p' cv z
          exact ⟨c0, a1, hE _ _ a2⟩
        · exact ⟨c', z, by rw [← z1, ← z2, hn]; exact upd_same⟩
      · obtain ⟨ps', a1, a2, a3⟩ := hT p hp
        refine ⟨ps', by rw [upd_ne (ne_of_none a1 nC), upd_ne hb]; exact a1, a2, fun p' cv hcv => ?_⟩
        obtain ⟨c0, b1, b2⟩ := a3 p' cv hcv
        exact ⟨c0, b1, hE _ _ b2⟩
    have nF := I1.hok.fresh (Nat.le_refl _)
    refine h h'.objs.size c' _ _ (inv_lf (F := lamL X params body scope c') (t' := tk) (pm := (X.mg "__name__").getD .none) (ctv := ctv) I1 rfl) (fun b o hb z => ?_) (fun b z => upd_none (upd_none (upd_none z))) (T1.ext fun b o z => (upd_ne (ne_of_none z nF)).trans z) (I.hok.fresh (Nat.le_trans hge (Nat.le_of_lt hlt))) upd_same ((upd_ne (Nat.ne_of_lt hlt)).trans upd_same)
    have z1 := hG b o hb z
    exact (upd_ne (ne_of_none z1 nF)).trans z1
end
/-- lambda: .., as a value -/
def tLamv (P : Addr) (T : List NTab) (mk : Addr → LF) : TE := fun _ H Q => TabsN T H ∧ ∀ (f c' : Addr) (H1 : Hp), (∀ b o, b ≠ P → H b = some o → H1 b = some o) → (∀ b, H1 b = none → H b = none) → TabsN T H1 → H f = none → H1 f = some (LFo f (mk c')) → H1 c' = some (CodeO c' (mk c').qual) → Q (.ref f) H1
theorem pe_lamv {X : Cx} {T : List NTab} {nm : Nat → Nat → Str} {c P : Addr} {params : Arguments} {body : Expr} {scope : Scope} {pos : Pos} (TB : TabB X.base X.mg c P) (hcode : X.env.code = .ref c) (hm : (P, nm) ∈ T) (hn : nm pos.line pos.col = X.env.qual ++ "<lambda>") (hu : ∀ p ∈ T, p.1 = P → p.2 = nm)
    (hfree : ∀ y ∈ scope.names, y.2 = .free → X.env.scope.names.lookup y.1 = some .cell ∨ X.env.scope.names.lookup y.1 = some .free) (hdef : defaultsOf params X.env = ([], []) := by rfl) : PE X (.Lambda params body scope pos) (tLamv P T (lamL X params body scope)) := by
  refine ⟨fun pins s σ H Q I h => ?_⟩
  exact lamv_make I TB hcode hm hn hu h.1 hdef (fun y hy e => (hfree y hy e).elim (fun z => I.ok.has _ (.inl z)) fun z => I.ok.has _ (.inr z)) fun f c' H1 s' I1 eN nn T1 f0 f1 c1 => ⟨.ref f, H1, I1, rfl, h.2 f c' H1 eN nn T1 f0 f1 c1⟩
end Kx
set_option maxHeartbeats 4000000
namespace U
open PySem PySem.Spec PyProof.Rows L2 GxR Bx Gx Ex Sx RZ Kx Dx NdefX LamX
section
variable {P : Program} {w : World} {K : PySem.W.Frag} {mg : Str → Option Value} {base : Heap} {Ps : List Addr}
/-- a lambda whose body is one call of a def that may raise -/
theorem lok_call {g : Str} {ps N fr : List Str} {sp : Sp} {k : Nat} {f : Addr} {F : LF} {e : Expr} {es : List Expr} {p pos : Pos} {ta : TA} (o : OkX P w K mg base k g ps sp) (S : NScope N [] fr F.scope) (hb : ∀ pm ctv, bindArgs (F.fd pm ctv) ⟨[], []⟩ = pure []) (hF : F.body = .Call (.Name g p) (e :: es) [] pos)
    (ha : ∀ (A : Around) (outer : List Env) (s : Shared) (H : Hp) (E : XK), PA (ncx (L2.CX P w) P w K mg base N F.nf f A outer s H E) (e :: es) ta) (hg : ∀ (A : Around) (outer : List Env) (s : Shared) (H : Hp) (E : XK), Gl (ncx (L2.CX P w) P w K mg base N F.nf f A outer s H E) g) (hdb : (g == ("__debug__" : Str)) = false)
    (he : ∀ (A : Around) (outer : List Env) (s : Shared) (H : Hp) (E : XK), starEach (e :: es) (ncx (L2.CX P w) P w K mg base N F.nf f A outer s H E).env = (false, eval e (ncx (L2.CX P w) P w K mg base N F.nf f A outer s H E).env) :: starEach es (ncx (L2.CX P w) P w K mg base N F.nf f A outer s H E).env ∧ (backTo pos (starEach es (ncx (L2.CX P w) P w K mg base N F.nf f A outer s H E).env)).any (·.1) = false) :
    LOk P w K mg base (L2.CX P w) (k + 1) f F fr (fun ws vs H Q E => vs = [] ∧ ta (startF N [] ws) H fun xs H1 => sp xs H1 Q E) := by
  refine lok_of S hb fun A outer s H ws Q E hr hl h => ?_
  rw [hF]
  exact ⟨_, pe_doX (X := ncx (L2.CX P w) P w K mg base N F.nf f A outer s H E) o hr (W := fun c d _ H' => E c d H') (takes_of rfl rfl rfl rfl) (ha A outer s H E) (hg A outer s H E) hdb (he A outer s H E).1 (he A outer s H E).2, h.2⟩
end
end U
set_option maxHeartbeats 4000000
namespace U
open PySem PySem.Spec PyProof.Rows L2 GxR Bx Gx Ex Sx RZ Kx Dx NdefX LamX
theorem shows_of {kind : Str} {x : V} {d : PyData} (dp : ∀ (K : PySem.W.Frag) (H : Hp), Dp K H x d) (h1 : (kind.cps.toList.all fun c => decide (c < 16 ^ 8)) = true) (h2 : d.leavesShort 100 = true) (h3 : d.showable = true) (h4 : d.hasDict = false) (h5 : d.depth ≤ 4) (h6 : kind.cps.size + d.weight ≤ 1000) : Shows kind x d where
  dp := dp
  sh := by simp only [PyData.showable, PyData.showableAll, h3, Bool.and_self]
  nd := by simp only [PyData.hasDict, PyData.hasDictAll, h4, Bool.or_self]
  de := by simp only [PyData.depth, PyData.depthAll]; omega
  sz := by
    have q := PyData.shown_le 100 (by decide) (.tuple [.str kind, d]) (by simp only [PyData.leavesShort, PyData.leavesShortAll, h1, h2, Bool.and_self])
    have z : (PyData.tuple [.str kind, d]).weight = kind.cps.size + 1 + (d.weight + 1 + 0) := by simp only [PyData.weight, PyData.weightAll]
    rw [z] at q
    have e := sizeLine_eq
    omega
theorem shows_non {kind : Str} (h1 : (kind.cps.toList.all fun c => decide (c < 16 ^ 8)) = true) (h6 : kind.cps.size ≤ 900) : Shows kind .non .none := shows_of (fun _ _ => .non) h1 (by simp only [PyData.leavesShort]) (by simp only [PyData.showable]) (by simp only [PyData.hasDict]) (by simp only [PyData.depth]; omega) (by simp only [PyData.weight]; omega)
theorem shows_int {kind : Str} {i : Int} (h1 : (kind.cps.toList.all fun c => decide (c < 16 ^ 8)) = true) (h6 : kind.cps.size ≤ 900) (hi : i.natAbs.log2 < 64) : Shows kind (.int i) (.int i) := by
  refine shows_of (fun _ _ => .int i) h1 ?_ ?_ (by simp only [PyData.hasDict]) (by simp only [PyData.depth]; omega) ?_
  · have e := int_text_length_le (k := 64) (by decide) hi
    have z : (PyData.shown (.int i)).length ≤ 100 := by
      show (Str.ofString (toString i)).length ≤ 100
      rw [PySem.ofString_length]
      omega
    simp only [PyData.leavesShort]
    exact decide_eq_true z
  · simp only [PyData.showable, decide_eq_true_eq]; omega
  · simp only [PyData.weight]
    split <;> omega
theorem shows_str {kind y : Str} (h1 : (kind.cps.toList.all fun c => decide (c < 16 ^ 8)) = true) (h6 : kind.cps.size + y.cps.size ≤ 900) (h2 : (y.cps.toList.all fun c => decide (c < 16 ^ 8)) = true) : Shows kind (.str y) (.str y) :=
  shows_of (fun _ _ => .str y) h1 (by simp only [PyData.leavesShort]; exact h2) (by simp only [PyData.showable]) (by simp only [PyData.hasDict]) (by simp only [PyData.depth]; omega) (by simp only [PyData.weight]; omega)
section
variable {Ps : List Addr} {H H1 : Hp} {P : Addr} {T : List NTab}
/-- what a lambda's making keeps -/
theorem Kp.lam {nm : Nat → Nat → Str} (hP : P ∈ Ps) (hm : (P, nm) ∈ T) (t0 : TabsN T H) (t1 : TabsN T H1) (g : ∀ b o, b ≠ P → H b = some o → H1 b = some o) : Kp Ps H H1 := by
  obtain ⟨p0, e0, _⟩ := (show TabN H P nm from t0 (P, nm) hm)
  obtain ⟨p1, e1, r1, _⟩ := (show TabN H1 P nm from t1 (P, nm) hm)
  have ne : ∀ {b o}, H b = some o → (∀ ps, o ≠ .tbl ps) → b ≠ P := fun {b o} e n z => n p0 (Option.some.inj (e.symm.trans (z ▸ e0)))
  refine ⟨fun b o e n => g b o (ne e n) e, fun t Q hQ => ?_, fun b ps e => ?_⟩
  · obtain ⟨q, e, r⟩ := t Q hQ
    by_cases hb : Q = P
    · exact ⟨p1, hb ▸ e1, r1⟩
    · exact ⟨q, g Q _ hb e, r⟩
  · by_cases hb : b = P
    · exact ⟨p1, hb ▸ e1, fun n => absurd (hb ▸ hP) n⟩
    · exact ⟨ps, g b _ hb e, fun _ => rfl⟩
end
end U
set_option maxHeartbeats 4000000
namespace U
open PySem PySem.Spec PyProof.Rows L2 GxR Bx Gx Ex Sx RZ Kx Dx NdefX LamX
section
variable {K : PySem.W.Frag} {Ps : List Addr} {cl : Str → Addr} {H H1 : Hp} {kind fld : Str} {C CT CS CU CR CN : Addr} {Q' : VK} {E' : XK} {o : Option V}
theorem notup_av {x : V} {t : String} (h : AV H x t) (ht : (t == "tuple") = false) : NoTup K H x := ⟨_, h.ty, by rw [h.isTup, ht]⟩
theorem notup_non : NoTup K H .non := notup_av .non (by decide)
theorem judged_rr (cf : CF K cl C kind fld) (k1 : Kp Ps H H1) (wa : ∀ v H', o = none → Kp Ps H H' → (∀ H2, Kp Ps H' H2 → NoTup K H2 v) → Q' v H') (wb : ∀ c d H', RRE K Ps cl H kind o c d H' → E' c d H') : Judged Ps H1 Q' E' C fld o :=
  ⟨fun e H' k => wa _ _ e (k1.trans k) fun _ _ => notup_non, fun v e d H' k _ hd => wb _ _ _ ⟨C, d, fld, v, e, rfl, rfl, k1.trans k, hd, cf⟩⟩
theorem rr_stand {t a : Addr} {f n : Nat} {L : List Tup} {y : V} (cf : CF K cl CS "stand" "number") (tg : Tg Ps H) (tb : Tab H t a f n L) (ad : AD H y) (k1 : Kp Ps H H1)
    (wa : ∀ v H', standBad f n (tupOf H y) = none → Kp Ps H H' → (∀ H2, Kp Ps H' H2 → NoTup K H2 v) → Q' v H') (wb : ∀ c d H', RRE K Ps cl H "stand" (standBad f n (tupOf H y)) c d H' → E' c d H') : spNeedStand Ps CT CS [.ref t, y] H1 Q' E' :=
  ⟨_, _, rfl, k1.tab tg, .inl ⟨t, a, f, n, L, rfl, tb.kp k1, ad.kp k1, by rw [ad.tupKp k1]; exact judged_rr cf k1 wa wb⟩⟩
theorem rr_turning {t a : Addr} {f n : Nat} {L : List Tup} {y : V} (cf : CF K cl CU "turning" "number") (tg : Tg Ps H) (tb : Tab H t a f n L) (ad : AD H y) (k1 : Kp Ps H H1)
    (wa : ∀ v H', turnBad n (vals L) (tupOf H y) = none → Kp Ps H H' → (∀ H2, Kp Ps H' H2 → NoTup K H2 v) → Q' v H') (wb : ∀ c d H', RRE K Ps cl H "turning" (turnBad n (vals L) (tupOf H y)) c d H' → E' c d H') : spNeedTurning Ps CT CU [.ref t, y] H1 Q' E' :=
  ⟨_, _, rfl, k1.tab tg, .inl ⟨t, a, f, n, L, rfl, tb.kp k1, ad.kp k1, by rw [ad.tupKp k1]; exact judged_rr cf k1 wa wb⟩⟩
end
end U
set_option maxHeartbeats 4000000
namespace U
open PySem PySem.Spec PyProof.Rows L2 GxR Bx Gx Ex Sx RZ Kx Dx NdefX LamX
section
variable {K : PySem.W.Frag} {Ps : List Addr} {cl : Str → Addr} {H H1 : Hp} {C CT CS CU CR CN : Addr} {Q' : VK} {E' : XK} {t a : Addr} {f n : Nat} {L : List Tup}
theorem fb_ext {p q : V → Bool} : ∀ (xs : List V) (k : Nat), (∀ y ∈ xs, p y = q y) → firstBad p k xs = firstBad q k xs
  | [], _, _ => rfl
  | x :: r, k, h => by
    rw [firstBad_cons, firstBad_cons, h x List.mem_cons_self, fb_ext r (k + 1) fun y hy => h y (List.mem_cons_of_mem _ hy)]
theorem rowBad_kp {z : V} (k1 : Kp Ps H H1) (ad : AD H z) : rowBad f n H1 z = rowBad f n H z := by
  unfold rowBad
  rw [ad.tupKp k1]
  cases e : tupOf H z with
  | none => rfl
  | some xs => exact fb_ext xs 0 fun y hy => by rw [(ad.items e y hy).tupKp k1]
theorem rr_row {y : V} (cf : CF K cl CR "row" "number") (tg : Tg Ps H) (tb : Tab H t a f n L) (ad : AD H y) (k1 : Kp Ps H H1)
    (wa : ∀ v H', rowBad f n H y = none → Kp Ps H H' → (∀ H2, Kp Ps H' H2 → NoTup K H2 v) → Q' v H') (wb : ∀ c d H', RRE K Ps cl H "row" (rowBad f n H y) c d H' → E' c d H') : spNeedRow Ps CT CR [.ref t, y] H1 Q' E' :=
  ⟨_, _, rfl, k1.tab tg, .inl ⟨t, a, f, n, L, rfl, tb.kp k1, ad.kp k1, by rw [rowBad_kp k1 ad]; exact judged_rr cf k1 wa wb⟩⟩
/-- a run of a row that is one -/
theorem rr_run {y z : V} {zs : List V} (cf : CF K cl CN "run" "place") (tg : Tg Ps H) (tb : Tab H t a f n L) (ady : AD H y) (adz : AD H z) (hz : rowBad f n H z = none) (ez : tupOf H z = some zs) (lz : zs.length ≤ 1000) (k1 : Kp Ps H H1)
    (wa : ∀ v H', runBad f n (vals L) zs.length H y = none → Kp Ps H H' → (∀ H2, Kp Ps H' H2 → NoTup K H2 v) → Q' v H') (wb : ∀ c d H', RRE K Ps cl H "run" (runBad f n (vals L) zs.length H y) c d H' → E' c d H') : spWalked Ps CT CR CN [.ref t, y, z] H1 Q' E' := by
  refine ⟨_, _, _, rfl, k1.tab tg, .inl ⟨t, a, f, n, L, rfl, tb.kp k1, ady.kp k1, adz.kp k1, fun v e => ?_, fun _ ws ew => ?_⟩⟩
  · rw [rowBad_kp k1 adz, hz] at e; cases e
  · rw [adz.tupKp k1, ez] at ew
    cases ew
    refine ⟨lz, fun v e d H' k _ hd => wb _ _ _ ⟨CN, d, "place", v, by rw [← runBad_kp k1 ady]; exact e, rfl, rfl, k1.trans k, hd, cf⟩, fun e p xs H' k hp => ?_⟩
    exact wa _ _ (by rw [← runBad_kp k1 ady]; exact e) (k1.trans k) fun H2 k2 => notup_av (.lst (k2.lst hp)) (by decide)
/-- a row that is none, whatever the run -/
theorem told_row {y z v : V} (cf : CF K cl CR "row" "number") (tg : Tg Ps H) (tb : Tab H t a f n L) (ady : AD H y) (adz : AD H z) (hz : rowBad f n H z = some v) (k1 : Kp Ps H H1) {Q : VK} (wb : ∀ c d H', ToldE K Ps cl H Q c d H' → E' c d H')
    (q : ∀ p H'', Kp Ps H H'' → H'' p = some (.tup [.str "row", v]) → Q (.ref p) H'') : spWalked Ps CT CR CN [.ref t, y, z] H1 Q' E' := by
  refine ⟨_, _, _, rfl, k1.tab tg, .inl ⟨t, a, f, n, L, rfl, tb.kp k1, ady.kp k1, adz.kp k1, fun v' e d H' k _ hd => ?_, fun e => ?_⟩⟩
  · rw [rowBad_kp k1 adz, hz] at e
    cases e
    exact wb _ _ _ ⟨CR, d, "row", "number", v, rfl, rfl, k1.trans k, hd, cf, q⟩
  · rw [rowBad_kp k1 adz, hz] at e; cases e
end
end U
set_option maxHeartbeats 4000000
namespace U
open PySem PySem.Spec PyProof.Rows L2 GxR Bx Gx Ex Sx RZ Kx Dx NdefX LamX
section
variable {Ps Ps2 : List Addr} {H H1 : Hp} {s : Addr} {T : List NTab}
theorem kp_up (hs : ∀ P ∈ Ps, P ∈ Ps2) (k : Kp Ps H H1) : Kp Ps2 H H1 := ⟨k.old, fun t P hP => by
    by_cases h : P ∈ Ps
    · exact k.tab (fun Q hQ => t Q (hs Q hQ)) P h
    · obtain ⟨ps, e, r⟩ := t P hP
      obtain ⟨ps', e', q⟩ := k.tb P ps e
      rw [q h] at e'
      exact ⟨ps, e', r⟩, fun b ps e => by
    obtain ⟨ps', e', q⟩ := k.tb b ps e
    exact ⟨ps', e', fun n => q fun h => n (hs b h)⟩⟩
theorem ke_up (hs : ∀ P ∈ Ps, P ∈ Ps2) (k : Ke Ps s H H1) : Ke Ps2 s H H1 := ⟨k.old, fun t P hP => by
    by_cases h : P ∈ Ps
    · exact k.tab (fun Q hQ => t Q (hs Q hQ)) P h
    · obtain ⟨ps, e, r⟩ := t P hP
      obtain ⟨ps', e', q⟩ := k.tb P ps e
      rw [q h] at e'
      exact ⟨ps, e', r⟩, fun b ps e => by
    obtain ⟨ps', e', q⟩ := k.tb b ps e
    exact ⟨ps', e', fun n => q fun h => n (hs b h)⟩, k.at_⟩
theorem tabsn_ke (hd : ∀ p ∈ T, p.1 ∉ Ps) (hs : ∀ c q, H s ≠ some (CodeO c q)) (k : Ke Ps s H H1) (t : TabsN T H) : TabsN T H1 := fun p hp => by
  obtain ⟨ps, e, r, c⟩ := (show TabN H p.1 p.2 from t p hp)
  obtain ⟨ps', e', q⟩ := k.tb _ ps e
  rw [q (hd p hp)] at e'
  refine ⟨ps, e', r, fun pos cv hc => ?_⟩
  obtain ⟨c', e1, e2⟩ := c pos cv hc
  exact ⟨c', e1, k.old _ _ (fun z => hs _ _ (z ▸ e2)) e2 codeO_ne⟩
theorem tabsn_kp (hd : ∀ p ∈ T, p.1 ∉ Ps) (k : Kp Ps H H1) (t : TabsN T H) : TabsN T H1 := fun p hp => by
  obtain ⟨ps, e, r, c⟩ := (show TabN H p.1 p.2 from t p hp)
  obtain ⟨ps', e', q⟩ := k.tb _ ps e
  rw [q (hd p hp)] at e'
  refine ⟨ps, e', r, fun pos cv hc => ?_⟩
  obtain ⟨c', e1, e2⟩ := c pos cv hc
  exact ⟨c', e1, k.old _ _ e2 codeO_ne⟩
theorem st_code {b : Int} (h : U.St H s b) : ∀ c q, H s ≠ some (CodeO c q) := fun c q z => by
  obtain ⟨l, ce, t, e, _⟩ := h
  rw [e] at z
  unfold CodeO at z
  cases z
theorem tg_sub (hs : ∀ P ∈ Ps, P ∈ Ps2) (t : Tg Ps2 H) : Tg Ps H := fun P hP => t P (hs P hP)
end
/-! a call of a def that may raise, where it doesn't -/
theorem pe_noX {X : Cx} {ps : List Str} {sp : Sp} {k : Nat} {x : Str} {e : Expr} {es : List Expr} {t : TA} {p pos : Pos} (o : OkX X.prog X.w X.K X.mg X.base k x ps sp) (hr : Room k X.A) (ha : PA X (e :: es) t) (hg : Gl X x := by rfl) (hdb : (x == ("__debug__" : Str)) = false := by decide)
    (he : starEach (e :: es) X.env = (false, eval e X.env) :: starEach es X.env := by rfl) (hpl : (backTo pos (starEach es X.env)).any (·.1) = false := by rfl) :
    PE X (.Call (.Name x p) (e :: es) [] pos) (fun σ H Q => t σ H fun vs H1 => sp vs H1 Q fun _ _ _ => False) :=
  pe_doX (W := fun _ _ _ _ => False) o hr (fun u s' ⟨_, _, _, _, _, _, _, _, _, _, _, _, _, _, _, _, w⟩ => w.elim) ha hg hdb he hpl
/-! calls that get a lambda -/
section
variable {X : Cx} {params : Arguments} {body : Expr} {scope : Scope} {fr : List Str} {js : List Nat} {sp : List (Option V) → Sp} {k : Nat} {Ps : List Addr} {cl : Str → Addr} {e e1 e2 : Expr} {ta : TA} {p pos lp : Pos}
/-- what is asked where a lambda is handed to _law_refused_right -/
def RRd (K : PySem.W.Frag) (Ps : List Addr) (cl : Str → Addr) (mk : Addr → LF) (js : List Nat) (sp : List (Option V) → Sp) (σ : L2.St) (vs : List V) (H : Hp) (Q : VK) : Prop :=
  ∃ (kind : Str) (bp f c' : Addr) (o : Option V), vs = [.str kind, .ref bp, .ref f] ∧ H bp = some (.lst (optL o)) ∧ Tol o ∧ (∀ x, o = some x → ∃ d, Shows kind x d) ∧ H f = some (LFo f (mk c')) ∧ H (mk c').c = some (CodeO (mk c').c (mk c').qual) ∧
  (∀ H1 Q' E', Kp Ps H H1 → (∀ v H', o = none → Kp Ps H H' → (∀ H2, Kp Ps H' H2 → NoTup K H2 v) → Q' v H') → (∀ c d H', RRE K Ps cl H kind o c d H' → E' c d H') → sp (js.map (slotAt σ)) [] H1 Q' E') ∧ ∀ H', Kp Ps H H' → Q (.bl true) H'
def tRRd (K : PySem.W.Frag) (Ps : List Addr) (cl : Str → Addr) (mk : Addr → LF) (js : List Nat) (sp : List (Option V) → Sp) (ta : TA) : TE := fun σ H Q => ta σ H fun vs H1 => RRd K Ps cl mk js sp σ vs H1 Q
theorem pe_rrL (o : OkP X.prog X.w X.K X.mg X.base CX0 (k + 2) "_law_refused_right" ["kind", "bad", "deed"] (spRR X.prog X.w X.K X.mg X.base Ps cl k)) (hr : Room (k + 2) X.A) (hgd : X.A.guards = some []) (ha : PA X [e1, e2, .Lambda params body scope lp] ta)
    (Lk : ∀ f c', LOk X.prog X.w X.K X.mg X.base (L2.CX X.prog X.w) k f (lamL X params body scope c') fr sp) (hfree : ∀ y ∈ scope.names, y.2 = .free → X.env.scope.names.lookup y.1 = some .cell ∨ X.env.scope.names.lookup y.1 = some .free)
    (hfr : ∀ y ∈ fr, (y, NameKind.free) ∈ scope.names) (hjs : js.map (fun j => X.N[j]?) = fr.map some) (hg : Gl X "_law_refused_right" := by rfl)
    (he : starEach [e1, e2, .Lambda params body scope lp] X.env = (false, eval e1 X.env) :: starEach [e2, .Lambda params body scope lp] X.env := by rfl) (hpl : (backTo pos (starEach [e2, .Lambda params body scope lp] X.env)).any (·.1) = false := by rfl) :
    PE X (.Call (.Name "_law_refused_right" p) [e1, e2, .Lambda params body scope lp] [] pos) (tRRd X.K Ps cl (lamL X params body scope) js sp ta) :=
  pe_doP o (fun σ vs H1 Q => RRd X.K Ps cl (lamL X params body scope) js sp σ vs H1 Q) (fun pins σ H s vs Q I ⟨kind, bp, f, c', ob, h0, h1, h2, h3, h4, h5, h6, h7⟩ => ⟨kind, bp, f, ob, lamL X params body scope c', fr, js.map (slotAt σ), sp, h0, hgd, h1, h2, h3, h4, h5, cells_of I (Caps.made I.ok hfree hfr hjs), Lk f c', h6, h7⟩)
    hr (E := fun _ => E0) (fun σ pins H1 s1 e s' I c => c.elim) ha hg (by decide) he hpl
def TDd (K : PySem.W.Frag) (Ps : List Addr) (cl : Str → Addr) (mk : Addr → LF) (js : List Nat) (sp : List (Option V) → Sp) (σ : L2.St) (vs : List V) (H : Hp) (Q : VK) : Prop :=
  ∃ (f c' : Addr), vs = [.ref f] ∧ H f = some (LFo f (mk c')) ∧ H (mk c').c = some (CodeO (mk c').c (mk c').qual) ∧
  ∀ H1 Q' E', Kp Ps H H1 → (∀ v H', ToldQ Ps H Q v H' → Q' v H') → (∀ c d H', ToldE K Ps cl H Q c d H' → E' c d H') → sp (js.map (slotAt σ)) [] H1 Q' E'
def tTDd (K : PySem.W.Frag) (Ps : List Addr) (cl : Str → Addr) (mk : Addr → LF) (js : List Nat) (sp : List (Option V) → Sp) (ta : TA) : TE := fun σ H Q => ta σ H fun vs H1 => TDd K Ps cl mk js sp σ vs H1 Q
theorem pe_tdL (o : OkP X.prog X.w X.K X.mg X.base CX0 (k + 1) "_law_told" ["deed"] (spTold X.prog X.w X.K X.mg X.base Ps cl k)) (hr : Room (k + 1) X.A) (ha : PA X [.Lambda params body scope lp] ta)
    (Lk : ∀ f c', LOk X.prog X.w X.K X.mg X.base (L2.CX X.prog X.w) k f (lamL X params body scope c') fr sp) (hfree : ∀ y ∈ scope.names, y.2 = .free → X.env.scope.names.lookup y.1 = some .cell ∨ X.env.scope.names.lookup y.1 = some .free)
    (hfr : ∀ y ∈ fr, (y, NameKind.free) ∈ scope.names) (hjs : js.map (fun j => X.N[j]?) = fr.map some) (hg : Gl X "_law_told" := by rfl)
    (he : starEach [.Lambda params body scope lp] X.env = (false, eval (.Lambda params body scope lp) X.env) :: starEach [] X.env := by rfl) (hpl : (backTo pos (starEach [] X.env)).any (·.1) = false := by rfl) :
    PE X (.Call (.Name "_law_told" p) [.Lambda params body scope lp] [] pos) (tTDd X.K Ps cl (lamL X params body scope) js sp ta) :=
  pe_doP o (fun σ vs H1 Q => TDd X.K Ps cl (lamL X params body scope) js sp σ vs H1 Q) (fun pins σ H s vs Q I ⟨f, c', h0, h4, h5, h6⟩ => ⟨f, lamL X params body scope c', fr, js.map (slotAt σ), sp, h0, h4, h5, cells_of I (Caps.made I.ok hfree hfr hjs), Lk f c', h6⟩)
    hr (E := fun _ => E0) (fun σ pins H1 s1 e s' I c => c.elim) ha hg (by decide) he hpl
end
end U
set_option maxHeartbeats 4000000
namespace U
open PySem PySem.Spec PyProof.Rows L2 GxR Bx Gx Ex Sx RZ Kx Dx NdefX LamX
/-- a cell whose frame is gone: it holds x -/
def CellO (c : Addr) (x : V) : HO := .ext fun h => ∃ u, RelV x u ∧ h.IsCell c (some u)
theorem cello_ok {P : Program} {w : World} {H : Hp} {h : Heap} {c : Addr} {x : V} {u : Value} (r : RelV x u) (z : h.IsCell c (some u)) : ObjOk P w H h c (CellO c x) := by
  obtain ⟨o, e, d⟩ := z
  exact ⟨⟨u, r, o, e, d⟩, ⟨o, e⟩, fun h1 h2 ⟨u', r', o', e', d'⟩ k => ⟨u', r', o', k o' e', d'⟩⟩
theorem cello_ne {c : Addr} {x : V} (ps : Array Value) : CellO c x ≠ .tbl ps := by unfold CellO; exact nofun
section
variable {X : Cx} {pins : List (Addr × Obj)} {σ : L2.St} {H H' : Hp} {s s' : Shared} {c : Addr} {x : V} {u : Value}
theorem inv_del (I : Inv X pins σ H s) (hc : H c = some (CellO c x)) : Inv X pins σ (del H c) s := by
  have ne : ∀ {b : Addr} {o : HO}, H b = some o → o ≠ CellO c x → b ≠ c := fun {b o} e n z => n (Option.some.inj (e.symm.trans (z ▸ hc)))
  have nn : ∀ {b : Addr}, H b = none → del H c b = none := fun {b} e => by
    by_cases hb : b = c
    · rw [hb]; exact del_same
    · rw [del_ne hb]; exact e
  exact {
    ok := I.ok
    os := I.os
    bare := I.bare
    base := ⟨I.base.keep, I.base.slot, fun b o e n hx => nn (I.base.free b o e n hx), I.base.there, fun b xs e => by
        have z := I.base.tups b xs e
        rw [del_ne (ne z (by unfold CellO; exact nofun))]; exact z, fun b o v e => by
        have z := I.base.frzs b o v e
        rw [del_ne (ne z (by unfold CellO; exact nofun))]; exact z, fun b ps e => by
        obtain ⟨more, z⟩ := I.base.tbls b ps e
        exact ⟨more, by rw [del_ne (ne z (by unfold CellO; exact nofun))]; exact z⟩⟩
    loc := I.loc
    cell := I.cell
    free := nn I.free
    freeC := fun y d e => nn (I.freeC y d e)
    pin := fun p hp => by
      obtain ⟨h1, h2, h3⟩ := I.pin p hp
      exact ⟨h1, nn h2, h3⟩
    hok := fun b o e => by
      have hb : b ≠ c := fun z => by rw [z, del_same] at e; cases e
      rw [del_ne hb] at e
      exact (I.hok b o e).stay (fun _ _ _ q => q) (fun d q => by rw [del_ne (ne q (by unfold CellO; exact nofun))]; exact q) fun d xs q => by rw [del_ne (ne q (by unfold CellO; exact nofun))]; exact q
    len := I.len }
/-- the cell is tracked again -/
theorem inv_add (I0 : Inv X pins σ H s) (hc : H c = some (CellO c x)) (I : Inv X pins σ H' s') (nc : H' c = none) (r : RelV x u) (z : s'.heap.IsCell c (some u)) : Inv X pins σ (upd H' c (CellO c x)) s' where
  ok := I.ok
  os := I.os
  bare := I.bare
  base := ⟨I.base.keep, I.base.slot, fun b o e n hx => by
      have hb : b ≠ c := fun q => by
        have y := I0.base.free b o e n hx
        rw [q, hc] at y; cases y
      rw [upd_ne hb]; exact I.base.free b o e n hx, I.base.there, fun b xs e => by rw [upd_ne (ne_of_none (I.base.tups b xs e) nc)]; exact I.base.tups b xs e,
    fun b o v e => by rw [upd_ne (ne_of_none (I.base.frzs b o v e) nc)]; exact I.base.frzs b o v e, fun b ps e => by
      obtain ⟨more, y⟩ := I.base.tbls b ps e
      exact ⟨more, by rw [upd_ne (ne_of_none y nc)]; exact y⟩⟩
  loc := I.loc
  cell := I.cell
  free := by rw [upd_ne (fun q => by have y := I0.free; rw [q, hc] at y; cases y)]; exact I.free
  freeC := fun y d e => by rw [upd_ne (fun q => by have y := I0.freeC y d e; rw [q, hc] at y; cases y)]; exact I.freeC y d e
  pin := fun p hp => by
    obtain ⟨h1, h2, h3⟩ := I.pin p hp
    exact ⟨h1, by rw [upd_ne (fun q => by have y := (I0.pin p hp).2.1; rw [q, hc] at y; cases y)]; exact h2, h3⟩
  hok := fun b o e => by
    by_cases hb : b = c
    · subst hb; rw [upd_same] at e; cases e; exact cello_ok r z
    · rw [upd_ne hb] at e
      exact (I.hok b o e).stay (fun _ _ _ q => q) (fun d q => by rw [upd_ne (ne_of_none q nc)]; exact q) fun d xs q => by rw [upd_ne (ne_of_none q nc)]; exact q
  len := I.len
end
section
variable {X : Cx} {k : Nat} {Ps : List Addr} {cl : Str → Addr} {e : Expr} {ta : TA} {p pos : Pos}
/-- what is asked where a closure, its maker gone, is handed to _law_told -/
def TCd (P : Program) (w : World) (K : PySem.W.Frag) (mg : Str → Option Value) (base : Heap) (Ps : List Addr) (cl : Str → Addr) (k : Nat) (y : Str) (vs : List V) (H : Hp) (Q : VK) : Prop :=
  ∃ (f c : Addr) (F : LF) (x : V) (sp : List (Option V) → Sp), vs = [.ref f] ∧ H f = some (LFo f F) ∧ H F.c = some (CodeO F.c F.qual) ∧ H c = some (CellO c x) ∧ F.cl = [(y, c)] ∧ LOk P w K mg base (L2.CX P w) k f F [y] sp ∧
  ∀ H1 Q' E', Kp Ps (del H c) H1 → (∀ v H', ToldQ Ps (del H c) (fun v H' => H' c = none → Q v (upd H' c (CellO c x))) v H' → Q' v H') → (∀ a d H', ToldE K Ps cl (del H c) (fun v H' => H' c = none → Q v (upd H' c (CellO c x))) a d H' → E' a d H') → sp [some x] [] H1 Q' E'
def tTdC (P : Program) (w : World) (K : PySem.W.Frag) (mg : Str → Option Value) (base : Heap) (Ps : List Addr) (cl : Str → Addr) (k : Nat) (y : Str) (ta : TA) : TE := fun σ H Q => ta σ H fun vs H1 => TCd P w K mg base Ps cl k y vs H1 Q
theorem pe_tdC {P : Program} {w : World} {K : PySem.W.Frag} {mg : Str → Option Value} {base : Heap} (y : Str) (o : OkP P w K mg base CX0 (k + 1) "_law_told" ["deed"] (spTold P w K mg base Ps cl k)) (hr : Room (k + 1) X.A) (ha : PA X [e] ta) (hP : X.prog = P := by rfl) (hw : X.w = w := by rfl) (hK : X.K = K := by rfl) (hmg : X.mg = mg := by rfl) (hb : X.base = base := by rfl) (hg : Gl X "_law_told" := by rfl)
    (he : starEach [e] X.env = (false, eval e X.env) :: starEach [] X.env := by rfl) (hpl : (backTo pos (starEach [] X.env)).any (·.1) = false := by rfl) :
    PE X (.Call (.Name "_law_told" p) [e] [] pos) (tTdC P w K mg base Ps cl k y ta) := by
  subst hP hw hK hmg hb
  obtain ⟨f, fd, g, kp, b, F⟩ := o.ex
  refine ⟨fun pins s σ H Q I h => wpAny_Call_Name_kw (ld_glob I hg g (PySem.W.callWith_K (h₀ := X.base) I.ok.mod.kin kp (thn (ha.run pos pins s σ H _ I h) fun us s1 hq => ?_) he hpl) (by decide))⟩
  obtain ⟨vs, H1, I1, r, q⟩ := hq
  refine ⟨I1.kIn, ?_⟩
  obtain ⟨df, c, FF, x, sp, e0, e1, e2, e3, e4, Lk, e5⟩ := q
  have I2 := inv_del I1 e3
  obtain ⟨⟨u, ru, ob, ho, hd⟩, _⟩ := I1.hok c _ e3
  have C : CellsAt FF.cl [y] [some x] s1.heap (del H1 c) := by
    rw [e4]
    have lk : ∀ z d, List.lookup z [(y, c)] = some d → z = y ∧ d = c := fun z d h => by
      rw [List.lookup_cons] at h
      split at h
      · rename_i q
        cases h
        exact ⟨beq_iff_eq.mp q, rfl⟩
      · cases h
    refine ⟨rfl, fun z d h => ?_, fun a b d h1 h2 => (lk a d h1).1.trans (lk b d h2).1.symm, fun i z h => ?_⟩
    · obtain ⟨rfl, rfl⟩ := lk z d h
      exact ⟨del_same, _, ob, ho, hd⟩
    · cases i with
      | succ i => cases i <;> cases h
      | zero =>
        cases h
        refine ⟨c, by rw [List.lookup_cons_self], fun v h => ?_⟩
        cases h
        exact ⟨u, ru, ob, ho, hd⟩
  have nf : df ≠ c := fun z => by
    rw [z, e3] at e1
    unfold CellO LFo at e1
    have w1 := congrArg (fun o => match o with | some (HO.ext φ) => φ s1.heap | _ => True) e1
    have w2 : (∃ u, RelV x u ∧ s1.heap.IsCell c (some u)) = _ := w1
    have w3 : ∃ (od : Option Addr) (sl : Array (Option Value)) (pm ctv : Value), s1.heap.get? c = some (⟨.type "function", od, .func (FF.fd pm ctv), sl⟩ : Obj) := by
      have w4 := w2 ▸ (⟨u, ru, ob, ho, hd⟩ : ∃ u, RelV x u ∧ s1.heap.IsCell c (some u))
      exact w4
    obtain ⟨od, sl, pm, ctv, w5⟩ := w3
    rw [ho] at w5
    cases w5
    cases hd
  have nC : FF.c ≠ c := fun z => by
    obtain ⟨⟨oc, vs, t, a1, a2, _⟩, _⟩ := I1.hok _ _ e2
    rw [z, ho] at a1
    cases a1
    rw [hd] at a2
    cases a2
  have hs : spTold X.prog X.w X.K X.mg X.base Ps cl k X.A s1 vs (del H1 c) (fun v H' => H' c = none → Q v (upd H' c (CellO c x))) E0 := ⟨df, FF, [y], [some x], sp, e0, by rw [del_ne nf]; exact e1, by rw [del_ne nC]; exact e2, C, Lk, e5⟩
  have hl : us.length = (["deed"] : List Str).length := by rw [← r.length]; exact F.len _ _ _ _ _ _ hs
  have bt := b s1 us I1.kIn (by rw [List.append_nil]; exact hl)
  rw [List.append_nil] at bt
  refine wpAny_call (codeAny_mono (F.run X.A X.stack s1 (del H1 c) ⟨us, []⟩ us vs _ E0 hr I2.env0 bt r hs) fun rr s' hq => ?_)
  cases rr with
  | error er => exact hq.elim
  | ok fl =>
    cases fl with
    | ret v =>
      obtain ⟨v, H', os, bare, un, hok, rv, q⟩ := hq
      obtain ⟨v2, H2, J, _, rfl, rfl⟩ := I2.after (Q := fun v2 H2 => v2 = v ∧ H2 = H') ⟨v, H', os, bare, un, hok, rv, rfl, rfl⟩
      obtain ⟨sl, z⟩ := un.any ho del_same (by simp)
      have nc := un.free c ob ho del_same (by simp)
      exact ⟨_, _, inv_add I1 e3 J nc ru ⟨_, z, hd⟩, rv, q nc⟩
    | next => exact hq.elim
    | brk => exact hq.elim
    | cont => exact hq.elim
end
/-! a def whose last statement tells its value while the frame's names are known -/
structure PSr (X : Cx) (ss : List Stmt) (t : (L2.St → V → Hp → Prop) → L2.St → Hp → Prop) : Prop where
  run : ∀ (pins : List (Addr × Obj)) (s : Shared) (σ : L2.St) (H : Hp) (R : L2.St → V → Hp → Prop), Inv X pins σ H s → t R σ H → wpAny (model X.prog X.w) X.A (execs ss X.env) (fun fl s' => ∃ u v σ' H', fl = .ret u ∧ Inv X pins σ' H' s' ∧ RelV v u ∧ R σ' v H') X.xe s
section
variable {X : Cx} {st : Stmt} {rest : List Stmt} {t1 : TS} {t2 : (L2.St → V → Hp → Prop) → L2.St → Hp → Prop} {e : Expr} {te : TE} {pos : Pos}
theorem psr_cons (h1 : PS X st t1) (h2 : PSr X rest t2) : PSr X (st :: rest) (fun R σ H => t1 { nx := fun σ' H' => t2 R σ' H', rt := fun _ _ => False } σ H) := by
  refine ⟨fun pins s σ H R I h => wpAny_execs_cons (thn (h1.run pins s σ H _ I h) fun f s1 q => ?_)⟩
  cases f with
  | next =>
    obtain ⟨σ', H', I', q⟩ := q
    exact h2.run pins s1 σ' H' R I' q
  | ret v => exact q.choose_spec.choose_spec.choose_spec.2.2.elim
  | brk => exact q.choose_spec.choose_spec.2.elim
  | cont => exact q.choose_spec.choose_spec.2.elim
theorem psr_ret (he : PE X e te) : PSr X [.Return (some e) pos] (fun R σ H => te σ H (R σ)) := by
  refine ⟨fun pins s σ H R I h => wpAny_execs_cons ?_⟩
  exact wpAny_Return_some (thn (he.run pins s σ H _ I h) fun v s1 ⟨x, H1, I1, r1, q1⟩ => ⟨v, x, σ, H1, rfl, I1, r1, q1⟩)
end
section
variable {P : Program} {w : World} {K : PySem.W.Frag} {mg : Str → Option Value} {base : Heap} {k : Nat}
/-- .. and its cell y is tracked from then on -/
theorem okd_cell {x y : Str} {st : Stmt} {N ps : List Str} {sp : Sp} {i : Nat} {T : Addr} (D : DfnC K mg base x st ps T) (S : FnScope N ps (defScope st)) (hi : N[i]? = some y) (hy : (defScope st).names.lookup y = some .cell) (len : ∀ vs H Q E, sp vs H Q E → vs.length = ps.length)
    (hbody : ∀ (f c : Addr) (A : Around) (outer : List Env) (s : Shared) (H : Hp) (vs : List V) (Q : VK) (E : XK), Room k (A.deeper (envOfC x (defScope st) s.heap.objs.size f (.ref c))) → GxR.TabB base mg c T → sp vs H Q E →
      ∃ t, PSr (cxOf CX0 P w K mg base N x (defScope st) f (.ref c) A outer s H E) (defBody st) t ∧ t (fun σ v H' => ∃ w, σ[i]? = some (some w) ∧ ∀ a, (cellsFrom (s.heap.objs.size + 1) (defScope st).names []).lookup y = some a → H' a = none → Q v (upd H' a (CellO a w))) (start N vs) H) : Okd P w K mg base CX0 (k + 1) x ps sp := by
  obtain ⟨f, c, oc, od, kV, doc, pm, an, ct, osl, g, lk, hcd, kp, b, TB⟩ := D.ex
  refine ⟨f, _, g, kp, b, len, fun A outer s H args us vs Q E hr e0 hb r hsp => ?_⟩
  have kin : K.In s.heap := e0.mod.kin.keeps fun b o e => (e0.bs b o e).1
  have nolim : s.heap.NoLimit := e0.mod.nolimit.keeps fun b o e => (e0.bs b o e).1
  have kinds : ∀ z ∈ ps.zip us, (defScope st).names.lookup z.1 = some .local ∨ ((defScope st).names.lookup z.1 = some .cell ∧ ((cellsFrom (s.heap.objs.size + 1) (defScope st).names []).lookup z.1).isSome = true) := fun z hz => (S.par z.1 (List.of_mem_zip hz).1).imp id fun q => ⟨q, PySem.W.cellsFrom_some _ _ _ (.inl q)⟩
  refine codeAny_call_function hr.depth (kin _ _ lk) rfl S.co S.gen rfl (PySem.W.codeRec_of kin hcd) (hb _ _ _ _ (wpAny_newFunctionEnv_cells S.kind kinds fun env he s1 hx => ?_))
  subst he
  refine ⟨nolim.keeps hx.toInCall.keep, codeAny_func ?_⟩
  obtain ⟨t, ht, hq⟩ := hbody f c A outer s H vs Q E (hr.deeper _) TB hsp
  have I : Inv (cxOf CX0 P w K mg base N x (defScope st) f (.ref c) A outer s H E) [] (start N vs) H s1 := inv_start S hr.hd e0 (len _ _ _ _ hsp) r hx
  refine wpAny_mono (ht.run [] s1 (start N vs) H _ I hq) (fun fl s' hs => ?_) fun e s' hs => hs
  obtain ⟨u, v, σ', H', rfl, J, rv, ww, hw, q⟩ := hs
  obtain ⟨m, hm, hl⟩ := J.loc
  obtain ⟨uw, rw_, lo⟩ := hl i y ww hi hw (.inr (.inl hy))
  rcases lo with ⟨z, _⟩ | ⟨_, a, ha, hc⟩
  · have z' : (defScope st).names.lookup y = some .local := z
    rw [hy] at z'; cases z'
  · have na : H' a = none := J.freeC y a ha
    have ga : s.heap.objs.size ≤ a := J.ok.cab y a rfl ha
    refine ⟨v, upd H' a (CellO a ww), J.os, J.bare, ⟨J.base.keep, J.base.slot, fun b o e n hx => ?_, J.base.there, fun b xs e => ?_, fun b o z e => ?_, fun b ps e => ?_⟩, fun b o e => ?_, rv, q a ha na⟩
    · rw [upd_ne (Nat.ne_of_lt (Nat.lt_of_lt_of_le (Heap.lt_size e) ga))]
      exact J.base.free b o e n hx
    · have z := J.base.tups b xs e
      rw [upd_ne (ne_of_none z na)]; exact z
    · have z' := J.base.frzs b o z e
      rw [upd_ne (ne_of_none z' na)]; exact z'
    · obtain ⟨more, z⟩ := J.base.tbls b ps e
      exact ⟨more, by rw [upd_ne (ne_of_none z na)]; exact z⟩
    · by_cases hb : b = a
      · subst hb; rw [upd_same] at e; cases e; exact cello_ok rw_ hc
      · rw [upd_ne hb] at e
        exact (J.hok b o e).stay (fun _ _ _ q => q) (fun d q => by rw [upd_ne (ne_of_none q na)]; exact q) fun d xs q => by rw [upd_ne (ne_of_none q na)]; exact q
end
end U
set_option maxHeartbeats 4000000
namespace U
open PySem PySem.Spec PyProof.Rows L2 GxR Bx Gx Ex Sx RZ Kx Dx NdefX LamX
def freeB (sc scope : Scope) : Bool := scope.names.all fun y => !decide (y.2 = .free) || decide (sc.names.lookup y.1 = some .cell) || decide (sc.names.lookup y.1 = some .free)
theorem free_by {sc scope : Scope} (h : freeB sc scope = true) : ∀ y ∈ scope.names, y.2 = .free → sc.names.lookup y.1 = some .cell ∨ sc.names.lookup y.1 = some .free := fun y hy e => by
  have q := List.all_eq_true.mp h y hy
  rw [Bool.or_eq_true, Bool.or_eq_true, Bool.not_eq_true', decide_eq_false_iff_not, decide_eq_true_eq, decide_eq_true_eq] at q
  exact q.elim (fun z => z.elim (fun n => absurd e n) .inl) .inr
/-- functions told in a list, their maker's frame gone -/
abbrev lams (fs : List (Addr × LF)) : List V := fs.map fun g => V.ref g.1
structure Ak (Ps : List Addr) (T : List NTab) (G : Addr → LF → Prop) (H : Hp) (p : Addr) (fs : List (Addr × LF)) (H' : Hp) : Prop where
  kp : Kp Ps H H'
  tn : TabsN T H'
  np : H p = none
  hp : H' p = some (.lst (lams fs))
  all : ∀ g ∈ fs, H' g.1 = some (LFo g.1 g.2) ∧ H' g.2.c = some (CodeO g.2.c g.2.qual) ∧ G g.1 g.2
section
variable {Ps : List Addr} {T : List NTab} {G : Addr → LF → Prop} {H H' H1 : Hp} {p f P : Addr} {F : LF} {fs : List (Addr × LF)} {nm : Nat → Nat → Str}
theorem lfo_lst {f : Addr} {F : LF} {xs : List V} : LFo f F ≠ .lst xs := by unfold LFo; exact nofun
theorem codeo_lst {f : Addr} {q : Str} {xs : List V} : CodeO f q ≠ .lst xs := by unfold CodeO; exact nofun
theorem tb_ne (hm : (P, nm) ∈ T) (t : TabsN T H) {b : Addr} {o : HO} (e : H b = some o) (n : ∀ ps, o ≠ .tbl ps) : b ≠ P := fun z => by
  obtain ⟨ps, e', _⟩ := (show TabN H P nm from t (P, nm) hm)
  exact n ps (Option.some.inj (e.symm.trans (z ▸ e')))
/-- a lambda's function beside what is told -/
theorem Ak.lam (h : Ak Ps T G H p fs H') (hP : P ∈ Ps) (hm : (P, nm) ∈ T) (eN : ∀ b o, b ≠ P → H' b = some o → H1 b = some o) (T1 : TabsN T H1) : Ak Ps T G H p fs H1 := by
  have st : ∀ {b o}, H' b = some o → (∀ ps, o ≠ .tbl ps) → H1 b = some o := fun {b o} e n => eN b o (tb_ne hm h.tn e n) e
  exact ⟨h.kp.trans (Kp.lam hP hm h.tn T1 eN), T1, h.np, st h.hp nofun, fun g hg => ⟨st (h.all g hg).1 lfo_ne, st (h.all g hg).2.1 codeO_ne, (h.all g hg).2.2⟩⟩
theorem tabsn_upd (hp : ∀ ps, H p ≠ some (.tbl ps)) (hc : ∀ c q, H p ≠ some (CodeO c q)) (t : TabsN T H) {o : HO} : TabsN T (upd H p o) := fun q hq => by
  obtain ⟨ps, e, r, c⟩ := (show TabN H q.1 q.2 from t q hq)
  refine ⟨ps, by rw [upd_ne (fun z => by rw [z] at e; exact hp ps e)]; exact e, r, fun pos cv hv => ?_⟩
  obtain ⟨c', e1, e2⟩ := c pos cv hv
  exact ⟨c', e1, by rw [upd_ne (fun z => by rw [z] at e2; exact hc _ _ (e2.trans rfl))]; exact e2⟩
theorem Ak.snoc (h : Ak Ps T G H p fs H1) (h1 : H1 f = some (LFo f F)) (h2 : H1 F.c = some (CodeO F.c F.qual)) (g : G f F) : Ak Ps T G H p (fs ++ [(f, F)]) (upd H1 p (.lst (lams fs ++ [.ref f]))) := by
  have ne : ∀ {b o}, H1 b = some o → (∀ xs, o ≠ .lst xs) → b ≠ p := fun {b o} e n z => n _ (Option.some.inj (e.symm.trans (z ▸ h.hp)))
  refine ⟨h.kp.mut h.np (fun ps z => by rw [h.hp] at z; cases z), tabsn_upd (fun ps z => by rw [h.hp] at z; cases z) (fun c q z => by rw [h.hp] at z; exact codeo_lst (Option.some.inj z).symm) h.tn, h.np, by rw [upd_same]; simp [lams], fun q hq => ?_⟩
  rcases List.mem_append.mp hq with z | z
  · obtain ⟨a, b, c⟩ := h.all q z
    exact ⟨by rw [upd_ne (ne a (fun _ => lfo_lst))]; exact a, by rw [upd_ne (ne b (fun _ => codeo_lst))]; exact b, c⟩
  · rw [List.mem_singleton.mp z]
    exact ⟨by rw [upd_ne (ne h1 (fun _ => lfo_lst))]; exact h1, by rw [upd_ne (ne h2 (fun _ => codeo_lst))]; exact h2, g⟩
theorem Ak.cat {p2 p3 : Addr} (h : Ak Ps T G H p fs H1) (n2 : H1 p2 = none) (n3 : (upd H1 p2 (.lst [.ref f])) p3 = none) (h1 : H1 f = some (LFo f F)) (h2 : H1 F.c = some (CodeO F.c F.qual)) (g : G f F) : Ak Ps T G H p3 (fs ++ [(f, F)]) (upd (upd H1 p2 (.lst [.ref f])) p3 (.lst (lams fs ++ [.ref f]))) := by
  have k1 : Kp Ps H1 (upd H1 p2 (.lst [.ref f])) := .new n2
  have k2 : Kp Ps (upd H1 p2 (.lst [.ref f])) (upd (upd H1 p2 (.lst [.ref f])) p3 (.lst (lams fs ++ [.ref f]))) := .new n3
  have k := k1.trans k2
  refine ⟨h.kp.trans k, tabsn_kp (Ps := []) (fun _ _ => by simp) (.new n3) (tabsn_kp (Ps := []) (fun _ _ => by simp) (.new n2) h.tn), (h.kp.trans k1).fresh n3, by rw [upd_same]; simp [lams], fun q hq => ?_⟩
  rcases List.mem_append.mp hq with z | z
  · obtain ⟨a, b, c⟩ := h.all q z
    exact ⟨k.old _ _ a lfo_ne, k.old _ _ b codeO_ne, c⟩
  · rw [List.mem_singleton.mp z]
    exact ⟨k.old _ _ h1 lfo_ne, k.old _ _ h2 codeO_ne, g⟩
end
section
variable {P : Program} {w : World} {K : PySem.W.Frag} {mg : Str → Option Value} {base : Heap} {Ps Ps2 : List Addr}
/-- it refuses what is no table -/
def Refs (P : Program) (w : World) (K : PySem.W.Frag) (mg : Str → Option Value) (base : Heap) (Ps : List Addr) (CT : Addr) (c f : Addr) (F : LF) : Prop :=
  F.cl = [(("far" : Str), c)] ∧ ∃ sp, LOk P w K mg base (L2.CX P w) 10 f F ["far"] sp ∧ ∀ x v H Q E, Tg Ps H → AD H x → NoTab H x v → Out Ps H E CT "place" v → sp [some x] [] H Q E
theorem sc_law_asked : FnScope ["far", "some"] ["far"] (defScope s_law_asked) := ⟨rfl, rfl, rfl, by decide +kernel, rfl, by decide +kernel, by decide +kernel⟩
def nmA : Nat → Nat → Str := fun _ _ => "_law_asked" ++ ".<locals>." ++ "<lambda>"
def spAsked (P : Program) (w : World) (K : PySem.W.Frag) (mg : Str → Option Value) (base : Heap) (Ps Ps2 : List Addr) (T : List NTab) (CT : Addr) : Sp := fun vs H Q _ => ∃ x, vs = [x] ∧ TabsN T H ∧ ∀ p c fs H', Ak Ps2 T (Refs P w K mg base Ps CT c) H p fs H' → fs.length = 6 → H' c = none → Q (.ref p) (upd H' c (CellO c x))
theorem ok_asked {T : List NTab} {TA CT CS CU CR CN : Addr} (D : DfnC K mg base "_law_asked" s_law_asked ["far"] TA) (hP : TA ∈ Ps2) (hm : (TA, nmA) ∈ T) (hu : ∀ p ∈ T, p.1 = TA → p.2 = nmA)
    (o1 : OkX P w K mg base 8 "stands" ["table"] (spStandsNo Ps CT)) (o2 : OkX P w K mg base 8 "seats" ["table"] (spSeats Ps CT)) (o3 : OkX P w K mg base 8 "is_stand" ["table", "thing"] (spIsStand Ps CT)) (o4 : OkX P w K mg base 8 "need_stand" ["table", "thing"] (spNeedStand Ps CT CS))
    (o5 : OkX P w K mg base 8 "is_turning" ["table", "thing"] (spIsTurning Ps CT)) (o6 : OkX P w K mg base 9 "walked" ["table", "run", "row"] (spWalked Ps CT CR CN)) : Okd P w K mg base CX0 1 "_law_asked" ["far"] (spAsked P w K mg base Ps Ps2 T CT) := by
  refine okd_cell (y := "far") (i := 0) D sc_law_asked rfl (by decide +kernel) (fun vs H Q E h => ?_) (fun f cc A outer s H vs Q E hr TB0 h => ?_)
  · obtain ⟨x, rfl, _⟩ := h; rfl
  · obtain ⟨x, rfl, tn, q⟩ := h
    have nd := sc_law_asked.nd
    have TB : LamX.TabB base mg cc TA := ⟨TB0.code, TB0.bm, TB0.gP⟩
    refine ⟨_, psr_cons (ps_set (i := 1) nd rfl (.inl rfl) (pe_lst (pa_cons (pe_lamv TB rfl hm rfl hu (free_by (sc := defScope s_law_asked) (by decide +kernel))) pa_nil)))
      (psr_cons (ps_expr (pe_append K (pv 1) (pe_lamv TB rfl hm rfl hu (free_by (sc := defScope s_law_asked) (by decide +kernel)))))
      (psr_cons (ps_expr (pe_append K (pv 1) (pe_lamv TB rfl hm rfl hu (free_by (sc := defScope s_law_asked) (by decide +kernel)))))
      (psr_cons (ps_expr (pe_append K (pv 1) (pe_lamv TB rfl hm rfl hu (free_by (sc := defScope s_law_asked) (by decide +kernel)))))
      (psr_cons (ps_expr (pe_append K (pv 1) (pe_lamv TB rfl hm rfl hu (free_by (sc := defScope s_law_asked) (by decide +kernel)))))
      (psr_ret (pe_op op_cat (pv 1) (pe_lst (pa_cons (pe_lamv TB rfl hm rfl hu (free_by (sc := defScope s_law_asked) (by decide +kernel))) pa_nil)))))))), ?_⟩
    refine ⟨tn, fun f1 c1 H1 e1 n1 T1 z1 a1 b1 => ⟨(by show 1 ≤ sizeLine; decide), fun p np => ?_⟩⟩
    have k0 : Kp Ps2 H H1 := Kp.lam hP hm tn T1 e1
    have kp : Kp Ps2 H1 (upd H1 p (.lst [.ref f1])) := .new np
    have A1 : Ak Ps2 T (Refs P w K mg base Ps CT (s.heap.objs.size + 1)) H p [(f1, _)] (upd H1 p (.lst [.ref f1])) := ⟨k0.trans kp, tabsn_kp (Ps := []) (fun _ _ => by simp) (.new np) T1, k0.fresh np, upd_same, fun g hg => by
      rw [List.mem_singleton.mp hg]
      exact ⟨kp.old _ _ a1 lfo_ne, kp.old _ _ b1 codeO_ne, ⟨rfl, _, lok_call (ps := ["table"]) (N := ["far"]) (o1.mono (show 8 ≤ 9 by decide)) (nscope_by (by dsimp only; decide +kernel)) (fun _ _ => rfl) rfl (fun _ _ _ _ _ => pa_cons (pv 0) pa_nil) (fun _ _ _ _ _ => rfl) (by decide) (fun _ _ _ _ _ => ⟨rfl, rfl⟩), fun x v H Q E tg ad nt out => ⟨rfl, x, rfl, x, rfl, tg, .inr ⟨v, ad, nt, out⟩⟩⟩⟩⟩
    refine ⟨_, rfl, .inl ⟨rfl, _, .of A1.hp⟩, A1.tn, fun f2 c2 H2 e2 n2 T2 z2 a2 b2 => ⟨p, _, .ref f2, rfl, rfl, (A1.lam hP hm e2 T2).hp, small1000 (by show 1 ≤ 1000; decide), ?_⟩⟩
    have A2 := (A1.lam hP hm e2 T2).snoc a2 b2 ⟨rfl, _, lok_call (ps := ["table"]) (N := ["far"]) (o2.mono (show 8 ≤ 9 by decide)) (nscope_by (by dsimp only; decide +kernel)) (fun _ _ => rfl) rfl (fun _ _ _ _ _ => pa_cons (pv 0) pa_nil) (fun _ _ _ _ _ => rfl) (by decide) (fun _ _ _ _ _ => ⟨rfl, rfl⟩), fun x v H Q E tg ad nt out => ⟨rfl, x, rfl, x, rfl, tg, .inr ⟨v, ad, nt, out⟩⟩⟩
    refine ⟨_, rfl, .inl ⟨rfl, _, .of A2.hp⟩, A2.tn, fun f3 c3 H3 e3 n3 T3 z3 a3 b3 => ⟨p, _, .ref f3, rfl, rfl, (A2.lam hP hm e3 T3).hp, small1000 (by show 2 ≤ 1000; decide), ?_⟩⟩
    have A3 := (A2.lam hP hm e3 T3).snoc a3 b3 ⟨rfl, _, lok_call (ps := ["table", "thing"]) (N := ["far"]) (o3.mono (show 8 ≤ 9 by decide)) (nscope_by (by dsimp only; decide +kernel)) (fun _ _ => rfl) rfl (fun _ _ _ _ _ => pa_cons (pv 0) (pa_cons pe_non pa_nil)) (fun _ _ _ _ _ => rfl) (by decide) (fun _ _ _ _ _ => ⟨rfl, rfl⟩), fun x v H Q E tg ad nt out => ⟨rfl, x, rfl, x, _, rfl, tg, .inr ⟨v, ad, nt, out⟩⟩⟩
    refine ⟨_, rfl, .inl ⟨rfl, _, .of A3.hp⟩, A3.tn, fun f4 c4 H4 e4 n4 T4 z4 a4 b4 => ⟨p, _, .ref f4, rfl, rfl, (A3.lam hP hm e4 T4).hp, small1000 (by show 3 ≤ 1000; decide), ?_⟩⟩
    have A4 := (A3.lam hP hm e4 T4).snoc a4 b4 ⟨rfl, _, lok_call (ps := ["table", "thing"]) (N := ["far"]) (o4.mono (show 8 ≤ 9 by decide)) (nscope_by (by dsimp only; decide +kernel)) (fun _ _ => rfl) rfl (fun _ _ _ _ _ => pa_cons (pv 0) (pa_cons pe_non pa_nil)) (fun _ _ _ _ _ => rfl) (by decide) (fun _ _ _ _ _ => ⟨rfl, rfl⟩), fun x v H Q E tg ad nt out => ⟨rfl, x, rfl, x, _, rfl, tg, .inr ⟨v, ad, nt, out⟩⟩⟩
    refine ⟨_, rfl, .inl ⟨rfl, _, .of A4.hp⟩, A4.tn, fun f5 c5 H5 e5 n5 T5 z5 a5 b5 => ⟨p, _, .ref f5, rfl, rfl, (A4.lam hP hm e5 T5).hp, small1000 (by show 4 ≤ 1000; decide), ?_⟩⟩
    have A5 := (A4.lam hP hm e5 T5).snoc a5 b5 ⟨rfl, _, lok_call (ps := ["table", "thing"]) (N := ["far"]) (o5.mono (show 8 ≤ 9 by decide)) (nscope_by (by dsimp only; decide +kernel)) (fun _ _ => rfl) rfl (fun _ _ _ _ _ => pa_cons (pv 0) (pa_cons pe_int pa_nil)) (fun _ _ _ _ _ => rfl) (by decide) (fun _ _ _ _ _ => ⟨rfl, rfl⟩), fun x v H Q E tg ad nt out => ⟨rfl, x, rfl, x, _, rfl, tg, .inr ⟨v, ad, nt, out⟩⟩⟩
    generalize hl : (_ ++ [(f5, _)] : List (Addr × LF)) = fs at A5
    have hlen : fs.length = 5 := by rw [← hl]; rfl
    generalize hh : upd H5 p _ = HH at A5 ⊢
    clear hh hl A1 A2 A3 A4
    refine ⟨_, rfl, A5.tn, fun f6 c6 H6 e6 n6 T6 z6 a6 b6 => ⟨(by show 1 ≤ sizeLine; decide), fun p2 n2 => ?_⟩⟩
    have B5 := A5.lam hP hm e6 T6
    have k6 : Kp Ps2 H6 (upd H6 p2 (.lst [.ref f6])) := .new n2
    refine ⟨p, p2, _, _, rfl, rfl, k6.lst B5.hp, upd_same, Nat.le_of_lt (small1000 (by rw [List.length_map, hlen]; exact (by decide : 5 + 1 ≤ 1000))), fun p3 n3 => ⟨x, rfl, fun a ha na => ?_⟩⟩
    have ea : a = s.heap.objs.size + 1 := by
      have z : (cellsFrom (s.heap.objs.size + 1) (defScope s_law_asked).names []).lookup ("far" : Str) = some (s.heap.objs.size + 1) := rfl
      rw [z] at ha
      exact (Option.some.inj ha).symm
    subst ea
    exact q p3 _ _ _ (B5.cat n2 n3 a6 b6 ⟨rfl, _, lok_call (ps := ["table", "run", "row"]) (N := ["far"]) o6 (nscope_by (by dsimp only; decide +kernel)) (fun _ _ => rfl) rfl (fun _ _ _ _ _ => pa_cons (pv 0) (pa_cons pe_non (pa_cons pe_non pa_nil))) (fun _ _ _ _ _ => rfl) (by decide) (fun _ _ _ _ _ => ⟨rfl, rfl⟩), fun x v H Q E tg ad nt out => ⟨rfl, x, rfl, x, _, _, rfl, tg, .inr ⟨v, ad, nt, out⟩⟩⟩) (by rw [List.length_append, hlen]; rfl) na
end
end U
set_option maxHeartbeats 4000000
namespace U
open PySem PySem.Spec PyProof.Rows L2 GxR Bx Gx Ex Sx RZ Kx Dx NdefX LamX
theorem firstBad_all {p : V → Bool} : ∀ {xs : List V} (k : Nat), (∀ x ∈ xs, p x = true) → firstBad p k xs = none
  | [], _, _ => rfl
  | x :: r, k, h => by
    rw [firstBad_cons, if_pos (h x List.mem_cons_self)]
    exact firstBad_all (k + 1) fun y hy => h y (List.mem_cons_of_mem _ hy)
theorem firstBad_some {p : V → Bool} : ∀ {xs : List V} {k : Nat} {v : V}, firstBad p k xs = some v → ∃ j : Nat, v = .int j ∧ j < k + xs.length
  | [], _, _, h => by cases h
  | x :: r, k, v, h => by
    rw [firstBad_cons] at h
    split at h
    · obtain ⟨j, e, hj⟩ := firstBad_some h
      exact ⟨j, e, by rw [List.length_cons]; omega⟩
    · cases h
      exact ⟨k, rfl, by rw [List.length_cons]; omega⟩
theorem standBad_good {f n : Nat} {s : List Int} (h : Stand f n s) : standBad f n (some (s.map V.int)) = none := by
  rw [standBad_first f n _ (by rw [List.length_map]; exact h.1)]
  refine firstBad_all 0 fun x hx => ?_
  obtain ⟨i, hi, rfl⟩ := List.mem_map.mp hx
  have := h.2 i hi
  show (decide ((0 : Int) ≤ i) && decide (i ≤ (f : Int) - 1)) = true
  rw [decide_eq_true this.1, decide_eq_true (show i ≤ (f : Int) - 1 by omega)]
  rfl
theorem rowBad_good {f n : Nat} {H : Hp} {z : Addr} {ra : List Tup} (hz : H z = some (.tup (refs ra))) (ha : AllT H ra) (hs : ∀ p ∈ ra, Stand f n p.2) : rowBad f n H (.ref z) = none := by
  unfold rowBad
  rw [tupOf_of hz]
  refine firstBad_all 0 fun x hx => ?_
  obtain ⟨p, hp, rfl⟩ := List.mem_map.mp hx
  rw [tupOf_of (ha p hp), standBad_good (hs p hp)]
  rfl
theorem tol_first {p : V → Bool} {xs : List V} {k : Nat} : Tol (firstBad p k xs) := by
  cases e : firstBad p k xs with
  | none => exact .none
  | some v =>
    obtain ⟨j, rfl, _⟩ := firstBad_some e
    exact .int j
theorem tol_row (f n : Nat) (H : Hp) (z : V) : Tol (rowBad f n H z) := by
  unfold rowBad
  split
  · exact tol_first
  · exact .non
theorem tol_run (f n : Nat) (L : List (List Int)) (m : Nat) (H : Hp) (x : V) : Tol (runBad f n L m H x) := by
  unfold runBad
  split
  · split
    · exact .str _ (by decide +kernel)
    · split
      · split
        · exact tol_first
        · exact .str _ (by decide +kernel)
      · exact .str _ (by decide +kernel)
  · exact .non
theorem log_small {j : Nat} (h : j ≤ 10000) : ((j : Int).natAbs).log2 < 64 := by
  rw [Int.natAbs_natCast]
  by_cases h0 : j = 0
  · subst h0; decide
  · exact (Nat.log2_lt h0).mpr (Nat.lt_of_le_of_lt h (by decide))
def Kd (kind : Str) : Prop := (kind.cps.toList.all fun c => decide (c < 16 ^ 8)) = true ∧ kind.cps.size ≤ 100
theorem shows_nat {kind : Str} (hk : Kd kind) {j : Nat} (h : j ≤ 10000) : ∃ d, Shows kind (.int j) d := ⟨_, shows_int hk.1 (by have := hk.2; omega) (log_small h)⟩
theorem shows_no {kind : Str} (hk : Kd kind) : ∃ d, Shows kind .non d := ⟨_, shows_non hk.1 (by have := hk.2; omega)⟩
theorem shows_s {kind y : Str} (hk : Kd kind) (hy : Kd y) : ∃ d, Shows kind (.str y) d := ⟨_, shows_str hk.1 (by have := hk.2; have := hy.2; omega) hy.1⟩
theorem stand_show {f n : Nat} {o : Option (List V)} (hn : n ≤ 1000) {kind : Str} (hk : Kd kind) : ∀ x, standBad f n o = some x → ∃ d, Shows kind x d := fun x h => by
  unfold standBad at h
  split at h
  · split at h
    · split at h
      · cases h; exact shows_nat hk (by omega)
      · cases h
    · cases h; exact shows_no hk
  · cases h; exact shows_no hk
theorem turn_show {n : Nat} {L : List (List Int)} {o : Option (List V)} (hn : n ≤ 1000) {kind : Str} (hk : Kd kind) : ∀ x, turnBad n L o = some x → ∃ d, Shows kind x d := fun x h => by
  unfold turnBad at h
  split at h
  · rename_i xs
    have := wseat_le xs
    split at h
    · split at h
      · cases h; exact shows_nat hk (by omega)
      · split at h
        · cases h
        · cases h; exact shows_nat hk (by omega)
    · cases h; exact shows_no hk
  · cases h; exact shows_no hk
theorem row_show {f n : Nat} {H : Hp} {z : V} (hf : Few 1000 H z) {kind : Str} (hk : Kd kind) : ∀ x, rowBad f n H z = some x → ∃ d, Shows kind x d := fun x h => by
  unfold rowBad at h
  split at h
  · rename_i xs e
    obtain ⟨j, rfl, hj⟩ := firstBad_some h
    have := hf xs e
    exact shows_nat hk (by omega)
  · cases h; exact shows_no hk
theorem kd_stand : Kd "stand" := by unfold Kd; decide +kernel
theorem kd_turns : Kd "turns" := by unfold Kd; decide +kernel
theorem kd_turning : Kd "turning" := by unfold Kd; decide +kernel
theorem kd_row : Kd "row" := by unfold Kd; decide +kernel
theorem kd_run : Kd "run" := by unfold Kd; decide +kernel
theorem run_show {f n m : Nat} {L : List (List Int)} {H : Hp} {y : V} (hm : m ≤ 1000) {kind : Str} (hk : Kd kind) : ∀ x, runBad f n L m H y = some x → ∃ d, Shows kind x d := fun x h => by
  unfold runBad at h
  split at h
  · split at h
    · cases h; exact shows_s hk kd_stand
    · split at h
      · split at h
        · obtain ⟨j, rfl, hj⟩ := firstBad_some h
          exact shows_nat hk (by omega)
        · cases h; exact shows_s hk kd_turns
      · cases h; exact shows_s hk kd_turns
  · cases h; exact shows_no hk
/-! what stands at a turn of law -/
structure Tn (Ps2 : List Addr) (T : List NTab) (H0 H : Hp) (sa t a : Addr) (f n : Nat) (L : List Tup) (b : Int) : Prop where
  kp : Kp Ps2 H0 H
  tn : TabsN T H
  nsa : H0 sa = none
  st : St H sa b
  tb : Tab H t a f n L
structure Rw (H : Hp) (f n : Nat) (L : List Tup) (sd : Tup) (rw tr : Addr) (ra ta : List Tup) : Prop where
  hsd : H sd.1 = some (.tup (sd.2.map V.int))
  ss : Stand f n sd.2
  hrw : H rw = some (.tup (refs ra))
  rall : AllT H ra
  rst : ∀ p ∈ ra, Stand f n p.2
  rl : ra.length ≤ 5
  htr : H tr = some (.tup (refs ta))
  tall : AllT H ta
  tl : ta.length = ra.length
section
variable {Ps Ps2 : List Addr} {T : List NTab} {H0 H H1 : Hp} {sa t a rw tr : Addr} {f n : Nat} {L ra ta : List Tup} {sd : Tup} {b b' : Int}
theorem Tn.ke (h : Tn Ps2 T H0 H sa t a f n L b) (hs : ∀ P ∈ Ps, P ∈ Ps2) (hd : ∀ p ∈ T, p.1 ∉ Ps) (k : Ke Ps sa H H1) (st : St H1 sa b') : Tn Ps2 T H0 H1 sa t a f n L b' where
  kp := by
    have k2 := ke_up (Ps2 := Ps2) hs k
    exact Kp.ke h.kp h.nsa k2
  tn := tabsn_ke hd (st_code h.st) k h.tn
  nsa := h.nsa
  st := st
  tb := ⟨k.tup (h.st.neT h.tb.t) h.tb.t, k.tup (h.st.neT h.tb.a) h.tb.a, fun p hp => k.tup (h.st.neT (h.tb.all p hp)) (h.tb.all p hp), h.tb.T, h.tb.f2, h.tb.f9, h.tb.st, h.tb.few⟩
theorem Tn.kq (h : Tn Ps2 T H0 H sa t a f n L b) (k : Kp Ps2 H H1) (tn : TabsN T H1) : Tn Ps2 T H0 H1 sa t a f n L b := ⟨h.kp.trans k, tn, h.nsa, h.st.kp k, h.tb.kp k⟩
theorem Tn.kd (h : Tn Ps2 T H0 H sa t a f n L b) (hs : ∀ P ∈ Ps, P ∈ Ps2) (hd : ∀ p ∈ T, p.1 ∉ Ps) (k : Kp Ps H H1) : Tn Ps2 T H0 H1 sa t a f n L b := h.kq (kp_up hs k) (tabsn_kp hd k h.tn)
theorem Tn.le (h : Tn Ps2 T H0 H sa t a f n L b) (hb : b ≤ b') : Tn Ps2 T H0 H sa t a f n L b' := ⟨h.kp, h.tn, h.nsa, h.st.le hb, h.tb⟩
theorem Rw.ke (h : Rw H f n L sd rw tr ra ta) (st : St H sa b) (k : Ke Ps sa H H1) : Rw H1 f n L sd rw tr ra ta :=
  ⟨k.tup (st.neT h.hsd) h.hsd, h.ss, k.tup (st.neT h.hrw) h.hrw, fun p hp => k.tup (st.neT (h.rall p hp)) (h.rall p hp), h.rst, h.rl, k.tup (st.neT h.htr) h.htr, fun p hp => k.tup (st.neT (h.tall p hp)) (h.tall p hp), h.tl⟩
theorem Rw.kp (h : Rw H f n L sd rw tr ra ta) (k : Kp Ps H H1) : Rw H1 f n L sd rw tr ra ta :=
  ⟨k.tup h.hsd, h.ss, k.tup h.hrw, h.rall.kp k, h.rst, h.rl, k.tup h.htr, h.tall.kp k, h.tl⟩
end
end U
set_option maxHeartbeats 4000000
namespace U
open PySem PySem.Spec PyProof.Rows L2 GxR Bx Gx Ex Sx RZ Kx Dx NdefX LamX
/-! pieces of a text -/
def bodyAt (b : List Stmt) (i : Nat) : Stmt := b.getD i (.Pass ⟨0, 0, 0, 0⟩)
def forBody : Stmt → List Stmt
  | .For (body := b) .. => b
  | _ => []
def asgVal : Stmt → Expr
  | .Assign (value := e) .. => e
  | _ => .Constant .none 0 ⟨0, 0, 0, 0⟩
def lcScope : Expr → Scope
  | .ListComp _ _ s _ => s
  | _ => ⟨.function, [], false, false, []⟩
abbrev NL : List Str := ["script", "k", "cell", "state", "size", "some", "stand", "turns", "turn", "some_runs", "bad", "far", "due", "one", "other", "row", "run", "table", "third", "j", "seat", "deed"]
theorem sc_law : FnScope NL ["script"] (defScope s_law) := ⟨rfl, rfl, rfl, by decide +kernel, rfl, by decide +kernel, by decide +kernel⟩
abbrev outer0 : List Stmt := forBody (bodyAt (defBody s_law) 0)
abbrev inner0 : List Stmt := forBody (bodyAt outer0 6)
theorem pe_tupleK (K : PySem.W.Frag) {X : Cx} {a : Expr} {ta : TE} {p pos : Pos} (hm : X.mg "tuple" = none) (ha : PE X a ta) (hg : Gl X "tuple" := by rfl) (hK : X.K = K := by rfl) (na : starEach [a] X.env = (false, eval a X.env) :: starEach [] X.env := by rfl) :
    PE X (.Call (.Name "tuple" p) [a] [] pos) (tThen ta (kTup K)) := by
  subst hK
  exact pe_tupleOf hg hm ha na
/-- a name, a place: forgotten -/
theorem ps_forget {X : Cx} {st : List Stmt} {t : TS} (h : PSs X st t) : PSs X st (fun D σ H => ∃ σ', σ'.length = σ.length ∧ (∀ (i : Nat) v, σ'[i]? = some (some v) → σ[i]? = some (some v)) ∧ t D σ' H) :=
  ⟨fun pins s σ H D I ⟨σ', hl, w, ht⟩ => h.run pins s σ' H D (I.weak hl w) ht⟩
theorem ps_imp {X : Cx} {st : Stmt} {t t' : TS} (h : PS X st t) (i : ∀ D σ H, t' D σ H → t D σ H) : PS X st t' := ⟨fun pins s σ H D I q => h.run pins s σ H D I (i D σ H q)⟩
theorem pss_imp {X : Cx} {st : List Stmt} {t t' : TS} (h : PSs X st t) (i : ∀ D σ H, t' D σ H → t D σ H) : PSs X st t' := ⟨fun pins s σ H D I q => h.run pins s σ H D I (i D σ H q)⟩
section
variable {P : Program} {w : World} {K : PySem.W.Frag} {mg : Str → Option Value} {base : Heap} {Ps : List Addr}
abbrev XL (P : Program) (w : World) (K : PySem.W.Frag) (mg : Str → Option Value) (base : Heap) (f cc : Addr) (A : Around) (outer : List Env) (s : Shared) (H : Hp) (E : XK) : Cx := cxOf CX0 P w K mg base NL "law" (defScope s_law) f (.ref cc) A outer s H E
variable {f cc : Addr} {A : Around} {outer : List Env} {s : Shared} {H0 : Hp} {E : XK}
/-- some = [tuple([..]) ..] -/
theorem st_some (B : BN mg) (o1 : Okd P w K mg base CX0 2 "_law_digit" ["state", "size"] (spDigit Ps)) (hr : Room 2 (XL P w K mg base f cc A outer s H0 E).A) :
    PS (XL P w K mg base f cc A outer s H0 E) (bodyAt outer0 3) (fun D σ H => ∃ (v0 v1 v2 v5 v6 v7 v8 v9 v10 v11 v12 v13 v14 v15 v16 v18 v19 v20 v21 : Option V) (sa t a : Addr) (fc n : Nat) (L : List Tup) (b : Int), σ = [v0, v1, v2, some (.ref sa), some (.int n), v5, v6, v7, v8, v9, v10, v11, v12, v13, v14, v15, v16, some (.ref t), v18, v19, v20, v21] ∧ St H sa b ∧ Tab H t a fc n L ∧ b < 800000000000 ∧
      ∀ H' p M, Ke Ps sa H H' → St H' sa (b + 250) → H' p = some (.lst (refs M)) → AllT H' M → (∀ m ∈ M, Stand fc n m.2) → 1 ≤ M.length → M.length ≤ 6 → D.nx [v0, v1, v2, some (.ref sa), some (.int n), some (.ref p), v6, v7, v8, v9, v10, v11, v12, v13, v14, v15, v16, some (.ref t), v18, v19, v20, v21] H') := by
  have nd := sc_law.nd
  have h0 : PS (XL P w K mg base f cc A outer s H0 E) (bodyAt outer0 3) _ := (ps_setLc (i := 5) (own := [("j", 19)]) (g := gName 19) (tt := tYes) rfl nd rfl rfl (sw_true rfl rfl rfl (by decide +kernel)) (pi_range1 rfl B.range (pa_cons (pe_op op_add pe_int (pe_do o1 hr (pa_cons (pv 3) (pa_cons pe_int pa_nil)))) pa_nil)) (blkOk_by (N := NL) (sc := defScope s_law) (by decide +kernel))
    (fun _ _ _ _ _ => pg_name (i := 19) nd rfl (.inl rfl)) (fun _ _ _ _ _ => pts_nil) (fun _ _ _ _ _ => pe_tupleK K B.tuple (pe_lc (own := [("seat", 20)]) (g := gName 20) (tt := tYes) rfl nd (pi_range1 rfl B.range (pa_cons (pv 4) pa_nil)) (blkOk_by (N := NL) (sc := relS (lcScope (asgVal (bodyAt outer0 3))) (defScope s_law)) (by decide +kernel))
      (fun _ _ _ _ _ => pg_name (i := 20) nd rfl (.inl rfl)) (fun _ _ _ _ _ => pts_nil) (fun _ _ _ _ _ => pe_do o1 hr (pa_cons (pv 3) (pa_cons (pe_ixT K (pv 17) pe_int) pa_nil))))))
  refine ps_imp h0 ?_
  rintro Dn σ H ⟨v0, v1, v2, v5, v6, v7, v8, v9, v10, v11, v12, v13, v14, v15, v16, v18, v19, v20, v21, sa, t, a, fc, n, L, b, rfl, st, tb, hb, q⟩
  have stS := st.some
  have n1 := tb.T.n1
  have n8 := tb.T.n8
  have f2 := tb.f2
  have f9 := tb.f9
  refine ⟨_, rfl, sa, 6, b, rfl, by decide, by decide, st, by omega, fun d H1 ke1 st1 x0 x1 => ⟨_, _, rfl, rfl, _, rfl, by omega, by omega, fun D nD => ?_⟩⟩
  have nD0 : H D = none := ke1.fresh stS nD
  refine lc_it walk_range (fun i H' => Ke Ps sa H H' ∧ St H' sa (b + 4 + 40 * i) ∧ ∃ M : List Tup, H' D = some (.lst (refs M)) ∧ AllT H' M ∧ (∀ m ∈ M, Stand fc n m.2) ∧ M.length = i) ⟨ke1.then (.new nD), (st1.kp (Ps := Ps) (.new nD)).le (by omega), [], upd_same, (fun p hp => by cases hp), (fun p hp => by cases hp), rfl⟩ (fun _ _ _ _ => trivial) ?_ ?_
  · rintro i x H6 H7 hi ⟨ke, stt, M, hD, hM, hO, hl⟩ ⟨rfl, rfl⟩
    refine ⟨rfl, _, rfl, n, rfl, by omega, by omega, fun D2 nD2 => ?_⟩
    have n20 : H D2 = none := ke.fresh stS nD2
    have D2D : D ≠ D2 := ne_of_none hD nD2
    rw [Int.toNat_natCast]
    refine lc_it walk_range (fun j H' => Ke Ps sa H7 H' ∧ St H' sa (b + 4 + 40 * i + 4 * j) ∧ ∃ xs : List Int, H' D2 = some (.lst (xs.map V.int)) ∧ (∀ x ∈ xs, 0 ≤ x ∧ x < fc) ∧ xs.length = j) ⟨.of (.new nD2), (stt.kp (Ps := Ps) (.new nD2)).le (by omega), [], upd_same, (fun p hp => by cases hp), rfl⟩ (fun _ _ _ _ => trivial) ?_ ?_
    · rintro j x H8 H9 hj ⟨k8, st8, xs, h8, hx, hl8⟩ ⟨rfl, rfl⟩
      have tb9 : H9 t = some (.tup [.int fc, .ref a]) := k8.tup (stt.neT (ke.tup (st.neT tb.t) tb.t)) (ke.tup (st.neT tb.t) tb.t)
      refine ⟨rfl, _, rfl, _, rfl, t, _, 0, .int fc, rfl, rfl, .of tb9, rfl, sa, fc, _, rfl, by omega, by omega, st8, by omega, fun y H10 k10 st10 y0 y1 => ?_⟩
      have D2s : D2 ≠ sa := st8.ne h8
      have h10 := k10.lst D2s h8
      refine ⟨_, h10, by rw [List.length_map, hl8]; exact small1000 (by omega), (k8.trans k10).mut nD2 stt.some (fun ps z => by rw [h10] at z; cases z), (st10.upd (Ne.symm D2s)).le (by omega), xs ++ [y], by rw [upd_same, List.map_append]; rfl, fun z hz => ?_, by rw [List.length_append, hl8]; rfl⟩
      rcases List.mem_append.mp hz with hz | hz
      · exact hx z hz
      · rw [List.mem_singleton.mp hz]; exact ⟨y0, y1⟩
    · rintro H8 ⟨k8, st8, xs, h8, hx, hl8⟩
      refine .inl ⟨D2, _, rfl, .of h8, fun p np => ?_⟩
      have kp : Kp Ps H8 (upd H8 p (.tup (xs.map V.int))) := .new np
      have Ds : D ≠ sa := stt.ne hD
      have k9 := (ke.trans k8).then kp
      have hD9 := kp.lst (k8.lst Ds hD)
      have ne : ∀ q ys, (upd H8 p (.tup (xs.map V.int))) q = some (.tup ys) → q ≠ D := fun q ys e z => by rw [z, hD9] at e; cases e
      refine ⟨_, hD9, by rw [refs_len]; exact small1000 (by omega), k9.mut nD0 stS (fun ps z => by rw [hD9] at z; cases z), (((st8.kp kp).upd (Ne.symm Ds)).le (by omega)), M ++ [(p, xs)], ?_, fun q hq => ?_, fun q hq => ?_, by rw [List.length_append, hl]; rfl⟩
      · rw [upd_same]
        exact congrArg (fun z => some (HO.lst z)) (refs_snoc M (p, xs))
      · have e : (upd H8 p (.tup (xs.map V.int))) q.1 = some (.tup (q.2.map V.int)) := by
          rcases List.mem_append.mp hq with z | z
          · exact kp.tup (k8.tup (stt.neT (hM q z)) (hM q z))
          · rw [List.mem_singleton.mp z]; exact upd_same
        rw [upd_ne (ne _ _ e)]
        exact e
      · rcases List.mem_append.mp hq with z | z
        · exact hO q z
        · rw [List.mem_singleton.mp z]; exact ⟨hl8, hx⟩
  · rintro H6 ⟨ke, stt, M, hD, hM, hO, hl⟩
    exact q H6 D M ke (stt.le (by omega)) hD hM hO (by omega) (by omega)
end
end U
set_option maxHeartbeats 4000000
namespace U
open PySem PySem.Spec PyProof.Rows L2 GxR Bx Gx Ex Sx RZ Kx Dx NdefX LamX
/-! what is no table, as law tells it -/
inductive Far (H : Hp) (M : List (List Int)) : V → V → PyData → Nat → Prop
  | non : Far H M .non .non .none 0
  | two {p e : Addr} : H p = some (.tup [.int 2, .ref e]) → H e = some (.tup []) → Far H M (.ref p) (.str "turnings") (.tuple [.int 2, .tuple []]) 1
  | one {p a : Addr} {L : List Tup} : H p = some (.tup [.int 1, .ref a]) → H a = some (.tup (refs L)) → AllT H L → vals L = M → Far H M (.ref p) (.str "faces") (.tuple [.int 1, .tuple (M.map dT)]) 2
def farL (M : List (List Int)) : List PyData := [.none, .tuple [.int 2, .tuple []], .tuple [.int 1, .tuple (M.map dT)]]
section
variable {K : PySem.W.Frag} {Ps : List Addr} {H H1 : Hp} {M : List (List Int)} {x v y : V} {d : PyData} {j : Nat} {c : Addr}
theorem Far.kp (k : Kp Ps H H1) (h : Far H M x v d j) : Far H1 M x v d j := by
  cases h with
  | non => exact .non
  | two h1 h2 => exact .two (k.tup h1) (k.tup h2)
  | one h1 h2 h3 h4 => exact .one (k.tup h1) (k.tup h2) (h3.kp k) h4
theorem del_tup {a : Addr} {xs : List V} (hc : H c = some (CellO c y)) (e : H a = some (.tup xs)) : del H c a = some (.tup xs) := by
  rw [del_ne (fun z => by rw [z, hc] at e; exact absurd (Option.some.inj e) (by unfold CellO; exact nofun))]; exact e
theorem Far.del (hc : H c = some (CellO c y)) (h : Far H M x v d j) : Far (del H c) M x v d j := by
  cases h with
  | non => exact .non
  | two h1 h2 => exact .two (del_tup hc h1) (del_tup hc h2)
  | one h1 h2 h3 h4 => exact .one (del_tup hc h1) (del_tup hc h2) (fun p hp => del_tup hc (h3 p hp)) h4
theorem Far.ad (h : Far H M x v d j) : AD H x := by
  cases h with
  | non => exact .non
  | two h1 h2 =>
    exact .tup h1 fun y hy => by
      rcases List.mem_cons.mp hy with rfl | hy
      · exact .int _
      · rw [List.mem_singleton.mp hy]; exact .tup h2 fun y hy => by cases hy
  | one h1 h2 h3 h4 =>
    exact .tup h1 fun y hy => by
      rcases List.mem_cons.mp hy with rfl | hy
      · exact .int _
      · rw [List.mem_singleton.mp hy]; exact .tup h2 (ad_tups h3)
theorem Far.no (h : Far H M x v d j) : NoTab H x v := by
  cases h with
  | non => exact .two rfl
  | two h1 h2 =>
    exact .turnings (tupOf_of h1) (by decide) fun L r => by
      have e := r.at_
      have lo := r.lo
      rw [tupOf_of h2] at e
      have e2 := (congrArg List.length (Option.some.inj e))
      rw [refs_len] at e2
      have : L.length = 0 := e2.symm
      omega
  | one h1 h2 h3 h4 => exact .faces (tupOf_of h1) (by decide)
theorem Far.dp (h : Far H M x v d j) : Dp K H x d := by
  cases h with
  | non => exact .non
  | two h1 h2 => exact .tup (.of h1) (.cons (.int 2) (.cons (.tup (.of h2) .nil) .nil))
  | one h1 h2 h3 h4 => exact .tup (.of h1) (.cons (.int 1) (.cons (.tup (.of h2) (h4 ▸ dp_Ts fun p hp => .of (h3 p hp))) .nil))
theorem shaped_of {d : PyData} (h1 : d.canLay0 = true) (h2 : d.depth ≤ 64) : SeqAt.shaped d = true := by
  unfold SeqAt.shaped
  rw [h1, decide_eq_true h2]
  rfl
theorem farL_shaped : SeqAt.shaped (.list (farL M)) = true := by
  have q := depthAll_T M
  refine shaped_of ?_ ?_
  · simp only [farL, PyData.canLay0, PyData.canLayAll0, layAll_T, Bool.and_self]
  · simp only [farL, PyData.depth, PyData.depthAll]; omega
theorem eqv_Ts : ∀ M : List (List Int), PyData.eqvAll (M.map dT) (M.map dT) = true
  | [] => by simp [PyData.eqvAll]
  | x :: M => by
    rw [List.map_cons]
    simp only [PyData.eqvAll, eqv_Ts M, Bool.and_true]
    rw [eqv_T]
    exact decide_eq_true rfl
theorem Far.shaped (h : Far H M x v d j) : SeqAt.shaped d = true := by
  have q := depthAll_T M
  cases h with
  | non => exact shaped_of (by simp [PyData.canLay0]) (by simp [PyData.depth])
  | two h1 h2 => exact shaped_of (by simp [PyData.canLay0, PyData.canLayAll0]) (by simp [PyData.depth, PyData.depthAll])
  | one h1 h2 h3 h4 => exact shaped_of (by simp only [PyData.canLay0, PyData.canLayAll0, layAll_T, Bool.and_self]) (by simp only [PyData.depth, PyData.depthAll]; omega)
theorem Far.eqv (h : Far H M x v d j) : PyData.eqv d d = true := by
  cases h with
  | non => simp [PyData.eqv]
  | two h1 h2 => simp [PyData.eqv, PyData.eqvAll]
  | one h1 h2 h3 h4 => simp [PyData.eqv, PyData.eqvAll, eqv_Ts]
theorem Far.at_ (h : Far H M x v d j) : (farL M)[j]? = some d := by
  cases h <;> rfl
theorem Far.ahead (h : Far H M x v d j) : ∀ (m : Nat) (z' : PyData), m < j → (farL M)[m]? = some z' → PyData.eqv z' d = false := fun m z' hm hz => by
  cases h with
  | non => omega
  | two h1 h2 =>
    have : m = 0 := by omega
    subst this
    cases hz
    simp [PyData.eqv]
  | one h1 h2 h3 h4 =>
    have : m = 0 ∨ m = 1 := by omega
    rcases this with rfl | rfl <;> cases hz
    · simp [PyData.eqv]
    · simp [PyData.eqv, PyData.eqvAll]
theorem Far.told (h : Far H M x v d j) : atI [V.non, V.str "turnings", V.str "faces"] (j : Int) = some v := by
  cases h <;> rfl
theorem Far.val (h : Far H M x v d j) : ∃ dv, (∀ (K : PySem.W.Frag) (G : Hp), Dp K G v dv) ∧ dv.canLay0 = true ∧ dv.depth = 0 ∧ PyData.eqv dv dv = true := by
  cases h with
  | non => exact ⟨.none, fun _ _ => .non, by simp [PyData.canLay0], by simp [PyData.depth], by simp [PyData.eqv]⟩
  | two h1 h2 => exact ⟨.str "turnings", fun _ _ => .str _, by simp only [PyData.canLay0]; decide +kernel, by simp [PyData.depth], by simp [PyData.eqv]⟩
  | one h1 h2 h3 h4 => exact ⟨.str "faces", fun _ _ => .str _, by simp only [PyData.canLay0]; decide +kernel, by simp [PyData.depth], by simp [PyData.eqv]⟩
theorem kp_cell (k : Kp Ps (del H c) H1) (hc : H c = some (CellO c x)) (nc : H1 c = none) : Kp Ps H (upd H1 c (CellO c x)) := by
  have tn : ∀ {P : Addr}, TabG H P → P ≠ c := fun {P} t z => by
    obtain ⟨ps, e, _⟩ := t
    rw [z, hc] at e
    exact cello_ne _ (Option.some.inj e)
  refine ⟨fun b o e n => ?_, fun t P hP => ?_, fun b ps e => ?_⟩
  · by_cases hb : b = c
    · subst hb
      rw [hc] at e
      cases e
      exact upd_same
    · rw [upd_ne hb]
      exact k.old b o (by rw [del_ne hb]; exact e) n
  · have t2 : Tg Ps (del H c) := fun Q hQ => by
      obtain ⟨ps, e, r⟩ := t Q hQ
      exact ⟨ps, by rw [del_ne (tn (t Q hQ))]; exact e, r⟩
    obtain ⟨ps, e, r⟩ := k.tab t2 P hP
    exact ⟨ps, by rw [upd_ne (tn (t P hP))]; exact e, r⟩
  · have hb : b ≠ c := fun z => by rw [z, hc] at e; exact cello_ne _ (Option.some.inj e)
    obtain ⟨ps', e', r⟩ := k.tb b ps (by rw [del_ne hb]; exact e)
    exact ⟨ps', by rw [upd_ne hb]; exact e', r⟩
end
end U
set_option maxHeartbeats 4000000
namespace U
open PySem PySem.Spec PyProof.Rows L2 GxR Bx Gx Ex Sx RZ Kx Dx NdefX LamX
theorem refs_cons (p : Tup) (L : List Tup) : refs (p :: L) = .ref p.1 :: refs L := rfl
section
variable {P : Program} {w : World} {K : PySem.W.Frag} {mg : Str → Option Value} {base : Heap} {Ps Ps2 : List Addr}
variable {f cc : Addr} {A : Around} {outer : List Env} {s : Shared} {H0 : Hp} {E : XK}
/-- turns = tuple([..]) -/
theorem st_turns (B : BN mg) (o1 : Okd P w K mg base CX0 2 "_law_digit" ["state", "size"] (spDigit Ps)) (hr : Room 2 (XL P w K mg base f cc A outer s H0 E).A) :
    PS (XL P w K mg base f cc A outer s H0 E) (bodyAt outer0 5) (fun D σ H => ∃ (v0 v1 v2 v4 v5 v6 v7 v8 v9 v10 v11 v12 v13 v14 v16 v18 v19 v20 v21 : Option V) (sa t a rw : Addr) (fc n : Nat) (L ra : List Tup) (b : Int), σ = [v0, v1, v2, some (.ref sa), v4, v5, v6, v7, v8, v9, v10, v11, v12, v13, v14, some (.ref rw), v16, some (.ref t), v18, v19, v20, v21] ∧ St H sa b ∧ Tab H t a fc n L ∧ H rw = some (.tup (refs ra)) ∧ ra.length ≤ 5 ∧ b < 800000000000 ∧
      ∀ H' p ta, Ke Ps sa H H' → St H' sa (b + 30) → H' p = some (.tup (refs ta)) → AllT H' ta → ta.length = ra.length → D.nx [v0, v1, v2, some (.ref sa), v4, v5, v6, some (.ref p), v8, v9, v10, v11, v12, v13, v14, some (.ref rw), v16, some (.ref t), v18, v19, v20, v21] H') := by
  have nd := sc_law.nd
  have h0 : PS (XL P w K mg base f cc A outer s H0 E) (bodyAt outer0 5) _ := ps_set (i := 7) nd rfl (.inl rfl) (pe_tupleK K B.tuple (pe_lc (own := [("deed", 21)]) (g := gName 21) (tt := tYes) rfl nd (pi_tup (pv 15)) (blkOk_by (N := NL) (sc := defScope s_law) (by decide +kernel))
    (fun _ _ _ _ _ => pg_name (i := 21) nd rfl (.inl rfl)) (fun _ _ _ _ _ => pts_nil) (fun _ _ _ _ _ => pe_ixT K (pe_ixT K (pv 17) pe_int) (pe_do o1 hr (pa_cons (pv 3) (pa_cons (pe_len K B.len (pe_ixT K (pv 17) pe_int)) pa_nil))))))
  refine ps_imp h0 ?_
  rintro Dn σ H ⟨v0, v1, v2, v4, v5, v6, v7, v8, v9, v10, v11, v12, v13, v14, v16, v18, v19, v20, v21, sa, t, a, rw, fc, n, L, ra, b, rfl, st, tb, hrw, hra, hb, q⟩
  have stS := st.some
  have l0 := tb.lo
  have l1 := tb.few
  refine ⟨_, rfl, rw, rfl, ⟨_, .of hrw⟩, fun D nD => ?_⟩
  refine lc_tup (xs := refs ra) (fun i H' => Ke Ps sa H H' ∧ St H' sa (b + 4 * i) ∧ ∃ M : List Tup, H' D = some (.lst (refs M)) ∧ AllT H' M ∧ M.length = i) ⟨.of (.new nD), (st.kp (Ps := Ps) (.new nD)).le (by omega), [], upd_same, (fun p hp => by cases hp), rfl⟩ (fun i H' _ p => .of (p.1.tup (st.neT hrw) hrw)) ?_ ?_
  · rintro i x H' hi ⟨ke, stt, M, hD, hM, hl⟩
    have hil := len_of hi
    rw [refs_len] at hil
    have ht := ke.tup (st.neT tb.t) tb.t
    have ha := ke.tup (st.neT tb.a) tb.a
    refine ⟨rfl, _, rfl, t, _, 1, .ref a, rfl, rfl, .of ht, rfl, _, rfl, _, rfl, t, _, 1, .ref a, rfl, rfl, .of ht, rfl, a, refs L, rfl, .inr (.of ha), sa, (refs L).length, _, rfl, by rw [refs_len]; omega, by rw [refs_len]; omega, stt, by omega, fun y H5 k5 st5 y0 y1 => ?_⟩
    rw [refs_len] at y1
    have Ds : D ≠ sa := stt.ne hD
    have hD5 := k5.lst Ds hD
    obtain ⟨p, hp⟩ : ∃ p, L[y.toNat]? = some p := ⟨_, List.getElem?_eq_getElem (by omega)⟩
    have ey : ((y.toNat : Nat) : Int) = y := by omega
    have k05 := ke.trans k5
    refine ⟨a, _, y, .ref p.1, rfl, rfl, .of (k5.tup (stt.neT ha) ha), by rw [← ey]; exact atI_nat (refs_get hp), _, hD5, by rw [refs_len]; exact small1000 (by omega), k05.mut nD stS (fun ps z => by rw [hD5] at z; cases z), (st5.upd (Ne.symm Ds)).le (by omega), M ++ [p], ?_, fun q hq => ?_, by rw [List.length_append, hl]; rfl⟩
    · rw [upd_same]
      exact congrArg (fun z => some (HO.lst z)) (refs_snoc M p)
    · have ne : ∀ q ys, H5 q = some (.tup ys) → q ≠ D := fun q ys e z => by rw [z, hD5] at e; cases e
      have e : H5 q.1 = some (.tup (q.2.map V.int)) := by
        rcases List.mem_append.mp hq with z | z
        · exact k5.tup (stt.neT (hM q z)) (hM q z)
        · rw [List.mem_singleton.mp z]
          have hpa := tb.all p (List.mem_of_getElem? hp)
          exact k05.tup (st.neT hpa) hpa
      rw [upd_ne (ne _ _ e)]
      exact e
  · rintro H' ⟨ke, stt, M, hD, hM, hl⟩
    rw [refs_len] at hl stt
    refine .inl ⟨D, _, rfl, .of hD, fun p np => ?_⟩
    have kp : Kp Ps H' (upd H' p (.tup (refs M))) := .new np
    exact q _ p M (ke.then kp) ((stt.kp kp).le (by omega)) upd_same (hM.kp kp) hl
end
end U
set_option maxHeartbeats 4000000
namespace U
open PySem PySem.Spec PyProof.Rows L2 GxR Bx Gx Ex Sx RZ Kx Dx NdefX LamX
section
variable {P : Program} {w : World} {K : PySem.W.Frag} {mg : Str → Option Value} {base : Heap} {Ps Ps2 : List Addr}
variable {f cc : Addr} {A : Around} {outer : List Env} {s : Shared} {H0 : Hp} {E : XK}
theorem tg_del {H : Hp} {c : Addr} {x : V} (t : Tg Ps H) (hc : H c = some (CellO c x)) : Tg Ps (del H c) := fun Q hQ => by
  obtain ⟨ps, e, r⟩ := t Q hQ
  exact ⟨ps, by rw [del_ne (fun z => by rw [z, hc] at e; exact cello_ne _ (Option.some.inj e))]; exact e, r⟩
theorem dp_rep {H : Hp} {d : PyData} : ∀ {rs : List Addr}, (∀ q ∈ rs, Dp K H (.ref q) d) → DpAll K H (rs.map V.ref) (List.replicate rs.length d)
  | [], _ => .nil
  | r :: rs, h => .cons (h r List.mem_cons_self) (dp_rep fun q hq => h q (List.mem_cons_of_mem _ hq))
/-- far, due, what is told of far -/
theorem st_far {T : List NTab} {cl : Str → Addr} {CT : Addr} (B : BN mg) (hs : ∀ P ∈ Ps, P ∈ Ps2) (hd : ∀ p ∈ T, p.1 ∉ Ps) (cf : CF K cl CT "table" "place") (o1 : Okd P w K mg base CX0 2 "_law_digit" ["state", "size"] (spDigit Ps)) (o2 : Okd P w K mg base CX0 1 "_law_asked" ["far"] (spAsked P w K mg base Ps Ps2 T CT))
    (o3 : OkP P w K mg base CX0 11 "_law_told" ["deed"] (spTold P w K mg base Ps cl 10)) (hr : Room 11 (XL P w K mg base f cc A outer s H0 E).A) :
    PSs (XL P w K mg base f cc A outer s H0 E) [bodyAt outer0 7, bodyAt outer0 8, bodyAt outer0 9] (fun D σ H => ∃ (v0 v1 v2 v4 v5 v6 v7 v8 v9 v10 v11 v12 v13 v14 v15 v16 v18 v19 v20 v21 : Option V) (G : Hp) (sa t a : Addr) (fc n : Nat) (L : List Tup) (b : Int), σ = [v0, v1, v2, some (.ref sa), v4, v5, v6, v7, v8, v9, v10, v11, v12, v13, v14, v15, v16, some (.ref t), v18, v19, v20, v21] ∧ Tn Ps2 T G H sa t a fc n L b ∧ Tg Ps2 G ∧ b < 800000000000 ∧
      ∀ H' v11' v12', Kp Ps2 G H' → TabsN T H' → D.nx [v0, v1, v2, some (.ref sa), v4, v5, v6, v7, v8, v9, v10, v11', v12', v13, v14, v15, v16, some (.ref t), v18, v19, v20, v21] H') := by
  have nd := sc_law.nd
  have h0 : PSs (XL P w K mg base f cc A outer s H0 E) [bodyAt outer0 7, bodyAt outer0 8, bodyAt outer0 9] _ := pss_cons (ps_set (i := 11) nd rfl (.inl rfl) (pe_ixL K (pe_lst (pa_cons pe_non (pa_cons (pe_tup (pa_cons pe_int (pa_cons (pe_tup pa_nil) pa_nil))) (pa_cons (pe_tup (pa_cons pe_int (pa_cons (pe_ixT K (pv 17) pe_int) pa_nil))) pa_nil)))) (pe_do o1 (hr.mono (by decide)) (pa_cons (pv 3) (pa_cons pe_int pa_nil)))))
    (pss_cons (ps_set (i := 12) nd rfl (.inl rfl) (pe_tup (pa_cons pe_str (pa_cons (pe_ixL K (pe_lst (pa_cons pe_non (pa_cons pe_str (pa_cons pe_str pa_nil)))) (pe_bm PySem.F.plainAttrs_list PySem.F.slot_list_index PySem.F.type_list_index (mt_indexD (show (XL P w K mg base f cc A outer s H0 E).A.units + 65 < cLine by have := hr.un; omega)) (pe_lst (pa_cons pe_non (pa_cons (pe_tup (pa_cons pe_int (pa_cons (pe_tup pa_nil) pa_nil))) (pa_cons (pe_tup (pa_cons pe_int (pa_cons (pe_ixT K (pv 17) pe_int) pa_nil))) pa_nil)))) (pa_cons (pv 11) pa_nil))) pa_nil))))
    (pss_one (ps_if (pt_neD K (pe_lc (own := [("deed", 21)]) (g := gName 21) (tt := tYes) rfl nd (pi_list (pe_do o2 (hr.mono (by decide)) (pa_cons (pv 11) pa_nil))) (blkOk_by (N := NL) (sc := defScope s_law) (by decide +kernel))
      (fun _ _ _ _ _ => pg_name (i := 21) nd rfl (.inl rfl)) (fun _ _ _ _ _ => pts_nil) (fun _ _ _ _ _ => pe_tdC "far" o3 hr (pa_cons (pv 21) pa_nil))) (pe_op op_rep (pe_lst (pa_cons (pv 12) pa_nil)) pe_int) (u64 hr)) (pss_one (ps_ret pe_bl)) pss_nil)))
  refine pss_imp h0 ?_
  rintro D σ H ⟨v0, v1, v2, v4, v5, v6, v7, v8, v9, v10, v11, v12, v13, v14, v15, v16, v18, v19, v20, v21, G, sa, t, a, fc, n, L, b, rfl, tn, tg, hb, q⟩
  have tb := tn.tb
  have hu := tn.tb.few
  -- far
  refine ⟨(by show 0 ≤ sizeLine; decide), fun e1 ne1 => ⟨(by show 2 ≤ sizeLine; decide), fun p1 np1 => ?_⟩⟩
  have k1 : Kp Ps H (upd H e1 (.tup [])) := .new ne1
  have k2 := k1.trans (Kp.new (o := .tup [.int 2, .ref e1]) np1)
  refine ⟨_, rfl, t, _, 1, .ref a, rfl, rfl, .of (k2.tup tb.t), rfl, (by show 2 ≤ sizeLine; decide), fun p2 np2 => ⟨(by show 3 ≤ sizeLine; decide), fun l nl => ?_⟩⟩
  have k3 := k2.trans (Kp.new (o := .tup [.int 1, .ref a]) np2)
  have k4 := k3.trans (Kp.new (o := .lst [.non, .ref p1, .ref p2]) nl)
  have t4 := tn.kd hs hd k4
  refine ⟨_, rfl, sa, 3, b, rfl, by decide, by decide, t4.st, by omega, fun d H5 ke5 st5 d0 d1 => ?_⟩
  have t5 := t4.ke hs hd ke5 st5
  have q1 : H5 p1 = some (.tup [.int 2, .ref e1]) := by
    have z := (((Kp.new (Ps := Ps) (o := .tup [.int 1, .ref a]) np2).trans (Kp.new (o := .lst [.non, .ref p1, .ref p2]) nl)).tup (a := p1) (xs := [.int 2, .ref e1]) upd_same)
    exact ke5.tup (t4.st.neT z) z
  have q0 : H5 e1 = some (.tup []) := by
    have z := ((((Kp.new (Ps := Ps) (o := .tup [.int 2, .ref e1]) np1).trans (Kp.new (o := .tup [.int 1, .ref a]) np2)).trans (Kp.new (o := .lst [.non, .ref p1, .ref p2]) nl)).tup (a := e1) (xs := []) upd_same)
    exact ke5.tup (t4.st.neT z) z
  have q2 : H5 p2 = some (.tup [.int 1, .ref a]) := by
    have z := ((Kp.new (Ps := Ps) (o := .lst [.non, .ref p1, .ref p2]) nl).tup (a := p2) (xs := [.int 1, .ref a]) upd_same)
    exact ke5.tup (t4.st.neT z) z
  have ql : H5 l = some (.lst [.non, .ref p1, .ref p2]) := ke5.lst (t4.st.ne upd_same) upd_same
  obtain ⟨fv, v, dd, j, hat, far⟩ : ∃ fv v dd j, atI [V.non, V.ref p1, V.ref p2] d = some fv ∧ Far H5 (vals L) fv v dd j := by
    have : d = 0 ∨ d = 1 ∨ d = 2 := by omega
    rcases this with e | e | e <;> subst e
    · exact ⟨_, _, _, _, rfl, .non⟩
    · exact ⟨_, _, _, _, rfl, .two q1 q0⟩
    · exact ⟨_, _, _, _, rfl, .one q2 t5.tb.a t5.tb.all rfl⟩
  refine ⟨l, _, d, fv, rfl, rfl, .of ql, hat, ?_⟩
  clear q1 q0 q2 ql hat k1 k2 k3 k4
  -- due
  refine ⟨(by show 3 ≤ sizeLine; decide), fun ln nln => ?_⟩
  have m0 : Kp Ps H5 (upd H5 ln (.lst [.non, .str "turnings", .str "faces"])) := .new nln
  refine ⟨(by show 0 ≤ sizeLine; decide), fun e2 ne2 => ⟨(by show 2 ≤ sizeLine; decide), fun p3 np3 => ?_⟩⟩
  have m1 := m0.trans (Kp.new (o := .tup []) ne2)
  have m2 := m1.trans (Kp.new (o := .tup [.int 2, .ref e2]) np3)
  refine ⟨_, rfl, t, _, 1, .ref a, rfl, rfl, .of (m2.tup t5.tb.t), rfl, (by show 2 ≤ sizeLine; decide), fun p4 np4 => ⟨(by show 3 ≤ sizeLine; decide), fun l2 nl2 => ?_⟩⟩
  have m3 := m2.trans (Kp.new (o := .tup [.int 1, .ref a]) np4)
  have n4 := Kp.new (Ps := Ps) (o := .lst [.non, .ref p3, .ref p4]) nl2
  have n3 := (Kp.new (Ps := Ps) (o := .tup [.int 1, .ref a]) np4).trans n4
  have n2 := (Kp.new (Ps := Ps) (o := .tup [.int 2, .ref e2]) np3).trans n3
  have n1 := (Kp.new (Ps := Ps) (o := .tup []) ne2).trans n2
  have m4 := m3.trans n4
  have t6 := t5.kd hs hd m4
  have far6 := far.kp m4
  refine ⟨.inl ⟨rfl, _, .of upd_same⟩, _, rfl, l2, fv, dd, farL (vals L), j, dd, rfl, rfl, .lst (.of upd_same) (.cons .non (.cons (.tup (.of (n3.tup upd_same)) (.cons (.int 2) (.cons (.tup (.of (n2.tup upd_same)) .nil) .nil))) (.cons (.tup (.of (n4.tup upd_same)) (.cons (.int 1) (.cons (.tup (.of t6.tb.a) (dp_Ts fun p hp => .of (t6.tb.all p hp))) .nil))) .nil))), far6.dp, farL_shaped, far6.shaped, far6.at_, far6.eqv, far6.ahead, ?_⟩
  refine ⟨ln, _, j, v, rfl, rfl, .of (n1.lst upd_same), far6.told, (by show 2 ≤ sizeLine; decide), fun du ndu => ?_⟩
  have m5 := Kp.new (Ps := Ps) (o := .tup [.str "table", v]) ndu
  have t7 := t6.kd hs hd m5
  have far7 := far6.kp m5
  have hdu : (upd _ du (.tup [.str "table", v])) du = some (.tup [.str "table", v]) := upd_same (H := upd (upd (upd (upd (upd H5 ln (.lst [.non, .str "turnings", .str "faces"])) e2 (.tup [])) p3 (.tup [.int 2, .ref e2])) p4 (.tup [.int 1, .ref a])) l2 (.lst [.non, .ref p3, .ref p4]))
  generalize hG7 : (upd _ du (.tup [.str "table", v])) = G7 at t7 far7 hdu ⊢
  clear hG7 far6 t6 m5 n1 n2 n3 n4 m4 m3 m2 m1 m0 far
  -- what is told
  refine ⟨_, rfl, fv, rfl, t7.tn, fun p c fs H8 ak h6 nc => ?_⟩
  have k9 : Kp Ps2 H8 (upd H8 c (CellO c fv)) := .new nc
  have hp9 := k9.lst ak.hp
  have far9 := (far7.kp ak.kp).kp k9
  have hc9 : (upd H8 c (CellO c fv)) c = some (CellO c fv) := upd_same
  have tg9 : Tg Ps2 (upd H8 c (CellO c fv)) := k9.tab (ak.kp.tab (t7.kp.tab tg))
  have tn9 : TabsN T (upd H8 c (CellO c fv)) := tabsn_kp (Ps := []) (fun _ _ => by simp) (.new nc) ak.tn
  have du9 := k9.tup (ak.kp.tup hdu)
  have kall := (t7.kp.trans ak.kp).trans k9
  have all9 : ∀ g ∈ fs, (upd H8 c (CellO c fv)) g.1 = some (LFo g.1 g.2) ∧ (upd H8 c (CellO c fv)) g.2.c = some (CodeO g.2.c g.2.qual) ∧ Refs P w K mg base Ps CT c g.1 g.2 := fun g hg => ⟨k9.old _ _ (ak.all g hg).1 lfo_ne, k9.old _ _ (ak.all g hg).2.1 codeO_ne, (ak.all g hg).2.2⟩
  generalize hG9 : upd H8 c (CellO c fv) = G9 at hp9 far9 hc9 tg9 tn9 du9 kall all9 ⊢
  clear hG9 k9 ak nc
  obtain ⟨dv, dvp, dvl, dvd, dve⟩ := far9.val
  refine ⟨p, rfl, ⟨_, .of hp9⟩, fun D nD => ?_⟩
  refine lc_list (K := (XL P w K mg base f cc A outer s H0 E).K) (a := p) (xs := lams fs) (fun i H' => Kp Ps2 G9 H' ∧ TabsN T H' ∧ ∃ rs : List Addr, H' D = some (.lst (rs.map V.ref)) ∧ rs.length = i ∧ ∀ q ∈ rs, H' q = some (.tup [.str "table", v])) ⟨.new nD, tabsn_kp (Ps := []) (fun _ _ => by simp) (.new nD) tn9, [], upd_same, rfl, fun q hq => by cases hq⟩ (fun i H' _ q => .of (q.1.lst hp9)) ?_ ?_
  · rintro i x H' hi ⟨kk, tt, rs, hD, hl, hrs⟩
    obtain ⟨g, hg, rfl⟩ := List.mem_map.mp (List.mem_of_getElem? hi)
    have hi6 := len_of hi
    rw [List.length_map, h6] at hi6
    obtain ⟨a1, a2, hcl, sp, lk, hsp⟩ := all9 g hg
    have hc' := kk.old _ _ hc9 cello_ne
    have far' := far9.kp kk
    refine ⟨rfl, _, rfl, g.1, c, g.2, fv, sp, rfl, kk.old _ _ a1 lfo_ne, kk.old _ _ a2 codeO_ne, hc', hcl, lk, fun H1 Q' E' k1 wa wb => ?_⟩
    have farD := (far'.del hc').kp k1
    refine hsp fv v H1 Q' E' (k1.tab (tg_del (tg_sub hs (kk.tab tg9)) hc')) farD.ad farD.no (fun d H2 k2 nd2 hd2 => wb _ _ _ ⟨CT, d, "table", "place", v, rfl, rfl, k1.trans k2, hd2, cf, fun p' H3 k3 hp' nc' => ?_⟩)
    have kc : Kp Ps H' (upd H3 c (CellO c fv)) := kp_cell k3 hc' nc'
    have hD3 := kc.lst hD
    have hp3 : (upd H3 c (CellO c fv)) p' = some (.tup [.str "table", v]) := by
      rw [upd_ne (ne_of_none hp' nc')]; exact hp'
    have ne : ∀ q ys, (upd H3 c (CellO c fv)) q = some (.tup ys) → q ≠ D := fun q ys e z => by rw [z, hD3] at e; cases e
    refine ⟨_, hD3, by rw [List.length_map, hl]; exact small1000 (by omega), (kk.trans (kp_up hs kc)).mut nD (fun ps z => by rw [hD3] at z; cases z), tabsn_upd (fun ps z => by rw [hD3] at z; cases z) (fun c q z => by rw [hD3] at z; exact codeo_lst (Option.some.inj z).symm) (tabsn_kp hd kc tt), rs ++ [p'], by rw [upd_same, List.map_append]; rfl, by rw [List.length_append, hl]; rfl, fun q hq => ?_⟩
    have e : (upd H3 c (CellO c fv)) q = some (.tup [.str "table", v]) := by
      rcases List.mem_append.mp hq with z | z
      · exact kc.tup (hrs q z)
      · rw [List.mem_singleton.mp z]; exact hp3
    rw [upd_ne (ne _ _ e)]
    exact e
  · rintro H' ⟨kk, tt, rs, hD, hl, hrs⟩
    rw [List.length_map, h6] at hl
    refine ⟨_, rfl, (by show 1 ≤ sizeLine; decide), fun z1 nz1 => ⟨z1, 6, _, rfl, rfl, upd_same, by decide, by decide, (by show 1 * 6 ≤ sizeLine; decide), fun z2 nz2 => ?_⟩⟩
    have x1 := Kp.new (Ps := Ps2) (o := .lst [.ref du]) nz1
    have x2 := x1.trans (Kp.new (o := .lst (List.replicate (6 : Int).toNat [V.ref du]).flatten) nz2)
    have dd1 : ∀ q, (upd (upd H' z1 (.lst [.ref du])) z2 (.lst (List.replicate (6 : Int).toNat [V.ref du]).flatten)) q = some (.tup [.str "table", v]) → Dp K (upd (upd H' z1 (.lst [.ref du])) z2 (.lst (List.replicate (6 : Int).toNat [V.ref du]).flatten)) (.ref q) (.tuple [.str "table", dv]) := fun q e => .tup (.of e) (.cons (.str _) (.cons (dvp _ _) .nil))
    have ddu := dd1 du (x2.tup (kk.tup du9))
    have hrep := dp_rep (K := K) (H := upd (upd H' z1 (.lst [.ref du])) z2 (.lst (List.replicate (6 : Int).toNat [V.ref du]).flatten)) (d := .tuple [.str "table", dv]) (rs := rs) fun q hq => dd1 q (x2.tup (hrs q hq))
    rw [hl] at hrep
    have shp : SeqAt.shaped (.list (List.replicate 6 (.tuple [.str "table", dv]))) = true := by
      refine shaped_of ?_ ?_
      · have hs : PyData.canLay0 (.str "table") = true := by simp only [PyData.canLay0]; decide +kernel
        simp only [List.replicate, PyData.canLay0, PyData.canLayAll0, dvl, Bool.and_self, Bool.and_true]
        simp only [PyData.canLay0] at hs
        exact hs
      · simp only [List.replicate, PyData.depth, PyData.depthAll, dvd]; decide
    refine ⟨.list (List.replicate 6 (.tuple [.str "table", dv])), .list (List.replicate 6 (.tuple [.str "table", dv])), .lst (.of (x2.lst hD)) hrep, .lst (.of upd_same) (.cons ddu (.cons ddu (.cons ddu (.cons ddu (.cons ddu (.cons ddu .nil)))))), shp, shp, false, congrArg V.bl ?_, iteF ?_⟩
    · have e : PyData.eqv (.list (List.replicate 6 (.tuple [.str "table", dv]))) (.list (List.replicate 6 (.tuple [.str "table", dv]))) = true := by
        simp only [List.replicate, PyData.eqv, PyData.eqvAll, dve, Bool.and_self, Bool.and_true, beq_self_eq_true]
      rw [e]
      rfl
    · exact q _ _ _ ((kall.trans kk).trans x2) (tabsn_kp (Ps := []) (fun _ _ => by simp) (.new nz2) (tabsn_kp (Ps := []) (fun _ _ => by simp) (.new nz1) tt))
end
end U
set_option maxHeartbeats 4000000
/-! a tuple times 0, times 1 -/
namespace Mx
open PySem PySem.Spec PyProof.Rows L2
theorem times_one (l : Addr) (its : Array Value) (n : Nat) (dd : Option Addr) (sl : Array (Option Value)) (u : Tok) (he : its.isEmpty = false) :
    Meets (Builtin.«tuple.__mul__» ⟨[.ref l, .int 1 u], []⟩) (fun _ R s => s.heap.get? l = some { cls := .type "tuple", dict := dd, data := .seq its n, slots := sl } ∧ R (.ok (.ret (Value.ref l))) s) :=
  .of_wp fun pg ww AA RR z q => by
    obtain ⟨z1, z2, z3, z4, z5⟩ := z
    obtain ⟨hl, q⟩ := q
    have ix := AutoSeq1.idx_int
    wp_walk using wpAny_loadPart' hl
    exact ⟨_, rfl, q⟩
theorem times_none (l : Addr) (its : Array Value) (n : Nat) (dd : Option Addr) (sl : Array (Option Value)) (u : Tok) (he : its.isEmpty = false) :
    Meets (Builtin.«tuple.__mul__» ⟨[.ref l, .int 0 u], []⟩) (fun _ R s => s.heap.get? l = some { cls := .type "tuple", dict := dd, data := .seq its n, slots := sl } ∧
      R (.ok (.ret (Value.ref s.heap.objs.size))) { s with heap := s.heap.push { cls := .type "tuple", data := .seq #[] } }) :=
  .of_wp fun pg ww AA RR z q => by
    obtain ⟨z1, z2, z3, z4, z5⟩ := z
    obtain ⟨hl, q⟩ := q
    have ix := AutoSeq1.idx_int
    wp_walk using wpAny_loadPart' hl
    exact ⟨_, rfl, q⟩
def rRep01 (K : PySem.W.Frag) : R2 := fun x y H Q => ∃ l k xs, x = .ref l ∧ y = .int k ∧ SqT K H l xs ∧ xs ≠ [] ∧ (k = 1 ∧ Q (.ref l) H ∨ k = 0 ∧ ∀ p, H p = none → Q (.ref p) (upd H p (.tup [])))
theorem op_rep01 {X : Cx} : OpR X (binaryOp .Mult) (rRep01 X.K) := by
  intro pins s σ H x y v u Q I rx ry ⟨l, k, xs, ex, ey, hT, ne, hq⟩
  subst ex ey
  cases rx
  obtain ⟨t, rfl⟩ := ry
  obtain ⟨its, r, ⟨⟨cls, dd, data, sl⟩, ho, hc, n, hd⟩, hs⟩ := I.tuple hT
  simp only at hc hd
  subst hc hd
  have full : its.toArray.isEmpty = false := by
    cases its with
    | nil => exact absurd (List.eq_nil_of_length_eq_zero r.length) ne
    | cons a b => rfl
  have isT : s.TypeIs (.ref l) "tuple" := ⟨_, ho, rfl⟩
  refine wpAny_binaryOp_repeat_ref (T := "tuple") (U := "int") (by decide) isT (fun s' => typeIs_int s' k t) noFill_tuple_mul F.fills_int_mul F.slot_int_rmul repeat_tuple F.slot_int_index.lookup ?_
  refine call_meets F.slot_int_rmul (typeIs_int s k t) F.entry_int_rmul (F.args_int_rmul_2 _ _) (int_rmul_tuple k t l its.toArray n dd sl) ⟨ho, rfl, isT, ?_⟩
  rcases hq with ⟨rfl, q⟩ | ⟨rfl, q⟩
  · exact call_meets F.slot_tuple_mul isT F.entry_tuple_mul (F.args_tuple_mul_2 _ _) (times_one l its.toArray n dd sl t full) ⟨ho, .ref l, H, I, rfl, q⟩
  · refine call_meets F.slot_tuple_mul isT F.entry_tuple_mul (F.args_tuple_mul_2 _ _) (times_none l its.toArray n dd sl t full) ⟨ho, ?_⟩
    exact ⟨.ref s.heap.objs.size, _, I.laid (t' := s.toks) (o := .tup []) (fun b ob e => Heap.get?_push_of_some _ e) (Nat.le_refl _) ⟨Nat.zero_le _, [], .nil, IsTup.new _ _⟩, rfl, q _ (I.hok.fresh (Nat.le_refl _))⟩
end Mx
set_option maxHeartbeats 4000000
namespace U
open PySem PySem.Spec PyProof.Rows L2 GxR Bx Gx Ex Sx RZ Kx Dx NdefX LamX Mx
/-- what is drawn in an inner turn, and what is wrong with it -/
structure In (sa : Addr) (H : Hp) (f n : Nat) (L : List Tup) (x1 x2 x3 : V) (sr bd b0 b1 b2 : Addr) (rs : List V) : Prop where
  a1 : ADn sa H x1
  a2 : ADn sa H x2
  a3 : ADn sa H x3
  few : Few 21 H x3
  hsr : H sr = some (.lst rs)
  rl : rs.length = 4
  ra : ∀ r ∈ rs, ADn sa H r
  hbd : H bd = some (.lst [.ref b0, .ref b1, .ref b2])
  h0 : H b0 = some (.lst (optL (standBad f n (tupOf H x1))))
  h1 : H b1 = some (.lst (optL (turnBad n (vals L) (tupOf H x2))))
  h2 : H b2 = some (.lst (optL (rowBad f n H x3)))
section
variable {Ps : List Addr} {sa sr bd b0 b1 b2 : Addr} {H H1 : Hp} {f n : Nat} {L : List Tup} {x1 x2 x3 z : V} {rs : List V} {b : Int}
theorem rowBad_ke (k : Ke Ps sa H H1) (ad : ADn sa H z) : rowBad f n H1 z = rowBad f n H z := by
  unfold rowBad
  rw [ad.tupKe k]
  cases e : tupOf H z with
  | none => rfl
  | some xs => exact fb_ext xs 0 fun y hy => by rw [(ad.items e y hy).tupKe k]
theorem few_ke {m : Nat} (k : Ke Ps sa H H1) (ad : ADn sa H z) (h : Few m H z) : Few m H1 z := fun xs e => h xs (by rw [← ad.tupKe k]; exact e)
theorem In.ke (h : In sa H f n L x1 x2 x3 sr bd b0 b1 b2 rs) (st : St H sa b) (k : Ke Ps sa H H1) : In sa H1 f n L x1 x2 x3 sr bd b0 b1 b2 rs where
  a1 := h.a1.ke k
  a2 := h.a2.ke k
  a3 := h.a3.ke k
  few := few_ke k h.a3 h.few
  hsr := k.lst (st.ne h.hsr) h.hsr
  rl := h.rl
  ra := fun r hr => (h.ra r hr).ke k
  hbd := k.lst (st.ne h.hbd) h.hbd
  h0 := by rw [h.a1.tupKe k]; exact k.lst (st.ne h.h0) h.h0
  h1 := by rw [h.a2.tupKe k]; exact k.lst (st.ne h.h1) h.h1
  h2 := by rw [rowBad_ke k h.a3]; exact k.lst (st.ne h.h2) h.h2
theorem ADn.kp2 (k : Kp Ps H H1) (h : ADn sa H z) : ADn sa H1 z := h.ke (.of k)
end
theorem rep01_any {K : PySem.W.Frag} {Ps : List Addr} {H : Hp} {l : Addr} {k : Int} {xs : List V} {Q : VK} (hl : H l = some (.tup xs)) (ne : xs ≠ []) (hk : k = 0 ∨ k = 1) (q : ∀ p H' ys, Kp Ps H H' → H' p = some (.tup ys) → (∀ v ∈ ys, v ∈ xs) → ys.length ≤ xs.length → Q (.ref p) H') : rRep01 K (.ref l) (.int k) H Q := by
  refine ⟨l, k, xs, rfl, rfl, .of hl, ne, ?_⟩
  rcases hk with rfl | rfl
  · exact .inr ⟨rfl, fun p np => q p _ [] (.new np) upd_same (fun v hv => by cases hv) (Nat.zero_le _)⟩
  · exact .inl ⟨rfl, q l H xs (.refl H) hl (fun v hv => hv) (Nat.le_refl _)⟩
theorem adn_tups {H : Hp} {sa : Addr} {b : Int} {L : List Tup} (st : St H sa b) (h : AllT H L) : ∀ y ∈ refs L, ADn sa H y := fun y hy => by
  obtain ⟨p, hp, rfl⟩ := List.mem_map.mp hy
  exact .tup (st.neT (h p hp)) (h p hp) adn_int
theorem adn_two {H : Hp} {sa p : Addr} {x y : V} {b : Int} (st : St H sa b) (e : H p = some (.tup [x, y])) (hx : ADn sa H x) (hy : ADn sa H y) : ADn sa H (.ref p) := .tup (st.neT e) e fun z hz => by
  rcases List.mem_cons.mp hz with rfl | hz
  · exact hx
  · rw [List.mem_singleton.mp hz]; exact hy
theorem eqvT_nil (d : List PyData) : PyData.eqv (.tuple d) (.tuple []) = decide (d = []) := by
  cases d with
  | nil => simp [PyData.eqv, PyData.eqvAll]
  | cons x d => simp [PyData.eqv, PyData.eqvAll]
theorem shaped_Ts (M : List (List Int)) : SeqAt.shaped (.tuple (M.map dT)) = true := by
  have := depthAll_T M
  exact shaped_of (by simp only [PyData.canLay0]; exact layAll_T M) (by simp only [PyData.depth]; omega)
section
variable {P : Program} {w : World} {K : PySem.W.Frag} {mg : Str → Option Value} {base : Heap} {Ps Ps2 : List Addr}
variable {f cc : Addr} {A : Around} {outer : List Env} {s : Shared} {H0 : Hp} {E : XK}
theorem st_drawn {T : List NTab} {rest : List Stmt} {u : TS} (hrest : PSs (XL P w K mg base f cc A outer s H0 E) rest u) (B : BN mg) (hs : ∀ P ∈ Ps, P ∈ Ps2) (hd : ∀ p ∈ T, p.1 ∉ Ps) (oB : Okd P w K mg base CX0 4 "_law_bent" ["state", "things"] (spBent Ps)) (oT : Okd P w K mg base CX0 3 "_law_turning" ["state", "size"] (spTurning Ps))
    (o1 : Okd P w K mg base CX0 2 "_law_stand_bad" ["table", "thing"] (spStandBad Ps)) (o2 : Okd P w K mg base CX0 2 "_law_turning_bad" ["table", "thing"] (spTurnBad Ps)) (o3 : Okd P w K mg base CX0 3 "_law_row_bad" ["table", "thing"] (spRowBad Ps)) (hr : Room 4 (XL P w K mg base f cc A outer s H0 E).A) :
    PSs (XL P w K mg base f cc A outer s H0 E) (bodyAt inner0 0 :: bodyAt inner0 1 :: bodyAt inner0 2 :: bodyAt inner0 3 :: bodyAt inner0 4 :: rest) (fun D σ H => ∃ (v0 v1 v2 v5 v8 v9 v10 v11 v12 v13 v14 v16 v18 v19 v20 v21 : Option V) (G : Hp) (sa t a : Addr) (fc n : Nat) (L : List Tup) (b : Int) (sd : Tup) (rw tr : Addr) (ra ta : List Tup), σ = [v0, v1, v2, some (.ref sa), some (.int n), v5, some (.ref sd.1), some (.ref tr), v8, v9, v10, v11, v12, v13, v14, some (.ref rw), v16, some (.ref t), v18, v19, v20, v21] ∧ Tn Ps2 T G H sa t a fc n L b ∧ Rw H fc n L sd rw tr ra ta ∧ b < 790000000000 ∧
      ∀ H' x1 x2 x3 sr bd b0 b1 b2 rs, Tn Ps2 T G H' sa t a fc n L (b + 400) → Rw H' fc n L sd rw tr ra ta → In sa H' fc n L x1 x2 x3 sr bd b0 b1 b2 rs → u D [v0, v1, v2, some (.ref sa), some (.int n), v5, some (.ref sd.1), some (.ref tr), v8, some (.ref sr), some (.ref bd), v11, v12, some x1, some x2, some (.ref rw), v16, some (.ref t), some x3, v19, v20, v21] H') := by
  have nd := sc_law.nd
  have hr3 := hr.mono (show 3 ≤ 4 by decide)
  have hr2 := hr.mono (show 2 ≤ 4 by decide)
  have h0 : PSs (XL P w K mg base f cc A outer s H0 E) (bodyAt inner0 0 :: bodyAt inner0 1 :: bodyAt inner0 2 :: bodyAt inner0 3 :: bodyAt inner0 4 :: rest) _ :=
    pss_cons (ps_asg (pe_tup (pa_cons (pe_do oB hr (pa_cons (pv 3) (pa_cons (pv 6) pa_nil))) (pa_cons (pe_do oB hr (pa_cons (pv 3) (pa_cons (pv 15) pa_nil))) pa_nil))) (pg_tup rfl (pgs_cons (pg_name (i := 13) nd rfl (.inr rfl)) (pgs_cons (pg_name (i := 18) nd rfl (.inr rfl)) pgs_nil))))
    (pss_cons (ps_set (i := 14) nd rfl (.inr rfl) (pe_do oB hr (pa_cons (pv 3) (pa_cons (pe_do oT hr3 (pa_cons (pv 3) (pa_cons (pv 4) pa_nil))) pa_nil))))
    (pss_cons (ps_set (i := 9) nd rfl (.inl rfl) (pe_lst (pa_cons (pe_do oB hr (pa_cons (pv 3) (pa_cons (pe_tup (pa_cons (pv 6) (pa_cons (pv 7) pa_nil))) pa_nil))) (pa_cons (pe_tup (pa_cons (pv 13) (pa_cons (pv 7) pa_nil))) (pa_cons (pe_tup (pa_cons (pv 6) (pa_cons (pe_do oB hr (pa_cons (pv 3) (pa_cons (pv 7) pa_nil))) pa_nil))) pa_nil)))))
    (pss_cons (ps_expr (pe_append K (pv 9) (pe_tup (pa_cons (pv 6) (pa_cons (pe_op op_catA (pe_slice sl_tupA (pv 7) po_none (po_some (pe_un un_neg pe_int))) (pe_op op_rep01 (pe_tup (pa_cons (pv 14) pa_nil)) (pe_callTy call_int1 (by rfl) B.int boot_int (pa_cons (pe_cmpR (op_neD (u64 hr)) (pv 7) (pe_tup pa_nil) (nomark _)) pa_nil)))) pa_nil)))))
    (pss_cons (ps_set (i := 10) nd rfl (.inl rfl) (pe_lst (pa_cons (pe_do o1 hr2 (pa_cons (pv 17) (pa_cons (pv 13) pa_nil))) (pa_cons (pe_do o2 hr2 (pa_cons (pv 17) (pa_cons (pv 14) pa_nil))) (pa_cons (pe_do o3 hr3 (pa_cons (pv 17) (pa_cons (pv 18) pa_nil))) pa_nil))))) hrest))))
  refine pss_imp h0 ?_
  rintro Dn σ H ⟨v0, v1, v2, v5, v8, v9, v10, v11, v12, v13, v14, v16, v18, v19, v20, v21, G, sa, t, a, fc, n, L, b, sd, rw, tr, ra, ta, rfl, tn, rr, hb, q⟩
  have n1 := tn.tb.T.n1
  have n8 := tn.tb.T.n8
  have ls : (sd.2.map V.int).length ≤ 10 := by rw [List.length_map, rr.ss.1]; omega
  have lr : (refs ra).length ≤ 10 := by rw [refs_len]; have := rr.rl; omega
  have lt : (refs ta).length ≤ 10 := by rw [refs_len, rr.tl]; have := rr.rl; omega
  -- one, third
  refine ⟨_, rfl, _, rfl, sa, sd.1, _, b, rfl, rr.hsd, adn_int, ls, tn.st, by omega, fun x1 H1 k1 s1 d1 _ => ?_⟩
  have t1 := tn.ke hs hd k1 s1
  have r1 := rr.ke tn.st k1
  refine ⟨_, rfl, _, rfl, sa, rw, _, b + 60, rfl, r1.hrw, adn_tups s1 r1.rall, lr, s1, by omega, fun x3 H2 k2 s2 d3 few => ?_⟩
  have t2 := t1.ke hs hd k2 s2
  have r2 := r1.ke s1 k2
  have d1 := d1.ke k2
  refine ⟨(by show 2 ≤ sizeLine; decide), fun T nT => ⟨T, _, rfl, .of upd_same, rfl, _, _, rfl, _, _, rfl, rfl, ?_⟩⟩
  have kT : Kp Ps H2 (upd H2 T (.tup [x1, x3])) := .new nT
  have t3 := t2.kd hs hd kT
  have r3 := r2.kp kT
  have d1 := d1.kp2 kT
  have few := few_ke (.of kT) d3 few
  have d3 := d3.kp2 kT
  generalize upd H2 T (.tup [x1, x3]) = H3 at t3 r3 d1 d3 few ⊢
  clear kT t2 r2 t1 r1
  -- other
  refine ⟨_, rfl, _, rfl, _, rfl, sa, n, b + 60 + 60, rfl, n1, n8, t3.st, by omega, fun p tt H4 k4 s4 np hp ot => ?_⟩
  have t4 := t3.ke hs hd k4 s4
  have r4 := r3.ke t3.st k4
  have d1 := d1.ke k4
  have few := few_ke k4 d3 few
  have d3 := d3.ke k4
  refine ⟨sa, p, _, _, rfl, hp, adn_int, by rw [List.length_map, ot.1]; omega, s4, by omega, fun x2 H5 k5 s5 d2 _ => ?_⟩
  have t5 := t4.ke hs hd k5 s5
  have r5 := r4.ke s4 k5
  have d1 := d1.ke k5
  have few := few_ke k5 d3 few
  have d3 := d3.ke k5
  clear t4 r4 t3 r3
  -- some_runs
  refine ⟨_, rfl, _, rfl, _, rfl, (by show 2 ≤ sizeLine; decide), fun q1 nq1 => ?_⟩
  have kq : Kp Ps H5 (upd H5 q1 (.tup [.ref sd.1, .ref tr])) := .new nq1
  have t6 := t5.kd hs hd kq
  have r6 := r5.kp kq
  have d1 := d1.kp2 kq
  have d2 := d2.kp2 kq
  have few := few_ke (.of kq) d3 few
  have d3 := d3.kp2 kq
  have asd : ADn sa (upd H5 q1 (.tup [.ref sd.1, .ref tr])) (.ref sd.1) := .tup (t6.st.neT r6.hsd) r6.hsd adn_int
  have atr : ADn sa (upd H5 q1 (.tup [.ref sd.1, .ref tr])) (.ref tr) := .tup (t6.st.neT r6.htr) r6.htr (adn_tups t6.st r6.tall)
  refine ⟨sa, q1, _, _, rfl, upd_same, fun z hz => by
      rcases List.mem_cons.mp hz with rfl | hz
      · exact asd
      · rw [List.mem_singleton.mp hz]; exact atr, (by show 2 ≤ 10; decide), t6.st, by omega, fun r0 H7 k7 s7 dr0 _ => ?_⟩
  have t7 := t6.ke hs hd k7 s7
  have r7 := r6.ke t6.st k7
  have d1 := d1.ke k7
  have d2 := d2.ke k7
  have few := few_ke k7 d3 few
  have d3 := d3.ke k7
  have atr := atr.ke k7
  have asd := asd.ke k7
  clear t6 r6 t5 r5
  refine ⟨_, rfl, _, rfl, (by show 2 ≤ sizeLine; decide), fun q2 nq2 => ?_⟩
  have kq : Kp Ps H7 (upd H7 q2 (.tup [x1, .ref tr])) := .new nq2
  have t8 := t7.kd hs hd kq
  have r8 := r7.kp kq
  have dr1 : ADn sa (upd H7 q2 (.tup [x1, .ref tr])) (.ref q2) := adn_two t8.st upd_same (d1.kp2 kq) (atr.kp2 kq)
  have d1 := d1.kp2 kq
  have d2 := d2.kp2 kq
  have few := few_ke (.of kq) d3 few
  have d3 := d3.kp2 kq
  have atr := atr.kp2 kq
  have asd := asd.kp2 kq
  have dr0 := dr0.kp2 kq
  generalize upd H7 q2 (.tup [x1, .ref tr]) = H8 at t8 r8 dr1 d1 d2 d3 few atr asd dr0 ⊢
  clear kq t7 r7
  refine ⟨_, rfl, _, rfl, _, rfl, sa, tr, _, _, rfl, r8.htr, adn_tups t8.st r8.tall, lt, t8.st, by omega, fun r2 H9 k9 s9 dr2 _ => ⟨(by show 2 ≤ sizeLine; decide), fun q3 nq3 => ⟨(by show 3 ≤ sizeLine; decide), fun sr nsr => ?_⟩⟩⟩
  have t9 := t8.ke hs hd k9 s9
  have r9 := r8.ke t8.st k9
  have kq : Kp Ps H9 (upd H9 q3 (.tup [.ref sd.1, r2])) := .new nq3
  have kke := k9.then kq
  have tz := t9.kd hs hd kq
  have rz := r9.kp kq
  have dq3 : ADn sa (upd H9 q3 (.tup [.ref sd.1, r2])) (.ref q3) := adn_two tz.st upd_same ((asd.ke k9).kp2 kq) (dr2.kp2 kq)
  have d1 := d1.ke kke
  have d2 := d2.ke kke
  have few := few_ke kke d3 few
  have d3 := d3.ke kke
  have asd := asd.ke kke
  have dr0 := dr0.ke kke
  have dr1 := dr1.ke kke
  generalize upd H9 q3 (.tup [.ref sd.1, r2]) = Hz at tz rz dq3 d1 d2 d3 few asd dr0 dr1 nsr ⊢
  clear kke kq t9 r9 t8 r8 atr
  have kz : Kp Ps Hz (upd Hz sr (.lst [r0, .ref q2, .ref q3])) := .new nsr
  have tx := tz.kd hs hd kz
  have rx := rz.kp kz
  have hsr : (upd Hz sr (.lst [r0, .ref q2, .ref q3])) sr = some (.lst [r0, .ref q2, .ref q3]) := upd_same
  -- the fourth
  refine ⟨_, rfl, .inl ⟨rfl, _, .of hsr⟩, _, rfl, ?_⟩
  refine ⟨_, rfl, _, rfl, _, rfl, sl_any (Ps := Ps) rx.htr fun c1 Hb kb hc1 => ⟨_, rfl, (by show 1 ≤ sizeLine; decide), fun q4 nq4 => ⟨_, rfl, (by show 0 ≤ sizeLine; decide), fun e5 ne5 => ?_⟩⟩⟩
  have k4 : Kp Ps Hb (upd Hb q4 (.tup [x2])) := .new nq4
  have k5 : Kp Ps (upd Hb q4 (.tup [x2])) (upd (upd Hb q4 (.tup [x2])) e5 (.tup [])) := .new ne5
  have k45 := kb.trans (k4.trans k5)
  refine ⟨.tuple ((vals ta).map dT), .tuple [], .tup (.of (k45.tup rx.htr)) (dp_Ts fun p hp => .of (k45.tup (rx.tall p hp))), .tup (.of upd_same) .nil, shaped_Ts _, shaped_Ts [], .inr ⟨_, rfl, rep01_any (Ps := Ps) (k5.tup upd_same) (by simp) (by split <;> simp) fun p6 H6 ys k6 hp6 hys hyl => ?_⟩⟩
  have cl1 := cutV_len (refs ta) none (some (-1))
  refine cat_any (Ps := Ps) (k6.tup (k5.tup (k4.tup hc1))) hp6 (Nat.le_trans (Nat.add_le_add (Nat.le_trans cl1 lt) hyl) (by show 10 + 1 ≤ 1000; decide)) fun p7 H7 k7 hp7 => ⟨(by show 2 ≤ sizeLine; decide), fun q8 nq8 => ?_⟩
  have kk := (k45.trans k6).trans k7
  have k8 : Kp Ps H7 (upd H7 q8 (.tup [.ref sd.1, .ref p7])) := .new nq8
  have k08 := kz.trans (kk.trans k8)
  have hsr8 := (kk.trans k8).lst hsr
  refine ⟨sr, _, .ref q8, rfl, rfl, hsr8, small1000 (by show 3 ≤ 1000; decide), ?_⟩
  have kzd : Kp Ps Hz (upd (upd H7 q8 (.tup [.ref sd.1, .ref p7])) sr (.lst ([r0, .ref q2, .ref q3] ++ [.ref q8]))) := k08.mut nsr fun ps z => by rw [hsr8] at z; cases z
  have ne : ∀ q ys, (upd H7 q8 (.tup [.ref sd.1, .ref p7])) q = some (.tup ys) → q ≠ sr := fun q ys e z => by rw [z, hsr8] at e; cases e
  have hp7f : (upd (upd H7 q8 (.tup [.ref sd.1, .ref p7])) sr (.lst ([r0, .ref q2, .ref q3] ++ [.ref q8]))) p7 = some (.tup (cutV (refs ta) none (some (-1)) ++ ys)) := by
    have e := k8.tup hp7
    rw [upd_ne (ne _ _ e)]; exact e
  have hq8f : (upd (upd H7 q8 (.tup [.ref sd.1, .ref p7])) sr (.lst ([r0, .ref q2, .ref q3] ++ [.ref q8]))) q8 = some (.tup [.ref sd.1, .ref p7]) := by
    have e : (upd H7 q8 (.tup [.ref sd.1, .ref p7])) q8 = some (.tup [.ref sd.1, .ref p7]) := upd_same
    rw [upd_ne (ne _ _ e)]; exact e
  have hsrf : (upd (upd H7 q8 (.tup [.ref sd.1, .ref p7])) sr (.lst ([r0, .ref q2, .ref q3] ++ [.ref q8]))) sr = some (.lst [r0, .ref q2, .ref q3, .ref q8]) := upd_same
  have tf := tz.kd hs hd kzd
  have rf := rz.kp kzd
  have d2f := d2.kp2 kzd
  have dp7 : ADn sa _ (.ref p7) := .tup (tf.st.neT hp7f) hp7f fun z hz => by
    rcases List.mem_append.mp hz with hz | hz
    · exact adn_tups tf.st rf.tall z (cutV_mem hz)
    · rw [List.mem_singleton.mp (hys z hz)]; exact d2f
  have dq8 := adn_two tf.st hq8f (asd.kp2 kzd) dp7
  have d1 := d1.kp2 kzd
  have few := few_ke (.of kzd) d3 few
  have d3 := d3.kp2 kzd
  have dr0 := dr0.kp2 kzd
  have dr1 := dr1.kp2 kzd
  have dq3 := dq3.kp2 kzd
  generalize upd (upd H7 q8 (.tup [.ref sd.1, .ref p7])) sr (.lst ([r0, .ref q2, .ref q3] ++ [.ref q8])) = Hf at tf rf d1 d2f d3 few dr0 dr1 dq3 dq8 hsrf ⊢
  clear kzd hp7f hq8f hsr8 k08 k8 kk k7 k6 k45 k5 k4 kb tx rx tz rz d2 asd dp7 ne hsr
  -- what is wrong
  refine ⟨_, rfl, _, rfl, t, a, fc, n, L, x1, rfl, tf.tb, d1.ad, fun b0 Hg kg _ hb0 => ?_⟩
  have tg := tf.kd hs hd kg
  refine ⟨_, rfl, _, rfl, t, a, fc, n, L, x2, rfl, tg.tb, (d2f.kp2 kg).ad, fun b1 Hh kh _ hb1 => ?_⟩
  have th := tg.kd hs hd kh
  have kgh := kg.trans kh
  refine ⟨_, rfl, _, rfl, t, a, fc, n, L, x3, rfl, th.tb, (d3.kp2 kgh).ad, fun xs e => Nat.le_trans (few xs (by rw [← d3.tupKe (.of kgh)]; exact e)) (by decide), fun b2 Hi ki _ hb2 => ⟨(by show 3 ≤ sizeLine; decide), fun bd nbd => ?_⟩⟩
  have kx : Kp Ps Hi (upd Hi bd (.lst [.ref b0, .ref b1, .ref b2])) := .new nbd
  have kgi := kgh.trans (ki.trans kx)
  refine q _ x1 x2 x3 sr bd b0 b1 b2 [r0, .ref q2, .ref q3, .ref q8] ((tf.kd hs hd kgi).le (by omega)) (rf.kp kgi) ⟨d1.kp2 kgi, d2f.kp2 kgi, d3.kp2 kgi, few_ke (.of kgi) d3 few, kgi.lst hsrf, rfl, fun r hr => ?_, upd_same, ?_, ?_, ?_⟩
  · have four : r = r0 ∨ r = .ref q2 ∨ r = .ref q3 ∨ r = .ref q8 := by simpa using hr
    rcases four with e | e | e | e <;> rw [e]
    · exact dr0.kp2 kgi
    · exact dr1.kp2 kgi
    · exact dq3.kp2 kgi
    · exact dq8.kp2 kgi
  · rw [d1.tupKe (.of kgi)]; exact (kh.trans (ki.trans kx)).lst hb0
  · rw [d2f.tupKe (.of kgi)]
    rw [d2f.tupKe (.of kg)] at hb1
    exact (ki.trans kx).lst hb1
  · rw [rowBad_ke (.of kgi) d3]
    rw [rowBad_ke (.of kgh) d3] at hb2
    exact kx.lst hb2
end
end U
set_option maxHeartbeats 4000000
namespace U
open PySem PySem.Spec PyProof.Rows L2 GxR Bx Gx Ex Sx RZ Kx Dx NdefX LamX Mx
def nmL : Nat → Nat → Str := fun _ _ => "law" ++ ".<locals>." ++ "<lambda>"
theorem In.kp {Ps : List Addr} {sa sr bd b0 b1 b2 : Addr} {H H1 : Hp} {f n : Nat} {L : List Tup} {x1 x2 x3 : V} {rs : List V} {b : Int} (h : In sa H f n L x1 x2 x3 sr bd b0 b1 b2 rs) (st : St H sa b) (k : Kp Ps H H1) : In sa H1 f n L x1 x2 x3 sr bd b0 b1 b2 rs := h.ke st (.of k)
section
variable {P : Program} {w : World} {K : PySem.W.Frag} {mg : Str → Option Value} {base : Heap} {Ps Ps2 : List Addr} {T : List NTab} {cl : Str → Addr} {TL CT CS CU CR CN : Addr}
variable {f cc : Addr} {A : Around} {outer : List Env} {s : Shared} {H0 : Hp} {E : XK}
theorem shaped_two (p q : Bool) : SeqAt.shaped (.list [.bool p, .bool q]) = true := by
  refine shaped_of ?_ ?_
  · simp [PyData.canLay0, PyData.canLayAll0]
  · simp [PyData.depth, PyData.depthAll]
theorem eqv_two (p q : Bool) : PyData.eqv (.list [.bool p, .bool q]) (.list [.bool p, .bool q]) = true := by
  simp [PyData.eqv, PyData.eqvAll]
/-- the list told is empty: nothing is wrong -/
theorem eq_nil {G : Hp} {p : Addr} {o : Option V} {Q : VK} (tol : Tol o) (hp : G p = some (.lst (optL o))) (q : ∀ e, G e = none → Q (.bl o.isNone) (upd G e (.lst []))) : ∀ e, G e = none → rEqD K (.ref p) (.ref e) (upd G e (.lst [])) Q := fun e ne => by
  obtain ⟨d, h1, h2, h3⟩ := tol.dp (K := K) (H := upd G e (.lst []))
  refine ⟨.list d, .list [], .lst (.of (by rw [upd_ne (ne_of_none hp ne)]; exact hp)) h1, .lst (.of upd_same) .nil, h2, shaped_I [], ?_⟩
  rw [eqv_nil]
  have z : decide (d = []) = o.isNone := by
    cases o with
    | none => exact decide_eq_true (h3.mpr rfl)
    | some v => exact decide_eq_false fun z => by cases h3.mp z
  rw [z]
  exact q e ne
theorem st_same (B : BN mg) (hs : ∀ P ∈ Ps, P ∈ Ps2) (hd : ∀ p ∈ T, p.1 ∉ Ps) (o1 : OkX P w K mg base 8 "is_stand" ["table", "thing"] (spIsStand Ps CT)) (o2 : OkX P w K mg base 8 "is_turning" ["table", "thing"] (spIsTurning Ps CT)) (hr : Room 8 (XL P w K mg base f cc A outer s H0 E).A) :
    PS (XL P w K mg base f cc A outer s H0 E) (bodyAt inner0 5) (fun D σ H => ∃ (v0 v1 v2 v5 v8 v11 v12 v16 v19 v20 v21 : Option V) (G : Hp) (sa t a : Addr) (fc n : Nat) (L : List Tup) (b : Int) (sd : Tup) (rw tr : Addr) (ra ta : List Tup) (x1 x2 x3 : V) (sr bd b0 b1 b2 : Addr) (rs : List V), σ = [v0, v1, v2, some (.ref sa), some (.int n), v5, some (.ref sd.1), some (.ref tr), v8, some (.ref sr), some (.ref bd), v11, v12, some x1, some x2, some (.ref rw), v16, some (.ref t), some x3, v19, v20, v21] ∧ Tn Ps2 T G H sa t a fc n L b ∧ Rw H fc n L sd rw tr ra ta ∧ In sa H fc n L x1 x2 x3 sr bd b0 b1 b2 rs ∧ Tg Ps2 G ∧ ∀ H', Tn Ps2 T G H' sa t a fc n L b → Rw H' fc n L sd rw tr ra ta → In sa H' fc n L x1 x2 x3 sr bd b0 b1 b2 rs → D.nx [v0, v1, v2, some (.ref sa), some (.int n), v5, some (.ref sd.1), some (.ref tr), v8, some (.ref sr), some (.ref bd), v11, v12, some x1, some x2, some (.ref rw), v16, some (.ref t), some x3, v19, v20, v21] H') := by
  have nd := sc_law.nd
  have hu : (XL P w K mg base f cc A outer s H0 E).A.units + 64 < cLine := u64 hr
  have h0 : PS (XL P w K mg base f cc A outer s H0 E) (bodyAt inner0 5) _ := ps_if (pt_neD K (pe_lst (pa_cons (pe_noX o1 hr (pa_cons (pv 17) (pa_cons (pv 13) pa_nil))) (pa_cons (pe_noX o2 hr (pa_cons (pv 17) (pa_cons (pv 14) pa_nil))) pa_nil)))
    (pe_lst (pa_cons (pe_cmpR (op_eqD hu) (pe_ixL K (pv 10) pe_int) (pe_lst pa_nil) (nomark _)) (pa_cons (pe_cmpR (op_eqD hu) (pe_ixL K (pv 10) pe_int) (pe_lst pa_nil) (nomark _)) pa_nil))) hu) (pss_one (ps_ret pe_bl)) pss_nil
  refine ps_imp h0 ?_
  rintro D σ H ⟨v0, v1, v2, v5, v8, v11, v12, v16, v19, v20, v21, G, sa, t, a, fc, n, L, b, sd, rw, tr, ra, ta, x1, x2, x3, sr, bd, b0, b1, b2, rs, rfl, tn, rr, ii, tg, q⟩
  have tgp : Tg Ps H := tg_sub hs (tn.kp.tab tg)
  refine ⟨_, rfl, _, rfl, _, _, rfl, tgp, .inl ⟨t, a, fc, n, L, rfl, tn.tb, ii.a1.ad, fun H1 k1 => ?_⟩⟩
  have t1 := tn.kd hs hd k1
  have i1 := ii.kp tn.st k1
  refine ⟨_, rfl, _, rfl, _, _, rfl, k1.tab tgp, .inl ⟨t, a, fc, n, L, rfl, t1.tb, i1.a2.ad, fun H2 k2 => ?_⟩⟩
  rw [ii.a2.tupKe (.of k1)]
  refine ⟨(by show 2 ≤ sizeLine; decide), fun p np => ?_⟩
  have kp := Kp.new (Ps := Ps) (o := .lst [.bl (standBad fc n (tupOf H x1)).isNone, .bl (turnBad n (vals L) (tupOf H x2)).isNone]) np
  have k3 := (k1.trans k2).trans kp
  have i3 := ii.kp tn.st k3
  have c0 := i3.h0
  have c1 := i3.h1
  rw [ii.a1.tupKe (.of k3)] at c0
  rw [ii.a2.tupKe (.of k3)] at c1
  refine ⟨_, rfl, bd, _, 0, .ref b0, rfl, rfl, .of i3.hbd, rfl, (by show 0 ≤ sizeLine; decide), eq_nil (tol_stand _ _ _) c0 fun e ne => ?_⟩
  have k4 := Kp.new (Ps := Ps) (o := .lst []) ne
  refine ⟨_, rfl, bd, _, 1, .ref b1, rfl, rfl, .of (k4.lst i3.hbd), rfl, (by show 0 ≤ sizeLine; decide), eq_nil (tol_turn _ _ _) (k4.lst c1) fun e' ne' => ⟨(by show 2 ≤ sizeLine; decide), fun p2 np2 => ?_⟩⟩
  have k5 := k4.trans (Kp.new (Ps := Ps) (o := .lst []) ne')
  have k6 := k5.trans (Kp.new (Ps := Ps) (o := .lst [.bl (standBad fc n (tupOf H x1)).isNone, .bl (turnBad n (vals L) (tupOf H x2)).isNone]) np2)
  refine ⟨.list [.bool _, .bool _], .list [.bool _, .bool _], .lst (.of (k6.lst upd_same)) (.cons (.bl _) (.cons (.bl _) .nil)), .lst (.of upd_same) (.cons (.bl _) (.cons (.bl _) .nil)), shaped_two _ _, shaped_two _ _, false, congrArg V.bl ?_, iteF ?_⟩
  · rw [eqv_two]; rfl
  · have k7 := k3.trans k6
    exact q _ (tn.kd hs hd k7) (rr.kp k7) (ii.kp tn.st k7)
theorem st_rr0 (hs : ∀ P ∈ Ps, P ∈ Ps2) (hd : ∀ p ∈ T, p.1 ∉ Ps) (hP : TL ∈ Ps2) (hm : (TL, nmL) ∈ T) (hu : ∀ p ∈ T, p.1 = TL → p.2 = nmL) (TB : LamX.TabB base mg cc TL) (cf : CF K cl CS "stand" "number") (o1 : OkX P w K mg base 8 "need_stand" ["table", "thing"] (spNeedStand Ps CT CS))
    (o2 : OkP P w K mg base CX0 12 "_law_refused_right" ["kind", "bad", "deed"] (spRR P w K mg base Ps cl 10)) (hr : Room 12 (XL P w K mg base f cc A outer s H0 E).A) (hgd : (XL P w K mg base f cc A outer s H0 E).A.guards = some []) :
    PS (XL P w K mg base f cc A outer s H0 E) (bodyAt inner0 6) (fun D σ H => ∃ (v0 v1 v2 v5 v8 v11 v12 v16 v19 v20 v21 : Option V) (G : Hp) (sa t a : Addr) (fc n : Nat) (L : List Tup) (b : Int) (sd : Tup) (rw tr : Addr) (ra ta : List Tup) (x1 x2 x3 : V) (sr bd b0 b1 b2 : Addr) (rs : List V), σ = [v0, v1, v2, some (.ref sa), some (.int n), v5, some (.ref sd.1), some (.ref tr), v8, some (.ref sr), some (.ref bd), v11, v12, some x1, some x2, some (.ref rw), v16, some (.ref t), some x3, v19, v20, v21] ∧ Tn Ps2 T G H sa t a fc n L b ∧ Rw H fc n L sd rw tr ra ta ∧ In sa H fc n L x1 x2 x3 sr bd b0 b1 b2 rs ∧ Tg Ps2 G ∧ ∀ H', Tn Ps2 T G H' sa t a fc n L b → Rw H' fc n L sd rw tr ra ta → In sa H' fc n L x1 x2 x3 sr bd b0 b1 b2 rs → D.nx [v0, v1, v2, some (.ref sa), some (.int n), v5, some (.ref sd.1), some (.ref tr), v8, some (.ref sr), some (.ref bd), v11, v12, some x1, some x2, some (.ref rw), v16, some (.ref t), some x3, v19, v20, v21] H') := by
  have nd := sc_law.nd
  have h0 : PS (XL P w K mg base f cc A outer s H0 E) (bodyAt inner0 6) _ := ps_if (pt_not (pt_val (pe_rrL (js := [17, 13]) o2 hr hgd (pa_cons pe_str (pa_cons (pe_ixL K (pv 10) pe_int) (pa_cons (pe_lamv TB rfl hm rfl hu (free_by (sc := defScope s_law) (by decide +kernel))) pa_nil)))
    (fun f c' => lok_call (ps := ["table", "thing"]) (N := ["table", "one"]) (fr := ["table", "one"]) (o1.mono (show 8 ≤ 9 by decide)) (nscope_by (by dsimp only; decide +kernel)) (fun _ _ => rfl) rfl (fun _ _ _ _ _ => (pa_cons (pv 0) (pa_cons (pv 1) pa_nil))) (fun _ _ _ _ _ => rfl) (by decide) (fun _ _ _ _ _ => ⟨rfl, rfl⟩))
    (free_by (sc := defScope s_law) (by decide +kernel)) (by decide +kernel) rfl))) (pss_one (ps_ret pe_bl)) pss_nil
  refine ps_imp h0 ?_
  rintro D σ H ⟨v0, v1, v2, v5, v8, v11, v12, v16, v19, v20, v21, G, sa, t, a, fc, n, L, b, sd, rw, tr, ra, ta, x1, x2, x3, sr, bd, b0, b1, b2, rs, rfl, tn, rr, ii, tg, q⟩
  have n8 := tn.tb.T.n8
  refine ⟨_, rfl, bd, _, 0, .ref b0, rfl, rfl, .of ii.hbd, rfl, tn.tn, fun lf lc H1 e1 n1 T1 f0 f1 c1 => ?_⟩
  have k1 : Kp Ps2 H H1 := Kp.lam hP hm tn.tn T1 e1
  have t1 := tn.kq k1 T1
  have r1 := rr.kp k1
  have i1 := ii.kp tn.st k1
  have tgp : Tg Ps H1 := tg_sub hs (t1.kp.tab tg)
  refine ⟨"stand", b0, lf, lc, _, rfl, i1.h0, tol_stand _ _ _, stand_show (by omega) kd_stand, f1, c1, fun H2 Q' E' k2 wa wb => ?_, fun H2 k2 => ⟨_, rfl, iteF ?_⟩⟩
  · exact ⟨rfl, _, rfl, _, rfl, rr_stand cf tgp t1.tb i1.a1.ad k2 wa wb⟩
  · exact q _ (t1.kd hs hd k2) (r1.kp k2) (i1.kp t1.st k2)
theorem st_rr1 (hs : ∀ P ∈ Ps, P ∈ Ps2) (hd : ∀ p ∈ T, p.1 ∉ Ps) (hP : TL ∈ Ps2) (hm : (TL, nmL) ∈ T) (hu : ∀ p ∈ T, p.1 = TL → p.2 = nmL) (TB : LamX.TabB base mg cc TL) (cf : CF K cl CU "turning" "number") (o1 : OkX P w K mg base 8 "need_turning" ["table", "thing"] (spNeedTurning Ps CT CU))
    (o2 : OkP P w K mg base CX0 12 "_law_refused_right" ["kind", "bad", "deed"] (spRR P w K mg base Ps cl 10)) (hr : Room 12 (XL P w K mg base f cc A outer s H0 E).A) (hgd : (XL P w K mg base f cc A outer s H0 E).A.guards = some []) :
    PS (XL P w K mg base f cc A outer s H0 E) (bodyAt inner0 7) (fun D σ H => ∃ (v0 v1 v2 v5 v8 v11 v12 v16 v19 v20 v21 : Option V) (G : Hp) (sa t a : Addr) (fc n : Nat) (L : List Tup) (b : Int) (sd : Tup) (rw tr : Addr) (ra ta : List Tup) (x1 x2 x3 : V) (sr bd b0 b1 b2 : Addr) (rs : List V), σ = [v0, v1, v2, some (.ref sa), some (.int n), v5, some (.ref sd.1), some (.ref tr), v8, some (.ref sr), some (.ref bd), v11, v12, some x1, some x2, some (.ref rw), v16, some (.ref t), some x3, v19, v20, v21] ∧ Tn Ps2 T G H sa t a fc n L b ∧ Rw H fc n L sd rw tr ra ta ∧ In sa H fc n L x1 x2 x3 sr bd b0 b1 b2 rs ∧ Tg Ps2 G ∧ ∀ H', Tn Ps2 T G H' sa t a fc n L b → Rw H' fc n L sd rw tr ra ta → In sa H' fc n L x1 x2 x3 sr bd b0 b1 b2 rs → D.nx [v0, v1, v2, some (.ref sa), some (.int n), v5, some (.ref sd.1), some (.ref tr), v8, some (.ref sr), some (.ref bd), v11, v12, some x1, some x2, some (.ref rw), v16, some (.ref t), some x3, v19, v20, v21] H') := by
  have nd := sc_law.nd
  have h0 : PS (XL P w K mg base f cc A outer s H0 E) (bodyAt inner0 7) _ := ps_if (pt_not (pt_val (pe_rrL (js := [17, 14]) o2 hr hgd (pa_cons pe_str (pa_cons (pe_ixL K (pv 10) pe_int) (pa_cons (pe_lamv TB rfl hm rfl hu (free_by (sc := defScope s_law) (by decide +kernel))) pa_nil)))
    (fun f c' => lok_call (ps := ["table", "thing"]) (N := ["table", "other"]) (fr := ["table", "other"]) (o1.mono (show 8 ≤ 9 by decide)) (nscope_by (by dsimp only; decide +kernel)) (fun _ _ => rfl) rfl (fun _ _ _ _ _ => (pa_cons (pv 0) (pa_cons (pv 1) pa_nil))) (fun _ _ _ _ _ => rfl) (by decide) (fun _ _ _ _ _ => ⟨rfl, rfl⟩))
    (free_by (sc := defScope s_law) (by decide +kernel)) (by decide +kernel) rfl))) (pss_one (ps_ret pe_bl)) pss_nil
  refine ps_imp h0 ?_
  rintro D σ H ⟨v0, v1, v2, v5, v8, v11, v12, v16, v19, v20, v21, G, sa, t, a, fc, n, L, b, sd, rw, tr, ra, ta, x1, x2, x3, sr, bd, b0, b1, b2, rs, rfl, tn, rr, ii, tg, q⟩
  have n8 := tn.tb.T.n8
  refine ⟨_, rfl, bd, _, 1, .ref b1, rfl, rfl, .of ii.hbd, rfl, tn.tn, fun lf lc H1 e1 n1 T1 f0 f1 c1 => ?_⟩
  have k1 : Kp Ps2 H H1 := Kp.lam hP hm tn.tn T1 e1
  have t1 := tn.kq k1 T1
  have r1 := rr.kp k1
  have i1 := ii.kp tn.st k1
  have tgp : Tg Ps H1 := tg_sub hs (t1.kp.tab tg)
  refine ⟨"turning", b1, lf, lc, _, rfl, i1.h1, tol_turn _ _ _, turn_show (by omega) kd_turning, f1, c1, fun H2 Q' E' k2 wa wb => ?_, fun H2 k2 => ⟨_, rfl, iteF ?_⟩⟩
  · exact ⟨rfl, _, rfl, _, rfl, rr_turning cf tgp t1.tb i1.a2.ad k2 wa wb⟩
  · exact q _ (t1.kd hs hd k2) (r1.kp k2) (i1.kp t1.st k2)
theorem st_rr2 (hs : ∀ P ∈ Ps, P ∈ Ps2) (hd : ∀ p ∈ T, p.1 ∉ Ps) (hP : TL ∈ Ps2) (hm : (TL, nmL) ∈ T) (hu : ∀ p ∈ T, p.1 = TL → p.2 = nmL) (TB : LamX.TabB base mg cc TL) (cf : CF K cl CR "row" "number") (o1 : OkX P w K mg base 8 "need_row" ["table", "row"] (spNeedRow Ps CT CR))
    (o2 : OkP P w K mg base CX0 12 "_law_refused_right" ["kind", "bad", "deed"] (spRR P w K mg base Ps cl 10)) (hr : Room 12 (XL P w K mg base f cc A outer s H0 E).A) (hgd : (XL P w K mg base f cc A outer s H0 E).A.guards = some []) :
    PS (XL P w K mg base f cc A outer s H0 E) (bodyAt inner0 8) (fun D σ H => ∃ (v0 v1 v2 v5 v8 v11 v12 v16 v19 v20 v21 : Option V) (G : Hp) (sa t a : Addr) (fc n : Nat) (L : List Tup) (b : Int) (sd : Tup) (rw tr : Addr) (ra ta : List Tup) (x1 x2 x3 : V) (sr bd b0 b1 b2 : Addr) (rs : List V), σ = [v0, v1, v2, some (.ref sa), some (.int n), v5, some (.ref sd.1), some (.ref tr), v8, some (.ref sr), some (.ref bd), v11, v12, some x1, some x2, some (.ref rw), v16, some (.ref t), some x3, v19, v20, v21] ∧ Tn Ps2 T G H sa t a fc n L b ∧ Rw H fc n L sd rw tr ra ta ∧ In sa H fc n L x1 x2 x3 sr bd b0 b1 b2 rs ∧ Tg Ps2 G ∧ ∀ H', Tn Ps2 T G H' sa t a fc n L b → Rw H' fc n L sd rw tr ra ta → In sa H' fc n L x1 x2 x3 sr bd b0 b1 b2 rs → D.nx [v0, v1, v2, some (.ref sa), some (.int n), v5, some (.ref sd.1), some (.ref tr), v8, some (.ref sr), some (.ref bd), v11, v12, some x1, some x2, some (.ref rw), v16, some (.ref t), some x3, v19, v20, v21] H') := by
  have nd := sc_law.nd
  have h0 : PS (XL P w K mg base f cc A outer s H0 E) (bodyAt inner0 8) _ := ps_if (pt_not (pt_val (pe_rrL (js := [17, 18]) o2 hr hgd (pa_cons pe_str (pa_cons (pe_ixL K (pv 10) pe_int) (pa_cons (pe_lamv TB rfl hm rfl hu (free_by (sc := defScope s_law) (by decide +kernel))) pa_nil)))
    (fun f c' => lok_call (ps := ["table", "row"]) (N := ["table", "third"]) (fr := ["table", "third"]) (o1.mono (show 8 ≤ 9 by decide)) (nscope_by (by dsimp only; decide +kernel)) (fun _ _ => rfl) rfl (fun _ _ _ _ _ => (pa_cons (pv 0) (pa_cons (pv 1) pa_nil))) (fun _ _ _ _ _ => rfl) (by decide) (fun _ _ _ _ _ => ⟨rfl, rfl⟩))
    (free_by (sc := defScope s_law) (by decide +kernel)) (by decide +kernel) rfl))) (pss_one (ps_ret pe_bl)) pss_nil
  refine ps_imp h0 ?_
  rintro D σ H ⟨v0, v1, v2, v5, v8, v11, v12, v16, v19, v20, v21, G, sa, t, a, fc, n, L, b, sd, rw, tr, ra, ta, x1, x2, x3, sr, bd, b0, b1, b2, rs, rfl, tn, rr, ii, tg, q⟩
  have n8 := tn.tb.T.n8
  refine ⟨_, rfl, bd, _, 2, .ref b2, rfl, rfl, .of ii.hbd, rfl, tn.tn, fun lf lc H1 e1 n1 T1 f0 f1 c1 => ?_⟩
  have k1 : Kp Ps2 H H1 := Kp.lam hP hm tn.tn T1 e1
  have t1 := tn.kq k1 T1
  have r1 := rr.kp k1
  have i1 := ii.kp tn.st k1
  have tgp : Tg Ps H1 := tg_sub hs (t1.kp.tab tg)
  refine ⟨"row", b2, lf, lc, _, rfl, i1.h2, tol_row _ _ _ _, row_show (fun xs e => Nat.le_trans (i1.few xs e) (by decide)) kd_row, f1, c1, fun H2 Q' E' k2 wa wb => ?_, fun H2 k2 => ⟨_, rfl, iteF ?_⟩⟩
  · exact ⟨rfl, _, rfl, _, rfl, rr_row cf tgp t1.tb i1.a3.ad k2 wa wb⟩
  · exact q _ (t1.kd hs hd k2) (r1.kp k2) (i1.kp t1.st k2)
end
end U
set_option maxHeartbeats 4000000
namespace U
open PySem PySem.Spec PyProof.Rows L2 GxR Bx Gx Ex Sx RZ Kx Dx NdefX LamX Mx
theorem row_val {f n : Nat} {H : Hp} {z v : V} (h : rowBad f n H z = some v) : ∃ d, (∀ (K : PySem.W.Frag) (G : Hp), Dp K G v d) ∧ SeqAt.shaped (.tuple [.str "row", d]) = true ∧ PyData.eqv (.tuple [.str "row", d]) (.tuple [.str "row", d]) = true := by
  have hs : PyData.canLay0 (.str "row") = true := by simp only [PyData.canLay0]; decide +kernel
  simp only [PyData.canLay0] at hs
  unfold rowBad at h
  split at h
  · obtain ⟨j, rfl, _⟩ := firstBad_some h
    exact ⟨.int j, fun _ _ => .int _, shaped_of (by simp only [PyData.canLay0, PyData.canLayAll0, hs, Bool.and_self]) (by simp only [PyData.depth, PyData.depthAll]; decide), by simp [PyData.eqv, PyData.eqvAll]⟩
  · cases h
    exact ⟨.none, fun _ _ => .non, shaped_of (by simp only [PyData.canLay0, PyData.canLayAll0, hs, Bool.and_self]) (by simp only [PyData.depth, PyData.depthAll]; decide), by simp [PyData.eqv, PyData.eqvAll]⟩
section
variable {P : Program} {w : World} {K : PySem.W.Frag} {mg : Str → Option Value} {base : Heap} {Ps Ps2 : List Addr} {T : List NTab} {cl : Str → Addr} {TL CT CS CU CR CN : Addr}
variable {f cc : Addr} {A : Around} {outer : List Env} {s : Shared} {H0 : Hp} {E : XK}
theorem st_run (hs : ∀ P ∈ Ps, P ∈ Ps2) (hd : ∀ p ∈ T, p.1 ∉ Ps) (o1 : Okd P w K mg base CX0 2 "_law_digit" ["state", "size"] (spDigit Ps)) (hr : Room 2 (XL P w K mg base f cc A outer s H0 E).A) :
    PS (XL P w K mg base f cc A outer s H0 E) (bodyAt inner0 9) (fun D σ H => ∃ (v0 v1 v2 v5 v8 v11 v12 v16 v19 v20 v21 : Option V) (G : Hp) (sa t a : Addr) (fc n : Nat) (L : List Tup) (b : Int) (sd : Tup) (rw tr : Addr) (ra ta : List Tup) (x1 x2 x3 : V) (sr bd b0 b1 b2 : Addr) (rs : List V), σ = [v0, v1, v2, some (.ref sa), some (.int n), v5, some (.ref sd.1), some (.ref tr), v8, some (.ref sr), some (.ref bd), v11, v12, some x1, some x2, some (.ref rw), v16, some (.ref t), some x3, v19, v20, v21] ∧ Tn Ps2 T G H sa t a fc n L b ∧ Rw H fc n L sd rw tr ra ta ∧ In sa H fc n L x1 x2 x3 sr bd b0 b1 b2 rs ∧ Tg Ps2 G ∧ b < 790000000000 ∧ ∀ H' rn, Tn Ps2 T G H' sa t a fc n L (b + 4) → Rw H' fc n L sd rw tr ra ta → In sa H' fc n L x1 x2 x3 sr bd b0 b1 b2 rs → ADn sa H' rn → D.nx [v0, v1, v2, some (.ref sa), some (.int n), v5, some (.ref sd.1), some (.ref tr), v8, some (.ref sr), some (.ref bd), v11, v12, some x1, some x2, some (.ref rw), some rn, some (.ref t), some x3, v19, v20, v21] H') := by
  have nd := sc_law.nd
  have h0 : PS (XL P w K mg base f cc A outer s H0 E) (bodyAt inner0 9) _ := ps_set (i := 16) nd rfl (.inr rfl) (pe_ixL K (pv 9) (pe_do o1 hr (pa_cons (pv 3) (pa_cons pe_int pa_nil))))
  refine ps_imp h0 ?_
  rintro D σ H ⟨v0, v1, v2, v5, v8, v11, v12, v16, v19, v20, v21, G, sa, t, a, fc, n, L, b, sd, rw, tr, ra, ta, x1, x2, x3, sr, bd, b0, b1, b2, rs, rfl, tn, rr, ii, tg, hb, q⟩
  refine ⟨_, rfl, _, rfl, sa, 4, b, rfl, by decide, by decide, tn.st, by omega, fun d H1 k1 s1 d0 d1 => ?_⟩
  have i1 := ii.ke tn.st k1
  have l4 := ii.rl
  obtain ⟨rn, hrn⟩ : ∃ rn, rs[d.toNat]? = some rn := ⟨_, List.getElem?_eq_getElem (by omega)⟩
  have ed : ((d.toNat : Nat) : Int) = d := by omega
  exact ⟨sr, rs, d, rn, rfl, rfl, .of i1.hsr, by rw [← ed]; exact atI_nat hrn, q H1 rn (tn.ke hs hd k1 s1) (rr.ke tn.st k1) i1 (i1.ra rn (List.mem_of_getElem? hrn))⟩
theorem st_rr3 (hs : ∀ P ∈ Ps, P ∈ Ps2) (hd : ∀ p ∈ T, p.1 ∉ Ps) (hP : TL ∈ Ps2) (hm : (TL, nmL) ∈ T) (hu : ∀ p ∈ T, p.1 = TL → p.2 = nmL) (TB : LamX.TabB base mg cc TL) (cf : CF K cl CN "run" "place") (o1 : OkX P w K mg base 9 "walked" ["table", "run", "row"] (spWalked Ps CT CR CN))
    (o2 : OkP P w K mg base CX0 12 "_law_refused_right" ["kind", "bad", "deed"] (spRR P w K mg base Ps cl 10)) (o3 : Okd P w K mg base CX0 3 "_law_run_bad" ["table", "thing", "row"] (spRunBad Ps)) (hr : Room 12 (XL P w K mg base f cc A outer s H0 E).A) (hgd : (XL P w K mg base f cc A outer s H0 E).A.guards = some []) :
    PS (XL P w K mg base f cc A outer s H0 E) (bodyAt inner0 10) (fun D σ H => ∃ (v0 v1 v2 v5 v8 v11 v12 v19 v20 v21 : Option V) (G : Hp) (sa t a : Addr) (fc n : Nat) (L : List Tup) (b : Int) (sd : Tup) (rw tr : Addr) (ra ta : List Tup) (x1 x2 x3 : V) (sr bd b0 b1 b2 : Addr) (rs : List V) (rn : V), σ = [v0, v1, v2, some (.ref sa), some (.int n), v5, some (.ref sd.1), some (.ref tr), v8, some (.ref sr), some (.ref bd), v11, v12, some x1, some x2, some (.ref rw), some rn, some (.ref t), some x3, v19, v20, v21] ∧ Tn Ps2 T G H sa t a fc n L b ∧ Rw H fc n L sd rw tr ra ta ∧ In sa H fc n L x1 x2 x3 sr bd b0 b1 b2 rs ∧ Tg Ps2 G ∧ ADn sa H rn ∧ ∀ H', Tn Ps2 T G H' sa t a fc n L b → Rw H' fc n L sd rw tr ra ta → In sa H' fc n L x1 x2 x3 sr bd b0 b1 b2 rs → D.nx [v0, v1, v2, some (.ref sa), some (.int n), v5, some (.ref sd.1), some (.ref tr), v8, some (.ref sr), some (.ref bd), v11, v12, some x1, some x2, some (.ref rw), some rn, some (.ref t), some x3, v19, v20, v21] H') := by
  have nd := sc_law.nd
  have h0 : PS (XL P w K mg base f cc A outer s H0 E) (bodyAt inner0 10) _ := ps_if (pt_not (pt_val (pe_rrL (js := [17, 16, 15]) o2 hr hgd (pa_cons pe_str (pa_cons (pe_do o3 (hr.mono (by decide)) (pa_cons (pv 17) (pa_cons (pv 16) (pa_cons (pv 15) pa_nil)))) (pa_cons (pe_lamv TB rfl hm rfl hu (free_by (sc := defScope s_law) (by decide +kernel))) pa_nil)))
    (fun f c' => lok_call (ps := ["table", "run", "row"]) (N := ["table", "run", "row"]) (fr := ["table", "run", "row"]) o1 (nscope_by (by dsimp only; decide +kernel)) (fun _ _ => rfl) rfl (fun _ _ _ _ _ => pa_cons (pv 0) (pa_cons (pv 1) (pa_cons (pv 2) pa_nil))) (fun _ _ _ _ _ => rfl) (by decide) (fun _ _ _ _ _ => ⟨rfl, rfl⟩))
    (free_by (sc := defScope s_law) (by decide +kernel)) (by decide +kernel) rfl))) (pss_one (ps_ret pe_bl)) pss_nil
  refine ps_imp h0 ?_
  rintro D σ H ⟨v0, v1, v2, v5, v8, v11, v12, v19, v20, v21, G, sa, t, a, fc, n, L, b, sd, rw, tr, ra, ta, x1, x2, x3, sr, bd, b0, b1, b2, rs, rn, rfl, tn, rr, ii, tg, ad, q⟩
  have rl := rr.rl
  refine ⟨_, rfl, _, rfl, _, rfl, t, a, fc, n, L, rn, rw, refs ra, rfl, tn.tb, ad.ad, rr.hrw, by rw [refs_len]; omega, fun bp Ha ka _ hbp => ⟨(tn.kd hs hd ka).tn, fun lf lc H1 e1 n1 T1 f0 f1 c1 => ?_⟩⟩
  have tna := tn.kd hs hd ka
  have k1 : Kp Ps2 Ha H1 := Kp.lam hP hm tna.tn T1 e1
  have t1 := tna.kq k1 T1
  have r1 := (rr.kp ka).kp k1
  have i1 := (ii.kp tn.st ka).kp tna.st k1
  have ad1 := (ad.kp2 ka).kp2 k1
  have tgp : Tg Ps H1 := tg_sub hs (t1.kp.tab tg)
  have hbp1 := k1.lst hbp
  have hz : rowBad fc n H1 (.ref rw) = none := rowBad_good r1.hrw r1.rall r1.rst
  have eo : runBad fc n (vals L) (refs ra).length H rn = runBad fc n (vals L) (refs ra).length H1 rn := by
    rw [runBad_kp k1 (ad.kp2 ka).ad, runBad_kp ka ad.ad]
  rw [eo] at hbp1
  refine ⟨"run", bp, lf, lc, _, rfl, hbp1, tol_run _ _ _ _ _ _, run_show (by rw [refs_len]; omega) kd_run, f1, c1, fun H2 Q' E' k2 wa wb => ?_, fun H2 k2 => ⟨_, rfl, iteF ?_⟩⟩
  · exact ⟨rfl, _, rfl, _, rfl, _, rfl, rr_run cf tgp t1.tb ad1.ad (.tup r1.hrw (ad_tups r1.rall)) hz (tupOf_of r1.hrw) (by rw [refs_len]; omega) k2 wa wb⟩
  · exact q _ (t1.kd hs hd k2) (r1.kp k2) (i1.kp t1.st k2)
theorem st_last (hs : ∀ P ∈ Ps, P ∈ Ps2) (hd : ∀ p ∈ T, p.1 ∉ Ps) (hP : TL ∈ Ps2) (hm : (TL, nmL) ∈ T) (hu : ∀ p ∈ T, p.1 = TL → p.2 = nmL) (TB : LamX.TabB base mg cc TL) (cf : CF K cl CR "row" "number") (o1 : OkX P w K mg base 9 "walked" ["table", "run", "row"] (spWalked Ps CT CR CN))
    (o2 : OkP P w K mg base CX0 11 "_law_told" ["deed"] (spTold P w K mg base Ps cl 10)) (hr : Room 11 (XL P w K mg base f cc A outer s H0 E).A) :
    PS (XL P w K mg base f cc A outer s H0 E) (bodyAt inner0 11) (fun D σ H => ∃ (v0 v1 v2 v5 v8 v11 v12 v16 v19 v20 v21 : Option V) (G : Hp) (sa t a : Addr) (fc n : Nat) (L : List Tup) (b : Int) (sd : Tup) (rw tr : Addr) (ra ta : List Tup) (x1 x2 x3 : V) (sr bd b0 b1 b2 : Addr) (rs : List V), σ = [v0, v1, v2, some (.ref sa), some (.int n), v5, some (.ref sd.1), some (.ref tr), v8, some (.ref sr), some (.ref bd), v11, v12, some x1, some x2, some (.ref rw), v16, some (.ref t), some x3, v19, v20, v21] ∧ Tn Ps2 T G H sa t a fc n L b ∧ Rw H fc n L sd rw tr ra ta ∧ In sa H fc n L x1 x2 x3 sr bd b0 b1 b2 rs ∧ Tg Ps2 G ∧ ∀ H', Tn Ps2 T G H' sa t a fc n L b → Rw H' fc n L sd rw tr ra ta → In sa H' fc n L x1 x2 x3 sr bd b0 b1 b2 rs → D.nx [v0, v1, v2, some (.ref sa), some (.int n), v5, some (.ref sd.1), some (.ref tr), v8, some (.ref sr), some (.ref bd), v11, v12, some x1, some x2, some (.ref rw), v16, some (.ref t), some x3, v19, v20, v21] H') := by
  have nd := sc_law.nd
  have h0 : PS (XL P w K mg base f cc A outer s H0 E) (bodyAt inner0 11) _ := ps_if (PW.pt (pw_and (pt_neD K (pe_ixL K (pv 10) pe_int) (pe_lst pa_nil) (u64 hr)) (pw_and1 (pt_neD K (pe_tdL (js := [17, 18]) o2 hr (pa_cons (pe_lamv TB rfl hm rfl hu (free_by (sc := defScope s_law) (by decide +kernel))) pa_nil)
    (fun f c' => lok_call (ps := ["table", "run", "row"]) (N := ["table", "third"]) (fr := ["table", "third"]) o1 (nscope_by (by dsimp only; decide +kernel)) (fun _ _ => rfl) rfl (fun _ _ _ _ _ => pa_cons (pv 0) (pa_cons pe_non (pa_cons (pv 1) pa_nil))) (fun _ _ _ _ _ => rfl) (by decide) (fun _ _ _ _ _ => ⟨rfl, rfl⟩))
    (free_by (sc := defScope s_law) (by decide +kernel)) (by decide +kernel) rfl) (pe_tup (pa_cons pe_str (pa_cons (pe_ixL K (pe_ixL K (pv 10) pe_int) pe_int) pa_nil))) (u64 hr))))) (pss_one (ps_ret pe_bl)) pss_nil
  refine ps_imp h0 ?_
  rintro D σ H ⟨v0, v1, v2, v5, v8, v11, v12, v16, v19, v20, v21, G, sa, t, a, fc, n, L, b, sd, rw, tr, ra, ta, x1, x2, x3, sr, bd, b0, b1, b2, rs, rfl, tn, rr, ii, tg, q⟩
  refine ⟨_, rfl, bd, _, 2, .ref b2, rfl, rfl, .of ii.hbd, rfl, (by show 0 ≤ sizeLine; decide), ne_nil (tol_row _ _ _ _) ii.h2 fun e ne => ⟨_, rfl, ?_⟩⟩
  have ke := Kp.new (Ps := Ps) (o := .lst []) ne
  have t1 := tn.kd hs hd ke
  have r1 := rr.kp ke
  have i1 := ii.kp tn.st ke
  cases eb : rowBad fc n H x3 with
  | none => exact iteF (q _ t1 r1 i1)
  | some v =>
    refine iteT ⟨t1.tn, fun lf lc H1 e1 n1 T1 f0 f1 c1 => ?_⟩
    have k1 : Kp Ps2 (upd H e (.lst [])) H1 := Kp.lam hP hm t1.tn T1 e1
    have t2 := t1.kq k1 T1
    have r2 := r1.kp k1
    have i2 := i1.kp t1.st k1
    have tgp : Tg Ps H1 := tg_sub hs (t2.kp.tab tg)
    have eb2 : rowBad fc n H1 x3 = some v := by rw [rowBad_kp k1 i1.a3.ad, rowBad_kp ke ii.a3.ad]; exact eb
    obtain ⟨dv, dp, sh, ev⟩ := row_val eb
    refine ⟨lf, lc, rfl, f1, c1, fun H2 Q' E' k2 wa wb => ⟨rfl, _, rfl, _, rfl, told_row cf tgp t2.tb .non i2.a3.ad eb2 k2 wb fun p H3 k3 hp => ?_⟩⟩
    have i3 := i2.kp t2.st k3
    have h2 := i3.h2
    rw [rowBad_kp k3 i2.a3.ad, eb2] at h2
    refine ⟨_, rfl, bd, _, 2, .ref b2, rfl, rfl, .of i3.hbd, rfl, b2, _, 0, v, rfl, rfl, .of h2, rfl, (by show 2 ≤ sizeLine; decide), fun p2 np2 => ?_⟩
    have k4 := Kp.new (Ps := Ps) (o := .tup [.str "row", v]) np2
    refine ⟨.tuple [.str "row", dv], .tuple [.str "row", dv], .tup (.of (k4.tup hp)) (.cons (.str _) (.cons (dp _ _) .nil)), .tup (.of upd_same) (.cons (.str _) (.cons (dp _ _) .nil)), sh, sh, false, congrArg V.bl ?_, iteF ?_⟩
    · rw [ev]; rfl
    · have k34 := k3.trans k4
      exact q _ (t2.kd hs hd k34) (r2.kp k34) (i2.kp t2.st k34)
end
end U
set_option maxHeartbeats 4000000
namespace U
open PySem PySem.Spec PyProof.Rows L2 GxR Bx Gx Ex Sx RZ Kx Dx NdefX LamX Mx
/-- all that law's own body calls, and where its lambdas are kept -/
structure Fs (P : Program) (w : World) (K : PySem.W.Frag) (mg : Str → Option Value) (base : Heap) (Ps Ps2 : List Addr) (T : List NTab) (cl : Str → Addr) (TL CT CS CU CR CN : Addr) : Prop where
  B : BN mg
  hs : ∀ P ∈ Ps, P ∈ Ps2
  hd : ∀ p ∈ T, p.1 ∉ Ps
  hP : TL ∈ Ps2
  hm : (TL, nmL) ∈ T
  hu : ∀ p ∈ T, p.1 = TL → p.2 = nmL
  cT : CF K cl CT "table" "place"
  cS : CF K cl CS "stand" "number"
  cU : CF K cl CU "turning" "number"
  cR : CF K cl CR "row" "number"
  cN : CF K cl CN "run" "place"
  draw : Okd P w K mg base CX0 1 "_law_draw" ["cell", "k"] (spDraw Ps)
  table : Okd P w K mg base CX0 4 "_law_table" ["state", "most_stands", "most_turnings"] (spTable Ps)
  digit : Okd P w K mg base CX0 2 "_law_digit" ["state", "size"] (spDigit Ps)
  turning : Okd P w K mg base CX0 3 "_law_turning" ["state", "size"] (spTurning Ps)
  bent : Okd P w K mg base CX0 4 "_law_bent" ["state", "things"] (spBent Ps)
  sbad : Okd P w K mg base CX0 2 "_law_stand_bad" ["table", "thing"] (spStandBad Ps)
  tbad : Okd P w K mg base CX0 2 "_law_turning_bad" ["table", "thing"] (spTurnBad Ps)
  rbad : Okd P w K mg base CX0 3 "_law_row_bad" ["table", "thing"] (spRowBad Ps)
  nbad : Okd P w K mg base CX0 3 "_law_run_bad" ["table", "thing", "row"] (spRunBad Ps)
  isS : OkX P w K mg base 8 "is_stand" ["table", "thing"] (spIsStand Ps CT)
  isT : OkX P w K mg base 8 "is_turning" ["table", "thing"] (spIsTurning Ps CT)
  nS : OkX P w K mg base 8 "need_stand" ["table", "thing"] (spNeedStand Ps CT CS)
  nT : OkX P w K mg base 8 "need_turning" ["table", "thing"] (spNeedTurning Ps CT CU)
  nR : OkX P w K mg base 8 "need_row" ["table", "row"] (spNeedRow Ps CT CR)
  walked : OkX P w K mg base 9 "walked" ["table", "run", "row"] (spWalked Ps CT CR CN)
  told : OkP P w K mg base CX0 11 "_law_told" ["deed"] (spTold P w K mg base Ps cl 10)
  right : OkP P w K mg base CX0 12 "_law_refused_right" ["kind", "bad", "deed"] (spRR P w K mg base Ps cl 10)
  asked : Okd P w K mg base CX0 1 "_law_asked" ["far"] (spAsked P w K mg base Ps Ps2 T CT)
section
variable {P : Program} {w : World} {K : PySem.W.Frag} {mg : Str → Option Value} {base : Heap} {Ps Ps2 : List Addr} {T : List NTab} {cl : Str → Addr} {TL CT CS CU CR CN : Addr}
variable {f cc : Addr} {A : Around} {outer : List Env} {s : Shared} {H0 : Hp} {E : XK}
def tInner (Ps2 : List Addr) (T : List NTab) : TS := fun D σ H => ∃ (v0 v1 v2 v5 v8 v9 v10 v11 v12 v13 v14 v16 v18 v19 v20 v21 : Option V) (G : Hp) (sa t a : Addr) (fc n : Nat) (L : List Tup) (b : Int) (sd : Tup) (rw tr : Addr) (ra ta : List Tup), σ = [v0, v1, v2, some (.ref sa), some (.int n), v5, some (.ref sd.1), some (.ref tr), v8, v9, v10, v11, v12, v13, v14, some (.ref rw), v16, some (.ref t), v18, v19, v20, v21] ∧ Tn Ps2 T G H sa t a fc n L b ∧ Rw H fc n L sd rw tr ra ta ∧ Tg Ps2 G ∧ b < 780000000000 ∧
      ∀ H' w1 w2 w5 w8 w9 w10 w11 w12 w13 w14 w16 w18 w19 w20 w21, Tn Ps2 T G H' sa t a fc n L (b + 404) → Rw H' fc n L sd rw tr ra ta → D.nx [v0, w1, w2, some (.ref sa), some (.int n), w5, some (.ref sd.1), some (.ref tr), w8, w9, w10, w11, w12, w13, w14, some (.ref rw), w16, some (.ref t), w18, w19, w20, w21] H'
theorem inner_ok (F : Fs P w K mg base Ps Ps2 T cl TL CT CS CU CR CN) (TB : LamX.TabB base mg cc TL) (hr : Room 12 (XL P w K mg base f cc A outer s H0 E).A) (hgd : (XL P w K mg base f cc A outer s H0 E).A.guards = some []) :
    PSs (XL P w K mg base f cc A outer s H0 E) inner0 (tInner Ps2 T) := by
  have h0 : PSs (XL P w K mg base f cc A outer s H0 E) inner0 _ := st_drawn (pss_cons (st_same F.B F.hs F.hd F.isS F.isT (hr.mono (by decide))) (pss_cons (st_rr0 F.hs F.hd F.hP F.hm F.hu TB F.cS F.nS F.right hr hgd) (pss_cons (st_rr1 F.hs F.hd F.hP F.hm F.hu TB F.cU F.nT F.right hr hgd) (pss_cons (st_rr2 F.hs F.hd F.hP F.hm F.hu TB F.cR F.nR F.right hr hgd)
    (pss_cons (st_run F.hs F.hd F.digit (hr.mono (by decide))) (pss_cons (st_rr3 F.hs F.hd F.hP F.hm F.hu TB F.cN F.walked F.right F.nbad hr hgd) (pss_one (st_last F.hs F.hd F.hP F.hm F.hu TB F.cR F.walked F.told (hr.mono (by decide)))))))))) F.B F.hs F.hd F.bent F.turning F.sbad F.tbad F.rbad (hr.mono (by decide))
  refine pss_imp h0 ?_
  rintro D σ H ⟨v0, v1, v2, v5, v8, v9, v10, v11, v12, v13, v14, v16, v18, v19, v20, v21, G, sa, t, a, fc, n, L, b, sd, rw, tr, ra, ta, rfl, tn, rr, tg, hb, q⟩
  refine ⟨v0, v1, v2, v5, v8, v9, v10, v11, v12, v13, v14, v16, v18, v19, v20, v21, G, sa, t, a, fc, n, L, b, sd, rw, tr, ra, ta, rfl, tn, rr, by omega, fun H1 x1 x2 x3 sr bd b0 b1 b2 rs t1 r1 i1 => ?_⟩
  refine ⟨_, _, _, _, _, _, _, _, _, _, _, G, sa, t, a, fc, n, L, _, sd, rw, tr, ra, ta, x1, x2, x3, sr, bd, b0, b1, b2, rs, rfl, t1, r1, i1, tg, fun H2 t2 r2 i2 => ?_⟩
  refine ⟨_, _, _, _, _, _, _, _, _, _, _, G, sa, t, a, fc, n, L, _, sd, rw, tr, ra, ta, x1, x2, x3, sr, bd, b0, b1, b2, rs, rfl, t2, r2, i2, tg, fun H3 t3 r3 i3 => ?_⟩
  refine ⟨_, _, _, _, _, _, _, _, _, _, _, G, sa, t, a, fc, n, L, _, sd, rw, tr, ra, ta, x1, x2, x3, sr, bd, b0, b1, b2, rs, rfl, t3, r3, i3, tg, fun H4 t4 r4 i4 => ?_⟩
  refine ⟨_, _, _, _, _, _, _, _, _, _, _, G, sa, t, a, fc, n, L, _, sd, rw, tr, ra, ta, x1, x2, x3, sr, bd, b0, b1, b2, rs, rfl, t4, r4, i4, tg, fun H5 t5 r5 i5 => ?_⟩
  refine ⟨_, _, _, _, _, _, _, _, _, _, _, G, sa, t, a, fc, n, L, _, sd, rw, tr, ra, ta, x1, x2, x3, sr, bd, b0, b1, b2, rs, rfl, t5, r5, i5, tg, by omega, fun H6 rn t6 r6 i6 ad => ?_⟩
  refine ⟨_, _, _, _, _, _, _, _, _, _, G, sa, t, a, fc, n, L, _, sd, rw, tr, ra, ta, x1, x2, x3, sr, bd, b0, b1, b2, rs, rn, rfl, t6, r6, i6, tg, ad, fun H7 t7 r7 i7 => ?_⟩
  refine ⟨_, _, _, _, _, _, _, _, _, _, _, G, sa, t, a, fc, n, L, _, sd, rw, tr, ra, ta, x1, x2, x3, sr, bd, b0, b1, b2, rs, rfl, t7, r7, i7, tg, fun H8 t8 r8 i8 => ?_⟩
  exact q _ _ _ _ _ _ _ _ _ _ _ _ _ _ _ _ (t8.le (by omega)) r8
end
end U
set_option maxHeartbeats 4000000
namespace U
open PySem PySem.Spec PyProof.Rows L2 GxR Bx Gx Ex Sx RZ Kx Dx NdefX LamX Mx
theorem cutV_suf (xs : List V) {i : Nat} (hi : i ≤ xs.length) : cutV xs (some (i : Int)) none = xs.drop i := by
  unfold cutV
  rw [HT.sIx_none, HT.sIx_nat, Nat.min_eq_left hi]
  exact List.take_of_length_le (by rw [List.length_drop]; exact Nat.le_refl _)
section
variable {P : Program} {w : World} {K : PySem.W.Frag} {mg : Str → Option Value} {base : Heap} {Ps Ps2 : List Addr} {T : List NTab} {cl : Str → Addr} {TL CT CS CU CR CN : Addr}
variable {f cc : Addr} {A : Around} {outer : List Env} {s : Shared} {H0 : Hp} {E : XK}
def tOuter (Ps2 : List Addr) (T : List NTab) : TS := fun D σ H => ∃ (v0 v3 v4 v5 v6 v7 v8 v9 v10 v11 v12 v13 v14 v15 v16 v17 v18 v19 v20 v21 : Option V) (k c : Int), σ = [v0, some (.int k), some (.int c), v3, v4, v5, v6, v7, v8, v9, v10, v11, v12, v13, v14, v15, v16, v17, v18, v19, v20, v21] ∧ 0 ≤ k ∧ k < 1000 ∧ Tg Ps2 H ∧ TabsN T H ∧ ∀ H' w1 w2 w3 w4 w5 w6 w7 w8 w9 w10 w11 w12 w13 w14 w15 w16 w17 w18 w19 w20 w21, Kp Ps2 H H' → TabsN T H' → D.nx [v0, w1, w2, w3, w4, w5, w6, w7, w8, w9, w10, w11, w12, w13, w14, w15, w16, w17, w18, w19, w20, w21] H'
theorem outer_ok (F : Fs P w K mg base Ps Ps2 T cl TL CT CS CU CR CN) (TB : LamX.TabB base mg cc TL) (hr : Room 12 (XL P w K mg base f cc A outer s H0 E).A) (hgd : (XL P w K mg base f cc A outer s H0 E).A.guards = some []) :
    PSs (XL P w K mg base f cc A outer s H0 E) outer0 (tOuter Ps2 T) := by
  have nd := sc_law.nd
  have B := F.B
  have h0 : PSs (XL P w K mg base f cc A outer s H0 E) outer0 _ := pss_cons (ps_set (i := 3) nd rfl (.inr rfl) (pe_do F.draw (hr.mono (by decide)) (pa_cons (pv 2) (pa_cons (pv 1) pa_nil))))
    (pss_cons (ps_set (i := 17) nd rfl (.inr rfl) (pe_do F.table (hr.mono (by decide)) (pa_cons (pv 3) (pa_cons pe_int (pa_cons pe_int pa_nil)))))
    (pss_cons (ps_set (i := 4) nd rfl (.inr rfl) (pe_len K B.len (pe_ixT K (pe_ixT K (pv 17) pe_int) pe_int)))
    (pss_cons (st_some B F.digit (hr.mono (by decide)))
    (pss_cons (ps_asg (pe_tup (pa_cons (pe_ixL K (pv 5) pe_int) (pa_cons (pe_tupleK K B.tuple (pe_slice sl_list (pv 5) (po_some pe_int) po_none)) pa_nil))) (pg_tup rfl (pgs_cons (pg_name (i := 6) nd rfl (.inl rfl)) (pgs_cons (pg_name (i := 15) nd rfl (.inr rfl)) pgs_nil))))
    (pss_cons (st_turns B F.digit (hr.mono (by decide)))
    (pss_cons (ps_for (passes_of rfl) rfl (pi_range1 rfl B.range (pa_cons pe_int pa_nil)) (pg_name (i := 8) nd rfl (.inl rfl)) (inner_ok F TB hr hgd))
      (st_far B F.hs F.hd F.cT F.digit F.asked F.told (hr.mono (by decide)))))))))
  refine pss_imp h0 ?_
  rintro D σ H ⟨v0, v3, v4, v5, v6, v7, v8, v9, v10, v11, v12, v13, v14, v15, v16, v17, v18, v19, v20, v21, k, c, rfl, hk0, hk1, tg, tns, q⟩
  refine ⟨_, rfl, _, rfl, c, k, rfl, hk0, hk1, fun sa H1 k1 nsa st1 => ?_⟩
  refine ⟨_, rfl, sa, 243, 24, 1000 * k, rfl, by decide, by decide, by decide, by decide, st1, by omega, fun t a fc n L H2 k2 st2 tb => ?_⟩
  have t2 : Tn Ps2 T H H2 sa t a fc n L (1000 * k + 200) := ⟨kp_up F.hs (Kp.ke k1 nsa k2), tabsn_ke F.hd (st_code st1) k2 (tabsn_kp F.hd k1 tns), nsa, st2, tb⟩
  obtain ⟨p0, hp0, hpL, hp1, hpn⟩ := tb.head
  have lp : ((p0.2.map V.int).length : Int) = (n : Int) := by rw [List.length_map, hpn]
  refine ⟨_, rfl, t, _, 1, .ref a, rfl, rfl, .of tb.t, rfl, a, refs L, 0, _, rfl, rfl, .of tb.a, atI_nat (j := 0) (refs_get hp0), p0.1, _, rfl, .inr (.of hp1), ?_⟩
  rw [lp]
  refine ⟨_, _, _, _, _, _, _, _, _, _, _, _, _, _, _, _, _, _, _, sa, t, a, fc, n, L, _, rfl, st2, tb, by omega, fun H3 p M k3 st3 hp aM sM l1 l6 => ?_⟩
  have t3 := t2.ke F.hs F.hd k3 st3
  cases M with
  | nil => cases l1
  | cons sd ra =>
    refine ⟨_, rfl, p, _, 0, .ref sd.1, rfl, rfl, .of hp, atI_nat (j := 0) (refs_get (L := sd :: ra) (i := 0) rfl), _, rfl, ?_⟩
    dsimp only [tNoPart]
    refine ⟨_, rfl, p, _, rfl, .of hp, fun p2 np2 => ?_⟩
    have ec : cutV (refs (sd :: ra)) (some (1 : Int)) none = refs ra := cutV_suf (refs (sd :: ra)) (i := 1) (by rw [refs_len, List.length_cons]; omega)
    rw [ec]
    have kA : Kp Ps H3 (upd H3 p2 (.lst (refs ra))) := .new np2
    refine .inl ⟨p2, _, rfl, .of upd_same, fun rw nrw => ⟨(by show 2 ≤ sizeLine; decide), fun T2 nT2 => ⟨T2, _, rfl, .of upd_same, rfl, _, _, rfl, _, _, rfl, rfl, ?_⟩⟩⟩
    have kB := kA.trans (Kp.new (o := .tup (refs ra)) nrw)
    have kC := kB.trans (Kp.new (o := .tup [.ref sd.1, .ref rw]) nT2)
    have t4 := t3.kd F.hs F.hd kC
    have hrw := (Kp.new (Ps := Ps) (o := .tup [.ref sd.1, .ref rw]) nT2).tup (a := rw) (xs := refs ra) upd_same
    have hsd := kC.tup (aM sd List.mem_cons_self)
    have hra : AllT _ ra := fun q hq => kC.tup (aM q (List.mem_cons_of_mem _ hq))
    have lra : ra.length ≤ 5 := by rw [List.length_cons] at l6; omega
    refine ⟨_, _, _, _, _, _, _, _, _, _, _, _, _, _, _, _, _, _, _, sa, t, a, rw, fc, n, L, ra, _, rfl, t4.st, t4.tb, hrw, lra, by omega, fun H5 tr ta k5 st5 htr hta lta => ?_⟩
    have t5 := t4.ke F.hs F.hd k5 st5
    have r5 : Rw H5 fc n L sd rw tr ra ta := ⟨k5.tup (t4.st.neT hsd) hsd, sM sd List.mem_cons_self, k5.tup (t4.st.neT hrw) hrw, fun q hq => k5.tup (t4.st.neT (hra q hq)) (hra q hq), fun q hq => sM q (List.mem_cons_of_mem _ hq), lra, htr, hta, lta⟩
    refine ⟨4, rfl, by decide, by decide, for_range (lo := 0) (n := 4) (fun i σ' H' => ∃ (w1 w2 w5 w8 w9 w10 w11 w12 w13 w14 w16 w18 w19 w20 w21 : Option V), σ' = [v0, w1, w2, some (.ref sa), some (.int n), w5, some (.ref sd.1), some (.ref tr), w8, w9, w10, w11, w12, w13, w14, some (.ref rw), w16, some (.ref t), w18, w19, w20, w21] ∧ Tn Ps2 T H H' sa t a fc n L (1000 * k + 500 + 404 * i) ∧ Rw H' fc n L sd rw tr ra ta) ⟨_, _, _, _, _, _, _, _, _, _, _, _, _, _, _, rfl, t5.le (by omega), r5⟩ ?_ ?_⟩
    · rintro i σ' H' hi ⟨w1, w2, w5, w8, w9, w10, w11, w12, w13, w14, w16, w18, w19, w20, w21, rfl, tn, rr⟩
      refine ⟨_, _, _, _, _, _, _, _, _, _, _, _, _, _, _, _, H, sa, t, a, fc, n, L, _, sd, rw, tr, ra, ta, rfl, tn, rr, tg, by omega, fun H'' y1 y2 y5 y8 y9 y10 y11 y12 y13 y14 y16 y18 y19 y20 y21 t' r' => ?_⟩
      exact ⟨_, _, _, _, _, _, _, _, _, _, _, _, _, _, _, rfl, t'.le (by push_cast; omega), r'⟩
    · rintro σ' H' ⟨w1, w2, w5, w8, w9, w10, w11, w12, w13, w14, w16, w18, w19, w20, w21, rfl, tn, rr⟩
      refine ⟨_, _, _, _, _, _, _, _, _, _, _, _, _, _, _, _, _, _, _, _, H, sa, t, a, fc, n, L, _, rfl, tn, tg, by omega, fun H'' v11' v12' kk tt => ?_⟩
      exact q _ _ _ _ _ _ _ _ _ _ _ _ _ _ _ _ _ _ _ _ _ _ kk tt
end
end U
set_option maxHeartbeats 4000000
namespace U
open PySem PySem.Spec PyProof.Rows L2 GxR Bx Gx Ex Sx RZ Kx Dx NdefX LamX Mx
section
variable {P : Program} {w : World} {K : PySem.W.Frag} {mg : Str → Option Value} {base : Heap} {Ps Ps2 : List Addr} {T : List NTab} {cl : Str → Addr} {TL CT CS CU CR CN : Addr}
def spLaw (K : PySem.W.Frag) (Ps2 : List Addr) (T : List NTab) : SpS := fun A _ vs H Q _ => A.guards = some [] ∧ ∃ (a : Addr) (ns : List Int), vs = [.ref a] ∧ SqL K H a (ns.map V.int) ∧ ns.length ≤ 63 ∧ Tg Ps2 H ∧ TabsN T H ∧ ∀ H', Q (.bl true) H'
theorem DfnC.okP {x : Str} {st : Stmt} {N ps : List Str} {T : Addr} {k : Nat} {sp : SpS} (D : DfnC K mg base x st ps T) (S : FnScope N ps (defScope st)) (len : ∀ A s vs H Q E, sp A s vs H Q E → vs.length = ps.length)
    (hbody : ∀ (f c : Addr) (A : Around) (outer : List Env) (s : Shared) (H : Hp) (vs : List V) (Q : VK) (E : XK), GxR.TabB base mg c T → Room k (A.deeper (envOfC x (defScope st) s.heap.objs.size f (.ref c))) → sp A s vs H Q E →
      ∃ t, PSs (cxOf CX0 P w K mg base N x (defScope st) f (.ref c) A outer s H E) (defBody st) t ∧ t { nx := fun _ H' => Q .non H', rt := Q } (start N vs) H) : OkP P w K mg base CX0 (k + 1) x ps sp := by
  obtain ⟨f, c, oc, od, kV, doc, pm, an, ct, osl, g, lk, hcd, kp, b, TB⟩ := D.ex
  exact ⟨f, _, g, kp, b, fnp_of lk hcd S len fun A outer s H vs Q E hr hsp => hbody f c A outer s H vs Q E TB hr hsp⟩
theorem ok_law (F : Fs P w K mg base Ps Ps2 T cl TL CT CS CU CR CN) (D : DfnC K mg base "law" s_law ["script"] TL) : OkP P w K mg base CX0 13 "law" ["script"] (spLaw K Ps2 T) := by
  refine DfnC.okP D sc_law (fun A s vs H Q E h => ?_) (fun f cc A outer s H vs Q E TB0 hr h => ?_)
  · obtain ⟨_, a, ns, rfl, _⟩ := h; rfl
  · obtain ⟨hgd, a, ns, rfl, ha, hl, tg, tns, q⟩ := h
    have nd := sc_law.nd
    have B := F.B
    have TB : LamX.TabB base mg cc TL := ⟨TB0.code, TB0.bm, TB0.gP⟩
    refine ⟨_, pss_cons (ps_for (passes_of rfl) rfl (pi_enum (by rfl) B.enumerate (pa_cons (pe_op op_cat (pe_slice sl_list (pv 0) po_none (po_some pe_int)) (pe_lst (pa_cons (pe_callB (cr_sum rfl) (by rfl) B.sum boot_sum (pa_cons (pv 0) pa_nil)) pa_nil))) pa_nil))
        (pg_tup rfl (pgs_cons (pg_name (i := 1) nd rfl (.inl rfl)) (pgs_cons (pg_name (i := 2) nd rfl (.inl rfl)) pgs_nil))) (outer_ok F TB hr hgd))
      (pss_one (ps_ret pe_bl)), ?_⟩
    refine ⟨_, rfl, _, rfl, a, _, rfl, ha, fun p1 n1 => ⟨_, rfl, a, ns, rfl, ?_⟩⟩
    have k1 : Kp Ps2 H (upd H p1 (.lst (cutV (ns.map V.int) none (some 4)))) := .new n1
    refine ⟨k1.l ha, (by show 1 ≤ sizeLine; decide), fun p2 n2 => ?_⟩
    have k2 : Kp Ps2 _ (upd (upd H p1 (.lst (cutV (ns.map V.int) none (some 4)))) p2 (.lst [V.int ns.sum])) := .new n2
    have cl := cutV_len (ns.map V.int) none (some 4)
    rw [List.length_map] at cl
    refine ⟨p1, p2, _, _, rfl, rfl, k2.lst upd_same, upd_same, Nat.le_of_lt (small1000 (by show _ + 1 ≤ 1000; omega)), fun l nl => ?_⟩
    have k3 : Kp Ps2 _ (upd (upd (upd H p1 (.lst (cutV (ns.map V.int) none (some 4)))) p2 (.lst [V.int ns.sum])) l (.lst (cutV (ns.map V.int) none (some 4) ++ [V.int ns.sum]))) := .new nl
    have kk := (k1.trans k2).trans k3
    have tl : TabsN T (upd (upd (upd H p1 (.lst (cutV (ns.map V.int) none (some 4)))) p2 (.lst [V.int ns.sum])) l (.lst (cutV (ns.map V.int) none (some 4) ++ [V.int ns.sum]))) := tabsn_kp (Ps := []) (fun _ _ => by simp) (.new nl) (tabsn_kp (Ps := []) (fun _ _ => by simp) (.new n2) (tabsn_kp (Ps := []) (fun _ _ => by simp) (.new n1) tns))
    have hll := upd_same (H := upd (upd H p1 (.lst (cutV (ns.map V.int) none (some 4)))) p2 (.lst [V.int ns.sum])) (a := l) (o := .lst (cutV (ns.map V.int) none (some 4) ++ [V.int ns.sum]))
    have allI : ∀ x ∈ cutV (ns.map V.int) none (some 4) ++ [V.int ns.sum], ∃ c, x = V.int c := fun x hx => by
      rcases List.mem_append.mp hx with hx | hx
      · obtain ⟨c, _, e⟩ := List.mem_map.mp (cutV_mem hx)
        exact ⟨c, e.symm⟩
      · exact ⟨_, List.mem_singleton.mp hx⟩
    have lx : (cutV (ns.map V.int) none (some 4) ++ [V.int ns.sum]).length ≤ 64 := by rw [List.length_append, List.length_singleton]; omega
    generalize upd (upd (upd H p1 (.lst (cutV (ns.map V.int) none (some 4)))) p2 (.lst [V.int ns.sum])) l (.lst (cutV (ns.map V.int) none (some 4) ++ [V.int ns.sum])) = H1 at kk tl hll ⊢
    generalize cutV (ns.map V.int) none (some 4) ++ [V.int ns.sum] = xs at hll allI lx ⊢
    clear k1 k2 k3
    refine ⟨l, xs, rfl, .of hll, for_it (walk_enum (xs := xs)) (fun i σ' H' => ∃ (w1 w2 w3 w4 w5 w6 w7 w8 w9 w10 w11 w12 w13 w14 w15 w16 w17 w18 w19 w20 w21 : Option V), σ' = [some (.ref a), w1, w2, w3, w4, w5, w6, w7, w8, w9, w10, w11, w12, w13, w14, w15, w16, w17, w18, w19, w20, w21] ∧ Kp Ps2 H1 H' ∧ TabsN T H') ⟨_, _, _, _, _, _, _, _, _, _, _, _, _, _, _, _, _, _, _, _, _, rfl, .refl _, tl⟩ (fun i σ' H' _ h => ?_) ?_ ?_⟩
    · obtain ⟨w1, w2, w3, w4, w5, w6, w7, w8, w9, w10, w11, w12, w13, w14, w15, w16, w17, w18, w19, w20, w21, _, kp, _⟩ := h
      exact .of (kp.lst hll)
    · rintro i x σ' H' H2 hi ⟨w1, w2, w3, w4, w5, w6, w7, w8, w9, w10, w11, w12, w13, w14, w15, w16, w17, w18, w19, w20, w21, rfl, kp, tt⟩ ⟨T2, y1, y2, rfl, nT, rfl, e1, e2⟩
      cases e1
      obtain ⟨c, rfl⟩ := allI y2 (List.mem_of_getElem? e2)
      have kT : Kp Ps2 H' (upd H' T2 (.tup [.int (i : Nat), .int c])) := .new nT
      refine ⟨T2, _, rfl, .of upd_same, rfl, _, _, rfl, _, _, rfl, rfl, ?_⟩
      refine ⟨_, _, _, _, _, _, _, _, _, _, _, _, _, _, _, _, _, _, _, _, (i : Nat), c, rfl, by omega, by omega, (kk.trans (kp.trans kT)).tab tg, tabsn_kp (Ps := []) (fun _ _ => by simp) (.new nT) tt, fun H3 y1 y2 y3 y4 y5 y6 y7 y8 y9 y10 y11 y12 y13 y14 y15 y16 y17 y18 y19 y20 y21 k3 t3 => ?_⟩
      exact ⟨_, _, _, _, _, _, _, _, _, _, _, _, _, _, _, _, _, _, _, _, _, rfl, (kp.trans kT).trans k3, t3⟩
    · rintro σ' H' ⟨w1, w2, w3, w4, w5, w6, w7, w8, w9, w10, w11, w12, w13, w14, w15, w16, w17, w18, w19, w20, w21, rfl, kp, tt⟩
      exact q H'
end
end U
set_option maxHeartbeats 4000000
namespace U
open PySem PySem.Spec PyProof.Rows L2 GxR Bx Gx Ex Sx RZ Kx Dx NdefX LamX Mx
section
variable {P : Program} {w : World} {K : PySem.W.Frag} {mg : Str → Option Value} {base h : Heap}
theorem oexB_ok {C : Addr} (e : oexB K C = true) : OexC K C := by
  unfold oexB at e
  obtain ⟨e0, e⟩ := Bool.and_eq_true_iff.mp e
  obtain ⟨e1, e⟩ := Bool.and_eq_true_iff.mp e
  obtain ⟨e2, e⟩ := Bool.and_eq_true_iff.mp e
  obtain ⟨e3, e4⟩ := Bool.and_eq_true_iff.mp e
  refine ⟨?_, of_decide_eq_true e1, of_decide_eq_true e2, of_decide_eq_true e3, e4⟩
  cases q : K.lookup C with
  | none => rw [q] at e0; cases e0
  | some o =>
    obtain ⟨oc, od, dt, sl⟩ := o
    rw [q] at e0
    cases oc with
    | type t =>
      cases dt with
      | cls cd =>
        obtain ⟨a1, a2⟩ := Bool.and_eq_true_iff.mp e0
        have et := of_decide_eq_true a1
        subst et
        obtain ⟨nm, bs, mro, ns, qn, hd, sn, sub, ab, col, del⟩ := cd
        obtain ⟨sls⟩ := sl
        dsimp only at a2
        split at a2
        · rename_i C' bm k0 k1 k2 k3 n k5
          obtain ⟨b1, a2⟩ := Bool.and_eq_true_iff.mp a2
          obtain ⟨b2, a2⟩ := Bool.and_eq_true_iff.mp a2
          obtain ⟨b3, a2⟩ := Bool.and_eq_true_iff.mp a2
          obtain ⟨b4, b5⟩ := Bool.and_eq_true_iff.mp a2
          have c1 := of_decide_eq_true b1
          have c2 := of_decide_eq_true b2
          have c3 : del = false := by
            cases del with
            | false => rfl
            | true => cases b3
          subst c1 c2 c3 b4
          exact ⟨nm, qn, ns, bs, bm, sn, sub, ab, col, od, k0, k1, k2, k3, k5, rfl, b5⟩
        · cases a2
      | _ => cases e0
    | _ => cases dt <;> cases e0
theorem excB_ok {D : Addr} (e : excB K D = true) : ExcC K D := by
  unfold excB at e
  obtain ⟨e1, e⟩ := Bool.and_eq_true_iff.mp e
  obtain ⟨e2, e⟩ := Bool.and_eq_true_iff.mp e
  obtain ⟨e3, e⟩ := Bool.and_eq_true_iff.mp e
  obtain ⟨e4, e⟩ := Bool.and_eq_true_iff.mp e
  obtain ⟨e5, e⟩ := Bool.and_eq_true_iff.mp e
  obtain ⟨e6, e⟩ := Bool.and_eq_true_iff.mp e
  obtain ⟨e7, e8⟩ := Bool.and_eq_true_iff.mp e
  exact ⟨of_decide_eq_true e1, of_decide_eq_true e2, of_decide_eq_true e3, e4, of_decide_eq_true e5, of_decide_eq_true e6, of_decide_eq_true e7, of_decide_eq_true e8⟩
theorem kitB_ok {x : Str} (e : kitB K x = true) (hv : kb x "ValueError" = true) (hl : kb x "LookupError" = false) (hr : kb x "RuntimeError" = false) : Kits K (He.ga K) (He.ga K x) (kb x) := by
  unfold kitB at e
  obtain ⟨e1, e⟩ := Bool.and_eq_true_iff.mp e
  obtain ⟨e2, e⟩ := Bool.and_eq_true_iff.mp e
  obtain ⟨e3, e4⟩ := Bool.and_eq_true_iff.mp e
  exact ⟨fun y hy => of_decide_eq_true (List.all_eq_true.mp e1 y hy), by rw [hv]; exact of_decide_eq_true e2, by rw [hl]; exact of_decide_eq_true e3, by rw [hr]; exact of_decide_eq_true e4⟩
theorem clsB_cf {x f kind : Str} (e : clsB K x f = true) (hv : kb x "ValueError" = true) (hl : kb x "LookupError" = false) (hr : kb x "RuntimeError" = false) (hk : ((kindPairs.filter fun q => kb x q.2).map fun q => q.1) = [kind, "ours", "value"])
    (fit : (kind = "table" ∨ kind = "run") ∧ f = "place" ∨ (kind ≠ "table" ∧ kind ≠ "run") ∧ f = "number") : CF K (He.ga K) (He.ga K x) kind f := by
  unfold clsB at e
  obtain ⟨e1, e⟩ := Bool.and_eq_true_iff.mp e
  obtain ⟨e2, e⟩ := Bool.and_eq_true_iff.mp e
  obtain ⟨e3, e⟩ := Bool.and_eq_true_iff.mp e
  obtain ⟨e4, e⟩ := Bool.and_eq_true_iff.mp e
  obtain ⟨e5, e⟩ := Bool.and_eq_true_iff.mp e
  obtain ⟨e6, e⟩ := Bool.and_eq_true_iff.mp e
  refine ⟨excB_ok e2, ⟨kb x, kitB_ok e4 hv hl hr, ?_⟩, xfB_ok e3, of_decide_eq_true e5, of_decide_eq_true e6, fit⟩
  have z := congrArg (List.map V.str) hk
  rw [List.map_map] at z
  exact z
theorem clsB_i {x f q : Str} {st : Stmt} (e : clsB K x f = true) (g : mg x = some (.ref (He.ga K x))) (F : ∃ fd, FunD K "__init__" q (defArgs st) (defBody st) (defScope st) [.non] [] (He.ma K (He.ga K x) "__init__") fd) : ClsI K mg x f q st (He.ga K x) := by
  unfold clsB at e
  obtain ⟨e1, e⟩ := Bool.and_eq_true_iff.mp e
  obtain ⟨_, e⟩ := Bool.and_eq_true_iff.mp e
  obtain ⟨_, e⟩ := Bool.and_eq_true_iff.mp e
  obtain ⟨_, e⟩ := Bool.and_eq_true_iff.mp e
  obtain ⟨e5, e⟩ := Bool.and_eq_true_iff.mp e
  obtain ⟨_, e⟩ := Bool.and_eq_true_iff.mp e
  obtain ⟨e7, e8⟩ := Bool.and_eq_true_iff.mp e
  obtain ⟨fd, F⟩ := F
  exact ⟨oexB_ok e1, g, of_decide_eq_true e5, _, fd, of_decide_eq_true e7, of_decide_eq_true e8, F⟩
/-- a def of the text, by its facts -/
theorem dfn_of {x : Str} {st : Stmt} {ps : List Str} (g : mg x = some (.ref (He.ga K x))) (F : ∃ fd, FunD K x x (defArgs st) (defBody st) (defScope st) [] [] (He.ga K x) fd)
    (b : ∀ (kV doc pm : Value) (an : Option Addr) (cdv ct : Value) (us : List Value), us.length = ps.length → bindArgs (PySem.W.fnOf x x (defArgs st) (defBody st) (defScope st) .none kV doc pm an cdv ct) ⟨us, []⟩ = pure (ps.zip us)) : Dfn K mg x st ps := by
  obtain ⟨fd, F⟩ := F
  exact ⟨_, fd, g, He5.fun_of F, F.bindsN b⟩
theorem dfnc_of {x : Str} {st : Stmt} {ps : List Str} (g : mg x = some (.ref (He.ga K x))) (F : ∃ fd, FunD K x x (defArgs st) (defBody st) (defScope st) [] [] (He.ga K x) fd)
    (b : ∀ (kV doc pm : Value) (an : Option Addr) (cdv ct : Value) (us : List Value), us.length = ps.length → bindArgs (PySem.W.fnOf x x (defArgs st) (defBody st) (defScope st) .none kV doc pm an cdv ct) ⟨us, []⟩ = pure (ps.zip us))
    (TB : LamX.TabB base mg (He.cT K (x, none)).1 (He.cT K (x, none)).2) : DfnC K mg base x st ps (He.cT K (x, none)).2 := by
  obtain ⟨fd, F⟩ := F
  obtain ⟨⟨oc, od, kV, doc, pm, an, cdv, ct, osl, rfl, lk, hcd⟩, kp⟩ := He5.fun_of F
  obtain ⟨c, rfl⟩ := He.codeIn_ref hcd
  have ec : He.codeOf K (x, none) = c := He.codeOf_eq (p := (x, none)) lk rfl
  have bb := F.bindsN b
  refine ⟨_, c, oc, od, kV, doc, pm, an, ct, osl, g, lk, hcd, kp, bb, ?_⟩
  have e1 : (He.cT K (x, none)).1 = c := ec
  rw [e1] at TB
  exact ⟨TB.code, TB.bm, TB.gP⟩
end
section
variable {P : Program} {w : World} {K : PySem.W.Frag} {mg : Str → Option Value} {base h : Heap}
abbrev tbl (K : PySem.W.Frag) (x : Str) : Addr := (He.cT K (x, none)).2
def PsK (K : PySem.W.Frag) : List Addr := [tbl K "is_rising", tbl K "are_rising_orders"]
def PsK2 (K : PySem.W.Frag) : List Addr := [tbl K "law", tbl K "_law_asked", tbl K "is_rising", tbl K "are_rising_orders"]
def TK (K : PySem.W.Frag) : List NTab := [(tbl K "law", nmL), (tbl K "_law_asked", nmA)]
theorem apart_ok (e : apart K = true) : tbl K "law" ∉ PsK K ∧ tbl K "_law_asked" ∉ PsK K ∧ tbl K "_law_asked" ≠ tbl K "law" := by
  have z : List.Nodup [tbl K "is_rising", tbl K "are_rising_orders", tbl K "_law_asked", tbl K "law"] := of_decide_eq_true e
  obtain ⟨n1, z⟩ := List.nodup_cons.mp z
  obtain ⟨n2, z⟩ := List.nodup_cons.mp z
  obtain ⟨n3, _⟩ := List.nodup_cons.mp z
  unfold PsK
  refine ⟨fun hh => ?_, fun hh => ?_, fun hh => n3 (by rw [hh]; simp)⟩
  · rcases List.mem_cons.mp hh with q | q
    · exact n1 (by rw [← q]; simp)
    · rw [List.mem_singleton] at q; exact n2 (by rw [← q]; simp)
  · rcases List.mem_cons.mp hh with q | q
    · exact n1 (by rw [← q]; simp)
    · rw [List.mem_singleton] at q; exact n2 (by rw [← q]; simp)
theorem facts (X : K.In h) (G : h.Ns mainGlobals mg) (c : He.SaysX fa fn [] tf ex w h K) (TBs : ∀ p ∈ tf.map (He.cT K), LamX.TabB base mg p.1 p.2) :
    Fs P w K mg base (PsK K) (PsK2 K) (TK K) (He.ga K) (tbl K "law") (He.ga K "BadTable") (He.ga K "BadStand") (He.ga K "BadTurning") (He.ga K "BadRow") (He.ga K "BadRun") ∧ DfnC K mg base "law" s_law ["script"] (tbl K "law") := by
  have sd := c.t.d
  have g_power : mg "power" = some (.ref (He.ga K "power")) := He.glo_ok X G (sd.fact 0 (f := .glo "power") rfl)
  have g_is_rising : mg "is_rising" = some (.ref (He.ga K "is_rising")) := He.glo_ok X G (sd.fact 1 (f := .glo "is_rising") rfl)
  have g_calm_of : mg "calm_of" = some (.ref (He.ga K "calm_of")) := He.glo_ok X G (sd.fact 2 (f := .glo "calm_of") rfl)
  have g_then_of : mg "then_of" = some (.ref (He.ga K "then_of")) := He.glo_ok X G (sd.fact 3 (f := .glo "then_of") rfl)
  have g_spread_by : mg "spread_by" = some (.ref (He.ga K "spread_by")) := He.glo_ok X G (sd.fact 4 (f := .glo "spread_by") rfl)
  have g_grown_by : mg "grown_by" = some (.ref (He.ga K "grown_by")) := He.glo_ok X G (sd.fact 5 (f := .glo "grown_by") rfl)
  have g_plus : mg "plus" = some (.ref (He.ga K "plus")) := He.glo_ok X G (sd.fact 6 (f := .glo "plus") rfl)
  have g_is_whole : mg "is_whole" = some (.ref (He.ga K "is_whole")) := He.glo_ok X G (sd.fact 7 (f := .glo "is_whole") rfl)
  have g_is_among : mg "is_among" = some (.ref (He.ga K "is_among")) := He.glo_ok X G (sd.fact 8 (f := .glo "is_among") rfl)
  have g_is_tuple_of : mg "is_tuple_of" = some (.ref (He.ga K "is_tuple_of")) := He.glo_ok X G (sd.fact 9 (f := .glo "is_tuple_of") rfl)
  have g_wrong_seat : mg "wrong_seat" = some (.ref (He.ga K "wrong_seat")) := He.glo_ok X G (sd.fact 10 (f := .glo "wrong_seat") rfl)
  have g_wrong_face : mg "wrong_face" = some (.ref (He.ga K "wrong_face")) := He.glo_ok X G (sd.fact 11 (f := .glo "wrong_face") rfl)
  have g_is_order : mg "is_order" = some (.ref (He.ga K "is_order")) := He.glo_ok X G (sd.fact 12 (f := .glo "is_order") rfl)
  have g_are_rising_orders : mg "are_rising_orders" = some (.ref (He.ga K "are_rising_orders")) := He.glo_ok X G (sd.fact 13 (f := .glo "are_rising_orders") rfl)
  have g_are_closed : mg "are_closed" = some (.ref (He.ga K "are_closed")) := He.glo_ok X G (sd.fact 14 (f := .glo "are_closed") rfl)
  have g_need_table : mg "need_table" = some (.ref (He.ga K "need_table")) := He.glo_ok X G (sd.fact 15 (f := .glo "need_table") rfl)
  have g_seats_of : mg "seats_of" = some (.ref (He.ga K "seats_of")) := He.glo_ok X G (sd.fact 16 (f := .glo "seats_of") rfl)
  have g_is_stand_of : mg "is_stand_of" = some (.ref (He.ga K "is_stand_of")) := He.glo_ok X G (sd.fact 17 (f := .glo "is_stand_of") rfl)
  have g_is_turning_of : mg "is_turning_of" = some (.ref (He.ga K "is_turning_of")) := He.glo_ok X G (sd.fact 18 (f := .glo "is_turning_of") rfl)
  have g_seats : mg "seats" = some (.ref (He.ga K "seats")) := He.glo_ok X G (sd.fact 19 (f := .glo "seats") rfl)
  have g_stands : mg "stands" = some (.ref (He.ga K "stands")) := He.glo_ok X G (sd.fact 20 (f := .glo "stands") rfl)
  have g_is_stand : mg "is_stand" = some (.ref (He.ga K "is_stand")) := He.glo_ok X G (sd.fact 21 (f := .glo "is_stand") rfl)
  have g_is_turning : mg "is_turning" = some (.ref (He.ga K "is_turning")) := He.glo_ok X G (sd.fact 22 (f := .glo "is_turning") rfl)
  have g_need_stand : mg "need_stand" = some (.ref (He.ga K "need_stand")) := He.glo_ok X G (sd.fact 23 (f := .glo "need_stand") rfl)
  have g_need_turning : mg "need_turning" = some (.ref (He.ga K "need_turning")) := He.glo_ok X G (sd.fact 24 (f := .glo "need_turning") rfl)
  have g_need_row : mg "need_row" = some (.ref (He.ga K "need_row")) := He.glo_ok X G (sd.fact 25 (f := .glo "need_row") rfl)
  have g_need_run : mg "need_run" = some (.ref (He.ga K "need_run")) := He.glo_ok X G (sd.fact 26 (f := .glo "need_run") rfl)
  have g_turned : mg "turned" = some (.ref (He.ga K "turned")) := He.glo_ok X G (sd.fact 27 (f := .glo "turned") rfl)
  have g_walked : mg "walked" = some (.ref (He.ga K "walked")) := He.glo_ok X G (sd.fact 28 (f := .glo "walked") rfl)
  have g_law_mixed : mg "_law_mixed" = some (.ref (He.ga K "_law_mixed")) := He.glo_ok X G (sd.fact 29 (f := .glo "_law_mixed") rfl)
  have g_law_draw : mg "_law_draw" = some (.ref (He.ga K "_law_draw")) := He.glo_ok X G (sd.fact 30 (f := .glo "_law_draw") rfl)
  have g_law_digit : mg "_law_digit" = some (.ref (He.ga K "_law_digit")) := He.glo_ok X G (sd.fact 31 (f := .glo "_law_digit") rfl)
  have g_law_made : mg "_law_made" = some (.ref (He.ga K "_law_made")) := He.glo_ok X G (sd.fact 32 (f := .glo "_law_made") rfl)
  have g_law_turning : mg "_law_turning" = some (.ref (He.ga K "_law_turning")) := He.glo_ok X G (sd.fact 33 (f := .glo "_law_turning") rfl)
  have g_law_table : mg "_law_table" = some (.ref (He.ga K "_law_table")) := He.glo_ok X G (sd.fact 34 (f := .glo "_law_table") rfl)
  have g_law_kinds : mg "_law_kinds" = some (.ref (He.ga K "_law_kinds")) := He.glo_ok X G (sd.fact 35 (f := .glo "_law_kinds") rfl)
  have g_law_whole : mg "_law_whole" = some (.ref (He.ga K "_law_whole")) := He.glo_ok X G (sd.fact 36 (f := .glo "_law_whole") rfl)
  have g_law_stand_bad : mg "_law_stand_bad" = some (.ref (He.ga K "_law_stand_bad")) := He.glo_ok X G (sd.fact 37 (f := .glo "_law_stand_bad") rfl)
  have g_law_turning_bad : mg "_law_turning_bad" = some (.ref (He.ga K "_law_turning_bad")) := He.glo_ok X G (sd.fact 38 (f := .glo "_law_turning_bad") rfl)
  have g_law_row_bad : mg "_law_row_bad" = some (.ref (He.ga K "_law_row_bad")) := He.glo_ok X G (sd.fact 39 (f := .glo "_law_row_bad") rfl)
  have g_law_run_bad : mg "_law_run_bad" = some (.ref (He.ga K "_law_run_bad")) := He.glo_ok X G (sd.fact 40 (f := .glo "_law_run_bad") rfl)
  have g_law_told : mg "_law_told" = some (.ref (He.ga K "_law_told")) := He.glo_ok X G (sd.fact 41 (f := .glo "_law_told") rfl)
  have g_law_refused_right : mg "_law_refused_right" = some (.ref (He.ga K "_law_refused_right")) := He.glo_ok X G (sd.fact 42 (f := .glo "_law_refused_right") rfl)
  have g_law_odd : mg "_law_odd" = some (.ref (He.ga K "_law_odd")) := He.glo_ok X G (sd.fact 43 (f := .glo "_law_odd") rfl)
  have g_law_bent : mg "_law_bent" = some (.ref (He.ga K "_law_bent")) := He.glo_ok X G (sd.fact 44 (f := .glo "_law_bent") rfl)
  have g_law_asked : mg "_law_asked" = some (.ref (He.ga K "_law_asked")) := He.glo_ok X G (sd.fact 45 (f := .glo "_law_asked") rfl)
  have g_law : mg "law" = some (.ref (He.ga K "law")) := He.glo_ok X G (sd.fact 46 (f := .glo "law") rfl)
  have d_power : Dfn K mg "power" s_power ["base", "times"] := dfn_of g_power (sd.def_ 0 (d := dd "power" s_power) rfl) fun _ _ _ _ _ _ us hl => match us, hl with | [_, _], _ => rfl
  have d_is_rising : DfnC K mg base "is_rising" s_is_rising ["things"] (tbl K "is_rising") := dfnc_of g_is_rising (sd.def_ 1 (d := dd "is_rising" s_is_rising) rfl) (fun _ _ _ _ _ _ us hl => match us, hl with | [_], _ => rfl) (TBs _ (List.mem_map.mpr ⟨("is_rising", none), by unfold tf; simp, rfl⟩))
  have d_calm_of : Dfn K mg "calm_of" s_calm_of ["many"] := dfn_of g_calm_of (sd.def_ 2 (d := dd "calm_of" s_calm_of) rfl) fun _ _ _ _ _ _ us hl => match us, hl with | [_], _ => rfl
  have d_then_of : Dfn K mg "then_of" s_then_of ["first", "later"] := dfn_of g_then_of (sd.def_ 3 (d := dd "then_of" s_then_of) rfl) fun _ _ _ _ _ _ us hl => match us, hl with | [_, _], _ => rfl
  have d_spread_by : Dfn K mg "spread_by" s_spread_by ["many", "makers", "most"] := dfn_of g_spread_by (sd.def_ 4 (d := dd "spread_by" s_spread_by) rfl) fun _ _ _ _ _ _ us hl => match us, hl with | [_, _, _], _ => rfl
  have d_grown_by : Dfn K mg "grown_by" s_grown_by ["many", "turnings", "most"] := dfn_of g_grown_by (sd.def_ 5 (d := dd "grown_by" s_grown_by) rfl) fun _ _ _ _ _ _ us hl => match us, hl with | [_, _, _], _ => rfl
  have d_plus : Dfn K mg "plus" s_plus ["faces", "stand", "other"] := dfn_of g_plus (sd.def_ 6 (d := dd "plus" s_plus) rfl) fun _ _ _ _ _ _ us hl => match us, hl with | [_, _, _], _ => rfl
  have d_is_whole : Dfn K mg "is_whole" s_is_whole ["thing"] := dfn_of g_is_whole (sd.def_ 7 (d := dd "is_whole" s_is_whole) rfl) fun _ _ _ _ _ _ us hl => match us, hl with | [_], _ => rfl
  have d_is_among : Dfn K mg "is_among" s_is_among ["thing", "least", "most"] := dfn_of g_is_among (sd.def_ 8 (d := dd "is_among" s_is_among) rfl) fun _ _ _ _ _ _ us hl => match us, hl with | [_, _, _], _ => rfl
  have d_is_tuple_of : Dfn K mg "is_tuple_of" s_is_tuple_of ["thing", "least", "most"] := dfn_of g_is_tuple_of (sd.def_ 9 (d := dd "is_tuple_of" s_is_tuple_of) rfl) fun _ _ _ _ _ _ us hl => match us, hl with | [_, _, _], _ => rfl
  have d_wrong_seat : Dfn K mg "wrong_seat" s_wrong_seat ["things"] := dfn_of g_wrong_seat (sd.def_ 10 (d := dd "wrong_seat" s_wrong_seat) rfl) fun _ _ _ _ _ _ us hl => match us, hl with | [_], _ => rfl
  have d_wrong_face : Dfn K mg "wrong_face" s_wrong_face ["faces", "things"] := dfn_of g_wrong_face (sd.def_ 11 (d := dd "wrong_face" s_wrong_face) rfl) fun _ _ _ _ _ _ us hl => match us, hl with | [_, _], _ => rfl
  have d_is_order : Dfn K mg "is_order" s_is_order ["thing"] := dfn_of g_is_order (sd.def_ 12 (d := dd "is_order" s_is_order) rfl) fun _ _ _ _ _ _ us hl => match us, hl with | [_], _ => rfl
  have d_are_rising_orders : DfnC K mg base "are_rising_orders" s_are_rising_orders ["thing"] (tbl K "are_rising_orders") := dfnc_of g_are_rising_orders (sd.def_ 13 (d := dd "are_rising_orders" s_are_rising_orders) rfl) (fun _ _ _ _ _ _ us hl => match us, hl with | [_], _ => rfl) (TBs _ (List.mem_map.mpr ⟨("are_rising_orders", none), by unfold tf; simp, rfl⟩))
  have d_are_closed : Dfn K mg "are_closed" s_are_closed ["turnings"] := dfn_of g_are_closed (sd.def_ 14 (d := dd "are_closed" s_are_closed) rfl) fun _ _ _ _ _ _ us hl => match us, hl with | [_], _ => rfl
  have d_need_table : Dfn K mg "need_table" s_need_table ["thing"] := dfn_of g_need_table (sd.def_ 15 (d := dd "need_table" s_need_table) rfl) fun _ _ _ _ _ _ us hl => match us, hl with | [_], _ => rfl
  have d_seats_of : Dfn K mg "seats_of" s_seats_of ["table"] := dfn_of g_seats_of (sd.def_ 16 (d := dd "seats_of" s_seats_of) rfl) fun _ _ _ _ _ _ us hl => match us, hl with | [_], _ => rfl
  have d_is_stand_of : Dfn K mg "is_stand_of" s_is_stand_of ["table", "thing"] := dfn_of g_is_stand_of (sd.def_ 17 (d := dd "is_stand_of" s_is_stand_of) rfl) fun _ _ _ _ _ _ us hl => match us, hl with | [_, _], _ => rfl
  have d_is_turning_of : Dfn K mg "is_turning_of" s_is_turning_of ["table", "thing"] := dfn_of g_is_turning_of (sd.def_ 18 (d := dd "is_turning_of" s_is_turning_of) rfl) fun _ _ _ _ _ _ us hl => match us, hl with | [_, _], _ => rfl
  have d_seats : Dfn K mg "seats" s_seats ["table"] := dfn_of g_seats (sd.def_ 19 (d := dd "seats" s_seats) rfl) fun _ _ _ _ _ _ us hl => match us, hl with | [_], _ => rfl
  have d_stands : Dfn K mg "stands" s_stands ["table"] := dfn_of g_stands (sd.def_ 20 (d := dd "stands" s_stands) rfl) fun _ _ _ _ _ _ us hl => match us, hl with | [_], _ => rfl
  have d_is_stand : Dfn K mg "is_stand" s_is_stand ["table", "thing"] := dfn_of g_is_stand (sd.def_ 21 (d := dd "is_stand" s_is_stand) rfl) fun _ _ _ _ _ _ us hl => match us, hl with | [_, _], _ => rfl
  have d_is_turning : Dfn K mg "is_turning" s_is_turning ["table", "thing"] := dfn_of g_is_turning (sd.def_ 22 (d := dd "is_turning" s_is_turning) rfl) fun _ _ _ _ _ _ us hl => match us, hl with | [_, _], _ => rfl
  have d_need_stand : Dfn K mg "need_stand" s_need_stand ["table", "thing"] := dfn_of g_need_stand (sd.def_ 23 (d := dd "need_stand" s_need_stand) rfl) fun _ _ _ _ _ _ us hl => match us, hl with | [_, _], _ => rfl
  have d_need_turning : Dfn K mg "need_turning" s_need_turning ["table", "thing"] := dfn_of g_need_turning (sd.def_ 24 (d := dd "need_turning" s_need_turning) rfl) fun _ _ _ _ _ _ us hl => match us, hl with | [_, _], _ => rfl
  have d_need_row : Dfn K mg "need_row" s_need_row ["table", "row"] := dfn_of g_need_row (sd.def_ 25 (d := dd "need_row" s_need_row) rfl) fun _ _ _ _ _ _ us hl => match us, hl with | [_, _], _ => rfl
  have d_need_run : Dfn K mg "need_run" s_need_run ["table", "run", "row"] := dfn_of g_need_run (sd.def_ 26 (d := dd "need_run" s_need_run) rfl) fun _ _ _ _ _ _ us hl => match us, hl with | [_, _, _], _ => rfl
  have d_turned : Dfn K mg "turned" s_turned ["turning", "stand"] := dfn_of g_turned (sd.def_ 27 (d := dd "turned" s_turned) rfl) fun _ _ _ _ _ _ us hl => match us, hl with | [_, _], _ => rfl
  have d_walked : Dfn K mg "walked" s_walked ["table", "run", "row"] := dfn_of g_walked (sd.def_ 28 (d := dd "walked" s_walked) rfl) fun _ _ _ _ _ _ us hl => match us, hl with | [_, _, _], _ => rfl
  have d_law_mixed : Dfn K mg "_law_mixed" s_law_mixed ["cell", "k"] := dfn_of g_law_mixed (sd.def_ 29 (d := dd "_law_mixed" s_law_mixed) rfl) fun _ _ _ _ _ _ us hl => match us, hl with | [_, _], _ => rfl
  have d_law_draw : Dfn K mg "_law_draw" s_law_draw ["cell", "k"] := dfn_of g_law_draw (sd.def_ 30 (d := dd "_law_draw" s_law_draw) rfl) fun _ _ _ _ _ _ us hl => match us, hl with | [_, _], _ => rfl
  have d_law_digit : Dfn K mg "_law_digit" s_law_digit ["state", "size"] := dfn_of g_law_digit (sd.def_ 31 (d := dd "_law_digit" s_law_digit) rfl) fun _ _ _ _ _ _ us hl => match us, hl with | [_, _], _ => rfl
  have d_law_made : Dfn K mg "_law_made" s_law_made ["size", "moves", "most"] := dfn_of g_law_made (sd.def_ 32 (d := dd "_law_made" s_law_made) rfl) fun _ _ _ _ _ _ us hl => match us, hl with | [_, _, _], _ => rfl
  have d_law_turning : Dfn K mg "_law_turning" s_law_turning ["state", "size"] := dfn_of g_law_turning (sd.def_ 33 (d := dd "_law_turning" s_law_turning) rfl) fun _ _ _ _ _ _ us hl => match us, hl with | [_, _], _ => rfl
  have d_law_table : Dfn K mg "_law_table" s_law_table ["state", "most_stands", "most_turnings"] := dfn_of g_law_table (sd.def_ 34 (d := dd "_law_table" s_law_table) rfl) fun _ _ _ _ _ _ us hl => match us, hl with | [_, _, _], _ => rfl
  have d_law_kinds : Dfn K mg "_law_kinds" s_law_kinds ["error"] := dfn_of g_law_kinds (sd.def_ 35 (d := dd "_law_kinds" s_law_kinds) rfl) fun _ _ _ _ _ _ us hl => match us, hl with | [_], _ => rfl
  have d_law_whole : Dfn K mg "_law_whole" s_law_whole ["thing", "most"] := dfn_of g_law_whole (sd.def_ 36 (d := dd "_law_whole" s_law_whole) rfl) fun _ _ _ _ _ _ us hl => match us, hl with | [_, _], _ => rfl
  have d_law_stand_bad : Dfn K mg "_law_stand_bad" s_law_stand_bad ["table", "thing"] := dfn_of g_law_stand_bad (sd.def_ 37 (d := dd "_law_stand_bad" s_law_stand_bad) rfl) fun _ _ _ _ _ _ us hl => match us, hl with | [_, _], _ => rfl
  have d_law_turning_bad : Dfn K mg "_law_turning_bad" s_law_turning_bad ["table", "thing"] := dfn_of g_law_turning_bad (sd.def_ 38 (d := dd "_law_turning_bad" s_law_turning_bad) rfl) fun _ _ _ _ _ _ us hl => match us, hl with | [_, _], _ => rfl
  have d_law_row_bad : Dfn K mg "_law_row_bad" s_law_row_bad ["table", "thing"] := dfn_of g_law_row_bad (sd.def_ 39 (d := dd "_law_row_bad" s_law_row_bad) rfl) fun _ _ _ _ _ _ us hl => match us, hl with | [_, _], _ => rfl
  have d_law_run_bad : Dfn K mg "_law_run_bad" s_law_run_bad ["table", "thing", "row"] := dfn_of g_law_run_bad (sd.def_ 40 (d := dd "_law_run_bad" s_law_run_bad) rfl) fun _ _ _ _ _ _ us hl => match us, hl with | [_, _, _], _ => rfl
  have d_law_told : Dfn K mg "_law_told" s_law_told ["deed"] := dfn_of g_law_told (sd.def_ 41 (d := dd "_law_told" s_law_told) rfl) fun _ _ _ _ _ _ us hl => match us, hl with | [_], _ => rfl
  have d_law_refused_right : Dfn K mg "_law_refused_right" s_law_refused_right ["kind", "bad", "deed"] := dfn_of g_law_refused_right (sd.def_ 42 (d := dd "_law_refused_right" s_law_refused_right) rfl) fun _ _ _ _ _ _ us hl => match us, hl with | [_, _, _], _ => rfl
  have d_law_odd : Dfn K mg "_law_odd" s_law_odd ["state"] := dfn_of g_law_odd (sd.def_ 43 (d := dd "_law_odd" s_law_odd) rfl) fun _ _ _ _ _ _ us hl => match us, hl with | [_], _ => rfl
  have d_law_bent : Dfn K mg "_law_bent" s_law_bent ["state", "things"] := dfn_of g_law_bent (sd.def_ 44 (d := dd "_law_bent" s_law_bent) rfl) fun _ _ _ _ _ _ us hl => match us, hl with | [_, _], _ => rfl
  have d_law_asked : DfnC K mg base "_law_asked" s_law_asked ["far"] (tbl K "_law_asked") := dfnc_of g_law_asked (sd.def_ 45 (d := dd "_law_asked" s_law_asked) rfl) (fun _ _ _ _ _ _ us hl => match us, hl with | [_], _ => rfl) (TBs _ (List.mem_map.mpr ⟨("_law_asked", none), by unfold tf; simp, rfl⟩))
  have d_law : DfnC K mg base "law" s_law ["script"] (tbl K "law") := dfnc_of g_law (sd.def_ 46 (d := dd "law" s_law) rfl) (fun _ _ _ _ _ _ us hl => match us, hl with | [_], _ => rfl) (TBs _ (List.mem_map.mpr ⟨("law", none), by unfold tf; simp, rfl⟩))
  have B : BN mg := ⟨He.free_ok X G (sd.fact 69 (f := .free "isinstance") rfl), He.free_ok X G (sd.fact 70 (f := .free "int") rfl), He.free_ok X G (sd.fact 71 (f := .free "bool") rfl), He.free_ok X G (sd.fact 72 (f := .free "tuple") rfl), He.free_ok X G (sd.fact 73 (f := .free "list") rfl), He.free_ok X G (sd.fact 74 (f := .free "len") rfl), He.free_ok X G (sd.fact 75 (f := .free "range") rfl), He.free_ok X G (sd.fact 76 (f := .free "enumerate") rfl), He.free_ok X G (sd.fact 77 (f := .free "all") rfl), He.free_ok X G (sd.fact 78 (f := .free "set") rfl), He.free_ok X G (sd.fact 79 (f := .free "zip") rfl), He.free_ok X G (sd.fact 80 (f := .free "sorted") rfl), He.free_ok X G (sd.fact 81 (f := .free "repr") rfl), He.free_ok X G (sd.fact 82 (f := .free "sum") rfl)⟩
  have N : ClN mg (He.ga K) := ⟨fun x hx => ?own, He.free_ok X G (sd.fact 83 (f := .free "ValueError") rfl), He.free_ok X G (sd.fact 84 (f := .free "LookupError") rfl), He.free_ok X G (sd.fact 85 (f := .free "RuntimeError") rfl)⟩
  obtain ⟨t_MOST_SEATS, m_MOST_SEATS⟩ := He.int_ok X G (sd.fact 86 (f := .int "MOST_SEATS" 8) rfl)
  obtain ⟨t_MOST_FACES, m_MOST_FACES⟩ := He.int_ok X G (sd.fact 87 (f := .int "MOST_FACES" 9) rfl)
  obtain ⟨t_MOST_STANDS, m_MOST_STANDS⟩ := He.int_ok X G (sd.fact 88 (f := .int "MOST_STANDS" 729) rfl)
  obtain ⟨t_MOST_TURNINGS, m_MOST_TURNINGS⟩ := He.int_ok X G (sd.fact 89 (f := .int "MOST_TURNINGS" 128) rfl)
  obtain ⟨xa, xm⟩ := Bool.and_eq_true_iff.mp (show (apart K && _) = true from c.more)
  obtain ⟨x0, xm⟩ := Bool.and_eq_true_iff.mp xm
  obtain ⟨x1, xm⟩ := Bool.and_eq_true_iff.mp xm
  obtain ⟨x2, xm⟩ := Bool.and_eq_true_iff.mp xm
  obtain ⟨x3, x4⟩ := Bool.and_eq_true_iff.mp xm
  have cf_BadTable : CF K (He.ga K) (He.ga K "BadTable") "table" "place" := clsB_cf x0 (by decide +kernel) (by decide +kernel) (by decide +kernel) (by decide +kernel) (.inl ⟨.inl rfl, rfl⟩)
  have ci_BadTable : ExK P w K mg base "BadTable" "place" (He.ga K "BadTable") := exk_BadTable (clsB_i x0 (N.own "BadTable" (by decide +kernel)) (sd.def_ 47 (d := di "BadTable" "BadTable.__init__" s_BadTable) rfl))
  have cf_BadStand : CF K (He.ga K) (He.ga K "BadStand") "stand" "number" := clsB_cf x1 (by decide +kernel) (by decide +kernel) (by decide +kernel) (by decide +kernel) (.inr ⟨⟨by decide, by decide⟩, rfl⟩)
  have ci_BadStand : ExK P w K mg base "BadStand" "number" (He.ga K "BadStand") := exk_BadStand (clsB_i x1 (N.own "BadStand" (by decide +kernel)) (sd.def_ 48 (d := di "BadStand" "BadStand.__init__" s_BadStand) rfl))
  have cf_BadTurning : CF K (He.ga K) (He.ga K "BadTurning") "turning" "number" := clsB_cf x2 (by decide +kernel) (by decide +kernel) (by decide +kernel) (by decide +kernel) (.inr ⟨⟨by decide, by decide⟩, rfl⟩)
  have ci_BadTurning : ExK P w K mg base "BadTurning" "number" (He.ga K "BadTurning") := exk_BadTurning (clsB_i x2 (N.own "BadTurning" (by decide +kernel)) (sd.def_ 49 (d := di "BadTurning" "BadTurning.__init__" s_BadTurning) rfl))
  have cf_BadRow : CF K (He.ga K) (He.ga K "BadRow") "row" "number" := clsB_cf x3 (by decide +kernel) (by decide +kernel) (by decide +kernel) (by decide +kernel) (.inr ⟨⟨by decide, by decide⟩, rfl⟩)
  have ci_BadRow : ExK P w K mg base "BadRow" "number" (He.ga K "BadRow") := exk_BadRow (clsB_i x3 (N.own "BadRow" (by decide +kernel)) (sd.def_ 50 (d := di "BadRow" "BadRow.__init__" s_BadRow) rfl))
  have cf_BadRun : CF K (He.ga K) (He.ga K "BadRun") "run" "place" := clsB_cf x4 (by decide +kernel) (by decide +kernel) (by decide +kernel) (by decide +kernel) (.inl ⟨.inr rfl, rfl⟩)
  have ci_BadRun : ExK P w K mg base "BadRun" "place" (He.ga K "BadRun") := exk_BadRun (clsB_i x4 (N.own "BadRun" (by decide +kernel)) (sd.def_ 51 (d := di "BadRun" "BadRun.__init__" s_BadRun) rfl))
  have mR : tbl K "is_rising" ∈ PsK K := by unfold PsK; simp
  have mA : tbl K "are_rising_orders" ∈ PsK K := by unfold PsK; simp
  obtain ⟨ap1, ap2, ap3⟩ := apart_ok xa
  have hs : ∀ p ∈ PsK K, p ∈ PsK2 K := fun p hp => by
    unfold PsK at hp
    unfold PsK2
    exact List.mem_cons_of_mem _ (List.mem_cons_of_mem _ hp)
  have hd : ∀ p ∈ TK K, p.1 ∉ PsK K := fun p hp => by
    unfold TK at hp
    rcases List.mem_cons.mp hp with q | q
    · rw [q]; exact ap1
    · rw [List.mem_singleton.mp q]; exact ap2
  have mL : tbl K "law" ∈ PsK2 K := by unfold PsK2; simp
  have mQ : tbl K "_law_asked" ∈ PsK2 K := by unfold PsK2; simp
  have huL : ∀ p ∈ TK K, p.1 = tbl K "law" → p.2 = nmL := fun p hp e => by
    unfold TK at hp
    rcases List.mem_cons.mp hp with q | q
    · rw [q]
    · rw [List.mem_singleton.mp q] at e; exact absurd e ap3
  have huA : ∀ p ∈ TK K, p.1 = tbl K "_law_asked" → p.2 = nmA := fun p hp e => by
    unfold TK at hp
    rcases List.mem_cons.mp hp with q | q
    · rw [q] at e; exact absurd e.symm ap3
    · rw [List.mem_singleton.mp q]
  have mTL : (tbl K "law", nmL) ∈ TK K := by unfold TK; simp
  have mTA : (tbl K "_law_asked", nmA) ∈ TK K := by unfold TK; simp
  -- the defs, one upon another
  have o_power : Okd P w K mg base CX0 1 "power" ["base", "times"] spPower := ok_power d_power B.range
  have o_calm : Okd P w K mg base CX0 1 "calm_of" ["many"] (spCalm (PsK K)) := ok_calm_of d_calm_of B.tuple B.range
  have o_then : Okd P w K mg base CX0 1 "then_of" ["first", "later"] (spThen K (PsK K)) := ok_then_of d_then_of B.tuple
  have o_whole : Okd P w K mg base CX0 1 "is_whole" ["thing"] spWhole := ok_is_whole d_is_whole B
  have o_among : Okd P w K mg base CX0 2 "is_among" ["thing", "least", "most"] spAmong := ok_is_among d_is_among o_whole
  have o_tup : Okd P w K mg base CX0 1 "is_tuple_of" ["thing", "least", "most"] spTupOf := ok_is_tuple_of d_is_tuple_of B
  have o_face : Okd P w K mg base CX0 3 "wrong_face" ["faces", "things"] (spFace (PsK K)) := ok_wrong_face d_wrong_face B o_among
  have o_seat : Okd P w K mg base CX0 3 "wrong_seat" ["things"] (spSeat (PsK K)) := ok_wrong_seat d_wrong_seat B o_among
  have o_order : Okd P w K mg base CX0 4 "is_order" ["thing"] (spOrder (PsK K)) := ok_is_order d_is_order B m_MOST_SEATS o_tup o_seat
  have o_rising : Okd P w K mg base CX0 2 "is_rising" ["things"] (spRising (PsK K)) := ok_is_rising d_is_rising mR B
  have o_ro : Okd P w K mg base CX0 6 "are_rising_orders" ["thing"] (spRO (PsK K)) := ok_are_rising_orders d_are_rising_orders mA B m_MOST_TURNINGS o_tup o_order o_rising
  have o_spread : Okd P w K mg base CX0 2 "spread_by" ["many", "makers", "most"] (spSpread K (PsK K)) := ok_spread_by d_spread_by B o_calm o_then
  have o_grown : Okd P w K mg base CX0 3 "grown_by" ["many", "turnings", "most"] (spGrown K (PsK K)) := ok_grown_by d_grown_by B o_calm o_spread
  have o_closed : Okd P w K mg base CX0 4 "are_closed" ["turnings"] (spClosed (PsK K)) := ok_are_closed d_are_closed B o_grown
  have o_need : OkX P w K mg base 7 "need_table" ["thing"] (spNeedTable (PsK K) (He.ga K "BadTable")) := ok_need_table d_need_table B m_MOST_FACES m_MOST_STANDS ci_BadTable o_tup o_among o_ro o_power o_closed
  have o_seats_of : Okd P w K mg base CX0 1 "seats_of" ["table"] spSeatsOf := ok_seats_of d_seats_of B
  have o_so : Okd P w K mg base CX0 4 "is_stand_of" ["table", "thing"] (spIsStandOf (PsK K)) := ok_is_stand_of d_is_stand_of o_seats_of o_tup o_face
  have o_to : Okd P w K mg base CX0 5 "is_turning_of" ["table", "thing"] (spIsTurningOf (PsK K)) := ok_is_turning_of d_is_turning_of o_order
  have o_isS : OkX P w K mg base 8 "is_stand" ["table", "thing"] (spIsStand (PsK K) (He.ga K "BadTable")) := ok_is_stand d_is_stand o_need o_so
  have o_isT : OkX P w K mg base 8 "is_turning" ["table", "thing"] (spIsTurning (PsK K) (He.ga K "BadTable")) := ok_is_turning d_is_turning o_need o_to
  have o_seats : OkX P w K mg base 8 "seats" ["table"] (spSeats (PsK K) (He.ga K "BadTable")) := ok_seats d_seats o_need o_seats_of
  have o_stands : OkX P w K mg base 8 "stands" ["table"] (spStandsNo (PsK K) (He.ga K "BadTable")) := ok_standsNo d_stands o_need
  have o_nS : OkX P w K mg base 8 "need_stand" ["table", "thing"] (spNeedStand (PsK K) (He.ga K "BadTable") (He.ga K "BadStand")) := ok_need_stand d_need_stand ci_BadStand o_need o_seats_of o_tup o_face
  have o_nT : OkX P w K mg base 8 "need_turning" ["table", "thing"] (spNeedTurning (PsK K) (He.ga K "BadTable") (He.ga K "BadTurning")) := ok_need_turning d_need_turning ci_BadTurning o_need o_seats_of o_tup o_seat
  have o_nR : OkX P w K mg base 8 "need_row" ["table", "row"] (spNeedRow (PsK K) (He.ga K "BadTable") (He.ga K "BadRow")) := ok_need_row d_need_row B ci_BadRow o_need o_so
  have o_nN : OkX P w K mg base 6 "need_run" ["table", "run", "row"] (spNeedRun (PsK K) (He.ga K "BadRun")) := ok_need_run d_need_run B ci_BadRun o_tup o_so o_to
  have o_plus : Okd P w K mg base CX0 1 "plus" ["faces", "stand", "other"] (spPlus K (PsK K)) := ok_plus d_plus B
  have o_turned : Okd P w K mg base CX0 1 "turned" ["turning", "stand"] (spTurned K (PsK K)) := ok_turned d_turned B
  have o_walked : OkX P w K mg base 9 "walked" ["table", "run", "row"] (spWalked (PsK K) (He.ga K "BadTable") (He.ga K "BadRow") (He.ga K "BadRun")) := ok_walked d_walked B o_nR o_nN o_plus o_turned
  have o_mixed : Okd P w K mg base CX0 1 "_law_mixed" ["cell", "k"] (spMixed (PsK K)) := ok_mixed d_law_mixed
  have o_digit : Okd P w K mg base CX0 2 "_law_digit" ["state", "size"] (spDigit (PsK K)) := ok_digit d_law_digit B o_mixed
  have o_made : Okd P w K mg base CX0 1 "_law_made" ["size", "moves", "most"] (spMade K (PsK K)) := ok_made d_law_made B
  have o_turning : Okd P w K mg base CX0 3 "_law_turning" ["state", "size"] (spTurning (PsK K)) := ok_turning d_law_turning B o_digit
  have o_lw : Okd P w K mg base CX0 1 "_law_whole" ["thing", "most"] spLawWhole := ok_law_whole d_law_whole B
  have o_sb : Okd P w K mg base CX0 2 "_law_stand_bad" ["table", "thing"] (spStandBad (PsK K)) := ok_stand_bad d_law_stand_bad B o_lw
  have o_tb : Okd P w K mg base CX0 2 "_law_turning_bad" ["table", "thing"] (spTurnBad (PsK K)) := ok_turning_bad d_law_turning_bad B o_lw
  have o_odd : Okd P w K mg base CX0 3 "_law_odd" ["state"] (spOdd (PsK K)) := ok_odd d_law_odd o_digit
  have o_kinds : Okd P w K mg base CX0 1 "_law_kinds" ["error"] (spKinds K (PsK K) (He.ga K)) := ok_kinds d_law_kinds B N
  have o_told : OkP P w K mg base CX0 11 "_law_told" ["deed"] (spTold P w K mg base (PsK K) (He.ga K) 10) := ok_told d_law_told B N o_kinds (by decide)
  refine ⟨⟨B, hs, hd, mL, mTL, huL, cf_BadTable, cf_BadStand, cf_BadTurning, cf_BadRow, cf_BadRun, ok_draw d_law_draw, ok_table d_law_table B o_digit o_turning o_made, o_digit, o_turning, ok_bent d_law_bent B o_digit o_odd, o_sb, o_tb, ok_row_bad d_law_row_bad B o_sb, ok_run_bad d_law_run_bad B o_sb o_tb,
    o_isS, o_isT, o_nS, o_nT, o_nR, o_walked, o_told, ok_refused_right d_law_refused_right B B.repr o_told, ok_asked (CU := He.ga K "BadTurning") d_law_asked mQ mTA huA o_stands o_seats o_isS o_nS o_isT o_walked⟩, d_law⟩
  case own =>
    unfold ownNames at hx
    rcases List.mem_cons.mp hx with rfl | hx
    · exact He.glo_ok X G (sd.fact 47 (f := .glo "BadTable") rfl)
    rcases List.mem_cons.mp hx with rfl | hx
    · exact He.glo_ok X G (sd.fact 48 (f := .glo "BadStand") rfl)
    rcases List.mem_cons.mp hx with rfl | hx
    · exact He.glo_ok X G (sd.fact 49 (f := .glo "BadTurning") rfl)
    rcases List.mem_cons.mp hx with rfl | hx
    · exact He.glo_ok X G (sd.fact 50 (f := .glo "BadWish") rfl)
    rcases List.mem_cons.mp hx with rfl | hx
    · exact He.glo_ok X G (sd.fact 51 (f := .glo "BadLot") rfl)
    rcases List.mem_cons.mp hx with rfl | hx
    · exact He.glo_ok X G (sd.fact 52 (f := .glo "BadRow") rfl)
    rcases List.mem_cons.mp hx with rfl | hx
    · exact He.glo_ok X G (sd.fact 53 (f := .glo "BadPattern") rfl)
    rcases List.mem_cons.mp hx with rfl | hx
    · exact He.glo_ok X G (sd.fact 54 (f := .glo "BadFelt") rfl)
    rcases List.mem_cons.mp hx with rfl | hx
    · exact He.glo_ok X G (sd.fact 55 (f := .glo "BadHearing") rfl)
    rcases List.mem_cons.mp hx with rfl | hx
    · exact He.glo_ok X G (sd.fact 56 (f := .glo "BadRun") rfl)
    rcases List.mem_cons.mp hx with rfl | hx
    · exact He.glo_ok X G (sd.fact 57 (f := .glo "BadPaper") rfl)
    rcases List.mem_cons.mp hx with rfl | hx
    · exact He.glo_ok X G (sd.fact 58 (f := .glo "NotEven") rfl)
    rcases List.mem_cons.mp hx with rfl | hx
    · exact He.glo_ok X G (sd.fact 59 (f := .glo "OutOfPlace") rfl)
    rcases List.mem_cons.mp hx with rfl | hx
    · exact He.glo_ok X G (sd.fact 60 (f := .glo "TooGreat") rfl)
    rcases List.mem_cons.mp hx with rfl | hx
    · exact He.glo_ok X G (sd.fact 61 (f := .glo "Never") rfl)
    rcases List.mem_cons.mp hx with rfl | hx
    · exact He.glo_ok X G (sd.fact 62 (f := .glo "NotSure") rfl)
    rcases List.mem_cons.mp hx with rfl | hx
    · exact He.glo_ok X G (sd.fact 63 (f := .glo "Inside") rfl)
    rcases List.mem_cons.mp hx with rfl | hx
    · exact He.glo_ok X G (sd.fact 64 (f := .glo "Rung") rfl)
    rcases List.mem_cons.mp hx with rfl | hx
    · exact He.glo_ok X G (sd.fact 65 (f := .glo "Untimely") rfl)
    rcases List.mem_cons.mp hx with rfl | hx
    · exact He.glo_ok X G (sd.fact 66 (f := .glo "UnseenError") rfl)
    rcases List.mem_cons.mp hx with rfl | hx
    · exact He.glo_ok X G (sd.fact 67 (f := .glo "MissError") rfl)
    rw [List.mem_singleton.mp hx]
    exact He.glo_ok X G (sd.fact 68 (f := .glo "StateError") rfl)
end
end U
set_option maxHeartbeats 4000000
namespace U
open PySem PySem.Spec PyProof.Rows L2 GxR Bx Gx Ex Sx RZ Kx Dx NdefX LamX Mx
/-! the end: law is called once, behind the top -/
abbrev voidTab : Obj := { cls := .none, data := .fields #[] }
abbrev scr (vs : List Value) : Obj := { cls := .type "list", data := .seq vs.toArray }
/-- what is tracked at first: the empty tables, the script (if it isn't written) -/
def first (K : PySem.W.Frag) (ts : List Addr) (a : Addr) (vs : List Value) (xs : List V) : Hp := fun b => if b ∈ ts then some (.tbl #[]) else if b = a ∧ K.lookup a = none then some (.frz (scr vs) (.lst xs)) else none
section
variable {K : PySem.W.Frag} {h : Heap} {ts : List Addr} {a b : Addr} {vs : List Value} {xs : List V} {o : Obj}
theorem first_tab (hb : b ∈ ts) : first K ts a vs xs b = some (.tbl #[]) := if_pos hb
theorem first_scr (hb : a ∉ ts) (hk : K.lookup a = none) : first K ts a vs xs a = some (.frz (scr vs) (.lst xs)) := (if_neg hb).trans (if_pos ⟨rfl, hk⟩)
theorem first_free (ht : ∀ t ∈ ts, h.get? t = some voidTab) (ha : h.get? a = some (scr vs)) (e : h.get? b = some o) (n1 : o ≠ voidTab) (n2 : o ≠ scr vs) : first K ts a vs xs b = none := by
  unfold first
  rw [if_neg (fun z => n1 (Option.some.inj (e.symm.trans (ht b z))))]
  refine if_neg fun z => ?_
  rw [z.1] at e
  exact n2 (Option.some.inj (e.symm.trans ha))
theorem first_some {u : HO} (e : first K ts a vs xs b = some u) : (b ∈ ts ∧ u = .tbl #[]) ∨ (b ∉ ts ∧ b = a ∧ K.lookup a = none ∧ u = .frz (scr vs) (.lst xs)) := by
  unfold first at e
  split at e
  · rename_i q
    exact .inl ⟨q, (Option.some.inj e).symm⟩
  · rename_i q
    split at e
    · rename_i r
      exact .inr ⟨q, r.1, r.2, (Option.some.inj e).symm⟩
    · cases e
end
theorem call_top {P : Program} {w : World} {K : PySem.W.Frag} {mg mb : Str → Option Value} {k : Nat} {fa a : Addr} {cs : List (Addr × Addr)} {x : Str} {sp : SpS} {s : Shared} {vs : List Value} {ns : List Int} (KX : K.In s.heap) (hm : s.heap.Ns mainGlobals mg) (hb : s.heap.Ns builtinsNs mb) (hbb : ∀ x : Str, x ≠ "__name__" → mb x = bootBuiltins x)
    (lim : s.heap.NoLimit) (hg : s.gens = #[]) (hT : ∀ p ∈ cs, s.heap.get? p.2 = some voidTab) (nT : ∀ p ∈ cs, K.lookup p.2 = none) (hC : ∀ p ∈ cs, PySem.W.CodeHd s.heap p.1 p.2)
    (hbm : ∃ (bm : Addr) (ob : Obj), mg "__builtins__" = some (.ref bm) ∧ bm ≠ builtinsNs ∧ s.heap.get? bm = some ob ∧ ob.cls = .type "module" ∧ ob.dict = some builtinsNs ∧ ob.data = .plain) (ha : s.heap.get? a = some (scr vs)) (hi : IntsAre vs ns) (hl : ns.length ≤ sizeLine) (hr : Room k callerA)
    (F : ∀ base : Heap, K.In base → base.Ns mainGlobals mg → (∀ p ∈ cs, LamX.TabB base mg p.1 p.2) → OkP P w K mg base CX0 k x ["script"] sp) (hfa : mg x = some (.ref fa))
    (hsp : ∀ H : Hp, (∀ p ∈ cs, H p.2 = some (.tbl #[])) → SqL K H a (ns.map V.int) → sp callerA s [.ref a] H (fun v _ => v = .bl true) E0) :
    codeAny (model P w) callerA (.call (.ref fa) ⟨[.ref a], []⟩) (fun r s' => r = .ok (.ret (.bool true)) ∧ OldK s.heap s'.heap ∧ s'.os = s.os ∧ AllBare s'.gens) s := by
  obtain ⟨ts, ets⟩ : ∃ ts, ts = cs.map (·.2) := ⟨_, rfl⟩
  have tIn : ∀ p ∈ cs, p.2 ∈ ts := fun p hp => by rw [ets]; exact List.mem_map.mpr ⟨p, hp, rfl⟩
  have tOf : ∀ t ∈ ts, ∃ p ∈ cs, p.2 = t := fun t ht => by rw [ets] at ht; exact List.mem_map.mp ht
  have isV : ∀ t ∈ ts, s.heap.get? t = some voidTab := fun t ht => by
    obtain ⟨p, hp, rfl⟩ := tOf t ht
    exact hT p hp
  have aT : a ∉ ts := fun z => by
    have q := isV a z
    rw [ha] at q
    exact absurd (congrArg Obj.data (Option.some.inj q)) nofun
  obtain ⟨H, eH⟩ : ∃ H, H = first K ts a vs (ns.map V.int) := ⟨_, rfl⟩
  have vals := vals_ints hi
  have lv : (ns.map V.int).length ≤ sizeLine := by rw [List.length_map]; exact hl
  -- what is not tracked
  have nDict : ∀ {b : Addr} {o : Obj} {es : Array DictEntry} {ep : Nat}, s.heap.get? b = some o → o.data = .dict es ep → H b = none := fun {b o es ep} e d => by
    rw [eH]
    exact first_free isV ha e (fun z => by rw [z] at d; cases d) (fun z => by rw [z] at d; cases d)
  have nK : ∀ {b : Addr} {o : Obj}, K.lookup b = some o → H b = none := fun {b o} e => by
    cases q : H b with
    | none => rfl
    | some u =>
      rw [eH] at q
      rcases first_some q with ⟨z, _⟩ | ⟨_, z, z2, _⟩
      · obtain ⟨p, hp, rfl⟩ := tOf b z
        rw [nT p hp] at e; cases e
      · rw [z, z2] at e; cases e
  have under : ∀ {b : Addr} {o : Obj}, s.heap.get? b = some o → H b = none → (hidT s.heap H).get? b = some o := hidT_get
  have nsU : ∀ {b : Addr} {m : Str → Option Value}, s.heap.Ns b m → (hidT s.heap H).Ns b m := fun {b m} z => by
    obtain ⟨o, es, ep, e, d, r⟩ := z
    exact ⟨o, es, ep, under e (nDict e d), d, r⟩
  have kU : K.In (hidT s.heap H) := fun b o e => under (KX b o e) (nK e)
  have mU : L2.Mod K mg (hidT s.heap H) := by
    obtain ⟨mc, l1, l2⟩ := lim
    exact { kin := kU, glob := nsU hm, blt := ⟨mb, nsU hb, hbb⟩, nolimit := ⟨mc, nsU l1, l2⟩ }
  have hok : HOk P w H s.heap := fun b u e => by
    rw [eH] at e
    rcases first_some e with ⟨z, rfl⟩ | ⟨_, z, _, rfl⟩
    · exact isV b z
    · subst z
      exact ⟨ha, lv, vs, _, vals, ha⟩
  have tbl0 : ∀ p ∈ cs, H p.2 = some (.tbl #[]) := fun p hp => by
    rw [eH]
    exact first_tab (tIn p hp)
  have hS : SqL K H a (ns.map V.int) := by
    cases q : K.lookup a with
    | none =>
      refine .inl (.inr ⟨scr vs, ?_⟩)
      rw [eH]
      exact first_scr aT q
    | some o =>
      have e := KX a o q
      rw [ha] at e
      cases e
      exact .inr ⟨_, vs.toArray, _, q, rfl, rfl, rfl, by rw [List.size_toArray, ← vals.length]; exact lv, by simpa using vals⟩
  have TBs : ∀ p ∈ cs, LamX.TabB (hidT s.heap H) mg p.1 p.2 := fun p hp => by
    refine ⟨?_, ?_, fun z => ?_⟩
    · obtain ⟨o, us, fi, tf, fl, tg, inF, tx, tt, e1, c1, d1, d2, r⟩ := hC p hp
      refine ⟨o, us, fi, tf, fl, tg, inF, tx, tt, under e1 ?_, c1, d1, d2, r⟩
      rw [eH]
      exact first_free isV ha e1 (fun z => by rw [z] at c1; cases c1) (fun z => by rw [z] at d1; cases d1)
    · obtain ⟨bm, ob, b1, b2, b3, b4, b5, b6⟩ := hbm
      refine ⟨bm, ob, b1, b2, fun z => ?_, fun z => ?_, under b3 ?_, b4, b5, b6⟩
      · obtain ⟨o, es, ep, e, d, _⟩ := hm
        rw [z, e] at b3
        cases b3
        rw [d] at b6; cases b6
      · rw [z, hT p hp] at b3
        cases b3
        cases b6
      · rw [eH]
        exact first_free isV ha b3 (fun z => by rw [z] at b6; cases b6) (fun z => by rw [z] at b6; cases b6)
    · obtain ⟨o, es, ep, e, d, _⟩ := hm
      rw [z, hT p hp] at e
      cases e
      cases d
  have e0 : Env0 P w K mg (hidT s.heap H) callerA [] s H :=
    { frames := rfl, mod := mU, bs := fun b o e => of_hidT e, bsz := by rw [hidT_size]; exact Nat.le_refl _, funs := trivial, frf := (fun b z => by cases z), hok := hok, bare := .of_eq hg }
  obtain ⟨f, fd, g, kp, bd, Fn⟩ := (F _ kU (nsU hm) TBs).ex
  have ef : f = fa := by
    rw [hfa] at g
    exact (Value.ref.inj (Option.some.inj g)).symm
  subst ef
  have bt := bd s [.ref a] KX rfl
  refine codeAny_mono (Fn.run callerA [] s H ⟨[.ref a], []⟩ [.ref a] [.ref a] (fun v _ => v = .bl true) E0 hr e0 bt (.cons rfl .nil) (hsp H tbl0 hS)) fun r s' q => ?_
  cases r with
  | error e => exact q.elim
  | ok fl =>
    cases fl with
    | next => exact q.elim
    | brk => exact q.elim
    | cont => exact q.elim
    | ret u =>
      obtain ⟨v, H', os, bare, un, hok', rv, ev⟩ := q
      subst ev
      obtain rfl : u = Value.bool true := rv
      have same : ∀ b o, b ∉ ts → s.heap.get? b = some o → s'.heap.get? b = some o := fun b o nb e => by
        cases q : H b with
        | none => exact un.keep b o e q (by simp [frs]) (by simp)
        | some u =>
          have q2 := q
          rw [eH] at q2
          rcases first_some q2 with ⟨z, _⟩ | ⟨_, z, _, rfl⟩
          · exact absurd z nb
          · subst z
            rw [ha] at e
            cases e
            exact (hok' _ _ (un.frzs _ _ _ q)).1
      have more : ∀ t ∈ ts, ∃ m : Array Value, s'.heap.get? t = some { cls := .none, data := .fields m } := fun t ht => by
        obtain ⟨p, hp, rfl⟩ := tOf t ht
        obtain ⟨m, z⟩ := un.tbls p.2 #[] (tbl0 p hp)
        exact ⟨_, hok' _ _ z⟩
      refine ⟨rfl, ⟨fun b o e => ?_, fun b o e => ?_⟩, os, bare⟩
      · by_cases nb : b ∈ ts
        · have ev := isV b nb
          rw [e] at ev
          cases ev
          obtain ⟨m, z⟩ := more b nb
          obtain ⟨p, hp, rfl⟩ := tOf b nb
          exact .inr (.inl ⟨((hC p hp).tab (hT p hp)).isCodeTable, rfl, #[], m, rfl, by rw [Array.empty_append]; exact z⟩)
        · exact .inl (same b o nb e)
      · by_cases nb : b ∈ ts
        · obtain ⟨m, z⟩ := more b nb
          exact ⟨_, z⟩
        · exact ⟨o, same b o nb e⟩
end U
set_option maxHeartbeats 0
namespace U
open PySem PySem.Spec PyProof.Rows L2 GxR Bx Gx Ex Sx RZ Kx Dx NdefX LamX Mx
theorem law_ends {P : Program} {w : World} {K : PySem.W.Frag} {mg mb : Str → Option Value} {la a : Addr} {s : Shared} {vs : List Value} {ns : List Int} (KX : K.In s.heap) (c : He.SaysX fa fn [] tf ex w s.heap K) (hm : s.heap.Ns mainGlobals mg) (hb : s.heap.Ns builtinsNs mb) (hbb : ∀ x : Str, x ≠ "__name__" → mb x = bootBuiltins x)
    (lim : s.heap.NoLimit) (hg : s.gens = #[]) (hbm : ∃ (bm : Addr) (ob : Obj), mg "__builtins__" = some (.ref bm) ∧ bm ≠ builtinsNs ∧ s.heap.get? bm = some ob ∧ ob.cls = .type "module" ∧ ob.dict = some builtinsNs ∧ ob.data = .plain) (ha : s.heap.get? a = some (scr vs)) (hi : IntsAre vs ns) (hl : ns.length ≤ 63) (hla : mg "law" = some (.ref la)) :
    codeAny (model P w) callerA (.call (.ref la) ⟨[.ref a], []⟩) (fun r s' => r = .ok (.ret (.bool true)) ∧ OldK s.heap s'.heap ∧ s'.os = s.os ∧ AllBare s'.gens) s := by
  have tabs : ∀ p ∈ tf.map (He.cT K), s.heap.get? p.2 = some voidTab ∧ K.lookup p.2 = none ∧ PySem.W.CodeHd s.heap p.1 p.2 := fun p hp => by
    obtain ⟨q, hq, rfl⟩ := List.mem_map.mp hp
    exact ⟨c.empty q hq, c.out q hq, PySem.W.codeHd_of_K KX (c.hd q hq)⟩
  refine call_top (cs := tf.map (He.cT K)) (k := 13) (x := "law") (sp := spLaw K (PsK2 K) (TK K)) KX hm hb hbb lim hg (fun p hp => (tabs p hp).1) (fun p hp => (tabs p hp).2.1) (fun p hp => (tabs p hp).2.2) hbm ha hi (Nat.le_trans hl (by decide)) ⟨rfl, by decide, by decide⟩
    (fun base kb gb tbs => ?_) hla fun H tb sq => ?_
  · obtain ⟨F, D⟩ := facts (P := P) (base := base) KX hm c tbs
    exact ok_law F D
  · have t : ∀ x, (x, none) ∈ tf → H (tbl K x) = some (.tbl #[]) := fun x hx => tb _ (List.mem_map.mpr ⟨(x, none), hx, rfl⟩)
    have g : ∀ {x : Addr}, H x = some (.tbl #[]) → TabG H x := fun e => ⟨#[], e, trivial⟩
    have m1 := t "law" (by unfold tf; simp)
    have m2 := t "_law_asked" (by unfold tf; simp)
    have m3 := t "is_rising" (by unfold tf; simp)
    have m4 := t "are_rising_orders" (by unfold tf; simp)
    refine ⟨rfl, a, ns, rfl, sq, hl, fun x hx => ?_, fun p hp => ?_, fun _ => rfl⟩
    · unfold PsK2 at hx
      rcases List.mem_cons.mp hx with rfl | hx
      · exact g m1
      rcases List.mem_cons.mp hx with rfl | hx
      · exact g m2
      rcases List.mem_cons.mp hx with rfl | hx
      · exact g m3
      rw [List.mem_singleton.mp hx]
      exact g m4
    · unfold TK at hp
      rcases List.mem_cons.mp hp with rfl | hp
      · exact TabN.nil m1
      rw [List.mem_singleton.mp hp]
      exact TabN.nil m2
end U
open PySem PySem.W PySem.Calls PyProof.Rows
theorem PySem.Challenge.cw_unseenturn_k03_runs_refused_holds : PySem.Challenge.rw_unseenturn_k03_runs_refused.Holds := by
  w_on; o_law
  refine HandSHeadRun.head_any (r := U.RR) (q := U.qL) (H := U.hk) (ob := U.ob) (M := 30000) (loose := U.names) (d := U.dL) (kwd := []) U.ob_eq
    U.hd_open U.hd_fence U.run U.hd_def U.hd_the U.hd_kw (by rfl) (by first | assumption | decide +kernel) (by decide +kernel) ⟨rfl, rfl, rfl, rfl, rfl, by decide +kernel⟩ ?hw ?hc
  case hw => w_witness2
  case hc =>
    refine Att.attach_callB (l := PySem.Challenge.rw_unseenturn_k03_runs_refused) (n := 63) rfl U.hd_dfl fun w z s mg mb la o pm cd doc a vs ns G Y ho hd hcd hmg hobj hints hlen hbits hg => ?_
    obtain ⟨K, KX, c⟩ := Y
    rw [U.hd_nm] at hmg
    exact U.law_ends KX c G.T.g G.T.b G.T.builtins G.T.nolimit hg G.T.bmain hobj hints hlen hmg
