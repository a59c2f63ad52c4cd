import PyProof.Rows.All
import Wide.All
import OpenK.AllK
import Wide.FinOn
import KE.KStateDown
import HandS.ForMost
import HandS.Exc
import HandS.Words
import HandS.WordsExc
import HandS.Defaults
import HandS.Lambda
import HandS.EndTab
import HandS.Head0
import HandS.Head1
import HandS.Head2
import HandS.Head3
import HandS.HeadEnd
import HandS.HeadHook1
import HandS.HeadHook2
import HandS.HeadHook3
import HandS.HeadHook4
import HandS.HeadWalk
import HandS.TryOnly
import HandS.TryMany
import HandS.ExcOwn
import HandS.NoneIn
import HandS.Gcd
import HandS.CallLocal
import HandS.FStr
import HandS.MapJoin
import HandS.RevTup
import HandS.Rev
import HandS.TupSets
import HandS.Nested
import HandS.Conv
import HandS.Wide
import HandS.WideMore
import HandS.Deep
import HandS.TupAny
import HandS.Walk
import HandS.SortInts
import KE.KDictZip
import HandS.Zip0
import HandS.Zip
import PySem.Challenge.RW_borderwright_k16_tracks_gone_along
set_option Elab.async false
set_option linter.all false
set_option maxRecDepth 100000
set_option maxHeartbeats 4000000
/-! K16Head -/
namespace BW
open PySem PySem.Spec PyProof.Rows L2
abbrev prog : Program := PySem.Challenge.pw_borderwright_k16_tracks_gone_along
def top (i : Nat) : Stmt := prog.main.body.getD i (.Pass ⟨0, 0, 0, 0⟩)
abbrev s_shared : Stmt := top 15
abbrev s_part : Stmt := top 16
abbrev s_plus : Stmt := top 17
abbrev s_minus : Stmt := top 18
abbrev s_times : Stmt := top 19
abbrev s_over : Stmt := top 20
abbrev s_is_less : Stmt := top 21
abbrev s_sign_of : Stmt := top 22
abbrev s_size_of : Stmt := top 23
abbrev s_total : Stmt := top 24
abbrev s_lesser : Stmt := top 25
abbrev s_greater : Stmt := top 26
abbrev s_point : Stmt := top 28
abbrev s_apart : Stmt := top 29
abbrev s_side : Stmt := top 30
abbrev s_spans_meet : Stmt := top 31
abbrev s_between : Stmt := top 32
abbrev s_on_way : Stmt := top 33
abbrev s_may_meet : Stmt := top 34
abbrev s_square : Stmt := top 35
abbrev s_stride : Stmt := top 36
abbrev s_check_track : Stmt := top 38
abbrev s_on_step : Stmt := top 39
abbrev s_nearest_on : Stmt := top 40
abbrev s_whole_way : Stmt := top 41
abbrev s_length_of : Stmt := top 42
abbrev s_at_length : Stmt := top 43
abbrev s_length_at : Stmt := top 44
abbrev s_fewer : Stmt := top 45
abbrev s_furthest_off : Stmt := top 46
abbrev s_far_from : Stmt := top 47
abbrev s_evenly : Stmt := top 48
abbrev s__law_dice : Stmt := top 50
abbrev s__law_roll : Stmt := top 51
abbrev s__law_rounds : Stmt := top 52
abbrev s__law_told : Stmt := top 53
abbrev s__law_spot : Stmt := top 54
abbrev s__law_nearest : Stmt := top 55
abbrev s__law_cases1 : Stmt := top 56
abbrev s_law : Stmt := top 57
/-! the defs as data -/
def d_shared : He.DefD := ⟨("shared", none), "shared", "shared", defArgs s_shared, defBody s_shared, defScope s_shared, [], []⟩
def d_part : He.DefD := ⟨("part", none), "part", "part", defArgs s_part, defBody s_part, defScope s_part, [.int 1], []⟩
def d_plus : He.DefD := ⟨("plus", none), "plus", "plus", defArgs s_plus, defBody s_plus, defScope s_plus, [], []⟩
def d_minus : He.DefD := ⟨("minus", none), "minus", "minus", defArgs s_minus, defBody s_minus, defScope s_minus, [], []⟩
def d_times : He.DefD := ⟨("times", none), "times", "times", defArgs s_times, defBody s_times, defScope s_times, [], []⟩
def d_over : He.DefD := ⟨("over", none), "over", "over", defArgs s_over, defBody s_over, defScope s_over, [], []⟩
def d_is_less : He.DefD := ⟨("is_less", none), "is_less", "is_less", defArgs s_is_less, defBody s_is_less, defScope s_is_less, [], []⟩
def d_sign_of : He.DefD := ⟨("sign_of", none), "sign_of", "sign_of", defArgs s_sign_of, defBody s_sign_of, defScope s_sign_of, [], []⟩
def d_size_of : He.DefD := ⟨("size_of", none), "size_of", "size_of", defArgs s_size_of, defBody s_size_of, defScope s_size_of, [], []⟩
def d_total : He.DefD := ⟨("total", none), "total", "total", defArgs s_total, defBody s_total, defScope s_total, [], []⟩
def d_lesser : He.DefD := ⟨("lesser", none), "lesser", "lesser", defArgs s_lesser, defBody s_lesser, defScope s_lesser, [], []⟩
def d_greater : He.DefD := ⟨("greater", none), "greater", "greater", defArgs s_greater, defBody s_greater, defScope s_greater, [], []⟩
def d_point : He.DefD := ⟨("point", none), "point", "point", defArgs s_point, defBody s_point, defScope s_point, [], []⟩
def d_apart : He.DefD := ⟨("apart", none), "apart", "apart", defArgs s_apart, defBody s_apart, defScope s_apart, [], []⟩
def d_side : He.DefD := ⟨("side", none), "side", "side", defArgs s_side, defBody s_side, defScope s_side, [], []⟩
def d_spans_meet : He.DefD := ⟨("spans_meet", none), "spans_meet", "spans_meet", defArgs s_spans_meet, defBody s_spans_meet, defScope s_spans_meet, [], []⟩
def d_between : He.DefD := ⟨("between", none), "between", "between", defArgs s_between, defBody s_between, defScope s_between, [], []⟩
def d_on_way : He.DefD := ⟨("on_way", none), "on_way", "on_way", defArgs s_on_way, defBody s_on_way, defScope s_on_way, [], []⟩
def d_may_meet : He.DefD := ⟨("may_meet", none), "may_meet", "may_meet", defArgs s_may_meet, defBody s_may_meet, defScope s_may_meet, [], []⟩
def d_square : He.DefD := ⟨("square", none), "square", "square", defArgs s_square, defBody s_square, defScope s_square, [], []⟩
def d_stride : He.DefD := ⟨("stride", none), "stride", "stride", defArgs s_stride, defBody s_stride, defScope s_stride, [], []⟩
def d_check_track : He.DefD := ⟨("check_track", none), "check_track", "check_track", defArgs s_check_track, defBody s_check_track, defScope s_check_track, [], []⟩
def d_on_step : He.DefD := ⟨("on_step", none), "on_step", "on_step", defArgs s_on_step, defBody s_on_step, defScope s_on_step, [], []⟩
def d_nearest_on : He.DefD := ⟨("nearest_on", none), "nearest_on", "nearest_on", defArgs s_nearest_on, defBody s_nearest_on, defScope s_nearest_on, [], []⟩
def d_whole_way : He.DefD := ⟨("whole_way", none), "whole_way", "whole_way", defArgs s_whole_way, defBody s_whole_way, defScope s_whole_way, [], []⟩
def d_length_of : He.DefD := ⟨("length_of", none), "length_of", "length_of", defArgs s_length_of, defBody s_length_of, defScope s_length_of, [], []⟩
def d_at_length : He.DefD := ⟨("at_length", none), "at_length", "at_length", defArgs s_at_length, defBody s_at_length, defScope s_at_length, [], []⟩
def d_length_at : He.DefD := ⟨("length_at", none), "length_at", "length_at", defArgs s_length_at, defBody s_length_at, defScope s_length_at, [], []⟩
def d_fewer : He.DefD := ⟨("fewer", none), "fewer", "fewer", defArgs s_fewer, defBody s_fewer, defScope s_fewer, [], []⟩
def d_furthest_off : He.DefD := ⟨("furthest_off", none), "furthest_off", "furthest_off", defArgs s_furthest_off, defBody s_furthest_off, defScope s_furthest_off, [], []⟩
def d_far_from : He.DefD := ⟨("far_from", none), "far_from", "far_from", defArgs s_far_from, defBody s_far_from, defScope s_far_from, [], []⟩
def d_evenly : He.DefD := ⟨("evenly", none), "evenly", "evenly", defArgs s_evenly, defBody s_evenly, defScope s_evenly, [], []⟩
def d__law_dice : He.DefD := ⟨("_law_dice", none), "_law_dice", "_law_dice", defArgs s__law_dice, defBody s__law_dice, defScope s__law_dice, [], []⟩
def d__law_roll : He.DefD := ⟨("_law_roll", none), "_law_roll", "_law_roll", defArgs s__law_roll, defBody s__law_roll, defScope s__law_roll, [], []⟩
def d__law_rounds : He.DefD := ⟨("_law_rounds", none), "_law_rounds", "_law_rounds", defArgs s__law_rounds, defBody s__law_rounds, defScope s__law_rounds, [], []⟩
def d__law_told : He.DefD := ⟨("_law_told", none), "_law_told", "_law_told", defArgs s__law_told, defBody s__law_told, defScope s__law_told, [], []⟩
def d__law_spot : He.DefD := ⟨("_law_spot", none), "_law_spot", "_law_spot", defArgs s__law_spot, defBody s__law_spot, defScope s__law_spot, [], []⟩
def d__law_nearest : He.DefD := ⟨("_law_nearest", none), "_law_nearest", "_law_nearest", defArgs s__law_nearest, defBody s__law_nearest, defScope s__law_nearest, [], []⟩
def d__law_cases1 : He.DefD := ⟨("_law_cases1", none), "_law_cases1", "_law_cases1", defArgs s__law_cases1, defBody s__law_cases1, defScope s__law_cases1, [], []⟩
def d_law : He.DefD := ⟨("law", none), "law", "law", defArgs s_law, defBody s_law, defScope s_law, [], []⟩
def fn : List He.DefD := [d_shared, d_part, d_plus, d_minus, d_times, d_over, d_is_less, d_sign_of, d_size_of, d_total, d_lesser, d_greater, d_point, d_apart, d_side, d_spans_meet, d_between, d_on_way, d_may_meet, d_square, d_stride, d_check_track, d_on_step, d_nearest_on, d_whole_way, d_length_of, d_at_length, d_length_at, d_fewer, d_furthest_off, d_far_from, d_evenly, d__law_dice, d__law_roll, d__law_rounds, d__law_told, d__law_spot, d__law_nearest, d__law_cases1, d_law]
/-! the facts -/
def fa : List He.Fa := [.glo "shared", .glo "part", .glo "plus", .glo "minus", .glo "times", .glo "over",
  .glo "is_less", .glo "sign_of", .glo "size_of", .glo "total", .glo "lesser", .glo "greater",
  .glo "point", .glo "apart", .glo "side", .glo "spans_meet", .glo "between", .glo "on_way",
  .glo "may_meet", .glo "square", .glo "stride", .glo "check_track", .glo "on_step", .glo "nearest_on",
  .glo "whole_way", .glo "length_of", .glo "at_length", .glo "length_at", .glo "fewer", .glo "furthest_off",
  .glo "far_from", .glo "evenly", .glo "_law_dice", .glo "_law_roll", .glo "_law_rounds", .glo "_law_told",
  .glo "_law_spot", .glo "_law_nearest", .glo "_law_cases1", .glo "law", .glo "MapFault", .glo "BadPart",
  .glo "BadPoint", .glo "BadRing", .glo "BadMap", .glo "BadPaper", .glo "BadSize", .glo "BadText",
  .glo "BadStore", .glo "NoSuch", .exc "BadPart", .exc "BadPoint", .exc "BadRing", .exc "BadMap",
  .exc "BadPaper", .exc "BadSize", .exc "BadText", .exc "BadStore", .exc "NoSuch", .free "abs",
  .free "any", .free "enumerate", .free "int", .free "len", .free "list", .free "range",
  .free "sorted", .free "tuple", .free "zip", .glo "NOUGHT", .glo "ONE"]
/-- each error is caught by its own clause alone -/
def errs : List Str := ["BadPart", "BadPoint", "BadRing", "BadMap", "BadPaper", "BadSize", "BadText", "BadStore", "NoSuch"]
def exmB (K : PySem.W.Frag) : Bool := errs.all fun x => errs.all fun y => (He.Fa.exm x y (decide (x = y))).ok K
def ex (K : PySem.W.Frag) : Bool := exmB K && decide ((He.cT K ("_law_cases1", none)).2 ≠ (He.cT K ("law", none)).2) &&
  (He.tupB K "NOUGHT" [.int 0, .int 1]) &&
  (He.tupB K "ONE" [.int 1, .int 1]) &&
  (He.eqO (PySem.W.nsIn K mainGlobals "gcd") (some (some (.builtin "math.gcd"))))
def tf : List He.Defn := [("_law_cases1", none), ("law", none)]
abbrev R : PySem.W.OpenRow := PySem.W.OpenLaw.row PySem.Challenge.rw_borderwright_k16_tracks_gone_along
abbrev hk : PySem.W.Hook := He.hookX 4 fa fn [] tf ex
def ob (s : PySem.W.SharedT) : He.AlX := He.obsX 4 fa fn [] tf ex (HandSHeadRun.getT s)
theorem ob_eq (s : PySem.W.SharedT) : ob s = hk.obs s.abs := He.obsX_eq (HandSHeadRun.getT_eq s)
def vw : List Nat := [0, 57]
def loose0 : List Str := ["MapFault", "BadPart", "BadPoint", "BadRing", "BadMap", "BadPaper", "BadSize", "BadText", "BadStore", "NoSuch", "NOUGHT", "ONE", "shared", "part", "plus", "minus", "times", "over", "is_less", "sign_of", "size_of", "total", "lesser", "greater", "point", "apart", "side", "spans_meet", "between", "on_way"]
def loose1 : List Str := ["may_meet", "square", "stride", "check_track", "on_step", "nearest_on", "whole_way", "length_of", "at_length", "length_at", "fewer", "furthest_off", "far_from", "evenly", "_law_dice", "_law_roll", "_law_rounds", "_law_told", "_law_spot", "_law_nearest", "_law_cases1"]
def loose : List Str := loose0 ++ loose1
def lawAt : Nat := 57

theorem run (w : World) : HandSHeadRun.RunEqI R (PySem.W.view R.prog vw) hk ob 20000 loose w := by
  unfold HandSHeadRun.RunEqI
  kernel_rfl
end BW
/-! CalA -/
/-! A calculus over the hand layer: what an expression, a test, a row of statements comes to, told by data (the abstract heap stays behind it). -/
namespace Cal
open PySem PySem.Spec PyProof.Rows L2

abbrev D := PyData
theorem seqT {K : PySem.W.Frag} {H H' : Hp} {a : Addr} {xs : List V} (e : Same H H') (h : SqT K H a xs) : SqT K H' a xs := by
  rcases h with (h | ⟨o, h⟩) | h
  · exact .inl (.inl (e _ _ h))
  · exact .inl (.inr ⟨o, e _ _ h⟩)
  · exact .inr h
section
variable {K : PySem.W.Frag} {G G' : Hp}
mutual
theorem dpUp (e : Same G G') : ∀ (d : D) {v : V}, Dp K G v d → Dp K G' v d
  | .none, _, h => by cases h; exact .non
  | .bool _, _, h => by cases h; exact .bl _
  | .int _, _, h => by cases h; exact .int _
  | .str _, _, h => by cases h; exact .str _
  | .list ds, _, h => by
    cases h with
    | lst hs ha => exact .lst (e.seq hs) (dpsUp e ds ha)
  | .tuple ds, _, h => by
    cases h with
    | tup hs ha => exact .tup (seqT e hs) (dpsUp e ds ha)
  | .dict _, _, h => by cases h
theorem dpsUp (e : Same G G') : ∀ (ds : List D) {vs : List V}, DpAll K G vs ds → DpAll K G' vs ds
  | [], _, h => by cases h; exact .nil
  | d :: ds, _, h => by
    cases h with
    | cons h1 h2 => exact .cons (dpUp e d h1) (dpsUp e ds h2)
end
end

/-- what is known of a slot, of a value -/
inductive Sv where
  | no | dat (d : D) | raw (v : V) | kn (φ : Hp → V → Prop)
def Vk (K : PySem.W.Frag) (G : Hp) (v : V) : Sv → Prop
  | .no => True
  | .dat d => Dp K G v d
  | .raw w => v = w
  | .kn φ => ∃ G0, Same G0 G ∧ φ G0 v
abbrev I (i : Int) : Sv := .dat (.int i)
abbrev B (b : Bool) : Sv := .dat (.bool b)
theorem Vk.up {K : PySem.W.Frag} {G G' : Hp} (e : Same G G') {v : V} : ∀ {r : Sv}, Vk K G v r → Vk K G' v r
  | .no, _ => trivial
  | .dat d, h => dpUp e d h
  | .raw _, h => h
  | .kn _, ⟨G0, h1, h2⟩ => ⟨G0, h1.trans e, h2⟩
abbrev Vks (K : PySem.W.Frag) (G : Hp) : List V → List Sv → Prop := Paired (Vk K G)
theorem Vks.up {K : PySem.W.Frag} {G G' : Hp} (e : Same G G') : ∀ {vs : List V} {rs : List Sv}, Vks K G vs rs → Vks K G' vs rs
  | _, _, .nil => .nil
  | _, _, .cons h t => .cons (Vk.up e h) (Vks.up e t)
theorem Vks.len {K : PySem.W.Frag} {G : Hp} {vs : List V} {rs : List Sv} (h : Vks K G vs rs) : vs.length = rs.length := Paired.length h
theorem Vks.app {K : PySem.W.Frag} {G : Hp} : ∀ {vs ws : List V} {rs qs : List Sv}, Vks K G vs rs → Vks K G ws qs → Vks K G (vs ++ ws) (rs ++ qs)
  | _, _, _, _, .nil, s => s
  | _, _, _, _, .cons h t, s => .cons h (Vks.app t s)
def So (K : PySem.W.Frag) (G : Hp) : Option V → Sv → Prop
  | _, .no => True
  | some v, .dat d => Dp K G v d
  | some v, .raw w => v = w
  | some v, .kn φ => ∃ G0, Same G0 G ∧ φ G0 v
  | none, .dat _ => False
  | none, .raw _ => False
  | none, .kn _ => False
theorem So.up {K : PySem.W.Frag} {G G' : Hp} (e : Same G G') {o : Option V} {r : Sv} (h : So K G o r) : So K G' o r := by
  cases o with
  | none => cases r <;> exact h
  | some v =>
    cases r with
    | no => trivial
    | dat d => exact dpUp e d h
    | raw w => exact h
    | kn φ =>
      obtain ⟨G0, h1, h2⟩ := h
      exact ⟨G0, h1.trans e, h2⟩
theorem So.some {K : PySem.W.Frag} {G : Hp} {v : V} {r : Sv} (h : Vk K G v r) : So K G (.some v) r := by
  cases r <;> exact h
inductive Sl (K : PySem.W.Frag) (G : Hp) : L2.St → List Sv → Prop
  | nil : Sl K G [] []
  | cons {o : Option V} {r : Sv} {σ : L2.St} {ds : List Sv} : So K G o r → Sl K G σ ds → Sl K G (o :: σ) (r :: ds)
section
variable {K : PySem.W.Frag} {G G' : Hp}
theorem Sl.up (e : Same G G') : ∀ {σ : L2.St} {ds : List Sv}, Sl K G σ ds → Sl K G' σ ds
  | _, _, .nil => .nil
  | _, _, .cons h t => .cons (So.up e h) (Sl.up e t)
theorem Sl.get : ∀ {σ : L2.St} {ds : List Sv} {i : Nat} {r : Sv}, Sl K G σ ds → ds[i]? = some r → ∃ o, σ[i]? = some o ∧ So K G o r
  | _, _, _, _, .nil, e => by simp at e
  | _, _, 0, _, .cons h _, e => by
    simp at e
    subst e
    exact ⟨_, rfl, h⟩
  | _, _, i + 1, _, .cons _ t, e => by
    obtain ⟨o, h1, h2⟩ := Sl.get (i := i) t (by simpa using e)
    exact ⟨o, by simpa using h1, h2⟩
theorem Sl.val {σ : L2.St} {ds : List Sv} {i : Nat} {r : Sv} (h : Sl K G σ ds) (e : ds[i]? = some r) (hr : r ≠ .no) : ∃ v, σ[i]? = some (some v) ∧ Vk K G v r := by
  obtain ⟨o, h1, h2⟩ := h.get e
  cases o with
  | none => cases r with
    | no => exact absurd rfl hr
    | dat _ => exact h2.elim
    | raw _ => exact h2.elim
    | kn _ => exact h2.elim
  | some v => cases r with
    | no => exact absurd rfl hr
    | dat _ => exact ⟨v, h1, h2⟩
    | raw _ => exact ⟨v, h1, h2⟩
    | kn _ => exact ⟨v, h1, h2⟩
theorem Sl.seto {o : Option V} {r : Sv} (hv : So K G o r) : ∀ {σ : L2.St} {ds : List Sv} (i : Nat), Sl K G σ ds → Sl K G (σ.set i o) (ds.set i r)
  | _, _, _, .nil => .nil
  | _, _, 0, .cons _ t => .cons hv t
  | _, _, i + 1, .cons h t => .cons h (Sl.seto hv i t)
theorem Sl.set {v : V} {r : Sv} {σ : L2.St} {ds : List Sv} (h : Sl K G σ ds) (i : Nat) (hv : Vk K G v r) : Sl K G (σ.set i (some v)) (ds.set i r) := h.seto (So.some hv) i
def wipeD (ds : List Sv) : List Nat → List Sv
  | [] => ds
  | v :: vs => (wipeD ds vs).set v .no
theorem Sl.wipe {σ : L2.St} {ds : List Sv} (h : Sl K G σ ds) : ∀ vs : List Nat, Sl K G (L2.wipe σ vs) (wipeD ds vs)
  | [] => h
  | v :: vs => (Sl.wipe h vs).seto (by trivial) v
theorem Sl.none : ∀ n : Nat, Sl K G (List.replicate n Option.none) (List.replicate n .no)
  | 0 => .nil
  | n + 1 => .cons (by trivial) (Sl.none n)
theorem Sl.app : ∀ {σ τ : L2.St} {ds es : List Sv}, Sl K G σ ds → Sl K G τ es → Sl K G (σ ++ τ) (ds ++ es)
  | _, _, _, _, .nil, s => s
  | _, _, _, _, .cons h t, s => .cons h (Sl.app t s)
theorem Sl.ofVks : ∀ {vs : List V} {rs : List Sv}, Vks K G vs rs → Sl K G (vs.map some) rs
  | _, _, .nil => .nil
  | _, _, .cons h t => .cons (So.some h) (Sl.ofVks t)
/-- a def's slots at its start -/
def startD (n : Nat) (rs : List Sv) : List Sv := rs ++ List.replicate (n - rs.length) .no
theorem Sl.start {N : List Str} {vs : List V} {rs : List Sv} (h : Vks K G vs rs) : Sl K G (L2.start N vs) (startD N.length rs) := by
  unfold L2.start startD
  rw [h.len]
  exact Sl.app (Sl.ofVks h) (Sl.none _)
end

/-! ### the mutable objects at hand, and the rest -/
/-- what is known of an object that may change -/
inductive MO where
  | lst (rs : List Sv) | any (o : HO)
def MoK (K : PySem.W.Frag) (G : Hp) : MO → HO → Prop
  | .lst rs, .lst vs => Vks K G vs rs
  | .any o, o' => o = o'
  | _, _ => False
theorem MoK.up {K : PySem.W.Frag} {G G' : Hp} (e : Same G G') : ∀ {m : MO} {o : HO}, MoK K G m o → MoK K G' m o := fun {m o} h => by
  cases m with
  | any _ => exact h
  | lst rs =>
    cases o with
    | lst vs => exact Vks.up e h
    | _ => exact h
theorem MoK.lst_of {K : PySem.W.Frag} {G : Hp} {rs : List Sv} {o : HO} (h : MoK K G (.lst rs) o) : ∃ vs, o = .lst vs ∧ Vks K G vs rs := by
  cases o with
  | lst vs => exact ⟨vs, rfl, h⟩
  | _ => exact h.elim
abbrev Ms := List (Addr × MO)
/-- G: what stays; H: all; M: what may change -/
structure Wo (K : PySem.W.Frag) (M : Ms) (G H : Hp) : Prop where
  ex : Same G H
  mu : ∀ p ∈ M, (∃ o, H p.1 = some o ∧ MoK K G p.2 o) ∧ G p.1 = none
  nd : (M.map (·.1)).Nodup
  nt : ∀ a ps, G a ≠ some (.tbl ps)
structure Po (K : PySem.W.Frag) (M M' : Ms) (G H G' H' : Hp) : Prop where
  g : Same G G'
  w : Wo K M' G' H'
  fr : ∀ a o, H a = some o → (∀ p ∈ M, p.1 ≠ a) → H' a = some o
  th : ∀ a, H a ≠ none → H' a ≠ none
  nn : ∀ a, H a ≠ none → G a = none → G' a = none
  ad : ∀ p ∈ M', (∃ q ∈ M, q.1 = p.1) ∨ H p.1 = none
section
variable {K : PySem.W.Frag}
theorem Po.refl {M : Ms} {G H : Hp} (w : Wo K M G H) : Po K M M G H G H :=
  ⟨Same.refl _, w, fun _ _ h _ => h, fun _ h => h, fun _ _ h => h, fun p hp => .inl ⟨p, hp, rfl⟩⟩
theorem Po.trans {M M1 M2 : Ms} {G H G1 H1 G2 H2 : Hp} (a : Po K M M1 G H G1 H1) (b : Po K M1 M2 G1 H1 G2 H2) : Po K M M2 G H G2 H2 where
  g := a.g.trans b.g
  w := b.w
  fr := fun x o h hm => b.fr x o (a.fr x o h hm) fun p hp e => by
    rcases a.ad p hp with ⟨q, hq, e2⟩ | e2
    · exact hm q hq (e2.trans e)
    · rw [e, h] at e2; cases e2
  th := fun x h => b.th x (a.th x h)
  nn := fun x h n => b.nn x (a.th x h) (a.nn x h n)
  ad := fun p hp => by
    rcases b.ad p hp with ⟨q, hq, e⟩ | e
    · rcases a.ad q hq with ⟨r, hr, e2⟩ | e2
      · exact .inl ⟨r, hr, e2.trans e⟩
      · right; rw [← e]; exact e2
    · right
      cases q : H p.1 with
      | none => rfl
      | some o => exact absurd e (a.th p.1 (by rw [q]; simp))
theorem Wo.gnone {M : Ms} {G H : Hp} (w : Wo K M G H) {p : Addr} (h : H p = none) : G p = none := by
  cases q : G p with
  | none => rfl
  | some o => rw [w.ex p o q] at h; cases h
/-- a new thing, known from now on -/
theorem Po.new {M : Ms} {G H : Hp} (w : Wo K M G H) {p : Addr} (h : H p = none) (o : HO) (ho : ∀ ps, o ≠ .tbl ps := by intro _ z; cases z) : Po K M M G H (upd G p o) (upd H p o) := by
  have g : Same G (upd G p o) := fun a u e => by rw [upd_ne (ne_of_none e (w.gnone h))]; exact e
  refine ⟨g, ⟨fun a u e => ?_, fun q hq => ?_, w.nd, fun a ps e => by
    by_cases ha : a = p
    · subst ha; rw [upd_same] at e; exact ho ps (Option.some.inj e)
    · rw [upd_ne ha] at e; exact w.nt a ps e⟩, fun a u e _ => by rw [upd_ne (ne_of_none e h)]; exact e, fun a e => ?_, fun a e n => ?_, fun q hq => .inl ⟨q, hq, rfl⟩⟩
  · by_cases ha : a = p
    · subst ha; rw [upd_same] at e ⊢; exact e
    · rw [upd_ne ha] at e ⊢; exact w.ex a u e
  · obtain ⟨⟨oq, e1, e2⟩, e3⟩ := w.mu q hq
    have ne := ne_of_none e1 h
    rw [upd_ne ne, upd_ne ne]
    exact ⟨⟨oq, e1, e2.up g⟩, e3⟩
  · by_cases ha : a = p
    · subst ha; exact absurd h e
    · rw [upd_ne ha]; exact e
  · have ha : a ≠ p := fun z => e (by rw [z]; exact h)
    rw [upd_ne ha]; exact n
/-- a new thing that may change -/
theorem Po.mnew {M : Ms} {G H : Hp} (w : Wo K M G H) {p : Addr} (h : H p = none) {o : HO} {m : MO} (hm : MoK K G m o) : Po K M ((p, m) :: M) G H G (upd H p o) where
  g := Same.refl _
  w := ⟨fun a u e => by rw [upd_ne (ne_of_none (w.ex a u e) h)]; exact w.ex a u e,
    fun q hq => by
      rcases List.mem_cons.mp hq with e | hq
      · subst e; exact ⟨⟨o, upd_same, hm⟩, w.gnone h⟩
      · obtain ⟨⟨oq, e1, e2⟩, e3⟩ := w.mu q hq
        rw [upd_ne (ne_of_none e1 h)]; exact ⟨⟨oq, e1, e2⟩, e3⟩,
    List.nodup_cons.mpr ⟨(fun hm => by
      obtain ⟨q, hq, e⟩ := List.mem_map.mp hm
      obtain ⟨⟨oq, e1, _⟩, _⟩ := w.mu q hq
      rw [e, h] at e1
      cases e1), w.nd⟩, w.nt⟩
  fr := fun a u e _ => by rw [upd_ne (ne_of_none e h)]; exact e
  th := fun a e => by
    by_cases ha : a = p
    · subst ha; exact absurd h e
    · rw [upd_ne ha]; exact e
  nn := fun a e n => n
  ad := fun q hq => by
    rcases List.mem_cons.mp hq with e | hq
    · subst e; exact .inr h
    · exact .inl ⟨q, hq, rfl⟩
/-- one of the changing things changes -/
theorem Po.mput {A C : Ms} {G H : Hp} {p : Addr} {m m' : MO} {o' : HO} (w : Wo K (A ++ (p, m) :: C) G H) (hm : MoK K G m' o') : Po K (A ++ (p, m) :: C) (A ++ (p, m') :: C) G H G (upd H p o') where
  g := Same.refl _
  w := by
    have hp := w.mu (p, m) (by simp)
    have nd := w.nd
    have other : ∀ q ∈ A ++ C, q.1 ≠ p := fun q hq e => by
      rw [List.map_append, List.map_cons] at nd
      have h2 := List.nodup_append.mp nd
      obtain ⟨_, h3, h4⟩ := h2
      rcases List.mem_append.mp hq with hq | hq
      · exact h4 q.1 (List.mem_map.mpr ⟨q, hq, rfl⟩) p (by simp) e
      · have h5 := (List.nodup_cons.mp h3).1
        exact h5 (by rw [← e]; exact List.mem_map.mpr ⟨q, hq, rfl⟩)
    refine ⟨fun a u e => ?_, fun q hq => ?_, by simpa using nd, w.nt⟩
    · have ne : a ≠ p := ne_of_none e hp.2
      rw [upd_ne ne]; exact w.ex a u e
    · by_cases e : q.1 = p
      · have : q = (p, m') := by
          rcases List.mem_append.mp hq with h | h
          · exact absurd e (other q (List.mem_append_left _ h))
          · rcases List.mem_cons.mp h with h | h
            · exact h
            · exact absurd e (other q (List.mem_append_right _ h))
        subst this
        exact ⟨⟨o', upd_same, hm⟩, hp.2⟩
      · rw [upd_ne e]
        refine w.mu q ?_
        rcases List.mem_append.mp hq with h | h
        · exact List.mem_append_left _ h
        · rcases List.mem_cons.mp h with h | h
          · subst h; exact absurd rfl e
          · exact List.mem_append_right _ (List.mem_cons_of_mem _ h)
  fr := fun a u e hm => by
    have ne : a ≠ p := fun z => hm (p, m) (by simp) z.symm
    rw [upd_ne ne]; exact e
  th := fun a e => by
    by_cases ha : a = p
    · subst ha; rw [upd_same]; simp
    · rw [upd_ne ha]; exact e
  nn := fun a e n => n
  ad := fun q hq => by
    rcases List.mem_append.mp hq with h | h
    · exact .inl ⟨q, List.mem_append_left _ h, rfl⟩
    · rcases List.mem_cons.mp h with h | h
      · subst h; exact .inl ⟨(p, m), by simp, rfl⟩
      · exact .inl ⟨q, List.mem_append_right _ (List.mem_cons_of_mem _ h), rfl⟩
theorem Wo.lst {A C : Ms} {G H : Hp} {p : Addr} {rs : List Sv} (w : Wo K (A ++ (p, .lst rs) :: C) G H) : ∃ vs, H p = some (.lst vs) ∧ Vks K G vs rs ∧ G p = none := by
  obtain ⟨⟨o, h1, h2⟩, h3⟩ := w.mu (p, .lst rs) (by simp)
  obtain ⟨vs, e, h4⟩ := h2.lst_of
  subst e
  exact ⟨vs, h1, h4, h3⟩
/-- the first of the changing things is changing no more: forgotten, or known from now on -/
theorem Po.drop {M M' : Ms} {p : Addr × MO} {G H G' H' : Hp} (a : Po K M (p :: M') G H G' H') : Po K M M' G H G' H' :=
  ⟨a.g, ⟨a.w.ex, fun q hq => a.w.mu q (List.mem_cons_of_mem _ hq), (List.nodup_cons.mp a.w.nd).2, a.w.nt⟩, a.fr, a.th, a.nn, fun q hq => a.ad q (List.mem_cons_of_mem _ hq)⟩
theorem Po.freeze {M M' : Ms} {p : Addr} {m : MO} {o : HO} {G H G' H' : Hp} (a : Po K M ((p, m) :: M') G H G' H') (ho : H' p = some o) (hn : H p = none) (htb : ∀ ps, o ≠ .tbl ps := by intro _ z; cases z) : Po K M M' G H (upd G' p o) H' := by
  have gp : G' p = none := (a.w.mu (p, m) (by simp)).2
  have g : Same G' (upd G' p o) := fun x u e => by rw [upd_ne (ne_of_none e gp)]; exact e
  refine ⟨a.g.trans g, ⟨fun x u e => ?_, fun q hq => ?_, (List.nodup_cons.mp a.w.nd).2, fun x ps e => by
    by_cases hx : x = p
    · subst hx; rw [upd_same] at e; exact htb ps (Option.some.inj e)
    · rw [upd_ne hx] at e; exact a.w.nt x ps e⟩, a.fr, a.th, fun x h n => ?_, fun q hq => a.ad q (List.mem_cons_of_mem _ hq)⟩
  · by_cases hx : x = p
    · subst hx; rw [upd_same] at e; rw [ho]; exact e
    · rw [upd_ne hx] at e; exact a.w.ex x u e
  · obtain ⟨⟨oq, e1, e2⟩, e3⟩ := a.w.mu q (List.mem_cons_of_mem _ hq)
    have ne : q.1 ≠ p := fun z => (List.nodup_cons.mp a.w.nd).1 (List.mem_map.mpr ⟨q, hq, z⟩)
    rw [upd_ne ne]; exact ⟨⟨oq, e1, e2.up g⟩, e3⟩
  · have : x ≠ p := fun z => h (by rw [z]; exact hn)
    rw [upd_ne this]; exact a.nn x h n
end
end Cal
/-! CalB -/
namespace Cal
open PySem PySem.Spec PyProof.Rows L2

/-! ### what an expression, a row of them, a test comes to -/
def cE (K : PySem.W.Frag) (ds : List Sv) (M : Ms) (r : Sv) (M' : Ms) : TE := fun σ H Q => ∃ G, Wo K M G H ∧ Sl K G σ ds ∧ ∀ v G' H', Po K M M' G H G' H' → Vk K G' v r → Q v H'
def cA (K : PySem.W.Frag) (ds : List Sv) (M : Ms) (rs : List Sv) (M' : Ms) : TA := fun σ H Q => ∃ G, Wo K M G H ∧ Sl K G σ ds ∧ ∀ vs G' H', Po K M M' G H G' H' → Vks K G' vs rs → Q vs H'
def cT (K : PySem.W.Frag) (ds : List Sv) (M : Ms) (b : Bool) (M' : Ms) : TT := fun σ H Q => ∃ G, Wo K M G H ∧ Sl K G σ ds ∧ ∀ G' H', Po K M M' G H G' H' → Q b H'
abbrev PD (X : Cx) (ds : List Sv) (M : Ms) (e : Expr) (r : Sv) (M' : Ms) : Prop := PE X e (cE X.K ds M r M')
abbrev PDA (X : Cx) (ds : List Sv) (M : Ms) (es : List Expr) (rs : List Sv) (M' : Ms) : Prop := PA X es (cA X.K ds M rs M')
abbrev PDT (X : Cx) (ds : List Sv) (M : Ms) (e : Expr) (b : Bool) (M' : Ms) : Prop := PT X e (cT X.K ds M b M')
abbrev PDW (X : Cx) (ds : List Sv) (M : Ms) (e : Expr) (b : Bool) (M' : Ms) : Prop := PW X e (cT X.K ds M b M')
section
variable {X : Cx} {ds : List Sv} {M M' M1 M2 M3 : Ms} {a b c e : Expr} {es : List Expr} {r ra rb : Sv} {rs : List Sv} {i j : Int} {pos : Pos}
theorem pe_mono {t t' : TE} (h : PE X e t) (k : ∀ σ H Q, t' σ H Q → t σ H Q) : PE X e t' := ⟨fun pins s σ H Q I q => h.run pins s σ H Q I (k σ H Q q)⟩
theorem pa_mono {t t' : TA} (h : PA X es t) (k : ∀ σ H Q, t' σ H Q → t σ H Q) : PA X es t' := ⟨fun pos pins s σ H Q I q => h.run pos pins s σ H Q I (k σ H Q q)⟩
theorem pt_mono {t t' : TT} (h : PT X e t) (k : ∀ σ H Q, t' σ H Q → t σ H Q) : PT X e t' := ⟨fun pins s σ H Q I q => h.run pins s σ H Q I (k σ H Q q)⟩
theorem pw_mono {t t' : TT} (h : PW X e t) (k : ∀ σ H Q, t' σ H Q → t σ H Q) : PW X e t' := ⟨fun w pins s σ H Q I q => h.run w pins s σ H Q I (k σ H Q q)⟩
theorem pd_to {r' : Sv} (h : PD X ds M e r M') (q : r = r') : PD X ds M e r' M' := q ▸ h
theorem pdt_to {b b' : Bool} (h : PDT X ds M e b M') (q : b = b') : PDT X ds M e b' M' := q ▸ h
theorem pe_no : PE X e (fun _ _ _ => False) := ⟨fun _ _ _ _ _ _ h => h.elim⟩
theorem pt_no : PT X e (fun _ _ _ => False) := ⟨fun _ _ _ _ _ _ h => h.elim⟩
theorem pw_no : PW X e (fun _ _ _ => False) := ⟨fun _ _ _ _ _ _ _ h => h.elim⟩

/-! ### names, constants -/
theorem pd_var (i : Nat) {x : Str} (h : ds[i]? = some r := by rfl) (hr : r ≠ .no := by (intro z; cases z)) (hN : X.N[i]? = some x := by rfl) (hv : Vis X.env.scope x := by first | exact Or.inl rfl | exact Or.inr (Or.inl rfl) | exact Or.inr (Or.inr rfl))
    (hd : (x == ("__debug__" : Str)) = false := by decide) (hcd : (x == ("__classdict__" : Str)) = false := by decide) : PD X ds M (.Name x pos) r M :=
  pe_mono (pv i hN hv hd hcd) fun σ H Q ⟨G, w, s, k⟩ => by
    obtain ⟨v, e1, e2⟩ := s.val h hr
    exact ⟨v, e1, k v G H (Po.refl w) e2⟩
theorem pd_c {v : V} (h : PE X e (tC v)) (hv : ∀ G, Vk X.K G v r) : PD X ds M e r M := pe_mono h fun σ H Q ⟨G, w, s, k⟩ => k v G H (Po.refl w) (hv G)
theorem pd_int {k : Nat} : PD X ds M (.Constant (.int i) k pos) (I i) M := pd_c pe_int fun _ => .int _
theorem pd_bl {k : Nat} {b : Bool} : PD X ds M (.Constant (.bool b) k pos) (B b) M := pd_c pe_bl fun _ => .bl _
theorem pd_non {k : Nat} : PD X ds M (.Constant .none k pos) (.dat .none) M := pd_c pe_non fun _ => .non
theorem pd_str {k : Nat} {x : Str} : PD X ds M (.Constant (.str x) k pos) (.dat (.str x)) M := pd_c pe_str fun _ => .str _
/-- a name of the module that holds a known value -/
theorem pd_glob {x : Str} {v : V} {u : Value} (hm : X.mg x = some u) (rv : RelV v u) (hv : ∀ G, Vk X.K G v r) (hg : Gl X x := by rfl) (hd : (x == ("__debug__" : Str)) = false := by decide) : PD X ds M (.Name x pos) r M := pd_c (pe_glob hg hm rv hd) hv

/-! ### two places -/
theorem ce_bin {K : PySem.W.Frag} {r2 : R2} (h : ∀ G H x y (Q : VK), Wo K M2 G H → Vk K G x ra → Vk K G y rb → (∀ v G' H', Po K M2 M3 G H G' H' → Vk K G' v r → Q v H') → r2 x y H Q) {σ : L2.St} {H : Hp} {Q : VK} (q : cE K ds M r M3 σ H Q) :
    tOp r2 (cE K ds M ra M1) (cE K ds M1 rb M2) σ H Q := by
  obtain ⟨G, w, s, k⟩ := q
  exact ⟨G, w, s, fun x G1 H1 p1 vx => ⟨G1, p1.w, s.up p1.g, fun y G2 H2 p2 vy => h G2 H2 x y _ p2.w (vx.up p2.g) vy fun v G' H' p3 hv => k v G' H' (p1.trans (p2.trans p3)) hv⟩⟩
/-- .. a value alone comes out -/
theorem ce_op {K : PySem.W.Frag} {r2 : R2} (h : ∀ G H x y (Q : VK), Vk K G x ra → Vk K G y rb → (∀ v, Vk K G v r → Q v H) → r2 x y H Q) {σ : L2.St} {H : Hp} {Q : VK} (q : cE K ds M r M2 σ H Q) :
    tOp r2 (cE K ds M ra M1) (cE K ds M1 rb M2) σ H Q :=
  ce_bin (fun G H x y Q w hx hy k => h G H x y Q hx hy fun v hv => k v G H (Po.refl w) hv) q
theorem vk_int {K : PySem.W.Frag} {G : Hp} {v : V} (h : Vk K G v (I i)) : v = .int i := by
  have h' : Dp K G v (.int i) := h
  cases h'
  rfl
theorem vk_bl {K : PySem.W.Frag} {G : Hp} {v : V} {b : Bool} (h : Vk K G v (B b)) : v = .bl b := by
  have h' : Dp K G v (.bool b) := h
  cases h'
  rfl
theorem vk_str {K : PySem.W.Frag} {G : Hp} {v : V} {x : Str} (h : Vk K G v (.dat (.str x))) : v = .str x := by
  have h' : Dp K G v (.str x) := h
  cases h'
  rfl
theorem vk_tup {K : PySem.W.Frag} {G : Hp} {v : V} {xs : List D} (h : Vk K G v (.dat (.tuple xs))) : ∃ p vs, v = .ref p ∧ SqT K G p vs ∧ DpAll K G vs xs := by
  have h' : Dp K G v (.tuple xs) := h
  cases h' with
  | tup h1 h2 => exact ⟨_, _, rfl, h1, h2⟩
theorem vk_lst {K : PySem.W.Frag} {G : Hp} {v : V} {xs : List D} (h : Vk K G v (.dat (.list xs))) : ∃ p vs, v = .ref p ∧ SqL K G p vs ∧ DpAll K G vs xs := by
  have h' : Dp K G v (.list xs) := h
  cases h' with
  | lst h1 h2 => exact ⟨_, _, rfl, h1, h2⟩
theorem dps_len {K : PySem.W.Frag} {G : Hp} : ∀ {xs : List D} {vs : List V}, DpAll K G vs xs → vs.length = xs.length
  | [], _, h => by cases h; rfl
  | d :: ds, _, h => by
    cases h with
    | cons h1 h2 => rw [List.length_cons, List.length_cons, dps_len h2]
theorem dps_get {K : PySem.W.Frag} {G : Hp} : ∀ {xs : List D} {vs : List V} {i : Nat} {d : D}, DpAll K G vs xs → xs[i]? = some d → ∃ v, vs[i]? = some v ∧ Dp K G v d
  | [], _, _, _, h, e => by simp at e
  | x :: xs, _, i, d, h, e => by
    cases h with
    | cons h1 h2 =>
      cases i with
      | zero =>
        simp at e
        subst e
        exact ⟨_, rfl, h1⟩
      | succ i =>
        obtain ⟨v, e1, e2⟩ := dps_get (i := i) h2 (by simpa using e)
        exact ⟨v, by simpa using e1, e2⟩
theorem dps_at {K : PySem.W.Frag} {G : Hp} {xs : List D} {vs : List V} {i : Int} {d : D} (h : DpAll K G vs xs) (e : atI xs i = some d) : ∃ v, atI vs i = some v ∧ Dp K G v d := by
  unfold atI at e ⊢
  rw [dps_len h]
  cases q : ixN xs.length i with
  | none => rw [q] at e; cases e
  | some j =>
    rw [q] at e
    exact dps_get h e
theorem dps_app {K : PySem.W.Frag} {G : Hp} : ∀ {xs ys : List D} {vs ws : List V}, DpAll K G vs xs → DpAll K G ws ys → DpAll K G (vs ++ ws) (xs ++ ys)
  | [], _, _, _, h, k => by cases h; exact k
  | x :: xs, _, _, _, h, k => by
    cases h with
    | cons h1 h2 => exact .cons h1 (dps_app h2 k)
theorem dps_take {K : PySem.W.Frag} {G : Hp} : ∀ {xs : List D} {vs : List V} (n : Nat), DpAll K G vs xs → DpAll K G (vs.take n) (xs.take n)
  | [], _, n, h => by cases h; simpa using DpAll.nil
  | x :: xs, _, n, h => by
    cases h with
    | cons h1 h2 => cases n with
      | zero => exact .nil
      | succ n => exact .cons h1 (dps_take n h2)
theorem dps_drop {K : PySem.W.Frag} {G : Hp} : ∀ {xs : List D} {vs : List V} (n : Nat), DpAll K G vs xs → DpAll K G (vs.drop n) (xs.drop n)
  | [], _, n, h => by cases h; simpa using DpAll.nil
  | x :: xs, _, n, h => by
    cases h with
    | cons h1 h2 => cases n with
      | zero => exact .cons h1 h2
      | succ n => exact dps_drop n h2

theorem pd_add (ha : PD X ds M a (I i) M1) (hb : PD X ds M1 b (I j) M2) : PD X ds M (.BinOp a .Add b pos) (I (i + j)) M2 := pe_mono (pe_op op_add ha hb) fun σ H Q q => ce_op (fun G H x y Q hx hy k => ⟨i, j, vk_int hx, vk_int hy, k _ (.int _)⟩) q
theorem pd_sub (ha : PD X ds M a (I i) M1) (hb : PD X ds M1 b (I j) M2) : PD X ds M (.BinOp a .Sub b pos) (I (i - j)) M2 := pe_mono (pe_op op_sub ha hb) fun σ H Q q => ce_op (fun G H x y Q hx hy k => ⟨i, j, vk_int hx, vk_int hy, k _ (.int _)⟩) q
theorem pd_mul (ha : PD X ds M a (I i) M1) (hb : PD X ds M1 b (I j) M2) (hc : CMul i j) : PD X ds M (.BinOp a .Mult b pos) (I (i * j)) M2 := pe_mono (pe_op op_mul ha hb) fun σ H Q q => ce_op (fun G H x y Q hx hy k => ⟨i, j, vk_int hx, vk_int hy, hc, k _ (.int _)⟩) q
theorem pd_fdiv (ha : PD X ds M a (I i) M1) (hb : PD X ds M1 b (I j) M2) (hc : CDivN i j) : PD X ds M (.BinOp a .FloorDiv b pos) (I (i.fdiv j)) M2 := pe_mono (pe_op op_fdivN ha hb) fun σ H Q q => ce_op (fun G H x y Q hx hy k => ⟨i, j, vk_int hx, vk_int hy, hc, k _ (.int _)⟩) q
theorem pd_mod (ha : PD X ds M a (I i) M1) (hb : PD X ds M1 b (I j) M2) (hc : 0 < j) : PD X ds M (.BinOp a .Mod b pos) (I (i % j)) M2 := pe_mono (pe_op op_mod ha hb) fun σ H Q q => ce_op (fun G H x y Q hx hy k => ⟨i, j, vk_int hx, vk_int hy, hc, k _ (.int _)⟩) q
theorem pd_pow (ha : PD X ds M a (I i) M1) (hb : PD X ds M1 b (I j) M2) (hc : CPow i j) : PD X ds M (.BinOp a .Pow b pos) (I (i ^ j.toNat)) M2 := pe_mono (pe_op op_pow ha hb) fun σ H Q q => ce_op (fun G H x y Q hx hy k => ⟨i, j, vk_int hx, vk_int hy, hc, k _ (.int _)⟩) q
theorem pd_adds {x y : Str} (ha : PD X ds M a (.dat (.str x)) M1) (hb : PD X ds M1 b (.dat (.str y)) M2) (hl : x.length + y.length ≤ sizeLine) : PD X ds M (.BinOp a .Add b pos) (.dat (.str (x ++ y))) M2 :=
  pe_mono (pe_op op_add_str ha hb) fun σ H Q q => ce_op (fun G H u v Q hx hy k => ⟨x, y, vk_str hx, vk_str hy, hl, k _ (.str _)⟩) q
theorem pd_neg (ha : PD X ds M a (I i) M1) : PD X ds M (.UnaryOp .USub a pos) (I (-i)) M1 := pe_mono (pe_un un_neg ha) fun σ H Q ⟨G, w, s, k⟩ => ⟨G, w, s, fun v G' H' p hv => ⟨i, vk_int hv, k _ G' H' p (.int _)⟩⟩
theorem pd_lt (ha : PD X ds M a (I i) M1) (hb : PD X ds M1 b (I j) M2) : PD X ds M (.Compare a [.Lt] [b] pos) (B (decide (i < j))) M2 := pe_mono (pe_cmpR op_lt ha hb (nomark _)) fun σ H Q q => ce_op (fun G H x y Q hx hy k => ⟨i, j, vk_int hx, vk_int hy, k _ (.bl _)⟩) q
theorem pd_le (ha : PD X ds M a (I i) M1) (hb : PD X ds M1 b (I j) M2) : PD X ds M (.Compare a [.LtE] [b] pos) (B (decide (i ≤ j))) M2 := pe_mono (pe_cmpR op_le ha hb (nomark _)) fun σ H Q q => ce_op (fun G H x y Q hx hy k => ⟨i, j, vk_int hx, vk_int hy, k _ (.bl _)⟩) q
theorem pd_gt (ha : PD X ds M a (I i) M1) (hb : PD X ds M1 b (I j) M2) : PD X ds M (.Compare a [.Gt] [b] pos) (B (decide (j < i))) M2 := pe_mono (pe_cmpR op_gt ha hb (nomark _)) fun σ H Q q => ce_op (fun G H x y Q hx hy k => ⟨i, j, vk_int hx, vk_int hy, k _ (.bl _)⟩) q
theorem pd_ge (ha : PD X ds M a (I i) M1) (hb : PD X ds M1 b (I j) M2) : PD X ds M (.Compare a [.GtE] [b] pos) (B (decide (j ≤ i))) M2 := pe_mono (pe_cmpR op_ge ha hb (nomark _)) fun σ H Q q => ce_op (fun G H x y Q hx hy k => ⟨i, j, vk_int hx, vk_int hy, k _ (.bl _)⟩) q
/-- == and != of data -/
theorem pd_eq {d d' : D} (hu : X.A.units + 64 < cLine) (ha : PD X ds M a (.dat d) M1) (hb : PD X ds M1 b (.dat d') M2) (h1 : SeqAt.shaped d = true) (h2 : SeqAt.shaped d' = true) : PD X ds M (.Compare a [.Eq] [b] pos) (B (PyData.eqv d d')) M2 :=
  pe_mono (pe_cmpR (op_eqD hu) ha hb (nomark _)) fun σ H Q q => ce_bin (fun G H x y Q w hx hy k => ⟨d, d', dpUp w.ex d hx, dpUp w.ex d' hy, h1, h2, k _ G H (Po.refl w) (.bl _)⟩) q
theorem pd_ne {d d' : D} (hu : X.A.units + 64 < cLine) (ha : PD X ds M a (.dat d) M1) (hb : PD X ds M1 b (.dat d') M2) (h1 : SeqAt.shaped d = true) (h2 : SeqAt.shaped d' = true) : PD X ds M (.Compare a [.NotEq] [b] pos) (B (!PyData.eqv d d')) M2 :=
  pe_mono (pe_cmpR (op_neD hu) ha hb (nomark _)) fun σ H Q q => ce_bin (fun G H x y Q w hx hy k => ⟨d, d', dpUp w.ex d hx, dpUp w.ex d' hy, h1, h2, k _ G H (Po.refl w) (.bl _)⟩) q
/-- is None -/
def isNon : D → Bool
  | .none => true
  | _ => false
theorem vk_non {K : PySem.W.Frag} {G : Hp} {v : V} {d : D} (h : Vk K G v (.dat d)) : decide (v = .non) = isNon d := by
  have h' : Dp K G v d := h
  cases h' <;> simp [isNon]
theorem pd_isN {d : D} (ha : PD X ds M a (.dat d) M1) {k p' } : PD X ds M (.Compare a [.Is] [.Constant .none k p'] pos) (B (isNon d)) M1 :=
  pe_mono (pe_cmpR op_isN ha (pd_non (ds := ds) (M := M1)) (nomark _)) fun σ H Q q => ce_op (fun G H x y Q hx hy k => ⟨by
    have h' : Dp X.K G y .none := hy
    cases h'; rfl, by rw [vk_non hx]; exact k _ (.bl _)⟩) q
theorem pd_notN {d : D} (ha : PD X ds M a (.dat d) M1) {k p' } : PD X ds M (.Compare a [.IsNot] [.Constant .none k p'] pos) (B (!isNon d)) M1 :=
  pe_mono (pe_cmpR op_notN ha (pd_non (ds := ds) (M := M1)) (nomark _)) fun σ H Q q => ce_op (fun G H x y Q hx hy k => ⟨by
    have h' : Dp X.K G y .none := hy
    cases h'; rfl, by rw [vk_non hx]; exact k _ (.bl _)⟩) q

/-! ### items -/
theorem pd_ixT {xs : List D} {d : D} (ha : PD X ds M a (.dat (.tuple xs)) M1) (hb : PD X ds M1 b (I i) M2) (h : atI xs i = some d := by rfl) (hs : PlainIx b := by exact fun _ _ => rfl) : PD X ds M (.Subscript a b pos) (.dat d) M2 :=
  pe_mono (pe_ix ix_tup ha hb hs) fun σ H Q q => ce_bin (fun G H x y Q w hx hy k => by
    obtain ⟨p, vs, e, h1, h2⟩ := vk_tup hx
    obtain ⟨v, e1, e2⟩ := dps_at h2 h
    exact ⟨p, vs, i, v, e, vk_int hy, seqT w.ex h1, e1, k v G H (Po.refl w) e2⟩) q
theorem pd_ixL {xs : List D} {d : D} (ha : PD X ds M a (.dat (.list xs)) M1) (hb : PD X ds M1 b (I i) M2) (h : atI xs i = some d := by rfl) (hs : PlainIx b := by exact fun _ _ => rfl) : PD X ds M (.Subscript a b pos) (.dat d) M2 :=
  pe_mono (pe_ix ix_list ha hb hs) fun σ H Q q => ce_bin (fun G H x y Q w hx hy k => by
    obtain ⟨p, vs, e, h1, h2⟩ := vk_lst hx
    obtain ⟨v, e1, e2⟩ := dps_at h2 h
    exact ⟨p, vs, i, v, e, vk_int hy, w.ex.seq h1, e1, k v G H (Po.refl w) e2⟩) q

/-! ### rows of expressions, displays -/
theorem pda_nil : PDA X ds M [] [] M := pa_mono pa_nil fun σ H Q ⟨G, w, s, k⟩ => k [] G H (Po.refl w) .nil
theorem pda_cons (he : PD X ds M e r M1) (hr : PDA X ds M1 es rs M2) (hs : starEach (e :: es) X.env = (false, eval e X.env) :: starEach es X.env := by rfl) : PDA X ds M (e :: es) (r :: rs) M2 :=
  pa_mono (pa_cons he hr hs) fun σ H Q ⟨G, w, s, k⟩ => ⟨G, w, s, fun v G1 H1 p1 hv => ⟨G1, p1.w, s.up p1.g, fun vs G2 H2 p2 hvs => k (v :: vs) G2 H2 (p1.trans p2) (.cons (hv.up p2.g) hvs)⟩⟩
/-- data alone -/
def dats (xs : List D) : List Sv := xs.map .dat
theorem vks_dats {K : PySem.W.Frag} {G : Hp} : ∀ {xs : List D} {vs : List V}, Vks K G vs (dats xs) → DpAll K G vs xs
  | [], _, h => by cases h; exact .nil
  | x :: xs, _, h => by
    cases h with
    | cons h1 h2 => exact .cons h1 (vks_dats h2)
theorem pd_tup {xs : List D} {k : Nat} (h : PDA X ds M es rs M1) (hx : rs = dats xs := by rfl) (hl : xs.length ≤ 1000 := by exact Nat.le_of_ble_eq_true rfl) : PD X ds M (.Tuple es k pos) (.dat (.tuple xs)) M1 :=
  pe_mono (pe_tup h) fun σ H Q ⟨G, w, s, q⟩ => ⟨G, w, s, fun vs G' H' p hv => by
    subst hx
    have hd := vks_dats hv
    have hlen := dps_len hd
    refine ⟨by rw [hlen]; exact Nat.le_of_lt (small1000 hl), fun a ha => ?_⟩
    have p2 := Po.new p.w ha (.tup vs)
    exact q _ _ _ (p.trans p2) (Dp.tup (SqT.of upd_same) (dpsUp p2.g xs hd))⟩
theorem pd_lst {xs : List D} (h : PDA X ds M es rs M1) (hx : rs = dats xs := by rfl) (hl : xs.length ≤ 1000 := by exact Nat.le_of_ble_eq_true rfl) : PD X ds M (.List es pos) (.dat (.list xs)) M1 :=
  pe_mono (pe_lst h) fun σ H Q ⟨G, w, s, q⟩ => ⟨G, w, s, fun vs G' H' p hv => by
    subst hx
    have hd := vks_dats hv
    have hlen := dps_len hd
    refine ⟨by rw [hlen]; exact Nat.le_of_lt (small1000 hl), fun a ha => ?_⟩
    have p2 := Po.new p.w ha (.lst vs)
    exact q _ _ _ (p.trans p2) (Dp.lst (SqL.of upd_same) (dpsUp p2.g xs hd))⟩

/-! ### tests -/
theorem pdt_val {b : Bool} (h : PD X ds M e (B b) M1) (he : ∀ whole, isTrue e X.env whole = (do let v ← whole; standAt e.pos; holding [v] (truthy v)) := by intro _; rfl) : PDT X ds M e b M1 :=
  pt_mono (pt_val h he) fun σ H Q ⟨G, w, s, k⟩ => ⟨G, w, s, fun v G' H' p hv => ⟨b, vk_bl hv, k G' H' p⟩⟩
/-- a comparison -/
theorem pdt_lt (ha : PD X ds M a (I i) M1) (hb : PD X ds M1 b (I j) M2) : PDT X ds M (.Compare a [.Lt] [b] pos) (decide (i < j)) M2 := pt_mono (pt_cmpR op_lt ha hb (nomark _)) fun σ H Q ⟨G, w, s, k⟩ => ce_op (r := B (decide (i < j))) (fun G H x y Q hx hy k => ⟨i, j, vk_int hx, vk_int hy, k _ (.bl _)⟩) ⟨G, w, s, fun v G' H' p hv => ⟨_, vk_bl hv, k G' H' p⟩⟩
theorem pdt_le (ha : PD X ds M a (I i) M1) (hb : PD X ds M1 b (I j) M2) : PDT X ds M (.Compare a [.LtE] [b] pos) (decide (i ≤ j)) M2 := pt_mono (pt_cmpR op_le ha hb (nomark _)) fun σ H Q ⟨G, w, s, k⟩ => ce_op (r := B (decide (i ≤ j))) (fun G H x y Q hx hy k => ⟨i, j, vk_int hx, vk_int hy, k _ (.bl _)⟩) ⟨G, w, s, fun v G' H' p hv => ⟨_, vk_bl hv, k G' H' p⟩⟩
theorem pdt_gt (ha : PD X ds M a (I i) M1) (hb : PD X ds M1 b (I j) M2) : PDT X ds M (.Compare a [.Gt] [b] pos) (decide (j < i)) M2 := pt_mono (pt_cmpR op_gt ha hb (nomark _)) fun σ H Q ⟨G, w, s, k⟩ => ce_op (r := B (decide (j < i))) (fun G H x y Q hx hy k => ⟨i, j, vk_int hx, vk_int hy, k _ (.bl _)⟩) ⟨G, w, s, fun v G' H' p hv => ⟨_, vk_bl hv, k G' H' p⟩⟩
theorem pdt_ge (ha : PD X ds M a (I i) M1) (hb : PD X ds M1 b (I j) M2) : PDT X ds M (.Compare a [.GtE] [b] pos) (decide (j ≤ i)) M2 := pt_mono (pt_cmpR op_ge ha hb (nomark _)) fun σ H Q ⟨G, w, s, k⟩ => ce_op (r := B (decide (j ≤ i))) (fun G H x y Q hx hy k => ⟨i, j, vk_int hx, vk_int hy, k _ (.bl _)⟩) ⟨G, w, s, fun v G' H' p hv => ⟨_, vk_bl hv, k G' H' p⟩⟩
theorem pdt_eq {d d' : D} (hu : X.A.units + 64 < cLine) (ha : PD X ds M a (.dat d) M1) (hb : PD X ds M1 b (.dat d') M2) (h1 : SeqAt.shaped d = true) (h2 : SeqAt.shaped d' = true) : PDT X ds M (.Compare a [.Eq] [b] pos) (PyData.eqv d d') M2 :=
  pt_mono (pt_cmpR (op_eqD hu) ha hb (nomark _)) fun σ H Q ⟨G, w, s, k⟩ => ce_bin (r := B (PyData.eqv d d')) (fun G H x y Q w hx hy k => ⟨d, d', dpUp w.ex d hx, dpUp w.ex d' hy, h1, h2, k _ G H (Po.refl w) (.bl _)⟩) ⟨G, w, s, fun v G' H' p hv => ⟨_, vk_bl hv, k G' H' p⟩⟩
theorem pdt_ne {d d' : D} (hu : X.A.units + 64 < cLine) (ha : PD X ds M a (.dat d) M1) (hb : PD X ds M1 b (.dat d') M2) (h1 : SeqAt.shaped d = true) (h2 : SeqAt.shaped d' = true) : PDT X ds M (.Compare a [.NotEq] [b] pos) (!PyData.eqv d d') M2 :=
  pt_mono (pt_cmpR (op_neD hu) ha hb (nomark _)) fun σ H Q ⟨G, w, s, k⟩ => ce_bin (r := B (!PyData.eqv d d')) (fun G H x y Q w hx hy k => ⟨d, d', dpUp w.ex d hx, dpUp w.ex d' hy, h1, h2, k _ G H (Po.refl w) (.bl _)⟩) ⟨G, w, s, fun v G' H' p hv => ⟨_, vk_bl hv, k G' H' p⟩⟩
theorem pdt_isN {d : D} (ha : PD X ds M a (.dat d) M1) {k p' } : PDT X ds M (.Compare a [.Is] [.Constant .none k p'] pos) (isNon d) M1 :=
  pt_mono (pt_cmpR op_isN ha (pd_non (ds := ds) (M := M1)) (nomark _)) fun σ H Q ⟨G, w, s, k⟩ => ce_op (r := B (isNon d)) (fun G H x y Q hx hy k => ⟨by
    have h' : Dp X.K G y .none := hy
    cases h'; rfl, by rw [vk_non hx]; exact k _ (.bl _)⟩) ⟨G, w, s, fun v G' H' p hv => ⟨_, vk_bl hv, k G' H' p⟩⟩
theorem pdt_notN {d : D} (ha : PD X ds M a (.dat d) M1) {k p' } : PDT X ds M (.Compare a [.IsNot] [.Constant .none k p'] pos) (!isNon d) M1 :=
  pt_mono (pt_cmpR op_notN ha (pd_non (ds := ds) (M := M1)) (nomark _)) fun σ H Q ⟨G, w, s, k⟩ => ce_op (r := B (!isNon d)) (fun G H x y Q hx hy k => ⟨by
    have h' : Dp X.K G y .none := hy
    cases h'; rfl, by rw [vk_non hx]; exact k _ (.bl _)⟩) ⟨G, w, s, fun v G' H' p hv => ⟨_, vk_bl hv, k G' H' p⟩⟩
theorem pdt_not {b : Bool} (h : PDT X ds M a b M1) : PDT X ds M (.UnaryOp .Not a pos) (!b) M1 := pt_mono (pt_not h) fun σ H Q ⟨G, w, s, k⟩ => ⟨G, w, s, fun G' H' p => k G' H' p⟩
theorem pdw_and1 {b : Bool} (h : PDT X ds M a b M1) : PDW X ds M (.BoolOp .And [a] pos) b M1 := pw_and1 h
theorem pdw_or1 {b : Bool} (h : PDT X ds M a b M1) : PDW X ds M (.BoolOp .Or [a] pos) b M1 := pw_or1 h
theorem ct_seq {K : PySem.W.Frag} {t : TT} {b b' : Bool} {σ : L2.St} {H : Hp} {Q : Bool → Hp → Prop} {R : Bool → Hp → Prop} (hR : ∀ H', cT K ds M1 b' M2 σ H' Q → R b H') (q : cT K ds M b' M2 σ H Q) : cT K ds M b M1 σ H R := by
  obtain ⟨G, w, s, k⟩ := q
  exact ⟨G, w, s, fun G' H' p => hR H' ⟨G', p.w, s.up p.g, fun G2 H2 p2 => k G2 H2 (p.trans p2)⟩⟩
theorem pdw_andT {c2 : Bool} {es : List Expr} (h : PDT X ds M a true M1) (h2 : PDW X ds M1 (.BoolOp .And (b :: es) pos) c2 M2) : PDW X ds M (.BoolOp .And (a :: b :: es) pos) c2 M2 :=
  pw_mono (pw_and h h2) fun σ H Q q => ct_seq (K := X.K) (b' := c2) (t := fun _ _ _ => True) (fun H' z => iteT (z)) q
theorem pdw_andF {es : List Expr} (h : PDT X ds M a false M1) : PDW X ds M (.BoolOp .And (a :: b :: es) pos) false M1 :=
  pw_mono (pw_and h pw_no) fun σ H Q ⟨G, w, s, k⟩ => ⟨G, w, s, fun G' H' p => iteF (k G' H' p)⟩
theorem pdw_orT {es : List Expr} (h : PDT X ds M a true M1) : PDW X ds M (.BoolOp .Or (a :: b :: es) pos) true M1 :=
  pw_mono (pw_or h pw_no) fun σ H Q ⟨G, w, s, k⟩ => ⟨G, w, s, fun G' H' p => iteT (k G' H' p)⟩
theorem pdw_orF {c2 : Bool} {es : List Expr} (h : PDT X ds M a false M1) (h2 : PDW X ds M1 (.BoolOp .Or (b :: es) pos) c2 M2) : PDW X ds M (.BoolOp .Or (a :: b :: es) pos) c2 M2 :=
  pw_mono (pw_or h h2) fun σ H Q q => ct_seq (K := X.K) (b' := c2) (t := fun _ _ _ => True) (fun H' z => iteF (z)) q
/-! .. as values -/
theorem pd_one {op : BoolOp} (h : PD X ds M a r M1) : PD X ds M (.BoolOp op [a] pos) r M1 := pe_one h
theorem pd_andT {es : List Expr} (h : PD X ds M a (B true) M1) (h2 : PD X ds M1 (.BoolOp .And (b :: es) pos) r M2) : PD X ds M (.BoolOp .And (a :: b :: es) pos) r M2 :=
  pe_mono (pe_and h h2) fun σ H Q ⟨G, w, s, k⟩ => ⟨G, w, s, fun v G' H' p hv => ⟨true, vk_bl hv, iteT (⟨G', p.w, s.up p.g, fun v2 G2 H2 p2 hv2 => k v2 G2 H2 (p.trans p2) hv2⟩)⟩⟩
theorem pd_andF {es : List Expr} (h : PD X ds M a (B false) M1) : PD X ds M (.BoolOp .And (a :: b :: es) pos) (B false) M1 :=
  pe_mono (pe_and h pe_no) fun σ H Q ⟨G, w, s, k⟩ => ⟨G, w, s, fun v G' H' p hv => ⟨false, vk_bl hv, iteF (k _ G' H' p (.bl _))⟩⟩
theorem pd_orT {es : List Expr} (h : PD X ds M a (B true) M1) : PD X ds M (.BoolOp .Or (a :: b :: es) pos) (B true) M1 :=
  pe_mono (pe_or h pe_no) fun σ H Q ⟨G, w, s, k⟩ => ⟨G, w, s, fun v G' H' p hv => ⟨true, vk_bl hv, iteT (k _ G' H' p (.bl _))⟩⟩
theorem pd_orF {es : List Expr} (h : PD X ds M a (B false) M1) (h2 : PD X ds M1 (.BoolOp .Or (b :: es) pos) r M2) : PD X ds M (.BoolOp .Or (a :: b :: es) pos) r M2 :=
  pe_mono (pe_or h h2) fun σ H Q ⟨G, w, s, k⟩ => ⟨G, w, s, fun v G' H' p hv => ⟨false, vk_bl hv, iteF (⟨G', p.w, s.up p.g, fun v2 G2 H2 p2 hv2 => k v2 G2 H2 (p.trans p2) hv2⟩)⟩⟩
theorem pd_not {b : Bool} (h : PD X ds M a (B b) M1) : PD X ds M (.UnaryOp .Not a pos) (B (!b)) M1 := pe_mono (pe_not h) fun σ H Q ⟨G, w, s, k⟩ => ⟨G, w, s, fun v G' H' p hv => ⟨b, vk_bl hv, k _ G' H' p (.bl _)⟩⟩
theorem pd_ifT (hc : PDT X ds M c true M1) (h : PD X ds M1 a r M2) : PD X ds M (.IfExp c a b pos) r M2 :=
  pe_mono (pe_ifExp hc h pe_no) fun σ H Q ⟨G, w, s, k⟩ => ⟨G, w, s, fun G' H' p => iteT (⟨G', p.w, s.up p.g, fun v2 G2 H2 p2 hv2 => k v2 G2 H2 (p.trans p2) hv2⟩)⟩
theorem pd_ifF (hc : PDT X ds M c false M1) (h : PD X ds M1 b r M2) : PD X ds M (.IfExp c a b pos) r M2 :=
  pe_mono (pe_ifExp hc pe_no h) fun σ H Q ⟨G, w, s, k⟩ => ⟨G, w, s, fun G' H' p => iteF (⟨G', p.w, s.up p.g, fun v2 G2 H2 p2 hv2 => k v2 G2 H2 (p.trans p2) hv2⟩)⟩
end
end Cal
/-! CalC -/
namespace Cal
open PySem PySem.Spec PyProof.Rows L2

/-! ### what statements come to -/
inductive Rs where
  | nx (ds : List Sv) (M : Ms) | rt (r : Sv) (M : Ms) | bk (ds : List Sv) (M : Ms) | ct (ds : List Sv) (M : Ms) | rn (r : Addr × Addr → Sv) (M : Addr × Addr → Ms)
def cS (K : PySem.W.Frag) (ds : List Sv) (M : Ms) : Rs → TS
  | .nx ds' M' => fun D σ H => ∃ G, Wo K M G H ∧ Sl K G σ ds ∧ ∀ σ' G' H', Po K M M' G H G' H' → Sl K G' σ' ds' → D.nx σ' H'
  | .rt r M' => fun D σ H => ∃ G, Wo K M G H ∧ Sl K G σ ds ∧ ∀ v G' H', Po K M M' G H G' H' → Vk K G' v r → D.rt v H'
  | .bk ds' M' => fun D σ H => ∃ G, Wo K M G H ∧ Sl K G σ ds ∧ ∀ σ' G' H', Po K M M' G H G' H' → Sl K G' σ' ds' → D.bk σ' H'
  | .ct ds' M' => fun D σ H => ∃ G, Wo K M G H ∧ Sl K G σ ds ∧ ∀ σ' G' H', Po K M M' G H G' H' → Sl K G' σ' ds' → D.ct σ' H'
  | .rn r M' => fun D σ H => ∃ G, Wo K M G H ∧ Sl K G σ ds ∧ ∀ a v G' H', Po K M (M' a) G H G' H' → Vk K G' v (r a) → D.rt v H'
/-- .. an error of the class at c goes out: W is wished -/
def cX (K : PySem.W.Frag) (W : WX) (ds : List Sv) (M : Ms) (c : Addr) : TS := fun _ σ H => ∃ G, Wo K M G H ∧ Sl K G σ ds ∧ ∀ σ' G' H', Po K M M G H G' H' → W (.ref c) none σ' H'
def cEX (K : PySem.W.Frag) (W : WX) (ds : List Sv) (M : Ms) (c : Addr) : TE := fun σ H _ => ∃ G, Wo K M G H ∧ Sl K G σ ds ∧ ∀ G' H', Po K M M G H G' H' → W (.ref c) none σ H'
abbrev SD (X : Cx) (ds : List Sv) (M : Ms) (ss : List Stmt) (R : Rs) : Prop := PSs X ss (cS X.K ds M R)
abbrev SD1 (X : Cx) (ds : List Sv) (M : Ms) (st : Stmt) (R : Rs) : Prop := PS X st (cS X.K ds M R)
abbrev SX (X : Cx) (W : WX) (ds : List Sv) (M : Ms) (ss : List Stmt) (c : Addr) : Prop := PSs X ss (cX X.K W ds M c)
abbrev SX1 (X : Cx) (W : WX) (ds : List Sv) (M : Ms) (st : Stmt) (c : Addr) : Prop := PS X st (cX X.K W ds M c)
abbrev PX (X : Cx) (W : WX) (ds : List Sv) (M : Ms) (e : Expr) (c : Addr) : Prop := PE X e (cEX X.K W ds M c)
section
variable {X : Cx} {ds ds' ds1 ds2 : List Sv} {M M' M1 M2 M3 : Ms} {a b c e : Expr} {es : List Expr} {st : Stmt} {ss s1 s2 : List Stmt} {r ra rb : Sv} {rs : List Sv} {i j : Int} {pos : Pos} {R : Rs}
theorem ps_mono {t t' : TS} (h : PS X st t) (k : ∀ D σ H, t' D σ H → t D σ H) : PS X st t' := ⟨fun pins s σ H D I q => h.run pins s σ H D I (k D σ H q)⟩
theorem pss_mono {t t' : TS} (h : PSs X ss t) (k : ∀ D σ H, t' D σ H → t D σ H) : PSs X ss t' := ⟨fun pins s σ H D I q => h.run pins s σ H D I (k D σ H q)⟩
/-- first one way on, then the rest -/
theorem cS_seq {K : PySem.W.Frag} {D : Ends} {σ : L2.St} {H : Hp} (q : cS K ds M R D σ H) : cS K ds M (.nx ds1 M1) { D with nx := cS K ds1 M1 R D } σ H → True := fun _ => trivial
theorem cS_then {K : PySem.W.Frag} {D : Ends} {σ : L2.St} {H : Hp} (q : cS K ds M R D σ H) : ∃ G, Wo K M G H ∧ Sl K G σ ds ∧ ∀ ds1 M1 σ1 G1 H1, Po K M M1 G H G1 H1 → Sl K G1 σ1 ds1 → cS K ds1 M1 R D σ1 H1 := by
  cases R with
  | nx d m =>
    obtain ⟨G, w, s, k⟩ := q
    exact ⟨G, w, s, fun ds1 M1 σ1 G1 H1 p sl => ⟨G1, p.w, sl, fun σ' G' H' p2 sl2 => k σ' G' H' (p.trans p2) sl2⟩⟩
  | rt r m =>
    obtain ⟨G, w, s, k⟩ := q
    exact ⟨G, w, s, fun ds1 M1 σ1 G1 H1 p sl => ⟨G1, p.w, sl, fun v G' H' p2 hv => k v G' H' (p.trans p2) hv⟩⟩
  | bk d m =>
    obtain ⟨G, w, s, k⟩ := q
    exact ⟨G, w, s, fun ds1 M1 σ1 G1 H1 p sl => ⟨G1, p.w, sl, fun σ' G' H' p2 sl2 => k σ' G' H' (p.trans p2) sl2⟩⟩
  | ct d m =>
    obtain ⟨G, w, s, k⟩ := q
    exact ⟨G, w, s, fun ds1 M1 σ1 G1 H1 p sl => ⟨G1, p.w, sl, fun σ' G' H' p2 sl2 => k σ' G' H' (p.trans p2) sl2⟩⟩
  | rn r m =>
    obtain ⟨G, w, s, k⟩ := q
    exact ⟨G, w, s, fun ds1 M1 σ1 G1 H1 p sl => ⟨G1, p.w, sl, fun a v G' H' p2 hv => k a v G' H' (p.trans p2) hv⟩⟩
theorem cS_D {K : PySem.W.Frag} {D D' : Ends} {σ : L2.St} {H : Hp} (hR : ∀ d m, R ≠ .nx d m) (e1 : D.rt = D'.rt) (e2 : D.bk = D'.bk) (e3 : D.ct = D'.ct) (q : cS K ds M R D σ H) : cS K ds M R D' σ H := by
  cases R with
  | nx d m => exact absurd rfl (hR d m)
  | rt r m => show ∃ G, _; rw [← e1]; exact q
  | bk d m => show ∃ G, _; rw [← e2]; exact q
  | ct d m => show ∃ G, _; rw [← e3]; exact q
  | rn r m => show ∃ G, _; rw [← e1]; exact q
theorem sd_nil : SD X ds M [] (.nx ds M) := pss_mono pss_nil fun D σ H ⟨G, w, s, k⟩ => k σ G H (Po.refl w) s
theorem sd_cons (h1 : SD1 X ds M st (.nx ds1 M1)) (h2 : SD X ds1 M1 ss R) : SD X ds M (st :: ss) R := pss_mono (pss_cons h1 h2) fun D σ H q => by
  obtain ⟨G, w, s, k⟩ := cS_then q
  exact ⟨G, w, s, fun σ' G' H' p sl => k ds1 M1 σ' G' H' p sl⟩
theorem sd_one (h : SD1 X ds M st R) : SD X ds M [st] R := pss_one h
/-- a statement that doesn't go on -/
theorem sd_stop (h : SD1 X ds M st R) (hR : ∀ d m, R ≠ .nx d m := by intro _ _ z; cases z) : SD X ds M (st :: ss) R := pss_mono (pss_cons h pss_never) fun D σ H q => cS_D (D := D) (D' := { D with nx := tNever D }) hR rfl rfl rfl q
theorem sx_stop {W : WX} {k : Addr} (h : SX1 X W ds M st k) : SX X W ds M (st :: ss) k := pss_mono (pss_cons h pss_never) fun D σ H q => q
theorem sx_cons {W : WX} {k : Addr} (h1 : SD1 X ds M st (.nx ds1 M)) (h2 : SX X W ds1 M ss k) : SX X W ds M (st :: ss) k := pss_mono (pss_cons h1 h2) fun D σ H ⟨G, w, s, q⟩ =>
  ⟨G, w, s, fun σ' G' H' p sl => ⟨G', p.w, sl, fun σ2 G2 H2 p2 => q σ2 G2 H2 (p.trans p2)⟩⟩
theorem sd_ret (h : PD X ds M e r M') : SD1 X ds M (.Return (some e) pos) (.rt r M') := ps_mono (ps_ret h) fun D σ H ⟨G, w, s, k⟩ => ⟨G, w, s, fun v G' H' p hv => k v G' H' p hv⟩
theorem sx_ret {W : WX} {k : Addr} (h : PX X W ds M e k) : SX1 X W ds M (.Return (some e) pos) k := ps_mono (ps_ret h) fun D σ H ⟨G, w, s, q⟩ => ⟨G, w, s, fun G' H' p => q σ G' H' p⟩
theorem sd_set (i : Nat) {x : Str} {pos' : Pos} (he : PD X ds M e r M') (hN : X.N.Nodup) (hi : X.N[i]? = some x := by rfl) (hx : Loc X.env.scope x := by first | exact Or.inl rfl | exact Or.inr rfl) (hs : swapsWith e (some (.Name x pos')) pos.line X.env = pure false := by rfl)
    (hf : X.fn x = true ∨ X.env.scope.names.lookup x = some .local := by first | exact .inl rfl | exact .inr rfl | assumption) : SD1 X ds M (.Assign [.Name x pos'] e pos) (.nx (ds.set i r) M') :=
  ps_mono (ps_set (i := i) hN hi hx he hs hf) fun D σ H ⟨G, w, s, k⟩ => ⟨G, w, s, fun v G' H' p hv => k _ G' H' p ((s.up p.g).set i hv)⟩
theorem sd_drop (he : PD X ds M e r M') (hs : swapsWith e none pos.line X.env = pure false := by rfl) : SD1 X ds M (.Expr e pos) (.nx ds M') :=
  ps_mono (ps_expr he hs) fun D σ H ⟨G, w, s, k⟩ => ⟨G, w, s, fun v G' H' p hv => k σ G' H' p (s.up p.g)⟩
theorem sd_ifT {s1 s2 : List Stmt} (hc : PDT X ds M c true M1) (h : SD X ds M1 s1 R) : SD1 X ds M (.If c s1 s2 pos) R := ps_mono (ps_if hc h pss_never) fun D σ H q => by
  obtain ⟨G, w, s, k⟩ := cS_then q
  exact ⟨G, w, s, fun G' H' p => iteT (k ds M1 σ G' H' p (s.up p.g))⟩
theorem sd_ifF {s1 s2 : List Stmt} (hc : PDT X ds M c false M1) (h : SD X ds M1 s2 R) : SD1 X ds M (.If c s1 s2 pos) R := ps_mono (ps_if hc pss_never h) fun D σ H q => by
  obtain ⟨G, w, s, k⟩ := cS_then q
  exact ⟨G, w, s, fun G' H' p => iteF (k ds M1 σ G' H' p (s.up p.g))⟩
theorem sd_no {s1 : List Stmt} (hc : PDT X ds M c false M1) : SD1 X ds M (.If c s1 [] pos) (.nx ds M1) := sd_ifF hc sd_nil
theorem sx_ifT {W : WX} {k : Addr} {s1 s2 : List Stmt} (hc : PDT X ds M c true M) (h : SX X W ds M s1 k) : SX1 X W ds M (.If c s1 s2 pos) k := ps_mono (ps_if hc h pss_never) fun D σ H ⟨G, w, s, q⟩ =>
  ⟨G, w, s, fun G' H' p => iteT ⟨G', p.w, s.up p.g, fun σ2 G2 H2 p2 => q σ2 G2 H2 (p.trans p2)⟩⟩

/-! ### targets -/
/-- the slots at ts alone may differ -/
def Chg (ts : List Nat) (σ σ' : L2.St) : Prop := ∀ vs : List Nat, (∀ t ∈ ts, t ∈ vs) → L2.wipe σ' vs = L2.wipe σ vs
theorem wipe_put {σ : L2.St} {j : Nat} {o : Option V} : ∀ vs : List Nat, (j ∈ vs → L2.wipe (σ.set j o) vs = L2.wipe σ vs) ∧ (j ∉ vs → L2.wipe (σ.set j o) vs = (L2.wipe σ vs).set j o)
  | [] => ⟨fun h => by simp at h, fun _ => rfl⟩
  | v :: vs => by
    obtain ⟨h1, h2⟩ := wipe_put (σ := σ) (j := j) (o := o) vs
    refine ⟨fun h => ?_, fun h => ?_⟩
    · show (L2.wipe (σ.set j o) vs).set v none = (L2.wipe σ vs).set v none
      by_cases hj : j ∈ vs
      · rw [h1 hj]
      · have e : j = v := by
          rcases List.mem_cons.mp h with e | e
          · exact e
          · exact absurd e hj
        rw [h2 hj, e, List.set_set]
    · show (L2.wipe (σ.set j o) vs).set v none = ((L2.wipe σ vs).set v none).set j o
      have hj : j ∉ vs := fun z => h (List.mem_cons_of_mem _ z)
      have ne : j ≠ v := fun z => h (by rw [z]; exact List.mem_cons_self)
      rw [h2 hj, List.set_comm _ _ ne]
def cG (K : PySem.W.Frag) (r : Sv) (ds ds' : List Sv) (ts : List Nat) : TG := fun v σ H Q => ∃ M G, Wo K M G H ∧ Sl K G σ ds ∧ Vk K G v r ∧ ∀ σ', Sl K G σ' ds' → Chg ts σ σ' → Q σ' H
def cGs (K : PySem.W.Frag) (rs : List Sv) (ds ds' : List Sv) (ts : List Nat) : TGs := fun vs σ H Q => ∃ M G, Wo K M G H ∧ Sl K G σ ds ∧ Vks K G vs rs ∧ ∀ σ', Sl K G σ' ds' → Chg ts σ σ' → Q σ' H
abbrev GD (X : Cx) (t : Expr) (r : Sv) (ds ds' : List Sv) (ts : List Nat) : Prop := PG X t (cG X.K r ds ds' ts)
abbrev GDs (X : Cx) (es : List Expr) (rs : List Sv) (ds ds' : List Sv) (ts : List Nat) : Prop := PGs X es (cGs X.K rs ds ds' ts)
variable {ts ts1 ts2 : List Nat}
theorem pg_mono {t t' : TG} (h : PG X e t) (k : ∀ v σ H Q, t' v σ H Q → t v σ H Q) : PG X e t' := ⟨fun pins s σ H v u Q I r q => h.run pins s σ H v u Q I r (k v σ H Q q)⟩
theorem pgs_mono {t t' : TGs} (h : PGs X es t) (k : ∀ v σ H Q, t' v σ H Q → t v σ H Q) : PGs X es t' := ⟨fun pins s σ H v u Q I r q => h.run pins s σ H v u Q I r (k v σ H Q q)⟩
theorem gd_name (i : Nat) {x : Str} (hN : X.N.Nodup) (hi : X.N[i]? = some x := by rfl) (hx : Loc X.env.scope x := by first | exact Or.inl rfl | exact Or.inr rfl) (hf : X.fn x = true ∨ X.env.scope.names.lookup x = some .local := by first | exact .inl rfl | exact .inr rfl | assumption) :
    GD X (.Name x pos) r ds (ds.set i r) [i] := pg_mono (pg_name (i := i) hN hi hx hf) fun v σ H Q ⟨M, G, w, s, hv, k⟩ => k _ (s.set i hv) fun vs hvs => (wipe_put vs).1 (hvs i (by simp))
theorem gdr_nil : GDs X [] [] ds ds [] := pgs_mono pgs_nil fun v σ H Q ⟨M, G, w, s, hv, k⟩ => ⟨by cases hv; rfl, k σ s fun _ _ => rfl⟩
theorem gdr_cons (h1 : GD X e r ds ds1 ts1) (h2 : GDs X es rs ds1 ds2 ts2) (hs : (assignEach (e :: es) X.env).map (·.2) = assign e X.env :: (assignEach es X.env).map (·.2) := by rfl) : GDs X (e :: es) (r :: rs) ds ds2 (ts1 ++ ts2) := pgs_mono (pgs_cons h1 h2 hs) fun v σ H Q ⟨M, G, w, s, hv, k⟩ => by
  cases hv with
  | cons hv1 hv2 => exact ⟨_, _, rfl, M, G, w, s, hv1, fun σ' s' c1 => ⟨M, G, w, s', hv2, fun σ2 s2 c2 => k σ2 s2 fun vs h => (c2 vs fun t ht => h t (List.mem_append_right _ ht)).trans (c1 vs fun t ht => h t (List.mem_append_left _ ht))⟩⟩
theorem dps_vks {K : PySem.W.Frag} {G : Hp} : ∀ {xs : List D} {vs : List V}, DpAll K G vs xs → Vks K G vs (dats xs)
  | [], _, h => by cases h; exact .nil
  | x :: xs, _, h => by
    cases h with
    | cons h1 h2 => exact .cons h1 (dps_vks h2)
theorem gds_nil : GDs X [] (dats []) ds ds [] := gdr_nil
theorem gds_cons {d : D} {xs : List D} (h1 : GD X e (.dat d) ds ds1 ts1) (h2 : GDs X es (dats xs) ds1 ds2 ts2) (hs : (assignEach (e :: es) X.env).map (·.2) = assign e X.env :: (assignEach es X.env).map (·.2) := by rfl) : GDs X (e :: es) (dats (d :: xs)) ds ds2 (ts1 ++ ts2) := gdr_cons h1 h2 hs
theorem gd_tup {xs : List D} {k n : Nat} (hc : X.calm = true) (h : GDs X es (dats xs) ds ds' ts) (hl : xs.length = n := by rfl) (hn : (assignEach es X.env).length = n := by rfl) (hst : (assignEach es X.env).findIdx? (·.1) = none := by rfl) : GD X (.Tuple es k pos) (.dat (.tuple xs)) ds ds' ts :=
  pg_mono (pg_tup hc h hn hst) fun v σ H Q ⟨M, G, w, s, hv, q⟩ => by
    obtain ⟨p, vs, e, h1, h2⟩ := vk_tup hv
    exact ⟨p, vs, e, seqT w.ex h1, (dps_len h2).trans hl, M, G, w, s, dps_vks h2, q⟩
theorem gd_lst {xs : List D} {k n : Nat} (hc : X.calm = true) (h : GDs X es (dats xs) ds ds' ts) (hl : xs.length = n := by rfl) (hn : (assignEach es X.env).length = n := by rfl) (hst : (assignEach es X.env).findIdx? (·.1) = none := by rfl) : GD X (.Tuple es k pos) (.dat (.list xs)) ds ds' ts :=
  pg_mono (pg_unl hc h hn hst) fun v σ H Q ⟨M, G, w, s, hv, q⟩ => by
    obtain ⟨p, vs, e, h1, h2⟩ := vk_lst hv
    exact ⟨p, vs, e, w.ex.seq h1, (dps_len h2).trans hl, M, G, w, s, dps_vks h2, q⟩
theorem sd_asg {tg : Expr} (he : PD X ds M e r M') (hg : GD X tg r ds ds' ts) (hs : swapsWithSole [tg] e pos.line X.env = pure false := by rfl) (hw : swappedStores [tg] e X.env = pure none := by rfl) (h1 : (assignEach [tg] X.env).map (·.2) = [assign tg X.env] := by rfl) : SD1 X ds M (.Assign [tg] e pos) (.nx ds' M') :=
  ps_mono (ps_asg he hg hs hw h1) fun D σ H ⟨G, w, s, k⟩ => ⟨G, w, s, fun v G' H' p hv => ⟨M', G', p.w, s.up p.g, hv, fun σ' s' _ => k σ' G' H' p s'⟩⟩
theorem sd_par {i j : Nat} {x y : Str} {px py pt : Pos} {kt k2 pt2} (ha : PDA X ds M [a, b] [ra, rb] M') (hc : X.calm = true) (hN : X.N.Nodup) (hi : X.N[i]? = some x := by rfl) (hj : X.N[j]? = some y := by rfl) (hij : i ≠ j := by decide)
    (hx : X.env.scope.names.lookup x = some .local := by rfl) (hy : X.env.scope.names.lookup y = some .local := by rfl)
    (hw : swappedStores [.Tuple [.Name x px, .Name y py] kt pt] (.Tuple [a, b] k2 pt2) X.env = pure (some [x, y]) := by rfl)
    (hs : swapsWithSole [.Tuple [.Name x px, .Name y py] kt pt] (.Tuple [a, b] k2 pt2) pos.line X.env = pure false := by rfl) :
    SD1 X ds M (.Assign [.Tuple [.Name x px, .Name y py] kt pt] (.Tuple [a, b] k2 pt2) pos) (.nx ((ds.set i ra).set j rb) M') :=
  ps_mono (ps_par hc hN hi hj hij hx hy ha hw hs) fun D σ H ⟨G, w, s, k⟩ => ⟨G, w, s, fun vs G' H' p hv => by
    cases hv with
    | cons h1 h2 =>
      cases h2 with
      | cons h2 h3 =>
        cases h3
        exact ⟨_, _, rfl, k _ G' H' p (((s.up p.g).set i h1).set j h2)⟩⟩

/-! ### defs -/
/-- how a def answers: of the arguments and the changing objects -/
abbrev FR := List Sv → Ms → Sv → Ms → Prop
abbrev FE := List Sv → Ms → Addr → Prop
def spF (K : PySem.W.Frag) (n : Nat) (F : FR) (FX : FE) : Sp := fun vs H Q E => ∃ G rs M, vs.length = n ∧ Wo K M G H ∧ Vks K G vs rs ∧
  ((∃ r M', F rs M r M' ∧ ∀ v G' H', Po K M M' G H G' H' → Vk K G' v r → Q v H') ∨ (∃ c, FX rs M c ∧ ∀ G' H', Po K M M G H G' H' → E (.ref c) none H'))
structure Fn (P : Program) (w : World) (K : PySem.W.Frag) (mg : Str → Option Value) (base : Heap) (k : Nat) (x : Str) (n : Nat) (dvs : List V) (drs : List Sv) (F : FR) (FX : FE) : Prop where
  ex : ∃ f fd ps us, FnOk P w K mg base (L2.CX P w) k f fd ps (spF K n F FX) ∧ mg x = some (.ref f) ∧ PySem.W.keepIn K (.ref f) = true ∧ Binds K fd ps us ∧ Vals dvs us
  dr : ∀ G, Vks K G dvs drs
theorem Fn.mono {P : Program} {w : World} {K : PySem.W.Frag} {mg : Str → Option Value} {base : Heap} {k k' : Nat} {x : Str} {n : Nat} {dvs : List V} {drs : List Sv} {F : FR} {FX : FE} (h : Fn P w K mg base k x n dvs drs F FX) (l : k ≤ k') : Fn P w K mg base k' x n dvs drs F FX := by
  obtain ⟨⟨f, fd, ps, us, a, b⟩, d⟩ := h
  exact ⟨⟨f, fd, ps, us, a.mono l, b⟩, d⟩
theorem sp_len {K : PySem.W.Frag} {n : Nat} {F : FR} {FX : FE} (vs : List V) (H : Hp) (Q : VK) (E : XK) (h : spF K n F FX vs H Q E) : vs.length = n := by
  obtain ⟨_, _, _, h, _⟩ := h
  exact h
theorem pd_call {k n : Nat} {dvs : List V} {drs : List Sv} {F : FR} {FX : FE} {x : Str} {p : Pos} (h : Fn X.prog X.w X.K X.mg X.base k x n dvs drs F FX) (hr : Room k X.A) (ha : PDA X ds M (e :: es) rs M1) (hF : F (rs ++ drs) M1 r M2) (hn : (rs ++ drs).length = n := by rfl) (hg : Gl X x := by rfl)
    (hdb : (x == ("__debug__" : Str)) = false := by decide) (he : starEach (e :: es) X.env = (false, eval e X.env) :: starEach es X.env := by rfl) (hpl : (backTo pos (starEach es X.env)).any (·.1) = false := by rfl) :
    PD X ds M (.Call (.Name x p) (e :: es) [] pos) r M2 := by
  obtain ⟨⟨f, fd, ps, us, h1, h2, h3, h4, h5⟩, h6⟩ := h
  refine pe_mono (pe_call h1 hr hg h2 h3 h4 h5 (passL (X := X)) ha hdb he hpl) fun σ H Q ⟨G, w, s, q⟩ => ⟨G, w, s, fun vs G1 H1 p hv => ?_⟩
  exact ⟨G1, rs ++ drs, M1, by rw [List.length_append, hv.len, (h6 G1).len, ← List.length_append]; exact hn, p.w, hv.app (h6 G1), .inl ⟨r, M2, hF, fun v G' H' p2 hv2 => q v G' H' (p.trans p2) hv2⟩⟩
/-- a call of a def without arguments -/
theorem pd_call0 {k : Nat} {F : FR} {FX : FE} {x : Str} {p : Pos} (h : Fn X.prog X.w X.K X.mg X.base k x 0 [] [] F FX) (hr : Room k X.A) (hF : F [] M r M2) (hg : Gl X x := by rfl) (hdb : (x == ("__debug__" : Str)) = false := by decide) : PD X ds M (.Call (.Name x p) [] [] pos) r M2 := by
  obtain ⟨⟨f, fd, ps, us, h1, h2, h3, h4, h5⟩, h6⟩ := h
  refine pe_mono (pe_call0 h1 hr hg h2 h3 h4 h5 (passL (X := X)) hdb) fun σ H Q ⟨G, w, s, q⟩ => ?_
  exact ⟨G, [], M, rfl, w, .nil, .inl ⟨r, M2, hF, fun v G' H' p2 hv2 => q v G' H' p2 hv2⟩⟩
/-- a call that raises -/
theorem px_call {k n : Nat} {F : FR} {FX : FE} {x : Str} {p : Pos} {W : WX} {c : Addr} (tk : Takes X W) (h : Fn X.prog X.w X.K X.mg X.base k x n [] [] F FX) (hr : Room k X.A) (ha : PDA X ds M (e :: es) rs M) (hF : FX rs M c) (hn : rs.length = n := by rfl) (hg : Gl X x := by rfl)
    (hdb : (x == ("__debug__" : Str)) = false := by decide) (he : starEach (e :: es) X.env = (false, eval e X.env) :: starEach es X.env := by rfl) (hpl : (backTo pos (starEach es X.env)).any (·.1) = false := by rfl) :
    PX X W ds M (.Call (.Name x p) (e :: es) [] pos) c := by
  obtain ⟨⟨f, fd, ps, us, h1, h2, h3, h4, h5⟩, h6⟩ := h
  cases h5
  refine pe_mono (pe_callS h1 hr hg h2 h3 h4 (fun σ => passAt tk σ) ha hdb he hpl) fun σ H Q ⟨G, w, s, q⟩ => ⟨G, w, s, fun vs G1 H1 p hv => ?_⟩
  exact ⟨G1, rs, M, by rw [hv.len]; exact hn, p.w, hv, .inr ⟨c, hF, fun G' H' p2 => q G' H' (p.trans p2)⟩⟩
/-- raise X('..') -/
theorem sx_raise {W : WX} {x m : Str} {k : Nat} {p p2 pos' : Pos} {c : Addr} {bmB : List Value} {BB newId initId : String} (hcalm : X.calm = true) (tk : Takes X W) (F : ExcBaseFacts BB newId initId bmB) (q : PySem.W.excIn X.K c bmB newId = true) (gC : X.mg x = some (.ref c)) (kC : PySem.W.keepIn X.K (.ref c) = true) (hr : Raises X (.ref c))
    (hg : Gl X x := by rfl) (hdb : (x == ("__debug__" : Str)) = false := by decide) : SX1 X W ds M (.Raise (some (.Call (.Name x p) [.Constant (.str m) k p2] [] pos)) none pos') c :=
  ps_mono (ps_raise hcalm tk (pmk_own F q gC kC hr hg hdb)) fun D σ H ⟨G, w, s, k⟩ => k σ G H (Po.refl w)

/-! ### built-ins -/
theorem ce_args {K : PySem.W.Frag} {r1 : List V → Hp → VK → Prop} (h : ∀ G H vs (Q : VK), Wo K M1 G H → Vks K G vs rs → (∀ v G' H', Po K M1 M2 G H G' H' → Vk K G' v r → Q v H') → r1 vs H Q) {σ : L2.St} {H : Hp} {Q : VK} (q : cE K ds M r M2 σ H Q) : tCB r1 (cA K ds M rs M1) σ H Q := by
  obtain ⟨G, w, s, k⟩ := q
  exact ⟨G, w, s, fun vs G1 H1 p hv => h G1 H1 vs _ p.w hv fun v G' H' p2 hv2 => k v G' H' (p.trans p2) hv2⟩
theorem vks1 {K : PySem.W.Frag} {G : Hp} {vs : List V} {r : Sv} (h : Vks K G vs [r]) : ∃ v, vs = [v] ∧ Vk K G v r := by
  cases h with
  | cons h1 h2 => cases h2; exact ⟨_, rfl, h1⟩
theorem vks2 {K : PySem.W.Frag} {G : Hp} {vs : List V} {r q : Sv} (h : Vks K G vs [r, q]) : ∃ v u, vs = [v, u] ∧ Vk K G v r ∧ Vk K G u q := by
  cases h with
  | cons h1 h2 => cases h2 with
    | cons h2 h3 => cases h3; exact ⟨_, _, rfl, h1, h2⟩
variable {p : Pos}
theorem pd_abs (hm : X.mg "abs" = none) (ha : PD X ds M a (I i) M1) (hg : Gl X "abs" := by rfl) (h1 : starEach (a :: []) X.env = (false, eval a X.env) :: starEach [] X.env := by rfl) : PD X ds M (.Call (.Name "abs" p) [a] [] pos) (I (if i < 0 then -i else i)) M1 :=
  pe_mono (pe_callB call_abs hg hm (by decide +kernel) (pda_cons ha pda_nil h1) (he := h1)) fun σ H Q q => ce_args (fun G H vs Q w hv k => by
    obtain ⟨v, rfl, h⟩ := vks1 hv
    cases vk_int h
    exact ⟨i, rfl, k _ G H (Po.refl w) (.int _)⟩) q
theorem pd_int1 (hm : X.mg "int" = none) (ha : PD X ds M a (I i) M1) (hg : Gl X "int" := by rfl) (h1 : starEach (a :: []) X.env = (false, eval a X.env) :: starEach [] X.env := by rfl) : PD X ds M (.Call (.Name "int" p) [a] [] pos) (I i) M1 :=
  pe_mono (pe_callTy call_int1 hg hm (by decide +kernel) (pda_cons ha pda_nil h1) (he := h1)) fun σ H Q q => ce_args (fun G H vs Q w hv k => by
    obtain ⟨v, rfl, h⟩ := vks1 hv
    cases vk_int h
    exact .inl ⟨i, rfl, k _ G H (Po.refl w) (.int _)⟩) q
theorem pd_intb {t : Bool} (hm : X.mg "int" = none) (ha : PD X ds M a (B t) M1) (hg : Gl X "int" := by rfl) (h1 : starEach (a :: []) X.env = (false, eval a X.env) :: starEach [] X.env := by rfl) : PD X ds M (.Call (.Name "int" p) [a] [] pos) (I (if t then 1 else 0)) M1 :=
  pe_mono (pe_callTy call_int1 hg hm (by decide +kernel) (pda_cons ha pda_nil h1) (he := h1)) fun σ H Q q => ce_args (fun G H vs Q w hv k => by
    obtain ⟨v, rfl, h⟩ := vks1 hv
    cases vk_bl h
    exact .inr ⟨t, rfl, k _ G H (Po.refl w) (.int _)⟩) q
theorem pd_strI (hm : X.mg "str" = none) (ha : PD X ds M a (I i) M1) (hl : i.natAbs.log2 < 1920) (hg : Gl X "str" := by rfl) (h1 : starEach (a :: []) X.env = (false, eval a X.env) :: starEach [] X.env := by rfl) : PD X ds M (.Call (.Name "str" p) [a] [] pos) (.dat (.str (toString i))) M1 :=
  pe_mono (pe_callTy call_str_int hg hm (by decide +kernel) (pda_cons ha pda_nil h1) (he := h1)) fun σ H Q q => ce_args (fun G H vs Q w hv k => by
    obtain ⟨v, rfl, h⟩ := vks1 hv
    cases vk_int h
    exact ⟨i, rfl, hl, k _ G H (Po.refl w) (.str _)⟩) q
theorem pd_min2 (hm : X.mg "min" = none) (hc : X.calm = true) (ha : PD X ds M a (I i) M1) (hb : PD X ds M1 b (I j) M2) (hg : Gl X "min" := by rfl) (h1 : starEach (a :: [b]) X.env = (false, eval a X.env) :: starEach [b] X.env := by rfl) (h2 : starEach (b :: []) X.env = (false, eval b X.env) :: starEach [] X.env := by rfl)
    (h3 : (backTo pos (starEach [b] X.env)).any (·.1) = false := by rfl) : PD X ds M (.Call (.Name "min" p) [a, b] [] pos) (I (if j < i then j else i)) M2 :=
  pe_mono (pe_callB (call_min2 hc) hg hm (by decide +kernel) (pda_cons ha (pda_cons hb pda_nil h2) h1) (he := h1) (hpl := h3)) fun σ H Q q => ce_args (fun G H vs Q w hv k => by
    obtain ⟨v, u, rfl, h, h'⟩ := vks2 hv
    cases vk_int h
    cases vk_int h'
    exact ⟨i, j, rfl, k _ G H (Po.refl w) (.int _)⟩) q
theorem pd_max2 (hm : X.mg "max" = none) (hc : X.calm = true) (ha : PD X ds M a (I i) M1) (hb : PD X ds M1 b (I j) M2) (hg : Gl X "max" := by rfl) (h1 : starEach (a :: [b]) X.env = (false, eval a X.env) :: starEach [b] X.env := by rfl) (h2 : starEach (b :: []) X.env = (false, eval b X.env) :: starEach [] X.env := by rfl)
    (h3 : (backTo pos (starEach [b] X.env)).any (·.1) = false := by rfl) : PD X ds M (.Call (.Name "max" p) [a, b] [] pos) (I (if j > i then j else i)) M2 :=
  pe_mono (pe_callB (call_max2 hc) hg hm (by decide +kernel) (pda_cons ha (pda_cons hb pda_nil h2) h1) (he := h1) (hpl := h3)) fun σ H Q q => ce_args (fun G H vs Q w hv k => by
    obtain ⟨v, u, rfl, h, h'⟩ := vks2 hv
    cases vk_int h
    cases vk_int h'
    exact ⟨i, j, rfl, k _ G H (Po.refl w) (.int _)⟩) q
theorem pd_gcd (hm : X.mg "gcd" = some (.builtin "math.gcd")) (ha : PD X ds M a (I i) M1) (hb : PD X ds M1 b (I j) M2) (hg : Gl X "gcd" := by rfl) (h1 : starEach (a :: [b]) X.env = (false, eval a X.env) :: starEach [b] X.env := by rfl) (h2 : starEach (b :: []) X.env = (false, eval b X.env) :: starEach [] X.env := by rfl)
    (h3 : (backTo pos (starEach [b] X.env)).any (·.1) = false := by rfl) : PD X ds M (.Call (.Name "gcd" p) [a, b] [] pos) (I ((Nat.gcd i.natAbs j.natAbs : Nat) : Int)) M2 :=
  pe_mono (pe_callBfun cr_gcd hg hm (pda_cons ha (pda_cons hb pda_nil h2) h1) (he := h1) (hpl := h3)) fun σ H Q q => ce_args (fun G H vs Q w hv k => by
    obtain ⟨v, u, rfl, h, h'⟩ := vks2 hv
    cases vk_int h
    cases vk_int h'
    exact ⟨i, j, rfl, k _ G H (Po.refl w) (.int _)⟩) q
theorem pd_len {xs : List D} (hm : X.mg "len" = none) (ha : PD X ds M a (.dat (.list xs)) M1) (hg : Gl X "len" := by rfl) (h1 : starEach (a :: []) X.env = (false, eval a X.env) :: starEach [] X.env := by rfl) : PD X ds M (.Call (.Name "len" p) [a] [] pos) (I xs.length) M1 :=
  pe_mono (pe_callB call_len_seq hg hm PySem.boot_len (pda_cons ha pda_nil h1) (he := h1)) fun σ H Q q => ce_args (fun G H vs Q w hv k => by
    obtain ⟨v, rfl, h⟩ := vks1 hv
    obtain ⟨a, ys, rfl, h1, h2⟩ := vk_lst h
    exact ⟨a, ys, rfl, .inl (w.ex.seq h1), by rw [dps_len h2]; exact k _ G H (Po.refl w) (.int _)⟩) q
theorem pd_lenT {xs : List D} (hm : X.mg "len" = none) (ha : PD X ds M a (.dat (.tuple xs)) M1) (hg : Gl X "len" := by rfl) (h1 : starEach (a :: []) X.env = (false, eval a X.env) :: starEach [] X.env := by rfl) : PD X ds M (.Call (.Name "len" p) [a] [] pos) (I xs.length) M1 :=
  pe_mono (pe_callB call_len_seq hg hm PySem.boot_len (pda_cons ha pda_nil h1) (he := h1)) fun σ H Q q => ce_args (fun G H vs Q w hv k => by
    obtain ⟨v, rfl, h⟩ := vks1 hv
    obtain ⟨a, ys, rfl, h1, h2⟩ := vk_tup h
    exact ⟨a, ys, rfl, .inr (seqT w.ex h1), by rw [dps_len h2]; exact k _ G H (Po.refl w) (.int _)⟩) q
theorem dp_newL {K : PySem.W.Frag} {M : Ms} {G H : Hp} {vs : List V} {xs : List D} (w : Wo K M G H) (h : DpAll K G vs xs) {q : Addr} (hq : H q = none) : Po K M M G H (upd G q (.lst vs)) (upd H q (.lst vs)) ∧ Vk K (upd G q (.lst vs)) (.ref q) (.dat (.list xs)) := by
  have p := Po.new w hq (.lst vs)
  exact ⟨p, Dp.lst (SqL.of upd_same) (dpsUp p.g xs h)⟩
theorem dp_newT {K : PySem.W.Frag} {M : Ms} {G H : Hp} {vs : List V} {xs : List D} (w : Wo K M G H) (h : DpAll K G vs xs) {q : Addr} (hq : H q = none) : Po K M M G H (upd G q (.tup vs)) (upd H q (.tup vs)) ∧ Vk K (upd G q (.tup vs)) (.ref q) (.dat (.tuple xs)) := by
  have p := Po.new w hq (.tup vs)
  exact ⟨p, Dp.tup (SqT.of upd_same) (dpsUp p.g xs h)⟩
theorem pd_listL {xs : List D} (hm : X.mg "list" = none) (ha : PD X ds M a (.dat (.list xs)) M1) (hg : Gl X "list" := by rfl) (h1 : starEach (a :: []) X.env = (false, eval a X.env) :: starEach [] X.env := by rfl) : PD X ds M (.Call (.Name "list" p) [a] [] pos) (.dat (.list xs)) M1 :=
  pe_mono (pe_callTy call_list_of hg hm (by decide +kernel) (pda_cons ha pda_nil h1) (he := h1)) fun σ H Q q => ce_args (fun G H vs Q w hv k => by
    obtain ⟨v, rfl, h⟩ := vks1 hv
    obtain ⟨a, ys, rfl, h1, h2⟩ := vk_lst h
    exact ⟨a, ys, rfl, .inl (w.ex.seq h1), fun l hl => k _ _ _ (dp_newL w h2 hl).1 (dp_newL w h2 hl).2⟩) q
theorem pd_listT {xs : List D} (hm : X.mg "list" = none) (ha : PD X ds M a (.dat (.tuple xs)) M1) (hg : Gl X "list" := by rfl) (h1 : starEach (a :: []) X.env = (false, eval a X.env) :: starEach [] X.env := by rfl) : PD X ds M (.Call (.Name "list" p) [a] [] pos) (.dat (.list xs)) M1 :=
  pe_mono (pe_callTy call_list_of hg hm (by decide +kernel) (pda_cons ha pda_nil h1) (he := h1)) fun σ H Q q => ce_args (fun G H vs Q w hv k => by
    obtain ⟨v, rfl, h⟩ := vks1 hv
    obtain ⟨a, ys, rfl, h1, h2⟩ := vk_tup h
    exact ⟨a, ys, rfl, .inr (seqT w.ex h1), fun l hl => k _ _ _ (dp_newL w h2 hl).1 (dp_newL w h2 hl).2⟩) q
end
end Cal
/-! CalD -/
namespace Cal
open PySem PySem.Spec PyProof.Rows L2
/-- no error goes out -/
abbrev FE0 : FE := fun _ _ _ => False
section
variable {P : Program} {w : World} {K : PySem.W.Frag} {mg : Str → Option Value} {base : Heap}
/-- the context of a def's body -/
abbrev Bx (P : Program) (w : World) (K : PySem.W.Frag) (mg : Str → Option Value) (base : Heap) (N : List Str) (x : Str) (scope : Scope) (f : Addr) (cdv : Value) (A : Around) (outer : List Env) (s : Shared) (H : Hp) (E : XK) : Cx := cxOf (L2.CX P w) P w K mg base N x scope f cdv A outer s H E
abbrev wE (E : XK) : WX := fun cls d _ H => E cls d H
/-- THE RULE for a def -/
theorem fn_mk {x : Str} {params : Arguments} {body : List Stmt} {scope : Scope} {dvs0 dvs : List V} {f : Addr} {fd : FuncData} {N ps : List Str} {k n : Nat} {us : List Value} {drs : List Sv} {F : FR} {FX : FE} (FD : FunD K x x params body scope dvs0 [] f fd) (S : FnScope N ps scope)
    (hm : mg x = some (.ref f)) (hb : Binds K fd ps us) (hv : Vals dvs us) (hd : ∀ G, Vks K G dvs drs) (hn : ps.length = n)
    (ok : ∀ cdv A outer s H E rs M r M', Room k (A.deeper (envOfC x scope s.heap.objs.size f cdv)) → rs.length = n → F rs M r M' → SD (Bx P w K mg base N x scope f cdv A outer s H E) (startD N.length rs) M body (.rt r M'))
    (ex : ∀ cdv A outer s H E rs M c, Room k (A.deeper (envOfC x scope s.heap.objs.size f cdv)) → rs.length = n → FX rs M c → SX (Bx P w K mg base N x scope f cdv A outer s H E) (wE E) (startD N.length rs) M body c := by intro _ _ _ _ _ _ _ _ _ _ _ h; exact h.elim) :
    Fn P w K mg base (k + 1) x n dvs drs F FX := by
  refine ⟨⟨f, fd, ps, us, ?_, hm, FD.kp, hb, hv⟩, hd⟩
  refine FD.ok S (fun vs H Q E h => (sp_len vs H Q E h).trans hn.symm) fun cdv A outer s H vs Q E hr h => ?_
  obtain ⟨G, rs, M, hl, w0, hvs, h⟩ := h
  have hl2 : rs.length = n := hvs.len.symm.trans hl
  rcases h with ⟨r, M', hF, q⟩ | ⟨c, hX, q⟩
  · exact ⟨_, ok cdv A outer s H E rs M r M' hr hl2 hF, G, w0, Sl.start hvs, q⟩
  · exact ⟨_, ex cdv A outer s H E rs M c hr hl2 hX, G, w0, Sl.start hvs, fun σ' G' H' p => q G' H' p⟩
/-- a def without defaults -/
theorem fn_mkN {x : Str} {params : Arguments} {body : List Stmt} {scope : Scope} {f : Addr} {fd : FuncData} {N ps : List Str} {k n : Nat} {F : FR} {FX : FE} (FD : FunD K x x params body scope [] [] f fd) (S : FnScope N ps scope)
    (hm : mg x = some (.ref f))
    (h : ∀ (kV doc pm : Value) (an : Option Addr) (cdv ct : Value) (us : List Value), us.length = ps.length → bindArgs (PySem.W.fnOf x x params body scope .none kV doc pm an cdv ct) ⟨us, []⟩ = pure (ps.zip us)) (hn : ps.length = n)
    (ok : ∀ cdv A outer s H E rs M r M', Room k (A.deeper (envOfC x scope s.heap.objs.size f cdv)) → rs.length = n → F rs M r M' → SD (Bx P w K mg base N x scope f cdv A outer s H E) (startD N.length rs) M body (.rt r M'))
    (ex : ∀ cdv A outer s H E rs M c, Room k (A.deeper (envOfC x scope s.heap.objs.size f cdv)) → rs.length = n → FX rs M c → SX (Bx P w K mg base N x scope f cdv A outer s H E) (wE E) (startD N.length rs) M body c := by intro _ _ _ _ _ _ _ _ _ _ _ h; exact h.elim) :
    Fn P w K mg base (k + 1) x n [] [] F FX := fn_mk FD S hm (FD.bindsN h) .nil (fun _ => .nil) hn ok ex
theorem takesB {N : List Str} {x : Str} {scope : Scope} {f : Addr} {cdv : Value} {A : Around} {outer : List Env} {s : Shared} {H : Hp} {E : XK} : Takes (Bx P w K mg base N x scope f cdv A outer s H E) (wE E) := takes_of rfl rfl rfl rfl
theorem passB {N : List Str} {x : Str} {scope : Scope} {f : Addr} {cdv : Value} {A : Around} {outer : List Env} {s : Shared} {H : Hp} {E : XK} : PassesOwn (model P w) (A.deeper (envOfC x scope s.heap.objs.size f cdv)) (envOfC x scope s.heap.objs.size f cdv) (Bx P w K mg base N x scope f cdv A outer s H E).xe := passes_of (X := Bx P w K mg base N x scope f cdv A outer s H E) rfl
end
/-- a def that takes data and hands back data, whatever may change -/
def pureF (g : List D → D → Prop) : FR := fun rs M r M' => M' = M ∧ ∃ ds d, rs = dats ds ∧ r = .dat d ∧ g ds d
theorem pureF.mk {g : List D → D → Prop} {ds : List D} {d : D} {M : Ms} (h : g ds d) : pureF g (dats ds) M (.dat d) M := ⟨rfl, ds, d, rfl, rfl, h⟩
theorem pf0 {g : List D → D → Prop} {d : D} {M : Ms} (h : g [] d) : pureF g [] M (.dat d) M := ⟨rfl, [], d, rfl, rfl, h⟩
theorem pf1 {g : List D → D → Prop} {a d : D} {M : Ms} (h : g [a] d) : pureF g [.dat a] M (.dat d) M := ⟨rfl, [a], d, rfl, rfl, h⟩
theorem pf2 {g : List D → D → Prop} {a b d : D} {M : Ms} (h : g [a, b] d) : pureF g [.dat a, .dat b] M (.dat d) M := ⟨rfl, [a, b], d, rfl, rfl, h⟩
theorem pf3 {g : List D → D → Prop} {a b c d : D} {M : Ms} (h : g [a, b, c] d) : pureF g [.dat a, .dat b, .dat c] M (.dat d) M := ⟨rfl, [a, b, c], d, rfl, rfl, h⟩
theorem pf4 {g : List D → D → Prop} {a b c e d : D} {M : Ms} (h : g [a, b, c, e] d) : pureF g [.dat a, .dat b, .dat c, .dat e] M (.dat d) M := ⟨rfl, [a, b, c, e], d, rfl, rfl, h⟩
end Cal
/-! CalE -/
namespace Cal
open PySem PySem.Spec PyProof.Rows L2
theorem pg_ex {X : Cx} {tg : Expr} {ι : Type} {p : ι → Prop} {t : ι → TG} (h : ∀ i, p i → PG X tg (t i)) : PG X tg (fun v σ H Q => ∃ i, p i ∧ t i v σ H Q) := ⟨fun pins s σ H v u Q I r ⟨i, hp, q⟩ => (h i hp).run pins s σ H v u Q I r q⟩
theorem pss_ex {X : Cx} {ss : List Stmt} {ι : Type} {p : ι → Prop} {t : ι → TS} (h : ∀ i, p i → PSs X ss (t i)) : PSs X ss (fun D σ H => ∃ i, p i ∧ t i D σ H) := ⟨fun pins s σ H D I ⟨i, hp, q⟩ => (h i hp).run pins s σ H D I q⟩
theorem pe_ex {X : Cx} {e : Expr} {ι : Type} {p : ι → Prop} {t : ι → TE} (h : ∀ i, p i → PE X e (t i)) : PE X e (fun σ H Q => ∃ i, p i ∧ t i σ H Q) := ⟨fun pins s σ H Q I ⟨i, hp, q⟩ => (h i hp).run pins s σ H Q I q⟩
theorem pt_ex {X : Cx} {e : Expr} {ι : Type} {p : ι → Prop} {t : ι → TT} (h : ∀ i, p i → PT X e (t i)) : PT X e (fun σ H Q => ∃ i, p i ∧ t i σ H Q) := ⟨fun pins s σ H Q I ⟨i, hp, q⟩ => (h i hp).run pins s σ H Q I q⟩
theorem pts_ex {X : Cx} {es : List Expr} {ι : Type} {p : ι → Prop} {t : ι → TT} (h : ∀ i, p i → PTs X es (t i)) : PTs X es (fun σ H Q => ∃ i, p i ∧ t i σ H Q) := ⟨fun pins s σ H Q I ⟨i, hp, q⟩ => (h i hp).run pins s σ H Q I q⟩
section
variable {X : Cx} {ds ds' ds1 ds2 : List Sv} {M M' M0 M1 M2 M3 : Ms} {a b c e : Expr} {es : List Expr} {st : Stmt} {ss s1 s2 body : List Stmt} {r ra rb : Sv} {rs : List Sv} {i j : Int} {pos : Pos} {R : Rs}

/-! ### for, over a list -/
abbrev gFor (X : Cx) (tg : Expr) (st : Nat → List Sv) : TG := fun v σ H Q => ∃ z : Nat × D × List Sv × List Nat, GD X tg (.dat z.2.1) (st z.1) z.2.2.1 z.2.2.2 ∧ cG X.K (.dat z.2.1) (st z.1) z.2.2.1 z.2.2.2 v σ H Q
abbrev tFor1 (X : Cx) (body : List Stmt) (st : Nat → List Sv) (ms : Nat → Ms) : TS := fun D σ H => ∃ z : Nat × List Sv, SD X z.2 (ms z.1) body (.nx (st (z.1 + 1)) (ms (z.1 + 1))) ∧ cS X.K z.2 (ms z.1) (.nx (st (z.1 + 1)) (ms (z.1 + 1))) D σ H
theorem sd_forL {tg : Expr} {xs : List D} (st : Nat → List Sv) (ms : Nat → Ms) (hp : PassesOwn (model X.prog X.w) X.A X.env X.xe) (hc : X.calm = true) (he : PD X ds M e (.dat (.list xs)) M1) (h0 : st 0 = ds) (hm : ms 0 = M1)
    (hs : ∀ i d, xs[i]? = some d → ∃ ds' ts, GD X tg (.dat d) (st i) ds' ts ∧ SD X ds' (ms i) body (.nx (st (i + 1)) (ms (i + 1)))) (hfs : ∀ x, foldedSetIterable e X.env x = pure x := by intro _; rfl) :
    SD1 X ds M (.For tg e body [] pos) (.nx (st xs.length) (ms xs.length)) := by
  refine ps_mono (ps_for hp hc (pi_list he)
    (pg_ex (ι := Nat × D × List Sv × List Nat) (p := fun z => GD X tg (.dat z.2.1) (st z.1) z.2.2.1 z.2.2.2) (t := fun z => cG X.K (.dat z.2.1) (st z.1) z.2.2.1 z.2.2.2) fun _ h => h)
    (pss_ex (ι := Nat × List Sv) (p := fun z => SD X z.2 (ms z.1) body (.nx (st (z.1 + 1)) (ms (z.1 + 1)))) (t := fun z => cS X.K z.2 (ms z.1) (.nx (st (z.1 + 1)) (ms (z.1 + 1)))) fun _ h => h) hfs) fun D σ H ⟨G, w, s, k⟩ => ?_
  refine ⟨G, w, s, fun v G1 H1 p1 hv => ?_⟩
  obtain ⟨a, vs, rfl, h1, h2⟩ := vk_lst hv
  have hl := dps_len h2
  refine ⟨a, rfl, ⟨vs, p1.w.ex.seq h1⟩, for_list (g := gFor X tg st) (tb := tFor1 X body st ms) (D := D) (xs := vs) (fun i σ' H' => ∃ Gi, Po X.K M (ms i) G H Gi H' ∧ Same G1 Gi ∧ Sl X.K Gi σ' (st i)) ⟨G1, by rw [hm]; exact p1, Same.refl _, by rw [h0]; exact s.up p1.g⟩ (fun i σ' H' _ ⟨Gi, p, sg, sl⟩ => (sg.trans p.w.ex).seq h1) (fun i x σ' H' hx ⟨Gi, p, sg, sl⟩ => ?_) (fun σ' H' ⟨Gi, p, sg, sl⟩ => ?_)⟩
  · have hi : i < xs.length := by rw [← hl]; exact (List.getElem?_eq_some_iff.mp hx).1
    have hd : xs[i]? = some xs[i] := List.getElem?_eq_getElem hi
    obtain ⟨v, e1, e2⟩ := dps_get h2 hd
    rw [hx] at e1
    cases e1
    obtain ⟨ds', ts, hg, hb⟩ := hs i xs[i] hd
    exact ⟨(i, xs[i], ds', ts), hg, ms i, Gi, p.w, sl, dpUp sg _ e2, fun σ2 s2 _ => ⟨(i, ds'), hb, Gi, p.w, s2, fun σ3 G3 H3 p3 s3 => ⟨G3, p.trans p3, sg.trans p3.g, s3⟩⟩⟩
  · rw [hl] at p sl
    exact k σ' Gi H' p sl

/-! ### lists that change -/
/-- x = [], and at the end the list is handed back -/
theorem sd_newF (n : Nat) {x : Str} {pos' lpos : Pos} {xs : List D} (hN : X.N.Nodup) (h : ∀ l, SD X (ds.set n (.raw (.ref l))) ((l, .lst []) :: M) ss (.rt (.raw (.ref l)) ((l, .lst (dats xs)) :: M'))) (hi : X.N[n]? = some x := by rfl) (hx : Loc X.env.scope x := by first | exact Or.inl rfl | exact Or.inr rfl)
    (hs : swapsWith (.List [] lpos) (some (.Name x pos')) pos.line X.env = pure false := by rfl) (hf : X.fn x = true ∨ X.env.scope.names.lookup x = some .local := by first | exact .inl rfl | exact .inr rfl | assumption) :
    SD X ds M (.Assign [.Name x pos'] (.List [] lpos) pos :: ss) (.rt (.dat (.list xs)) M') := by
  refine pss_mono (pss_cons (ps_set (i := n) hN hi hx (pe_lst pa_nil) hs hf) (pss_ex (ι := Addr) (p := fun _ => True) (t := fun l => cS X.K (ds.set n (.raw (.ref l))) ((l, .lst []) :: M) (.rt (.raw (.ref l)) ((l, .lst (dats xs)) :: M'))) fun l _ => h l)) fun D σ H ⟨G, w, s, k⟩ => ?_
  refine ⟨Nat.zero_le _, fun l hl => ⟨l, trivial, G, (Po.mnew (o := .lst []) (m := .lst []) w hl .nil).w, s.set n (show Vk X.K G (.ref l) (.raw (.ref l)) from rfl), fun v G' H' p hv => ?_⟩⟩
  have hv' : v = .ref l := hv
  subst hv'
  have p2 := (Po.mnew (o := .lst []) (m := .lst []) w hl .nil).trans p
  obtain ⟨vs, h1, h2, h3⟩ := Wo.lst (A := []) p2.w
  have p3 := p2.freeze h1 hl
  exact k _ _ _ p3 (Dp.lst (SqL.of upd_same) (dpsUp (fun x u e => by rw [upd_ne (ne_of_none e h3)]; exact e) xs (vks_dats h2)))
/-- .. and at the end it is forgotten -/
theorem sd_newD (n : Nat) {x : Str} {pos' lpos : Pos} (mo : Addr → MO) (hN : X.N.Nodup) (h : ∀ l, SD X (ds.set n (.raw (.ref l))) ((l, .lst []) :: M) ss (.rt r ((l, mo l) :: M'))) (hi : X.N[n]? = some x := by rfl) (hx : Loc X.env.scope x := by first | exact Or.inl rfl | exact Or.inr rfl)
    (hs : swapsWith (.List [] lpos) (some (.Name x pos')) pos.line X.env = pure false := by rfl) (hf : X.fn x = true ∨ X.env.scope.names.lookup x = some .local := by first | exact .inl rfl | exact .inr rfl | assumption) :
    SD X ds M (.Assign [.Name x pos'] (.List [] lpos) pos :: ss) (.rt r M') := by
  refine pss_mono (pss_cons (ps_set (i := n) hN hi hx (pe_lst pa_nil) hs hf) (pss_ex (ι := Addr) (p := fun _ => True) (t := fun l => cS X.K (ds.set n (.raw (.ref l))) ((l, .lst []) :: M) (.rt r ((l, mo l) :: M'))) fun l _ => h l)) fun D σ H ⟨G, w, s, k⟩ => ?_
  refine ⟨Nat.zero_le _, fun l hl => ⟨l, trivial, G, (Po.mnew (o := .lst []) (m := .lst []) w hl .nil).w, s.set n (show Vk X.K G (.ref l) (.raw (.ref l)) from rfl), fun v G' H' p hv => ?_⟩⟩
  exact k _ _ _ ((Po.mnew (o := .lst []) (m := .lst []) w hl .nil).trans p).drop hv
theorem vks_at {K : PySem.W.Frag} {G : Hp} : ∀ {rs : List Sv} {vs : List V} {i : Nat} {r : Sv}, Vks K G vs rs → rs[i]? = some r → ∃ v, vs[i]? = some v ∧ Vk K G v r
  | [], _, _, _, h, e => by simp at e
  | x :: xs, _, i, d, h, e => by
    cases h with
    | cons h1 h2 =>
      cases i with
      | zero =>
        simp at e
        subst e
        exact ⟨_, rfl, h1⟩
      | succ i =>
        obtain ⟨v, e1, e2⟩ := vks_at (i := i) h2 (by simpa using e)
        exact ⟨v, by simpa using e1, e2⟩
theorem vks_set {K : PySem.W.Frag} {G : Hp} {v : V} {r : Sv} (hv : Vk K G v r) : ∀ {rs : List Sv} {vs : List V} (i : Nat), Vks K G vs rs → Vks K G (vs.set i v) (rs.set i r)
  | _, _, _, .nil => .nil
  | _, _, 0, .cons _ t => .cons hv t
  | _, _, i + 1, .cons h t => .cons h (vks_set hv i t)
variable {A C A0 C0 : Ms} {l : Addr} {rs0 : List Sv}
/-- x[b] of a list that changes -/
theorem pd_ixM (ha : PD X ds M a (.raw (.ref l)) M1) (hb : PD X ds M1 b (I i) (A ++ (l, .lst rs) :: C)) (h : atI rs i = some r) (hs : PlainIx b := by exact fun _ _ => rfl) : PD X ds M (.Subscript a b pos) r (A ++ (l, .lst rs) :: C) :=
  pe_mono (pe_ix ix_list ha hb hs) fun σ H Q q => ce_bin (fun G H x y Q w hx hy k => by
    obtain ⟨vs, h1, h2, h3⟩ := w.lst
    obtain ⟨j, q1, q2⟩ : ∃ j, ixN rs.length i = some j ∧ rs[j]? = some r := by
      unfold atI at h
      cases e : ixN rs.length i with
      | none => rw [e] at h; cases h
      | some j => rw [e] at h; exact ⟨j, rfl, h⟩
    obtain ⟨v, e1, e2⟩ := vks_at h2 q2
    exact ⟨l, vs, i, v, hx, vk_int hy, SqL.of h1, by unfold atI; rw [h2.len, q1]; exact e1, k v G H (Po.refl w) e2⟩) q
/-- a[b] = e of such a list -/
theorem sd_setM {tpos : Pos} {j : Nat} (he : PD X ds M e r M1) (ha : PD X ds M1 a (.raw (.ref l)) M2) (hb : PD X ds M2 b (I i) (A ++ (l, .lst rs) :: C)) (hj : ixN rs.length i = some j) (hs : swapsWithSole [.Subscript a b tpos] e pos.line X.env = pure false := by rfl)
    (hw : swappedStores [.Subscript a b tpos] e X.env = pure none := by rfl) (h1 : (assignEach [.Subscript a b tpos] X.env).map (·.2) = [assign (.Subscript a b tpos) X.env] := by rfl) (hpl : PlainIx b := by exact fun _ _ => rfl)
    (hasg : ∀ v, assign (.Subscript a b tpos) X.env v = (do
      let ov ← holding [v] (eval a X.env)
      let iv ← holding [v, ov] (eval b X.env)
      standAt tpos
      holding [v, ov, iv] (setItem ov iv v)
      release [v, ov, iv] []) := by intro _; rfl) :
    SD1 X ds M (.Assign [.Subscript a b tpos] e pos) (.nx ds (A ++ (l, .lst (rs.set j r)) :: C)) :=
  ps_mono (ps_asg he (pg_sub ha hb set_list hasg) hs hw h1) fun D σ H ⟨G, w, s, k⟩ => ⟨G, w, s, fun v G1 H1 p1 hv => ⟨G1, p1.w, s.up p1.g, fun o G2 H2 p2 ho => ⟨G2, p2.w, s.up (p1.g.trans p2.g), fun x G3 H3 p3 hx => by
    obtain ⟨vs, q1, q2, q3⟩ := p3.w.lst
    have hv3 : Vk X.K G3 v r := hv.up (p2.g.trans p3.g)
    have p4 := Po.mput p3.w (m' := .lst (rs.set j r)) (o' := .lst (vs.set j v)) (vks_set hv3 j q2)
    exact ⟨l, vs, i, j, ho, vk_int hx, q1, by rw [q2.len]; exact hj, k σ _ _ (p1.trans (p2.trans (p3.trans p4))) (s.up (p1.g.trans (p2.g.trans p3.g)))⟩⟩⟩⟩
/-- x.append(e) -/
theorem sd_append {apos cpos : Pos} (hM : M = A0 ++ (l, .lst rs0) :: C0) (ha : PD X ds M a (.raw (.ref l)) M) (he : PD X ds M e r (A ++ (l, .lst rs) :: C)) (hz : rs.length ≤ 1000) (hbase : attributeBase a "append" X.env (eval a X.env) = eval a X.env := by rfl)
    (hfew : ((backTo cpos (starEach [e] X.env)).all (fun x => !x.1) && (backToKw cpos (keywordEach [] X.env)).all (fun x => x.1.isSome) && decide ([e].length + ([] : List Keyword).length + (if ([] : List Keyword).isEmpty then 0 else 1) < 30)) = true := by rfl)
    (hline : (apos.endLine == cpos.line) = true := by rfl) (h1 : starEach [e] X.env = (false, eval e X.env) :: starEach [] X.env := by rfl) (hplain : (backTo cpos (starEach [] X.env)).any (·.1) = false := by rfl) (hs : swapsWith (.Call (.Attribute a "append" apos) [e] [] cpos) none pos.line X.env = pure false := by rfl) :
    SD1 X ds M (.Expr (.Call (.Attribute a "append" apos) [e] [] cpos) pos) (.nx ds (A ++ (l, .lst (rs ++ [r])) :: C)) :=
  ps_mono (ps_expr (pe_bm PySem.F.plainAttrs_list PySem.F.slot_list_append PySem.F.type_list_append mt_append ha (pda_cons he pda_nil h1) hbase hfew hline h1 hplain) hs) fun D σ H ⟨G, w, s, k⟩ => ⟨G, w, s, fun v G1 H1 p1 hv => by
    have w1 := p1.w
    rw [hM] at w1
    obtain ⟨vs0, q1, _, _⟩ := w1.lst
    have hv' : v = .ref l := hv
    subst hv'
    refine ⟨.inl ⟨rfl, _, SqL.of q1⟩, G1, p1.w, s.up p1.g, fun us G2 H2 p2 hu => ?_⟩
    obtain ⟨u, rfl, hu1⟩ := vks1 hu
    obtain ⟨vs, q2, q3, q4⟩ := p2.w.lst
    have p3 := Po.mput p2.w (m' := .lst (rs ++ [r])) (o' := .lst (vs ++ [u])) (q3.app (.cons hu1 .nil))
    exact ⟨l, vs, u, rfl, rfl, q2, by rw [q3.len]; exact small1000 hz, k σ _ _ (p1.trans (p2.trans p3)) (s.up (p1.g.trans p2.g))⟩⟩
/-- == of such a list and a datum -/
theorem dp_mut {K : PySem.W.Frag} {G H : Hp} {xs : List D} (w : Wo K (A ++ (l, .lst (dats xs)) :: C) G H) : Dp K H (.ref l) (.list xs) := by
  obtain ⟨vs, h1, h2, _⟩ := w.lst
  exact .lst (SqL.of h1) (dpsUp w.ex xs (vks_dats h2))
theorem pdt_eqM {xs : List D} {d' : D} (hu : X.A.units + 64 < cLine) (ha : PD X ds M a (.raw (.ref l)) M1) (hb : PD X ds M1 b (.dat d') (A ++ (l, .lst (dats xs)) :: C)) (h1 : SeqAt.shaped (.list xs) = true) (h2 : SeqAt.shaped d' = true) : PDT X ds M (.Compare a [.Eq] [b] pos) (PyData.eqv (.list xs) d') (A ++ (l, .lst (dats xs)) :: C) :=
  pt_mono (pt_cmpR (op_eqD hu) ha hb (nomark _)) fun σ H Q ⟨G, w, s, k⟩ => ce_bin (r := B (PyData.eqv (.list xs) d')) (fun G H x y Q w hx hy k => ⟨.list xs, d', by
    have hx' : x = .ref l := hx
    rw [hx']; exact dp_mut w, dpUp w.ex d' hy, h1, h2, k _ G H (Po.refl w) (.bl _)⟩) ⟨G, w, s, fun v G' H' p hv => ⟨_, vk_bl hv, k G' H' p⟩⟩
/-- len of such a list -/
theorem pd_lenM {p : Pos} (hm : X.mg "len" = none) (ha : PD X ds M a (.raw (.ref l)) (A ++ (l, .lst rs) :: C)) (hg : Gl X "len" := by rfl) (h1 : starEach (a :: []) X.env = (false, eval a X.env) :: starEach [] X.env := by rfl) : PD X ds M (.Call (.Name "len" p) [a] [] pos) (I rs.length) (A ++ (l, .lst rs) :: C) :=
  pe_mono (pe_callB call_len_seq hg hm PySem.boot_len (pda_cons ha pda_nil h1) (he := h1)) fun σ H Q q => ce_args (fun G H vs Q w hv k => by
    obtain ⟨v, rfl, h⟩ := vks1 hv
    obtain ⟨ys, q1, q2, _⟩ := w.lst
    have h' : v = .ref l := h
    subst h'
    exact ⟨l, ys, rfl, .inl (SqL.of q1), by rw [q2.len]; exact k _ G H (Po.refl w) (.int _)⟩) q

/-! ### list + list -/
def rCatD (K : PySem.W.Frag) : R2 := fun x y H Q => ∃ l b xs zs, x = .ref l ∧ y = .ref b ∧ SqL K H l xs ∧ SqL K H b zs ∧ xs.length + zs.length ≤ sizeLine ∧ ∀ p, H p = none → Q (.ref p) (upd H p (.lst (xs ++ zs)))
theorem op_catD : OpR X (binaryOp .Add) (rCatD X.K) := by
  intro pins s σ H x y v u Q I rx ry h
  obtain ⟨l, b, xs, zs, rfl, rfl, hH, hB, hz, q⟩ := h
  cases rx
  cases ry
  obtain ⟨its, r1, p1, _⟩ := I.list hH
  obtain ⟨its2, r2, p2, _⟩ := I.list hB
  obtain ⟨⟨cls, dd, data, sl⟩, ho, hc, n, hd⟩ := id p1.isList
  obtain ⟨⟨cls2, dd2, data2, sl2⟩, ho2, hc2, n2, hd2⟩ := id p2.isList
  simp only at hc hd hc2 hd2
  subst hc hd hc2 hd2
  have e : its.toArray ++ its2.toArray = (its ++ its2).toArray := by simp
  refine concat_meets ⟨_, ho, rfl⟩ ⟨_, ho2, rfl⟩ noFill_list_add seq_list_add PySem.F.slot_list_add PySem.F.entry_list_add (PySem.F.args_list_add_2 _ _) (list_addW l b its.toArray its2.toArray n n2 dd dd2 sl sl2 (by rw [List.size_toArray, List.size_toArray, ← r1.length, ← r2.length]; exact hz)) ⟨ho, ho2, ?_⟩
  rw [e]
  exact ⟨.ref _, _, I.lnew (t' := s.toks) (r1.append r2) (by rw [List.length_append]; omega), rfl, q _ I.fresh⟩
theorem pd_cat {xs ys : List D} (ha : PD X ds M a (.dat (.list xs)) M1) (hb : PD X ds M1 b (.dat (.list ys)) M2) (hl : xs.length + ys.length ≤ 1000) : PD X ds M (.BinOp a .Add b pos) (.dat (.list (xs ++ ys))) M2 :=
  pe_mono (pe_op op_catD ha hb) fun σ H Q q => ce_bin (fun G H x y Q w hx hy k => by
    obtain ⟨p, vs, rfl, h1, h2⟩ := vk_lst hx
    obtain ⟨p', vs', rfl, h3, h4⟩ := vk_lst hy
    exact ⟨p, p', vs, vs', rfl, rfl, w.ex.seq h1, w.ex.seq h3, by rw [dps_len h2, dps_len h4]; exact Nat.le_of_lt (small1000 hl), fun q hq => k _ _ _ (dp_newL w (dps_app h2 h4) hq).1 (dp_newL w (dps_app h2 h4) hq).2⟩) q
/-- a list that changes, and a datum -/
theorem pd_catM {xs ys : List D} (ha : PD X ds M a (.raw (.ref l)) M1) (hb : PD X ds M1 b (.dat (.list ys)) (A ++ (l, .lst (dats xs)) :: C)) (hl : xs.length + ys.length ≤ 1000) : PD X ds M (.BinOp a .Add b pos) (.dat (.list (xs ++ ys))) (A ++ (l, .lst (dats xs)) :: C) :=
  pe_mono (pe_op op_catD ha hb) fun σ H Q q => ce_bin (fun G H x y Q w hx hy k => by
    have hx' : x = .ref l := hx
    subst hx'
    obtain ⟨vs, h1, h2, _⟩ := w.lst
    obtain ⟨p', vs', rfl, h3, h4⟩ := vk_lst hy
    have h2' := vks_dats h2
    exact ⟨l, p', vs, vs', rfl, rfl, SqL.of h1, w.ex.seq h3, by rw [dps_len h2', dps_len h4]; exact Nat.le_of_lt (small1000 hl), fun q hq => k _ _ _ (dp_newL w (dps_app h2' h4) hq).1 (dp_newL w (dps_app h2' h4) hq).2⟩) q

/-! ### slices of lists -/
def cutD (xs : List D) (lo hi : Option Int) : List D := (xs.drop (HT.sIx xs.length 0 lo)).take (HT.sIx xs.length xs.length hi - HT.sIx xs.length 0 lo)
def cO (K : PySem.W.Frag) (ds : List Sv) (M : Ms) (o : Option Int) (M' : Ms) : TO := fun σ H Q => ∃ G, Wo K M G H ∧ Sl K G σ ds ∧ ∀ G' H', Po K M M' G H G' H' → Q o H'
theorem po_mono {t t' : TO} {lo : Option Expr} (h : PO X lo t) (k : ∀ σ H Q, t' σ H Q → t σ H Q) : PO X lo t' := ⟨fun pins s σ H Q I q => h.run pins s σ H Q I (k σ H Q q)⟩
theorem pdo_none : PO X none (cO X.K ds M none M) := po_mono po_none fun σ H Q ⟨G, w, s, k⟩ => k G H (Po.refl w)
theorem pdo_some (h : PD X ds M e (I i) M1) : PO X (some e) (cO X.K ds M (some i) M1) := po_mono (po_some h) fun σ H Q ⟨G, w, s, k⟩ => ⟨G, w, s, fun v G' H' p hv => ⟨i, vk_int hv, k G' H' p⟩⟩
theorem pd_slL {xs : List D} {lo hi : Option Expr} {l' h' : Option Int} {p2 : Pos} (he : PD X ds M e (.dat (.list xs)) M1) (hl : PO X lo (cO X.K ds M1 l' M2)) (hh : PO X hi (cO X.K ds M2 h' M3)) : PD X ds M (.Subscript e (.Slice lo hi none p2) pos) (.dat (.list (cutD xs l' h'))) M3 :=
  pe_mono (pe_slice sl_list he hl hh) fun σ H Q ⟨G, w, s, k⟩ => ⟨G, w, s, fun v G1 H1 p1 hv => ⟨G1, p1.w, s.up p1.g, fun G2 H2 p2 => ⟨G2, p2.w, s.up (p1.g.trans p2.g), fun G3 H3 p3 => by
    obtain ⟨a, vs, rfl, h1, h2⟩ := vk_lst (hv.up (p2.g.trans p3.g))
    refine ⟨a, vs, rfl, p3.w.ex.seq h1, fun q hq => ?_⟩
    have h3 : DpAll X.K G3 (cutV vs l' h') (cutD xs l' h') := by
      unfold cutV cutD
      rw [dps_len h2]
      exact dps_take _ (dps_drop _ h2)
    have n := dp_newL p3.w h3 hq
    exact k _ _ _ (p1.trans (p2.trans (p3.trans n.1))) n.2⟩⟩⟩
end
end Cal
/-! CalF -/
namespace Cal
open PySem PySem.Spec PyProof.Rows L2
theorem wipe_sub {σ : L2.St} {vs : List Nat} : ∀ {us : List Nat}, (∀ u ∈ us, u ∈ vs) → L2.wipe (L2.wipe σ us) vs = L2.wipe σ vs
  | [], _ => rfl
  | u :: us, h => by
    show L2.wipe ((L2.wipe σ us).set u none) vs = L2.wipe σ vs
    rw [(wipe_put vs).1 (h u (by simp)), wipe_sub fun t ht => h t (by simp [ht])]
theorem wipe_idem {σ : L2.St} {vs : List Nat} : L2.wipe (L2.wipe σ vs) vs = L2.wipe σ vs := wipe_sub fun _ h => h
/-- what a comprehension has made so far -/
def pick (bs : Nat → Bool) (out : Nat → D) : Nat → List D
  | 0 => []
  | n + 1 => pick bs out n ++ (if bs n then [out n] else [])
theorem pick_len (bs : Nat → Bool) (out : Nat → D) : ∀ n, (pick bs out n).length ≤ n
  | 0 => Nat.le_refl _
  | n + 1 => by
    have := pick_len bs out n
    show (pick bs out n ++ (if bs n then [out n] else [])).length ≤ n + 1
    rw [List.length_append]
    split <;> simp <;> omega
theorem pick_all (out : Nat → D) : ∀ n, pick (fun _ => true) out n = (List.range n).map out
  | 0 => rfl
  | n + 1 => by
    show pick _ out n ++ [out n] = _
    rw [pick_all out n, List.range_succ, List.map_append]
    rfl
section
variable {X : Cx} {ds ds' : List Sv} {M M' M0 M1 M2 : Ms} {e elt tg : Expr} {ifs : List Expr} {scope : Scope} {own : List (Str × Nat)} {pos : Pos}
/-- the block's context -/
abbrev Zb (X : Cx) (scope : Scope) (s : Shared) (H : Hp) (C : Addr) (cl : List (Str × Addr)) (fp : List Addr) : Cx := X.blk s H scope (compEnvC scope cl C X.env) fp
/-- what is asked of one turn: d the item, eis the slots behind the target, b whether it is kept, o the datum that comes of it, M the changing things ahead and behind -/
structure Turn1 (X : Cx) (scope : Scope) (ds : List Sv) (vs : List Nat) (tg elt : Expr) (ifs : List Expr) (d : D) (b : Bool) (o : D) (M M' : Ms) : Prop where
  ex : ∃ eis ts, (∀ t ∈ ts, t ∈ vs) ∧ (∀ s H C cl fp, GD (Zb X scope s H C cl fp) tg (.dat d) (wipeD ds vs) eis ts) ∧ (∀ s H C cl fp q, PTs (Zb X scope s H C cl fp) ifs (cT X.K eis (q :: M) b (q :: M))) ∧
    (b = true → ∀ s H C cl fp q, PD (Zb X scope s H C cl fp) eis (q :: M) elt (.dat o) (q :: M')) ∧ (b = false → M' = M)
abbrev gLc (X : Cx) (scope : Scope) (ds : List Sv) (vs : List Nat) (tg : Expr) : TG := fun v σ H Q => ∃ z : D × List Sv × List Nat, (∀ s H C cl fp, GD (Zb X scope s H C cl fp) tg (.dat z.1) (wipeD ds vs) z.2.1 z.2.2) ∧ cG X.K (.dat z.1) (wipeD ds vs) z.2.1 z.2.2 v σ H Q
abbrev tLcT (X : Cx) (scope : Scope) (ifs : List Expr) : TT := fun σ H Q => ∃ z : List Sv × Ms × Bool, (∀ s H C cl fp, PTs (Zb X scope s H C cl fp) ifs (cT X.K z.1 z.2.1 z.2.2 z.2.1)) ∧ cT X.K z.1 z.2.1 z.2.2 z.2.1 σ H Q
abbrev tLcE (X : Cx) (scope : Scope) (elt : Expr) : TE := fun σ H Q => ∃ z : List Sv × Ms × D × Ms, (∀ s H C cl fp, PD (Zb X scope s H C cl fp) z.1 z.2.1 elt (.dat z.2.2.1) z.2.2.2) ∧ cE X.K z.1 z.2.1 (.dat z.2.2.1) z.2.2.2 σ H Q
/-- between two turns -/
def Cv (K : PySem.W.Frag) (M : Ms) (G H G1 : Hp) (Dl : Addr) (bs : Nat → Bool) (out : Nat → D) (ms : Nat → Ms) (i : Nat) (H' : Hp) : Prop := ∃ Gi, Po K M ((Dl, .lst (dats (pick bs out i))) :: ms i) G H Gi H' ∧ Same G1 Gi
theorem lc_turn {vs : List Nat} {d : D} {σ : L2.St} {G H G1 : Hp} {Dl : Addr} {bs : Nat → Bool} {out : Nat → D} {ms : Nat → Ms} {i : Nat} {H' : Hp} {x : V} (hi : i ≤ 1000) (s : Sl X.K G1 σ ds) (T : Turn1 X scope ds vs tg elt ifs d (bs i) (out i) (ms i) (ms (i + 1)))
    (hd : Dp X.K G1 x d) (h : Cv X.K M G H G1 Dl bs out ms i H') :
    gLc X scope ds vs tg x (L2.wipe σ vs) H' fun σ2 H2 => L2.wipe σ2 vs = L2.wipe σ vs ∧ tLcT X scope ifs σ2 H2 fun b H3 => if b = true then tLcE X scope elt σ2 H3 fun y H4 => ∃ acc, H4 Dl = some (.lst acc) ∧ acc.length < sizeLine ∧ Cv X.K M G H G1 Dl bs out ms (i + 1) (upd H4 Dl (.lst (acc ++ [y]))) else Cv X.K M G H G1 Dl bs out ms (i + 1) H3 := by
  obtain ⟨eis, ts, hts, hg, ht, he, hf⟩ := T.ex
  obtain ⟨Gi, p, sg⟩ := h
  refine ⟨(d, eis, ts), hg, _, Gi, p.w, (s.up sg).wipe vs, dpUp sg _ hd, fun σ2 s2 chg => ⟨(chg vs hts).trans wipe_idem, (eis, (Dl, .lst (dats (pick bs out i))) :: ms i, bs i), fun s H C cl fp => ht s H C cl fp _, Gi, p.w, s2, fun G3 H3 p3 => ?_⟩⟩
  have hl := pick_len bs out i
  cases hb : bs i with
  | true =>
    refine iteT ⟨(eis, (Dl, .lst (dats (pick bs out i))) :: ms i, out i, (Dl, .lst (dats (pick bs out i))) :: ms (i + 1)), fun s H C cl fp => he hb s H C cl fp _, G3, p3.w, s2.up p3.g, fun y G4 H4 p4 hy => ?_⟩
    have p5 := p.trans (p3.trans p4)
    obtain ⟨ws, q1, q2, q3⟩ := Wo.lst (A := []) p5.w
    refine ⟨ws, q1, by rw [q2.len]; unfold dats; rw [List.length_map]; exact small1000 (Nat.le_trans hl hi), G4, ?_, sg.trans (p3.g.trans p4.g)⟩
    have p6 := Po.mput (A := []) p5.w (m' := .lst (dats (pick bs out (i + 1)))) (o' := .lst (ws ++ [y])) (by
      have e : dats (pick bs out (i + 1)) = dats (pick bs out i) ++ [.dat (out i)] := by
        show dats (pick bs out i ++ (if bs i then [out i] else [])) = _
        rw [hb]
        unfold dats
        rw [List.map_append]
        rfl
      rw [e]
      exact q2.app (.cons hy .nil))
    exact p5.trans p6
  | false =>
    refine iteF ⟨G3, ?_, sg.trans p3.g⟩
    have e : pick bs out (i + 1) = pick bs out i := by
      show pick bs out i ++ (if bs i then [out i] else []) = _
      rw [hb]
      simp
    rw [e, hf hb]
    exact p.trans p3
theorem lc_end {G H G1 H1 : Hp} {Dl : Addr} {bs : Nat → Bool} {out : Nat → D} {ms : Nat → Ms} {n : Nat} {H' : Hp} {Q : VK} (hD : H Dl = none) (h : Cv X.K M G H G1 Dl bs out ms n H')
    (k : ∀ v G' H', Po X.K M (ms n) G H G' H' → Vk X.K G' v (.dat (.list (pick bs out n))) → Q v H') : Q (.ref Dl) H' := by
  obtain ⟨Gi, p, sg⟩ := h
  obtain ⟨ws, q1, q2, q3⟩ := Wo.lst (A := []) p.w
  exact k _ _ _ (p.freeze q1 hD) (Dp.lst (SqL.of upd_same) (dpsUp (fun x u e => by rw [upd_ne (ne_of_none e q3)]; exact e) _ (vks_dats q2)))
theorem lc_begin {G H G1 H1 : Hp} {Dl : Addr} {bs : Nat → Bool} {out : Nat → D} {ms : Nat → Ms} (h0 : ms 0 = M1) (p : Po X.K M M1 G H G1 H1) (hD : H1 Dl = none) : Cv X.K M G H G1 Dl bs out ms 0 (upd H1 Dl (.lst [])) := by
  refine ⟨G1, ?_, Same.refl _⟩
  rw [h0]
  exact p.trans (Po.mnew p.w hD (m := .lst (dats [])) (o := .lst []) .nil)
theorem none_back {K : PySem.W.Frag} {G H G1 H1 : Hp} (p : Po K M M1 G H G1 H1) {x : Addr} (h : H1 x = none) : H x = none := by
  cases q : H x with
  | none => rfl
  | some o => exact absurd h (p.th x (by rw [q]; simp))
/-- over a list -/
theorem lc_readL {xs : List D} (bs : Nat → Bool) (out : Nat → D) (ms : Nat → Ms) (h0 : ms 0 = M1) (hz : xs.length ≤ 1000) (hT : ∀ i d, xs[i]? = some d → Turn1 X scope ds (own.map (·.2)) tg elt ifs d (bs i) (out i) (ms i) (ms (i + 1))) {σ : L2.St} {H : Hp} {Q : VK}
    (q : cE X.K ds M (.dat (.list (pick bs out xs.length))) (ms xs.length) σ H Q) : tLc (iList X.K (cE X.K ds M (.dat (.list xs)) M1)) (gLc X scope ds (own.map (·.2)) tg) (tLcT X scope ifs) (tLcE X scope elt) (own.map (·.2)) σ H Q := by
  obtain ⟨G, w, s, k⟩ := q
  refine ⟨G, w, s, fun v G1 H1 p1 hv => ?_⟩
  obtain ⟨a, vs, rfl, h1, h2⟩ := vk_lst hv
  have hl := dps_len h2
  refine ⟨a, rfl, ⟨vs, p1.w.ex.seq h1⟩, fun Dl hD => ?_⟩
  refine lc_list (K := X.K) (a := a) (g := gLc X scope ds (own.map (·.2)) tg) (tt := tLcT X scope ifs) (te := tLcE X scope elt) (Qd := fun H' => Q (.ref Dl) H') (xs := vs) (Cv X.K M G H G1 Dl bs out ms) (lc_begin h0 p1 hD) (fun i H' _ ⟨Gi, p, sg⟩ => (sg.trans p.w.ex).seq h1) (fun i x H' hx hc => ?_) (fun H' hc => ?_)
  · have hi : i < xs.length := by rw [← hl]; exact (List.getElem?_eq_some_iff.mp hx).1
    have hd : xs[i]? = some xs[i] := List.getElem?_eq_getElem hi
    obtain ⟨v, e1, e2⟩ := dps_get h2 hd
    rw [hx] at e1
    cases e1
    exact lc_turn (by omega) (s.up p1.g) (hT i _ hd) e2 hc
  · rw [hl] at hc
    exact lc_end (X := X) (H1 := H1) (none_back p1 hD) hc k
/-- over a tuple -/
theorem lc_readT {xs : List D} (bs : Nat → Bool) (out : Nat → D) (ms : Nat → Ms) (h0 : ms 0 = M1) (hz : xs.length ≤ 1000) (hT : ∀ i d, xs[i]? = some d → Turn1 X scope ds (own.map (·.2)) tg elt ifs d (bs i) (out i) (ms i) (ms (i + 1))) {σ : L2.St} {H : Hp} {Q : VK}
    (q : cE X.K ds M (.dat (.list (pick bs out xs.length))) (ms xs.length) σ H Q) : tLc (iTup X.K (cE X.K ds M (.dat (.tuple xs)) M1)) (gLc X scope ds (own.map (·.2)) tg) (tLcT X scope ifs) (tLcE X scope elt) (own.map (·.2)) σ H Q := by
  obtain ⟨G, w, s, k⟩ := q
  refine ⟨G, w, s, fun v G1 H1 p1 hv => ?_⟩
  obtain ⟨a, vs, rfl, h1, h2⟩ := vk_tup hv
  have hl := dps_len h2
  refine ⟨a, rfl, ⟨vs, seqT p1.w.ex h1⟩, fun Dl hD => ?_⟩
  refine lc_tup (K := X.K) (a := a) (g := gLc X scope ds (own.map (·.2)) tg) (tt := tLcT X scope ifs) (te := tLcE X scope elt) (Qd := fun H' => Q (.ref Dl) H') (xs := vs) (Cv X.K M G H G1 Dl bs out ms) (lc_begin h0 p1 hD) (fun i H' _ ⟨Gi, p, sg⟩ => seqT (sg.trans p.w.ex) h1) (fun i x H' hx hc => ?_) (fun H' hc => ?_)
  · have hi : i < xs.length := by rw [← hl]; exact (List.getElem?_eq_some_iff.mp hx).1
    have hd : xs[i]? = some xs[i] := List.getElem?_eq_getElem hi
    obtain ⟨v, e1, e2⟩ := dps_get h2 hd
    rw [hx] at e1
    cases e1
    exact lc_turn (by omega) (s.up p1.g) (hT i _ hd) e2 hc
  · rw [hl] at hc
    exact lc_end (X := X) (H1 := H1) (none_back p1 hD) hc k
/-- over range(n) -/
theorem lc_readR {n : Nat} (bs : Nat → Bool) (out : Nat → D) (ms : Nat → Ms) (h0 : ms 0 = M1) (hz : n ≤ 1000) (hT : ∀ i : Nat, i < n → Turn1 X scope ds (own.map (·.2)) tg elt ifs (.int (i : Int)) (bs i) (out i) (ms i) (ms (i + 1))) {σ : L2.St} {H : Hp} {Q : VK}
    (q : cE X.K ds M (.dat (.list (pick bs out n))) (ms n) σ H Q) : tLc (iRng1 (cA X.K ds M [I (n : Int)] M1)) (gLc X scope ds (own.map (·.2)) tg) (tLcT X scope ifs) (tLcE X scope elt) (own.map (·.2)) σ H Q := by
  obtain ⟨G, w, s, k⟩ := q
  refine ⟨G, w, s, fun vs G1 H1 p1 hv => ?_⟩
  obtain ⟨v, rfl, hv1⟩ := vks1 hv
  cases vk_int hv1
  refine ⟨(n : Int), rfl, by omega, by omega, fun Dl hD => ?_⟩
  have e : ((n : Int)).toNat = n := by omega
  rw [e]
  refine lc_range (lo := 0) (n := n) (g := gLc X scope ds (own.map (·.2)) tg) (tt := tLcT X scope ifs) (te := tLcE X scope elt) (Qd := fun H' => Q (.ref Dl) H') (Cv X.K M G H G1 Dl bs out ms) (lc_begin h0 p1 hD) (fun i H' hi hc => ?_) (fun H' hc => ?_)
  · have e0 : (0 : Int) + (i : Int) = (i : Int) := Int.zero_add _
    rw [e0]
    exact lc_turn (by omega) (s.up p1.g) (hT i hi) (.int _) hc
  · exact lc_end (X := X) (H1 := H1) (none_back p1 hD) hc k
theorem lc_g : ∀ (s : Shared) (H : Hp) (C : Addr) (cl : List (Str × Addr)) (fp : List Addr), PG (Zb X scope s H C cl fp) tg (gLc X scope ds (own.map (·.2)) tg) := fun s H C cl fp => pg_ex (ι := D × List Sv × List Nat) (p := fun z => ∀ s H C cl fp, GD (Zb X scope s H C cl fp) tg (.dat z.1) (wipeD ds (own.map (·.2))) z.2.1 z.2.2) (t := fun z => cG X.K (.dat z.1) (wipeD ds (own.map (·.2))) z.2.1 z.2.2) fun _ h => h s H C cl fp
theorem lc_t : ∀ (s : Shared) (H : Hp) (C : Addr) (cl : List (Str × Addr)) (fp : List Addr), PTs (Zb X scope s H C cl fp) ifs (tLcT X scope ifs) := fun s H C cl fp => pts_ex (ι := List Sv × Ms × Bool) (p := fun z => ∀ s H C cl fp, PTs (Zb X scope s H C cl fp) ifs (cT X.K z.1 z.2.1 z.2.2 z.2.1)) (t := fun z => cT X.K z.1 z.2.1 z.2.2 z.2.1) fun _ h => h s H C cl fp
theorem lc_e : ∀ (s : Shared) (H : Hp) (C : Addr) (cl : List (Str × Addr)) (fp : List Addr), PE (Zb X scope s H C cl fp) elt (tLcE X scope elt) := fun s H C cl fp => pe_ex (ι := List Sv × Ms × D × Ms) (p := fun z => ∀ s H C cl fp, PD (Zb X scope s H C cl fp) z.1 z.2.1 elt (.dat z.2.2.1) z.2.2.2) (t := fun z => cE X.K z.1 z.2.1 (.dat z.2.2.1) z.2.2.2) fun _ h => h s H C cl fp
/-- [elt for tg in e if ..], over a list; a tuple; range(n): own tells the block's names by slots -/
theorem pd_lcL (own : List (Str × Nat)) {xs : List D} (bs : Nat → Bool) (out : Nat → D) (ms : Nat → Ms) (hc : X.calm = true) (hN : X.N.Nodup) (hB : blkC X.N X.env.scope scope own = true) (he : PD X ds M e (.dat (.list xs)) M1) (h0 : ms 0 = M1) (hz : xs.length ≤ 1000)
    (hT : ∀ i d, xs[i]? = some d → Turn1 X scope ds (own.map (·.2)) tg elt ifs d (bs i) (out i) (ms i) (ms (i + 1))) (hs : ∀ x, foldedSetIterable e X.env x = pure x := by intro _; rfl) :
    PD X ds M (.ListComp elt [⟨tg, e, ifs, 0⟩] scope pos) (.dat (.list (pick bs out xs.length))) (ms xs.length) :=
  pe_mono (pe_lc (own := own) hc hN (pi_list he) (blkOk_by hB) lc_g lc_t lc_e hs) fun σ H Q q => lc_readL bs out ms h0 hz hT q
theorem pd_lcT (own : List (Str × Nat)) {xs : List D} (bs : Nat → Bool) (out : Nat → D) (ms : Nat → Ms) (hc : X.calm = true) (hN : X.N.Nodup) (hB : blkC X.N X.env.scope scope own = true) (he : PD X ds M e (.dat (.tuple xs)) M1) (h0 : ms 0 = M1) (hz : xs.length ≤ 1000)
    (hT : ∀ i d, xs[i]? = some d → Turn1 X scope ds (own.map (·.2)) tg elt ifs d (bs i) (out i) (ms i) (ms (i + 1))) (hs : ∀ x, foldedSetIterable e X.env x = pure x := by intro _; rfl) :
    PD X ds M (.ListComp elt [⟨tg, e, ifs, 0⟩] scope pos) (.dat (.list (pick bs out xs.length))) (ms xs.length) :=
  pe_mono (pe_lc (own := own) hc hN (pi_tup he) (blkOk_by hB) lc_g lc_t lc_e hs) fun σ H Q q => lc_readT bs out ms h0 hz hT q
theorem pd_lcR (own : List (Str × Nat)) {n : Nat} {p p' : Pos} (bs : Nat → Bool) (out : Nat → D) (ms : Nat → Ms) (hc : X.calm = true) (hN : X.N.Nodup) (hB : blkC X.N X.env.scope scope own = true) (hm : X.mg "range" = none) (he : PD X ds M e (I (n : Int)) M1) (h0 : ms 0 = M1) (hz : n ≤ 1000)
    (hT : ∀ i : Nat, i < n → Turn1 X scope ds (own.map (·.2)) tg elt ifs (.int (i : Int)) (bs i) (out i) (ms i) (ms (i + 1))) (hg : Gl X "range" := by rfl) (h1 : starEach (e :: []) X.env = (false, eval e X.env) :: starEach [] X.env := by rfl) (h2 : starEach [e] X.env = [(false, eval e X.env)] := by rfl)
    (hs : ∀ x, foldedSetIterable (.Call (.Name "range" p) [e] [] p') X.env x = pure x := by intro _; rfl) :
    PD X ds M (.ListComp elt [⟨tg, .Call (.Name "range" p) [e] [] p', ifs, 0⟩] scope pos) (.dat (.list (pick bs out n))) (ms n) :=
  pe_mono (pe_lc (own := own) hc hN (pi_range1 hg hm (pda_cons he pda_nil h1) h2) (blkOk_by hB) lc_g lc_t lc_e hs) fun σ H Q q => lc_readR bs out ms h0 hz hT q
/-- name = [..] -/
theorem sd_setLcL (own : List (Str × Nat)) {xs : List D} (i : Nat) {y : Str} {py spos : Pos} (bs : Nat → Bool) (out : Nat → D) (ms : Nat → Ms) (hc : X.calm = true) (hN : X.N.Nodup) (hB : blkC X.N X.env.scope scope own = true) (he : PD X ds M e (.dat (.list xs)) M1) (h0 : ms 0 = M1) (hz : xs.length ≤ 1000)
    (hsw : swapsWith (.ListComp elt [⟨tg, e, ifs, 0⟩] scope pos) (some (.Name y py)) spos.line X.env = pure true)
    (hT : ∀ i d, xs[i]? = some d → Turn1 X scope ds (own.map (·.2)) tg elt ifs d (bs i) (out i) (ms i) (ms (i + 1))) (hy : X.N[i]? = some y := by rfl) (hyl : X.env.scope.names.lookup y = some .local := by rfl) (hs : ∀ x, foldedSetIterable e X.env x = pure x := by intro _; rfl) :
    SD1 X ds M (.Assign [.Name y py] (.ListComp elt [⟨tg, e, ifs, 0⟩] scope pos) spos) (.nx (ds.set i (.dat (.list (pick bs out xs.length)))) (ms xs.length)) :=
  ps_mono (ps_setLc (own := own) hc hN hy hyl hsw (pi_list he) (blkOk_by hB) lc_g lc_t lc_e hs) fun D σ H ⟨G, w, s, k⟩ => lc_readL bs out ms h0 hz hT ⟨G, w, s, fun v G' H' p hv => k _ G' H' p ((s.up p.g).set i hv)⟩
theorem sd_setLcR (own : List (Str × Nat)) {n : Nat} (i : Nat) {y : Str} {py spos p p' : Pos} (bs : Nat → Bool) (out : Nat → D) (ms : Nat → Ms) (hc : X.calm = true) (hN : X.N.Nodup) (hB : blkC X.N X.env.scope scope own = true) (hm : X.mg "range" = none) (he : PD X ds M e (I (n : Int)) M1) (h0 : ms 0 = M1) (hz : n ≤ 1000)
    (hsw : swapsWith (.ListComp elt [⟨tg, .Call (.Name "range" p) [e] [] p', ifs, 0⟩] scope pos) (some (.Name y py)) spos.line X.env = pure true)
    (hT : ∀ i : Nat, i < n → Turn1 X scope ds (own.map (·.2)) tg elt ifs (.int (i : Int)) (bs i) (out i) (ms i) (ms (i + 1))) (hy : X.N[i]? = some y := by rfl) (hyl : X.env.scope.names.lookup y = some .local := by rfl) (hg : Gl X "range" := by rfl) (h1 : starEach (e :: []) X.env = (false, eval e X.env) :: starEach [] X.env := by rfl) (h2 : starEach [e] X.env = [(false, eval e X.env)] := by rfl)
    (hs : ∀ x, foldedSetIterable (.Call (.Name "range" p) [e] [] p') X.env x = pure x := by intro _; rfl) :
    SD1 X ds M (.Assign [.Name y py] (.ListComp elt [⟨tg, .Call (.Name "range" p) [e] [] p', ifs, 0⟩] scope pos) spos) (.nx (ds.set i (.dat (.list (pick bs out n)))) (ms n)) :=
  ps_mono (ps_setLc (own := own) hc hN hy hyl hsw (pi_range1 hg hm (pda_cons he pda_nil h1) h2) (blkOk_by hB) lc_g lc_t lc_e hs) fun D σ H ⟨G, w, s, k⟩ => lc_readR bs out ms h0 hz hT ⟨G, w, s, fun v G' H' p hv => k _ G' H' p ((s.up p.g).set i hv)⟩
/-- no if -/
theorem pts0 {M : Ms} {X : Cx} {K : PySem.W.Frag} {ds : List Sv} : PTs X [] (cT K ds M true M) := ⟨fun pins s σ H Q I ⟨G, w, sl, k⟩ => pts_nil.run pins s σ H Q I (k G H (Po.refl w))⟩
end
end Cal
/-! CalG -/
namespace PySem
namespace JRev
open PySem PySem.W PySem.Calls PyProof.Rows
open Builtin Builtin.Str Builtin.Int
section
variable {prog : Program} {w : World} {A : Around} {E : Value → Shared → Prop} {s : Shared}
/-- sep.join(reversed(a list)) from its iterator on -/
theorem join_rev {x : Str} {t : Tok} {ys : List Str} {it l : Addr} {items : Array Value} {Q : Value → Shared → Prop} (hh : A.handled = none) (hit : s.heap.IsRevIter it l ((items.size : Int) - 1)) (hl : s.heap.IsList l items) (hne : l ≠ it) (hn : items.size ≤ sizeLine)
    (hP : ∀ acc : Array Value, ItemsOf (fun i v => items[items.size - 1 - i]? = some v) acc items.size → StrsAre acc.toList ys) (hok : (ys.map (·.length)).sum + ys.length * x.length ≤ 16777216)
    (hq : ∀ h' t' k, (∀ b o, b ≠ it → s.heap.get? b = some o → h'.get? b = some o) → Q (.str (Txt.join x ys) t') { s with heap := h', toks := k }) :
    wpAny (model prog w) A (call (.builtin "str.join") [.str x t, .ref it]) Q E s := by
  refine wpAny_call (codeAny_call_builtin F.slot_str_join.plain F.entry_str_join (F.slot_str_join.check _ _ _ _ _ _ _ _ (typeIs_str _ _ _) (F.args_str_join_2 _ _) ?_))
  rw [join_tree_other]
  refine wpAny_bind (wpAny_typeOf hit.typeIs ?_)
  show wpAny _ A.in1 ((pyIter (.ref it)).tryCatch _ >>= fun it => collect it >>= fun items => joinTail x items) _ _ s
  refine wpAny_bind (wpAny_tryCatch (wpAny_pyIter_revIter hit ?_))
  refine wpAny_bind (RT.collect_rev (A := A.in1) hh hit hl hne hn fun h' tk acc hk hacc => ?_)
  obtain ⟨l, hl, ht⟩ := strsAre_values (hP acc hacc)
  subst ht
  rw [hl]
  have hok' := joinOk_of hok
  unfold JoinOk at hok'
  rw [Bool.not_eq_true'] at hok'
  have g : Gives (joinTail x (strValues l)) (joinMade x l) := by
    have g0 := gives_joinTail x l hok'
    cases l with
    | nil => exact g0
    | cons p r => cases r with
      | nil => exact g0
      | cons q r' => exact g0
  exact g prog w A (wants Q E) { s with heap := h', toks := tk } (post_join l ⟨joinFit_length hok', fun t' k => hq h' t' k hk⟩)
end
end JRev
end PySem
namespace Cal
open PySem PySem.Spec PyProof.Rows L2
theorem dps_strs {K : PySem.W.Frag} {G : Hp} : ∀ {ys : List Str} {vs : List V}, DpAll K G vs (ys.map .str) → vs = ys.map V.str
  | [], _, h => by cases h; rfl
  | y :: ys, _, h => by
    cases h with
    | cons a b =>
      cases a
      rw [List.map_cons, dps_strs b]
theorem vals_strs : ∀ {ys : List Str} {us : List Value}, Vals (ys.map V.str) us → StrsAre us ys
  | [], _, .nil => .nil
  | y :: ys, _, .cons ⟨t, e⟩ r => by subst e; exact .cons y t (vals_strs r)
section
variable {X : Cx} {ds ds' : List Sv} {M M' M0 M1 M2 M3 : Ms} {a b c e : Expr} {es : List Expr} {st : Stmt} {ss s1 s2 body : List Stmt} {r ra rb : Sv} {rs : List Sv} {i j : Int} {pos : Pos} {R : Rs} {A C : Ms} {l : Addr}
def tJoinRev (K : PySem.W.Frag) (sep : Str) (te : TE) : TE := fun σ H Q => te σ H fun v H1 => ∃ (a : Addr) (ys : List Str), v = .ref a ∧ SqL K H1 a (ys.map V.str) ∧ (ys.map (·.length)).sum + ys.length * sep.length ≤ 16777216 ∧ Q (.str (Txt.join sep ys.reverse)) H1
theorem pe_joinRev {sep : Str} {te : TE} {p p2 pos pos2 apos : Pos} {k : Nat} (hc : X.calm = true) (hg2 : Gl X "reversed") (hm2 : X.mg "reversed" = none) (he : PE X e te)
    (hs : starEach [e] X.env = (false, eval e X.env) :: starEach [] X.env := by rfl)
    (hs2 : starEach [.Call (.Name "reversed" p2) [e] [] pos2] X.env = [(false, eval (.Call (.Name "reversed" p2) [e] [] pos2) X.env)] := by rfl)
    (hbase : attributeBase (.Constant (.str sep) k p) "join" X.env (eval (.Constant (.str sep) k p) X.env) = eval (.Constant (.str sep) k p) X.env := by rfl) (hline : (apos.endLine == pos.line) = true := by rfl) :
    PE X (.Call (.Attribute (.Constant (.str sep) k p) "join" apos) [.Call (.Name "reversed" p2) [e] [] pos2] [] pos) (tJoinRev X.K sep te) := by
  refine ⟨fun pins s σ H Q I h => ?_⟩
  refine PySem.Call_method1 hbase hs2 hline (Calls.Constant_str ?_)
  have I0 := I.tok (s.toks + 1)
  refine ⟨"str", _, PySem.F.plainAttrs_str, PySem.F.slot_str_join, PySem.F.type_str_join, typeIs_str _ _ _, (fun _ e => nomatch e), Calls.callWith_builtin rfl (Calls.evalArgs_plain (Calls.spliced_cons ?_))⟩
  refine Call_ (ld_blt I0 hg2 hm2 PyProof.Rows.boot_reversed (PyProof.Rows.callWith_type1 (args_cons (thn (he.run pins _ σ H _ I0 h) fun u s1 ⟨v, H1, I1, r1, q1⟩ => args_nil ?_) hs) hs rfl))
  obtain ⟨a, ys, ev, hq, hz, q⟩ := q1
  subst ev
  obtain rfl : u = Value.ref a := r1
  obtain ⟨its, rv, p', hsz⟩ := I1.list hq
  refine call_reversed_list p'.isList (Calls.spliced_nil ?_)
  have k0 : ∀ b o, s1.heap.get? b = some o → (s1.heap.push (revObj a ((its.toArray.size : Int) - 1))).get? b = some o := fun b o e => Heap.get?_push_of_some _ e
  have I2 : Inv X pins σ H1 { s1 with heap := s1.heap.push (revObj a ((its.toArray.size : Int) - 1)) } := I1.kept (t' := s1.toks) k0
  obtain ⟨f0, f1, f2, f3, f4, f5⟩ := I1.fpOk (H' := H1) (b := s1.heap.objs.size) (Nat.le_refl _) (I1.hok.fresh (Nat.le_refl _))
  have hl := p'.isList
  obtain ⟨ol, hol, _⟩ := id hl
  have hne : a ≠ s1.heap.objs.size := Nat.ne_of_lt (Heap.lt_size hol)
  have hn : its.toArray.size ≤ sizeLine := by rw [List.size_toArray, ← rv.length]; exact hsz
  have e1 : (ys.reverse.map (·.length)).sum = (ys.map (·.length)).sum := by rw [List.map_reverse, List.sum_reverse]
  refine JRev.join_rev (s := { s1 with heap := s1.heap.push (revObj a ((its.toArray.size : Int) - 1)) }) (ys := ys.reverse) (I1.ok.hd hc) ⟨_, Heap.get?_push_size _ rfl, rfl, rfl⟩ (hl.push _) hne hn (fun acc hacc => ?_) (by rw [e1, List.length_reverse]; exact hz) fun h' t' k hk => ?_
  · have := RT.vals_rev rv hacc
    rw [← List.map_reverse] at this
    exact vals_strs this
  · exact ⟨.str _, H1, I2.turned (t' := k) (fun b o hb e => hk b o hb e) f0 f1 f3 f4 f5, ⟨t', rfl⟩, q⟩
/-- ''.join(reversed(rows)), rows a list of texts that changes -/
theorem pd_joinRevM {sep : Str} {p p2 pos pos2 apos : Pos} {k : Nat} {ys : List Str} (hc : X.calm = true) (hm2 : X.mg "reversed" = none) (he : PD X ds M e (.raw (.ref l)) (A ++ (l, .lst (dats (ys.map .str))) :: C)) (hz : (ys.map (·.length)).sum + ys.length * sep.length ≤ 16777216) (hg2 : Gl X "reversed" := by rfl)
    (hs : starEach [e] X.env = (false, eval e X.env) :: starEach [] X.env := by rfl)
    (hs2 : starEach [.Call (.Name "reversed" p2) [e] [] pos2] X.env = [(false, eval (.Call (.Name "reversed" p2) [e] [] pos2) X.env)] := by rfl)
    (hbase : attributeBase (.Constant (.str sep) k p) "join" X.env (eval (.Constant (.str sep) k p) X.env) = eval (.Constant (.str sep) k p) X.env := by rfl) (hline : (apos.endLine == pos.line) = true := by rfl) :
    PD X ds M (.Call (.Attribute (.Constant (.str sep) k p) "join" apos) [.Call (.Name "reversed" p2) [e] [] pos2] [] pos) (.dat (.str (Txt.join sep ys.reverse))) (A ++ (l, .lst (dats (ys.map .str))) :: C) :=
  pe_mono (pe_joinRev hc hg2 hm2 he hs hs2 hbase hline) fun σ H Q ⟨G, w, s, q⟩ => ⟨G, w, s, fun v G' H' p hv => by
    have hv' : v = .ref l := hv
    subst hv'
    obtain ⟨vs, h1, h2, h3⟩ := p.w.lst
    have h4 := vks_dats h2
    have h5 := dps_strs h4
    subst h5
    exact ⟨l, ys, rfl, SqL.of h1, hz, q _ _ _ p (.str _)⟩⟩

/-! ### f-strings of texts -/
theorem pd_fmt {x : Str} {pos : Pos} (h : PD X ds M e (.dat (.str x)) M1) (hz : x.length ≤ 1000) : PD X ds M (.FormattedValue e (-1) none pos) (.dat (.str x)) M1 := pe_mono (pe_fmt h) fun σ H Q ⟨G, w, s, k⟩ => ⟨G, w, s, fun v G' H' p hv => .inl ⟨x, vk_str hv, Nat.le_of_lt (small1000 hz), k _ G' H' p (.str _)⟩⟩
theorem pd_fstr4 {e1 e2 e3 e4 : Expr} {M4 : Ms} {x1 x2 x3 x4 : Str} (h1 : PD X ds M e1 (.dat (.str x1)) M1) (h2 : PD X ds M1 e2 (.dat (.str x2)) M2) (h3 : PD X ds M2 e3 (.dat (.str x3)) M3) (h4 : PD X ds M3 e4 (.dat (.str x4)) M4) (hz : x1.length + x2.length + x3.length + x4.length ≤ 1000) :
    PD X ds M (.JoinedStr [e1, e2, e3, e4] pos) (.dat (.str (Str.empty ++ x1 ++ x2 ++ x3 ++ x4))) M4 :=
  pe_mono (pe_joined (.cons h1 (.cons h2 (.cons h3 (.cons h4 .nil))))) fun σ H Q ⟨G, w, s, k⟩ => by
    have hl : ∀ a b : Str, (a ++ b).length = a.length + b.length := fun a b => by
      show (a.cps ++ b.cps).size = _
      rw [Array.size_append]; rfl
    have e0 : Str.empty.length = 0 := rfl
    refine ⟨G, w, s, fun v1 G1 H1 p1 q1 => ⟨x1, vk_str q1, by rw [hl, e0]; exact Nat.le_of_lt (small1000 (by omega)), G1, p1.w, s.up p1.g, fun v2 G2 H2 p2 q2 => ⟨x2, vk_str q2, by rw [hl, hl, e0]; exact Nat.le_of_lt (small1000 (by omega)), G2, p2.w, s.up (p1.g.trans p2.g), fun v3 G3 H3 p3 q3 => ⟨x3, vk_str q3, by rw [hl, hl, hl, e0]; exact Nat.le_of_lt (small1000 (by omega)), G3, p3.w, s.up (p1.g.trans (p2.g.trans p3.g)), fun v4 G4 H4 p4 q4 => ⟨x4, vk_str q4, by rw [hl, hl, hl, hl, e0]; exact Nat.le_of_lt (small1000 (by omega)), k _ _ _ (p1.trans (p2.trans (p3.trans p4))) (.str _)⟩⟩⟩⟩⟩

/-! ### while, not once -/
theorem sd_while0 (hp : PassesOwn (model X.prog X.w) X.A X.env X.xe) (hc : PDT X ds M c false M1) : SD1 X ds M (.While c body [] pos) (.nx ds M1) :=
  ps_mono (ps_while hp hc pss_never) fun D σ H ⟨G, w, s, k⟩ => ⟨fun m σ' H' => m = 0 ∧ σ' = σ ∧ H' = H, ⟨0, rfl, rfl, rfl⟩, fun m σ' H' ⟨_, e1, e2⟩ => by
    subst e1 e2
    exact ⟨G, w, s, fun G' H2 p => iteF (k _ G' H2 p (s.up p.g))⟩⟩
/-- while: n turns, then the test is False -/
theorem sd_while (n : Nat) (st : Nat → List Sv) (ms : Nat → Ms) (hp : PassesOwn (model X.prog X.w) X.A X.env X.xe) (h0 : st 0 = ds) (hm : ms 0 = M) (hc : ∀ i, i < n → PDT X (st i) (ms i) c true (ms i)) (hs : ∀ i, i < n → SD X (st i) (ms i) body (.nx (st (i + 1)) (ms (i + 1)))) (he : PDT X (st n) (ms n) c false (ms n)) :
    SD1 X ds M (.While c body [] pos) (.nx (st n) (ms n)) := by
  have hct : ∀ z : Nat × Bool, (z.1 ≤ n ∧ z.2 = decide (z.1 < n)) → PT X c (cT X.K (st z.1) (ms z.1) z.2 (ms z.1)) := fun z hz => by
    obtain ⟨k, b⟩ := z
    obtain ⟨h1, h2⟩ := hz
    by_cases hk : k < n
    · have e : b = true := h2.trans (decide_eq_true hk)
      subst e
      exact hc k hk
    · have e : b = false := h2.trans (decide_eq_false hk)
      have e2 : k = n := by have h1' : k ≤ n := h1; omega
      subst e e2
      exact he
  refine ps_mono (ps_while hp (pt_ex (ι := Nat × Bool) (p := fun z => z.1 ≤ n ∧ z.2 = decide (z.1 < n)) (t := fun z => cT X.K (st z.1) (ms z.1) z.2 (ms z.1)) hct)
    (pss_ex (ι := Nat) (p := fun i => i < n) (t := fun i => cS X.K (st i) (ms i) (.nx (st (i + 1)) (ms (i + 1)))) fun i hi => hs i hi)) fun D σ H ⟨G, w, s, k⟩ => ?_
  refine ⟨fun m σ' H' => ∃ i Gi, m = n - i ∧ i ≤ n ∧ Po X.K M (ms i) G H Gi H' ∧ Sl X.K Gi σ' (st i), ⟨n, 0, G, by omega, by omega, by rw [hm]; exact Po.refl w, by rw [h0]; exact s⟩, fun m σ' H' ⟨i, Gi, em, hi, p, sl⟩ => ?_⟩
  refine ⟨(i, decide (i < n)), ⟨hi, rfl⟩, Gi, p.w, sl, fun G2 H2 p2 => ?_⟩
  by_cases hin : i < n
  · show if decide (i < n) = true then _ else _
    rw [decide_eq_true hin]
    exact iteT ⟨fun σ3 H3 => ∃ G3, Po X.K M (ms (i + 1)) G H G3 H3 ∧ Sl X.K G3 σ3 (st (i + 1)), fun σ3 H3 ⟨G3, p3, s3⟩ => ⟨n - (i + 1), by omega, i + 1, G3, rfl, by omega, p3, s3⟩, i, hin, G2, p2.w, sl.up p2.g, fun σ3 G3 H3 p3 s3 => ⟨G3, p.trans (p2.trans p3), s3⟩⟩
  · show if decide (i < n) = true then _ else _
    rw [decide_eq_false hin]
    have e2 : i = n := by omega
    subst e2
    exact iteF (k σ' G2 H2 (p.trans p2) (sl.up p2.g))
/-- x += n -/
theorem sd_augI (n : Nat) {x : Str} {pos' : Pos} (hN : X.N.Nodup) (hx0 : ds[n]? = some (I i)) (he : PD X ds M e (I j) M1) (hi : X.N[n]? = some x := by rfl) (hx : Loc X.env.scope x := by first | exact Or.inl rfl | exact Or.inr rfl)
    (hf : X.fn x = true ∨ X.env.scope.names.lookup x = some .local := by first | exact .inl rfl | exact .inr rfl | assumption) : SD1 X ds M (.AugAssign (.Name x pos') .Add e pos) (.nx (ds.set n (I (i + j))) M1) :=
  ps_mono (ps_aug (i := n) hN hi hx he ip_add hf) fun D σ H ⟨G, w, s, k⟩ => by
    obtain ⟨v, e1, e2⟩ := s.val hx0 (by intro z; cases z)
    exact ⟨v, e1, G, w, s, fun y G' H' p hy => ⟨i, j, vk_int e2, vk_int hy, k _ G' H' p ((s.up p.g).set n (.int _))⟩⟩

/-! ### a call of a def that a name holds -/
theorem pd_callL {k n : Nat} {dvs : List V} {drs : List Sv} {F : FR} {FX : FE} {x y : Str} {p : Pos} {f : Addr} (m : Nat) (h : Fn X.prog X.w X.K X.mg X.base k y n dvs drs F FX) (hmy : X.mg y = some (.ref f)) (hsl : ds[m]? = some (.raw (.ref f))) (hr : Room k X.A) (ha : PDA X ds M (e :: es) rs M1) (hF : F (rs ++ drs) M1 r M2) (hn : (rs ++ drs).length = n := by rfl)
    (hN : X.N[m]? = some x := by rfl) (hv : Vis X.env.scope x := by first | exact Or.inl rfl | exact Or.inr (Or.inl rfl) | exact Or.inr (Or.inr rfl)) (hdb : (x == ("__debug__" : Str)) = false := by decide) (hcd : (x == ("__classdict__" : Str)) = false := by decide)
    (he : starEach (e :: es) X.env = (false, eval e X.env) :: starEach es X.env := by rfl) (hpl : (backTo pos (starEach es X.env)).any (·.1) = false := by rfl) : PD X ds M (.Call (.Name x p) (e :: es) [] pos) r M2 := by
  obtain ⟨⟨f', fd, ps, us, h1, h2, h3, h4, h5⟩, h6⟩ := h
  have ef : f' = f := by
    rw [hmy] at h2
    exact (Value.ref.inj (Option.some.inj h2)).symm
  subst ef
  refine pe_mono (pe_callL (i := m) h1 hr hN hv h3 h4 h5 (passL (X := X)) ha hdb hcd he hpl) fun σ H Q ⟨G, w, s, q⟩ => ?_
  obtain ⟨v, e1, e2⟩ := s.val hsl (by intro z; cases z)
  have e2' : v = .ref f' := e2
  subst e2'
  exact ⟨e1, G, w, s, fun vs G1 H1 p hv => ⟨G1, rs ++ drs, M1, by rw [List.length_append, hv.len, (h6 G1).len, ← List.length_append]; exact hn, p.w, hv.app (h6 G1), .inl ⟨r, M2, hF, fun v G' H' p2 hv2 => q v G' H' (p.trans p2) hv2⟩⟩⟩
end
end Cal
/-! CalH -/
namespace Cal
open PySem PySem.Spec PyProof.Rows L2
/-! ### values that are new things that change: whatever their addresses are -/
def cEN (K : PySem.W.Frag) (ds : List Sv) (M : Ms) (r : Addr × Addr → Sv) (M' : Addr × Addr → Ms) : TE := fun σ H Q => ∃ G, Wo K M G H ∧ Sl K G σ ds ∧ ∀ a v G' H', Po K M (M' a) G H G' H' → Vk K G' v (r a) → Q v H'
abbrev PDN (X : Cx) (ds : List Sv) (M : Ms) (e : Expr) (r : Addr × Addr → Sv) (M' : Addr × Addr → Ms) : Prop := PE X e (cEN X.K ds M r M')
abbrev FRN := List Sv → Ms → (Addr × Addr → Sv) → (Addr × Addr → Ms) → Prop
def spN (K : PySem.W.Frag) (n : Nat) (F : FRN) : Sp := fun vs H Q E => ∃ G rs M, vs.length = n ∧ Wo K M G H ∧ Vks K G vs rs ∧ ∃ r M', F rs M r M' ∧ ∀ a v G' H', Po K M (M' a) G H G' H' → Vk K G' v (r a) → Q v H'
structure FnN (P : Program) (w : World) (K : PySem.W.Frag) (mg : Str → Option Value) (base : Heap) (k : Nat) (x : Str) (n : Nat) (F : FRN) : Prop where
  ex : ∃ f fd ps, FnOk P w K mg base (L2.CX P w) k f fd ps (spN K n F) ∧ mg x = some (.ref f) ∧ PySem.W.keepIn K (.ref f) = true ∧ Binds K fd ps []
theorem spN_len {K : PySem.W.Frag} {n : Nat} {F : FRN} (vs : List V) (H : Hp) (Q : VK) (E : XK) (h : spN K n F vs H Q E) : vs.length = n := by
  obtain ⟨_, _, _, h, _⟩ := h
  exact h
section
variable {P : Program} {w : World} {K : PySem.W.Frag} {mg : Str → Option Value} {base : Heap}
theorem FnN.mono {k k' : Nat} {x : Str} {n : Nat} {F : FRN} (h : FnN P w K mg base k x n F) (l : k ≤ k') : FnN P w K mg base k' x n F := by
  obtain ⟨f, fd, ps, a, b⟩ := h.ex
  exact ⟨f, fd, ps, a.mono l, b⟩
theorem fnn_mk {x : Str} {params : Arguments} {body : List Stmt} {scope : Scope} {f : Addr} {fd : FuncData} {N ps : List Str} {k n : Nat} {F : FRN} (FD : FunD K x x params body scope [] [] f fd) (S : FnScope N ps scope)
    (hm : mg x = some (.ref f))
    (h : ∀ (kV doc pm : Value) (an : Option Addr) (cdv ct : Value) (us : List Value), us.length = ps.length → bindArgs (PySem.W.fnOf x x params body scope .none kV doc pm an cdv ct) ⟨us, []⟩ = pure (ps.zip us)) (hn : ps.length = n)
    (ok : ∀ cdv A outer s H E rs M r M', Room k (A.deeper (envOfC x scope s.heap.objs.size f cdv)) → rs.length = n → F rs M r M' → SD (Bx P w K mg base N x scope f cdv A outer s H E) (startD N.length rs) M body (.rn r M')) :
    FnN P w K mg base (k + 1) x n F := by
  refine ⟨f, fd, ps, ?_, hm, FD.kp, FD.bindsN h⟩
  refine FD.ok S (fun vs H Q E h => (spN_len vs H Q E h).trans hn.symm) fun cdv A outer s H vs Q E hr h => ?_
  obtain ⟨G, rs, M, hl, w0, hvs, r, M', hF, q⟩ := h
  exact ⟨_, ok cdv A outer s H E rs M r M' hr (hvs.len.symm.trans hl) hF, G, w0, Sl.start hvs, q⟩
end
section
variable {X : Cx} {ds ds' ds1 ds2 : List Sv} {M M' M0 M1 M2 : Ms} {a b c e elt tg : Expr} {es : List Expr} {ss body : List Stmt} {r ra rb : Sv} {rs : List Sv} {i j : Int} {pos : Pos} {R : Rs}
theorem sd_retN {r : Addr × Addr → Sv} {M' : Addr × Addr → Ms} (h : PDN X ds M e r M') : SD1 X ds M (.Return (some e) pos) (.rn r M') := ps_mono (ps_ret h) fun D σ H ⟨G, w, s, k⟩ => ⟨G, w, s, fun a v G' H' p hv => k a v G' H' p hv⟩
/-- a list that is new and will change -/
theorem pd_lstN (h : PDA X ds M es rs M1) (hl : rs.length ≤ 1000 := by exact Nat.le_of_ble_eq_true rfl) : PDN X ds M (.List es pos) (fun a => .raw (.ref a.1)) (fun a => (a.1, .lst rs) :: M1) :=
  pe_mono (pe_lst h) fun σ H Q ⟨G, w, s, k⟩ => ⟨G, w, s, fun vs G1 H1 p hv => ⟨by rw [hv.len]; exact Nat.le_of_lt (small1000 hl), fun l hn => k (l, l) (.ref l) _ _ (p.trans (Po.mnew p.w hn (m := .lst rs) (o := .lst vs) hv)) rfl⟩⟩
theorem pd_callN {k n : Nat} {F : FRN} {r : Addr × Addr → Sv} {M' : Addr × Addr → Ms} {x : Str} {p : Pos} (h : FnN X.prog X.w X.K X.mg X.base k x n F) (hr : Room k X.A) (ha : PDA X ds M (e :: es) rs M1) (hF : F rs M1 r M') (hn : rs.length = n := by rfl) (hg : Gl X x := by rfl)
    (hdb : (x == ("__debug__" : Str)) = false := by decide) (he : starEach (e :: es) X.env = (false, eval e X.env) :: starEach es X.env := by rfl) (hpl : (backTo pos (starEach es X.env)).any (·.1) = false := by rfl) :
    PDN X ds M (.Call (.Name x p) (e :: es) [] pos) r M' := by
  obtain ⟨f, fd, ps, h1, h2, h3, h4⟩ := h.ex
  refine pe_mono (pe_call (dvs := []) h1 hr hg h2 h3 h4 .nil (passL (X := X)) ha hdb he hpl) fun σ H Q ⟨G, w, s, q⟩ => ⟨G, w, s, fun vs G1 H1 p hv => ?_⟩
  show spN X.K n F (vs ++ []) H1 Q _
  rw [List.append_nil]
  exact ⟨G1, rs, M1, by rw [hv.len]; exact hn, p.w, hv, r, M', hF, fun a v G' H' p2 hv2 => q a v G' H' (p.trans p2) hv2⟩
/-- [elt for tg in [d]], where elt is new and will change -/
abbrev tLcN (X : Cx) (scope : Scope) (elt : Expr) (m : MO) : TE := fun σ H Q => ∃ z : List Sv × Ms, (∀ s H C cl fp, PDN (Zb X scope s H C cl fp) z.1 z.2 elt (fun a => .raw (.ref a.1)) (fun a => (a.1, m) :: z.2)) ∧ cEN X.K z.1 z.2 (fun a => .raw (.ref a.1)) (fun a => (a.1, m) :: z.2) σ H Q
theorem pd_lc1N {scope : Scope} (own : List (Str × Nat)) {d : D} {m : MO} (hc : X.calm = true) (hN : X.N.Nodup) (hB : blkC X.N X.env.scope scope own = true) (he : PD X ds M e (.dat (.list [d])) M1)
    (hT : ∃ eis ts, (∀ t ∈ ts, t ∈ own.map (·.2)) ∧ (∀ s H C cl fp, GD (Zb X scope s H C cl fp) tg (.dat d) (wipeD ds (own.map (·.2))) eis ts) ∧ ∀ q s H C cl fp, PDN (Zb X scope s H C cl fp) eis (q :: M1) elt (fun a => .raw (.ref a.1)) (fun a => (a.1, m) :: q :: M1))
    (hs : ∀ x, foldedSetIterable e X.env x = pure x := by intro _; rfl) :
    PDN X ds M (.ListComp elt [⟨tg, e, [], 0⟩] scope pos) (fun a => .raw (.ref a.1)) (fun a => (a.2, m) :: (a.1, .lst [.raw (.ref a.2)]) :: M1) := by
  refine pe_mono (pe_lc (own := own) (g := gLc X scope ds (own.map (·.2)) tg) (te := tLcN X scope elt m) hc hN (pi_list he) (blkOk_by hB) (lc_g (own := own)) lc_t (fun s H C cl fp => pe_ex (ι := List Sv × Ms) (p := fun z => ∀ s H C cl fp, PDN (Zb X scope s H C cl fp) z.1 z.2 elt (fun a => .raw (.ref a.1)) (fun a => (a.1, m) :: z.2)) (t := fun z => cEN X.K z.1 z.2 (fun a => .raw (.ref a.1)) (fun a => (a.1, m) :: z.2)) fun _ h => h s H C cl fp) hs) fun σ H Q ⟨G, w, s, k⟩ => ?_
  obtain ⟨eis, ts, hts, hg, hel⟩ := hT
  refine ⟨G, w, s, fun v G1 H1 p1 hv => ?_⟩
  obtain ⟨a, vs, rfl, h1, h2⟩ := vk_lst hv
  have hl := dps_len h2
  refine ⟨a, rfl, ⟨vs, p1.w.ex.seq h1⟩, fun Dl hD => ?_⟩
  have hD0 : H Dl = none := none_back p1 hD
  refine lc_list (K := X.K) (a := a) (g := gLc X scope ds (own.map (·.2)) tg) (tt := tLcT X scope []) (te := tLcN X scope elt m) (Qd := fun H' => Q (.ref Dl) H') (xs := vs)
    (fun i H' => ∃ Gi, Same G1 Gi ∧ if i = 0 then Po X.K M ((Dl, .lst []) :: M1) G H Gi H' else ∃ l, Po X.K M ((l, m) :: (Dl, .lst [.raw (.ref l)]) :: M1) G H Gi H')
    ⟨G1, Same.refl _, by rw [if_pos rfl]; exact p1.trans (Po.mnew p1.w hD (m := .lst []) (o := .lst []) .nil)⟩ (fun i H' _ ⟨Gi, sg, p⟩ => ?_) (fun i x H' hx ⟨Gi, sg, p⟩ => ?_) (fun H' ⟨Gi, sg, p⟩ => ?_)
  · by_cases hi : i = 0
    · rw [if_pos hi] at p
      exact (sg.trans p.w.ex).seq h1
    · rw [if_neg hi] at p
      obtain ⟨l, p⟩ := p
      exact (sg.trans p.w.ex).seq h1
  · have hi : i < vs.length := (List.getElem?_eq_some_iff.mp hx).1
    have hi0 : i = 0 := by rw [hl] at hi; simp at hi; omega
    subst hi0
    rw [if_pos rfl] at p
    obtain ⟨v, e1, e2⟩ := dps_get h2 (i := 0) (d := d) rfl
    rw [hx] at e1
    cases e1
    refine ⟨(d, eis, ts), hg, _, Gi, p.w, (s.up (p1.g.trans sg)).wipe (own.map (·.2)), dpUp sg _ e2, fun σ2 s2 chg => ⟨(chg (own.map (·.2)) hts).trans wipe_idem, (eis, (Dl, .lst []) :: M1, true), fun s H C cl fp => pts0, Gi, p.w, s2, fun G3 H3 p3 => iteT ?_⟩⟩
    refine ⟨(eis, (Dl, .lst []) :: M1), fun s H C cl fp => hel _ s H C cl fp, G3, p3.w, s2.up p3.g, fun al y G4 H4 p4 hy => ?_⟩
    have hy' : y = .ref al.1 := hy
    subst hy'
    have p5 := p.trans (p3.trans p4)
    obtain ⟨ws, q1, q2, q3⟩ := Wo.lst (A := [(al.1, m)]) p5.w
    cases q2
    refine ⟨[], q1, Nat.zero_lt_of_lt (small1000 (Nat.zero_le 1000)), G4, sg.trans (p3.g.trans p4.g), ?_⟩
    rw [if_neg (by decide)]
    exact ⟨al.1, p5.trans (Po.mput (A := [(al.1, m)]) p5.w (m' := .lst [.raw (.ref al.1)]) (o' := .lst ([] ++ [V.ref al.1])) (show Vks X.K G4 ([] ++ [V.ref al.1]) [.raw (.ref al.1)] from .cons rfl .nil))⟩
  · rw [hl, if_neg (by simp)] at p
    obtain ⟨l, p⟩ := p
    exact k (Dl, l) _ _ _ p rfl
abbrev gFN (X : Cx) (tg : Expr) (ds : List Sv) (ds1 : Addr × Addr → List Sv) (ts : List Nat) : TG := fun v σ H Q => ∃ a : Addr × Addr, GD X tg (.raw (.ref a.2)) ds (ds1 a) ts ∧ cG X.K (.raw (.ref a.2)) ds (ds1 a) ts v σ H Q
abbrev mFN (m : MO) (M : Ms) (a : Addr × Addr) : Ms := (a.2, m) :: (a.1, .lst [.raw (.ref a.2)]) :: M
abbrev tFN (X : Cx) (body : List Stmt) (ds1 ds2 : Addr × Addr → List Sv) (m m2 : MO) (M1 : Ms) : TS := fun D σ H => ∃ a : Addr × Addr, SD X (ds1 a) (mFN m M1 a) body (.nx (ds2 a) (mFN m2 M1 a)) ∧ cS X.K (ds1 a) (mFN m M1 a) (.nx (ds2 a) (mFN m2 M1 a)) D σ H
abbrev tRN (X : Cx) (ss : List Stmt) (ds2 : Addr × Addr → List Sv) (m2 : MO) (M1 : Ms) (r : Sv) : TS := fun D σ H => ∃ a : Addr × Addr, SD X (ds2 a) (mFN m2 M1 a) ss (.rt r (mFN m2 M1 a)) ∧ cS X.K (ds2 a) (mFN m2 M1 a) (.rt r (mFN m2 M1 a)) D σ H
/-- for tg in (a new list of one new thing): .., and what stands behind it -/
theorem sd_forN {m m2 : MO} (ds1 ds2 : Addr × Addr → List Sv) {ts : List Nat} (hp : PassesOwn (model X.prog X.w) X.A X.env X.xe) (hc : X.calm = true) (he : PDN X ds M e (fun a => .raw (.ref a.1)) (fun a => mFN m M1 a))
    (hg : ∀ a : Addr × Addr, GD X tg (.raw (.ref a.2)) ds (ds1 a) ts) (hb : ∀ a, SD X (ds1 a) (mFN m M1 a) body (.nx (ds2 a) (mFN m2 M1 a)))
    (hr : ∀ a, SD X (ds2 a) (mFN m2 M1 a) ss (.rt r (mFN m2 M1 a))) (hfs : ∀ x, foldedSetIterable e X.env x = pure x := by intro _; rfl) :
    SD X ds M (.For tg e body [] pos :: ss) (.rt r M1) := by
  refine pss_mono (pss_cons (ps_for (g := gFN X tg ds ds1 ts) (tb := tFN X body ds1 ds2 m m2 M1) hp hc (pi_list he)
    (pg_ex (ι := Addr × Addr) (p := fun a => GD X tg (.raw (.ref a.2)) ds (ds1 a) ts) (t := fun a => cG X.K (.raw (.ref a.2)) ds (ds1 a) ts) fun a h => h)
    (pss_ex (ι := Addr × Addr) (p := fun a => SD X (ds1 a) (mFN m M1 a) body (.nx (ds2 a) (mFN m2 M1 a))) (t := fun a => cS X.K (ds1 a) (mFN m M1 a) (.nx (ds2 a) (mFN m2 M1 a))) fun a h => h) hfs)
    (show PSs X ss (tRN X ss ds2 m2 M1 r) from pss_ex (ι := Addr × Addr) (p := fun a => SD X (ds2 a) (mFN m2 M1 a) ss (.rt r (mFN m2 M1 a))) (t := fun a => cS X.K (ds2 a) (mFN m2 M1 a) (.rt r (mFN m2 M1 a))) fun a h => h)) fun D σ H ⟨G, w, s, k⟩ => ?_
  refine ⟨G, w, s, fun a v G1 H1 p1 hv => ?_⟩
  have hv' : v = .ref a.1 := hv
  subst hv'
  obtain ⟨vs, q1, q2, q3⟩ := Wo.lst (A := [(a.2, m)]) p1.w
  obtain ⟨u, eu, hu⟩ := vks1 q2
  have hu' : u = .ref a.2 := hu
  subst eu hu'
  refine ⟨a.1, rfl, ⟨_, SqL.of q1⟩, for_list (K := X.K) (g := gFN X tg ds ds1 ts) (tb := tFN X body ds1 ds2 m m2 M1) (D := { nx := tRN X ss ds2 m2 M1 r D, rt := D.rt, bk := D.bk, ct := D.ct }) (xs := [V.ref a.2]) (fun i σ' H' => ∃ Gi, if i = 0 then Po X.K M (mFN m M1 a) G H Gi H' ∧ Sl X.K Gi σ' ds else Po X.K M (mFN m2 M1 a) G H Gi H' ∧ Sl X.K Gi σ' (ds2 a)) ⟨G1, by rw [if_pos rfl]; exact ⟨p1, s.up p1.g⟩⟩ (fun i σ' H' _ ⟨Gi, p⟩ => ?_) (fun i x σ' H' hx ⟨Gi, p⟩ => ?_) (fun σ' H' ⟨Gi, p⟩ => ?_)⟩
  · by_cases hi : i = 0
    · rw [if_pos hi] at p
      obtain ⟨ws, z1, z2, _⟩ := Wo.lst (A := [(a.2, m)]) p.1.w
      obtain ⟨u, eu, hu⟩ := vks1 z2
      have hu' : u = .ref a.2 := hu
      subst eu hu'
      exact SqL.of z1
    · rw [if_neg hi] at p
      obtain ⟨ws, z1, z2, _⟩ := Wo.lst (A := [(a.2, m2)]) p.1.w
      obtain ⟨u, eu, hu⟩ := vks1 z2
      have hu' : u = .ref a.2 := hu
      subst eu hu'
      exact SqL.of z1
  · have hi : i < 1 := (List.getElem?_eq_some_iff.mp hx).1
    have hi0 : i = 0 := by omega
    subst hi0
    rw [if_pos rfl] at p
    cases hx
    exact ⟨a, hg a, _, Gi, p.1.w, p.2, rfl, fun σ2 s2 _ => ⟨a, hb a, Gi, p.1.w, s2, fun σ3 G3 H3 p3 s3 => ⟨G3, by rw [if_neg (by decide)]; exact ⟨p.1.trans p3, s3⟩⟩⟩⟩
  · rw [if_neg (by simp)] at p
    exact ⟨a, hr a, Gi, p.1.w, p.2, fun v G' H' p2 hv => k v G' H' (p.1.trans p2).drop.drop hv⟩
end
end Cal
/-! CalI -/
namespace Cal
open PySem PySem.Spec PyProof.Rows L2
section
variable {X : Cx} {ds ds' ds1 ds2 : List Sv} {M M' M0 M1 M2 : Ms} {a b c e elt tg : Expr} {es : List Expr} {ss body : List Stmt} {r ra rb : Sv} {rs : List Sv} {i j k : Int} {pos : Pos} {R : Rs}
/-- a < b < c -/
theorem pdt_chainLt (ha : PD X ds M a (I i) M) (hb : PD X ds M b (I j) M) (hc : PD X ds M c (I k) M) (hm : lastMarks [.Lt, .Lt] [b, c] = false := by with_unfolding_all rfl) : PDT X ds M (.Compare a [.Lt, .Lt] [b, c] pos) (decide (i < j) && decide (j < k)) M :=
  pt_mono (pt_chain op_lt op_lt ha hb hc hm) fun σ H Q ⟨G, w, s, q⟩ => ⟨G, w, s, fun v G1 H1 p1 hv => ⟨G1, p1.w, s.up p1.g, fun v2 G2 H2 p2 hv2 => by
    cases vk_int hv
    cases vk_int hv2
    refine ⟨i, j, rfl, rfl, decide (i < j), rfl, ?_⟩
    by_cases h : i < j
    · rw [decide_eq_true h] at q ⊢
      refine iteT ⟨G2, p2.w, s.up (p1.g.trans p2.g), fun v3 G3 H3 p3 hv3 => ?_⟩
      cases vk_int hv3
      exact ⟨j, k, rfl, rfl, _, rfl, q _ _ (p1.trans (p2.trans p3))⟩
    · rw [decide_eq_false h] at q ⊢
      exact iteF ⟨false, rfl, q _ _ (p1.trans p2)⟩⟩⟩
/-- a <= b <= c, as a value -/
theorem pd_chainLe (ha : PD X ds M a (I i) M) (hb : PD X ds M b (I j) M) (hc : PD X ds M c (I k) M) (hm : lastMarks [.LtE, .LtE] [b, c] = false := by with_unfolding_all rfl) : PD X ds M (.Compare a [.LtE, .LtE] [b, c] pos) (B (decide (i ≤ j) && decide (j ≤ k))) M :=
  pe_mono (pe_chain op_le op_le ha hb hc hm) fun σ H Q ⟨G, w, s, q⟩ => ⟨G, w, s, fun v G1 H1 p1 hv => ⟨G1, p1.w, s.up p1.g, fun v2 G2 H2 p2 hv2 => by
    cases vk_int hv
    cases vk_int hv2
    refine ⟨i, j, rfl, rfl, decide (i ≤ j), rfl, ?_⟩
    by_cases h : i ≤ j
    · rw [decide_eq_true h] at q ⊢
      refine iteT ⟨G2, p2.w, s.up (p1.g.trans p2.g), fun v3 G3 H3 p3 hv3 => ?_⟩
      cases vk_int hv3
      exact ⟨j, k, rfl, rfl, q _ _ _ (p1.trans (p2.trans p3)) (.bl _)⟩
    · rw [decide_eq_false h] at q ⊢
      exact iteF (q _ _ _ (p1.trans p2) (.bl _))⟩⟩
end
end Cal
/-! CalJ -/
namespace Cal
open PySem PySem.Spec PyProof.Rows L2 LamX
abbrev Tb := List (Addr × Str)
def Lsts (M : Ms) : Prop := ∀ p ∈ M, ∃ rs, p.2 = .lst rs
theorem lsts_nil : Lsts [] := fun p hp => absurd hp (by simp)
theorem lsts_cons {l : Addr} {rs : List Sv} {M : Ms} (h : Lsts M) : Lsts ((l, .lst rs) :: M) := fun p hp => by
  rcases List.mem_cons.mp hp with e | hp
  · rw [e]; exact ⟨rs, rfl⟩
  · exact h p hp
theorem not_in {K : PySem.W.Frag} {M : Ms} {G H : Hp} (hM : Lsts M) (w : Wo K M G H) {a : Addr} {o : HO} (h : H a = some o) (ho : ∀ vs, o ≠ .lst vs) : ∀ p ∈ M, p.1 ≠ a := fun p hp e => by
  obtain ⟨rs, e2⟩ := hM p hp
  obtain ⟨⟨o', h1, h2⟩, _⟩ := w.mu p hp
  rw [e2] at h2
  obtain ⟨vs, e3, _⟩ := h2.lst_of
  rw [e, h] at h1
  exact ho vs ((Option.some.inj h1).trans e3)
theorem tabs_po {K : PySem.W.Frag} {T : Tb} {M M' : Ms} {G H G' H' : Hp} (hM : Lsts M) (t : Tabs T H) (w : Wo K M G H) (p : Po K M M' G H G' H') : Tabs T H' := fun q hq => by
  obtain ⟨ps, h1, h2, h3⟩ := t q hq
  refine ⟨ps, p.fr _ _ h1 (not_in hM w h1 (fun vs z => by cases z)), h2, fun pos cv hc => ?_⟩
  obtain ⟨c, e1, e2⟩ := h3 pos cv hc
  exact ⟨c, e1, p.fr _ _ e2 (not_in hM w e2 (fun vs z => by unfold CodeO at z; cases z))⟩
theorem wo_ext {K : PySem.W.Frag} {M : Ms} {G H H1 : Hp} (hM : Lsts M) (w : Wo K M G H) (e : ExtN H H1) : Wo K M G H1 where
  ex := fun a o h => e a o (w.ex a o h) fun ps z => w.nt a ps (by rw [h, z])
  mu := fun p hp => by
    obtain ⟨rs, e2⟩ := hM p hp
    obtain ⟨⟨o', h1, h2⟩, h3⟩ := w.mu p hp
    have h2' := h2
    rw [e2] at h2'
    obtain ⟨vs, e3, _⟩ := h2'.lst_of
    exact ⟨⟨o', e _ _ h1 (fun ps z => by rw [e3] at z; cases z), h2⟩, h3⟩
  nd := w.nd
  nt := w.nt
/-! ### the law's own statements: only what holds behind them is told -/
inductive Rw where
  | nx (ds : List Sv) (M : Ms) | rt (b : Bool)
def cW (K : PySem.W.Frag) (T : Tb) (ds : List Sv) (M : Ms) : Rw → TS
  | .nx ds' M' => fun D σ H => ∃ G, Wo K M G H ∧ Tabs T H ∧ Sl K G σ ds ∧ ∀ σ' G' H', Wo K M' G' H' → Tabs T H' → Sl K G' σ' ds' → D.nx σ' H'
  | .rt b => fun D σ H => ∃ G, Wo K M G H ∧ Tabs T H ∧ Sl K G σ ds ∧ ∀ H', D.rt (.bl b) H'
abbrev WD (X : Cx) (T : Tb) (ds : List Sv) (M : Ms) (ss : List Stmt) (R : Rw) : Prop := PSs X ss (cW X.K T ds M R)
abbrev WD1 (X : Cx) (T : Tb) (ds : List Sv) (M : Ms) (st : Stmt) (R : Rw) : Prop := PS X st (cW X.K T ds M R)
section
variable {X : Cx} {T : Tb} {ds ds' ds1 ds2 : List Sv} {M M' M0 M1 M2 : Ms} {a b c e elt tg : Expr} {es : List Expr} {st : Stmt} {ss body : List Stmt} {r ra rb : Sv} {rs : List Sv} {i j k : Int} {pos : Pos} {R : Rw}
theorem wd_sd (hM : Lsts M) (h : SD1 X ds M st (.nx ds1 M1)) : WD1 X T ds M st (.nx ds1 M1) := ps_mono h fun D σ H ⟨G, w, t, s, k⟩ => ⟨G, w, s, fun σ' G' H' p sl => k σ' G' H' p.w (tabs_po hM t w p) sl⟩
theorem wd_cons (h1 : WD1 X T ds M st (.nx ds1 M1)) (h2 : WD X T ds1 M1 ss R) : WD X T ds M (st :: ss) R := pss_mono (pss_cons h1 h2) fun D σ H q => by
  cases R with
  | nx ds2 M2 =>
    obtain ⟨G, w, t, s, k⟩ := q
    exact ⟨G, w, t, s, fun σ' G' H' w' t' s' => ⟨G', w', t', s', k⟩⟩
  | rt b =>
    obtain ⟨G, w, t, s, k⟩ := q
    exact ⟨G, w, t, s, fun σ' G' H' w' t' s' => ⟨G', w', t', s', k⟩⟩
theorem wd_one (h : WD1 X T ds M st R) : WD X T ds M [st] R := pss_one h
/-- a def that answers True, and may make code objects -/
def spW (K : PySem.W.Frag) (T : Tb) : Sp := fun vs H Q _ => vs.length = 0 ∧ ∃ G, Wo K [] G H ∧ Tabs T H ∧ ∀ H', Q (.bl true) H'
structure FnW (P : Program) (w : World) (K : PySem.W.Frag) (mg : Str → Option Value) (base : Heap) (k : Nat) (x : Str) (T : Tb) : Prop where
  ex : ∃ f fd, FnOk P w K mg base (L2.CX P w) k f fd [] (spW K T) ∧ mg x = some (.ref f) ∧ PySem.W.keepIn K (.ref f) = true ∧ Binds K fd [] []
theorem wd_retC {k : Nat} {x : Str} {p pos' : Pos} (h : FnW X.prog X.w X.K X.mg X.base k x T) (hr : Room k X.A) (hg : Gl X x := by rfl) (hdb : (x == ("__debug__" : Str)) = false := by decide) : WD1 X T ds M (.Return (some (.Call (.Name x p) [] [] pos)) pos') (.rt true) := by
  obtain ⟨f, fd, h1, h2, h3, h4⟩ := h.ex
  refine ps_mono (ps_ret (pe_call0 (dvs := []) h1 hr hg h2 h3 h4 .nil (passL (X := X)) hdb)) fun D σ H ⟨G, w, t, s, q⟩ => ?_
  exact ⟨rfl, G, ⟨w.ex, fun p hp => absurd hp (by simp), List.nodup_nil, w.nt⟩, t, fun H' => q H'⟩
abbrev tWN (X : Cx) (T : Tb) (body : List Stmt) (ds1 ds2 : Addr × Addr → List Sv) (m m2 : MO) (M1 : Ms) : TS := fun D σ H => ∃ a : Addr × Addr, WD X T (ds1 a) (mFN m M1 a) body (.nx (ds2 a) (mFN m2 M1 a)) ∧ cW X.K T (ds1 a) (mFN m M1 a) (.nx (ds2 a) (mFN m2 M1 a)) D σ H
abbrev tWR (X : Cx) (T : Tb) (ss : List Stmt) (ds2 : Addr × Addr → List Sv) (m2 : MO) (M1 : Ms) (b : Bool) : TS := fun D σ H => ∃ a : Addr × Addr, WD X T (ds2 a) (mFN m2 M1 a) ss (.rt b) ∧ cW X.K T (ds2 a) (mFN m2 M1 a) (.rt b) D σ H
theorem wd_forN {m m2 : MO} {bb : Bool} (ds1 ds2 : Addr × Addr → List Sv) {ts : List Nat} (hM0 : Lsts M) (hp : PassesOwn (model X.prog X.w) X.A X.env X.xe) (hc : X.calm = true) (he : PDN X ds M e (fun a => .raw (.ref a.1)) (fun a => mFN m M1 a))
    (hg : ∀ a : Addr × Addr, GD X tg (.raw (.ref a.2)) ds (ds1 a) ts) (hb : ∀ a, WD X T (ds1 a) (mFN m M1 a) body (.nx (ds2 a) (mFN m2 M1 a)))
    (hr : ∀ a, WD X T (ds2 a) (mFN m2 M1 a) ss (.rt bb)) (hfs : ∀ x, foldedSetIterable e X.env x = pure x := by intro _; rfl) :
    WD X T ds M (.For tg e body [] pos :: ss) (.rt bb) := by
  refine pss_mono (pss_cons (ps_for (g := gFN X tg ds ds1 ts) (tb := tWN X T body ds1 ds2 m m2 M1) hp hc (pi_list he)
    (pg_ex (ι := Addr × Addr) (p := fun a => GD X tg (.raw (.ref a.2)) ds (ds1 a) ts) (t := fun a => cG X.K (.raw (.ref a.2)) ds (ds1 a) ts) fun a h => h)
    (pss_ex (ι := Addr × Addr) (p := fun a => WD X T (ds1 a) (mFN m M1 a) body (.nx (ds2 a) (mFN m2 M1 a))) (t := fun a => cW X.K T (ds1 a) (mFN m M1 a) (.nx (ds2 a) (mFN m2 M1 a))) fun a h => h) hfs)
    (show PSs X ss (tWR X T ss ds2 m2 M1 bb) from pss_ex (ι := Addr × Addr) (p := fun a => WD X T (ds2 a) (mFN m2 M1 a) ss (.rt bb)) (t := fun a => cW X.K T (ds2 a) (mFN m2 M1 a) (.rt bb)) fun a h => h)) fun D σ H ⟨G, w, t, s, k⟩ => ?_
  refine ⟨G, w, s, fun a v G1 H1 p1 hv => ?_⟩
  have t1 := tabs_po hM0 t w p1
  have hv' : v = .ref a.1 := hv
  subst hv'
  obtain ⟨vs, q1, q2, q3⟩ := Wo.lst (A := [(a.2, m)]) p1.w
  obtain ⟨u, eu, hu⟩ := vks1 q2
  have hu' : u = .ref a.2 := hu
  subst eu hu'
  refine ⟨a.1, rfl, ⟨_, SqL.of q1⟩, for_list (K := X.K) (g := gFN X tg ds ds1 ts) (tb := tWN X T body ds1 ds2 m m2 M1) (D := { nx := tWR X T ss ds2 m2 M1 bb D, rt := D.rt, bk := D.bk, ct := D.ct }) (xs := [V.ref a.2]) (fun i σ' H' => ∃ Gi, Tabs T H' ∧ if i = 0 then Wo X.K (mFN m M1 a) Gi H' ∧ Sl X.K Gi σ' ds else Wo X.K (mFN m2 M1 a) Gi H' ∧ Sl X.K Gi σ' (ds2 a)) ⟨G1, t1, by rw [if_pos rfl]; exact ⟨p1.w, s.up p1.g⟩⟩ (fun i σ' H' _ ⟨Gi, ti, p⟩ => ?_) (fun i x σ' H' hx ⟨Gi, ti, p⟩ => ?_) (fun σ' H' ⟨Gi, ti, p⟩ => ?_)⟩
  · by_cases hi : i = 0
    · rw [if_pos hi] at p
      obtain ⟨ws, z1, z2, _⟩ := Wo.lst (A := [(a.2, m)]) p.1
      obtain ⟨u, eu, hu⟩ := vks1 z2
      have hu' : u = .ref a.2 := hu
      subst eu hu'
      exact SqL.of z1
    · rw [if_neg hi] at p
      obtain ⟨ws, z1, z2, _⟩ := Wo.lst (A := [(a.2, m2)]) p.1
      obtain ⟨u, eu, hu⟩ := vks1 z2
      have hu' : u = .ref a.2 := hu
      subst eu hu'
      exact SqL.of z1
  · have hi : i < 1 := (List.getElem?_eq_some_iff.mp hx).1
    have hi0 : i = 0 := by omega
    subst hi0
    rw [if_pos rfl] at p
    cases hx
    exact ⟨a, hg a, _, Gi, p.1, p.2, rfl, fun σ2 s2 _ => ⟨a, hb a, Gi, p.1, ti, s2, fun σ3 G3 H3 w3 t3 s3 => ⟨G3, t3, by rw [if_neg (by decide)]; exact ⟨w3, s3⟩⟩⟩⟩
  · rw [if_neg (by simp)] at p
    exact ⟨a, hr a, Gi, p.1, ti, p.2, k⟩
end
/-! ### try: return what() / except E1: return t1 / .. -/
abbrev TT9 (K : PySem.W.Frag) (es : List (Addr × Str)) : (XK → Hp → VK → Prop) → Hp → VK → Prop := fun tl H Q => tl (fun cls _ H' => ∃ p ∈ es, cls = .ref p.1 ∧ Q (.str p.2) H') H Q
abbrev wc9 (es : List (Addr × Str)) : List (Value × (Addr → Value → Option Addr → TS)) := es.map fun p => (Value.ref p.1, fun _ _ _ => fun D _ H => D.rt (.str p.2) H)
theorem many9 {K : PySem.W.Frag} {D : Ends} {σ : L2.St} {H : Hp} {d : Option Addr} {p : Addr × Str} (h : D.rt (.str p.2) H) : ∀ (es : List (Addr × Str)), p ∈ es → (∀ q ∈ es, PySem.W.exmOne K (.ref p.1) (.ref q.1) = some (decide (p = q))) → wMany K (fun _ _ _ _ => False) D (wc9 es) (.ref p.1) d σ H
  | [], hp, _ => absurd hp (by simp)
  | q :: es, hp, hx => by
    refine ⟨decide (p = q), hx q (by simp), fun hb a _ => ?_, fun hb => ?_⟩
    · rw [← of_decide_eq_true hb]
      exact h
    · have ne := of_decide_eq_false hb
      refine many9 h es ?_ fun q hq => hx q (by simp [hq])
      rcases List.mem_cons.mp hp with e | e
      · exact absurd e ne
      · exact e
section
variable {X : Cx}
theorem told9_gives {es : List (Addr × Str)} {Ng : List Str} {x a q : Str} {sg : Scope} {g : Addr} {cdg : Value} {h₀ : ExceptHandler} {hds : List ExceptHandler} {p1 p2 p3 p8 : Pos} (hx : ∀ p ∈ es, ∀ q ∈ es, PySem.W.exmOne X.K (.ref p.1) (.ref q.1) = some (decide (p = q)))
    (hh : ∀ (s : Shared) (H : Hp), HdsOk (cxOf C8.CX0 X.prog X.w X.K X.mg X.base Ng x sg g cdg X.A X.stack s H C8.E0).nox (h₀ :: hds) (wc9 es)) (h0 : ∀ f : Addr, (L2.start Ng [V.ref f])[0]? = some (some (V.ref f))) :
    GivesTo X Ng x sg g cdg [.Try [.Return (some (.Call (.Name a p1) [] [] p2)) p3] (h₀ :: hds) [] [] p8] a q (TT9 X.K es) := by
  intro f c' s H Q tl act hc h
  refine ⟨_, pss_one (ps_try_many (X := (cxOf C8.CX0 X.prog X.w X.K X.mg X.base Ng x sg g cdg X.A X.stack s H C8.E0).nox) (Wout := fun _ _ _ _ => False) (l := wc9 es)
      (tb := fun W D σ H => ∃ Ech : XK, (∀ cls d σ' H', Ech cls d H' → W cls d σ' H') ∧ σ[0]? = some (some (.ref f)) ∧ H c' = some (CodeO c' q) ∧ tl Ech H D.rt)
      rfl rfl LamX.takes0 (fun W pn xe tk _ => ?_) (hh s H)), ?_⟩
  · refine ⟨fun pins s' σ H' D I h' => ?_⟩
    obtain ⟨Ech, hW, h1, h2, h3⟩ := h'
    exact (pss_one (ps_ret (pos := p3) (act W pn xe Ech p1 p2 tk hW))).run pins s' σ H' D I ⟨h1, h2, h3⟩
  · refine ⟨fun cls _ H' => ∃ p ∈ es, cls = .ref p.1 ∧ Q (.str p.2) H', fun cls d σ' H' hE => ?_, h0 f, hc, h⟩
    obtain ⟨p, hp, e, hq⟩ := hE
    rw [e]
    exact many9 hq es hp (hx p hp)
/-- name = told(lambda: ..) -/
theorem wd_setTold {T : Tb} {ds : List Sv} {M : Ms} {es : List (Addr × Str)} {call : Expr} {t : XK → TE} {r : Sv} (i : Nat) {y : Str} {py pos : Pos} (hM : Lsts M) (hpe : PE X call (tLam T (TT9 X.K es) t)) (hq : ∀ σ H Q, cE X.K ds M r M σ H Q → TT9 X.K es (fun E H' Q' => t E σ H' Q') H Q)
    (hN : X.N.Nodup) (hi : X.N[i]? = some y := by rfl) (hx : Loc X.env.scope y := by first | exact Or.inl rfl | exact Or.inr rfl) (hs : swapsWith call (some (.Name y py)) pos.line X.env = pure false := by rfl) (hf : X.fn y = true ∨ X.env.scope.names.lookup y = some .local := by first | exact .inl rfl | exact .inr rfl | assumption) :
    WD1 X T ds M (.Assign [.Name y py] call pos) (.nx (ds.set i r) M) := by
  refine ps_mono (ps_set (i := i) hN hi hx hpe hs hf) fun D σ H ⟨G, w, tt, s, k⟩ => ?_
  refine ⟨tt, fun H1 eN T1 => hq σ H1 _ ⟨G, wo_ext hM w eN, s, fun v G' H' p hv => ?_⟩⟩
  exact k _ G' H' p.w (tabs_po hM T1 (wo_ext hM w eN) p) ((s.up p.g).set i hv)
theorem told_ret {es : List (Addr × Str)} {K : PySem.W.Frag} {ds : List Sv} {M : Ms} {r : Sv} : ∀ σ H Q, cE K ds M r M σ H Q → TT9 K es (fun _ H' Q' => cE K ds M r M σ H' Q') H Q := fun _ _ _ q => q
theorem told_raise {es : List (Addr × Str)} {K : PySem.W.Frag} {ds : List Sv} {M : Ms} {p : Addr × Str} (hp : p ∈ es) : ∀ σ H Q, cE K ds M (.dat (.str p.2)) M σ H Q → TT9 K es (fun E H' Q' => cEX K (wE E) ds M p.1 σ H' Q') H Q := fun σ H Q ⟨G, w, s, k⟩ => ⟨G, w, s, fun G' H' pp => ⟨p, hp, rfl, k _ G' H' pp (.str _)⟩⟩
end
end Cal
/-! CalK -/
namespace Cal
open PySem PySem.Spec PyProof.Rows L2 LamX
/-! ### a lambda that captures nothing, kept in a thing -/
structure Lf where
  qual : Str
  params : Arguments
  body : Expr
  scope : Scope
def LamO (f : Addr) (L : Lf) (c' : Addr) : HO := .ext fun h => ∃ (pm ctv : Value), h.get? f = some (PySem.W.kla_obj "<lambda>" L.qual L.params L.body L.scope [] pm c' ctv)
section
variable {X : Cx} {pins : List (Addr × Obj)} {σ : L2.St} {H : Hp} {s : Shared}
theorem inv_lam {L : Lf} {c' : Addr} {o : Obj} {t' : Nat} {pm ctv : Value} (I : Inv X pins σ H s) (ho : o = PySem.W.kla_obj "<lambda>" L.qual L.params L.body L.scope [] pm c' ctv) :
    Inv X pins σ (upd H s.heap.objs.size (LamO s.heap.objs.size L c')) { s with heap := s.heap.push o, toks := t' } := by
  subst ho
  refine I.laid (a := s.heap.objs.size) (fun b u e => Heap.get?_push_of_some _ e) (Nat.le_refl _) ?_
  have e := Heap.get?_push_size s.heap (o := PySem.W.kla_obj "<lambda>" L.qual L.params L.body L.scope [] pm c' ctv) rfl
  exact ⟨⟨pm, ctv, e⟩, ⟨_, e⟩, fun h1 h2 ⟨p, t, z⟩ st => ⟨p, t, st _ z⟩⟩
theorem lam_kept {T : Tb} {c P : Addr} {params : Arguments} {body : Expr} {scope : Scope} {pos : Pos} {E : Value → Shared → Prop} {Q : Value → Shared → Prop} (I : Inv X pins σ H s) (B : TabB X.base X.mg c P) (hcode : X.env.code = .ref c)
    (hm : (P, X.env.qual ++ "<lambda>") ∈ T) (hu : ∀ p ∈ T, p.1 = P → p.2 = X.env.qual ++ "<lambda>") (hT : Tabs T H) (hdef : defaultsOf params X.env = ([], [])) (hfree : ∀ y ∈ scope.names, y.2 = .free → ∃ c, X.env.cells.lookup y.1 = some c) (hcl : cloFrom X.env.cells scope.names [] = [])
    (h : ∀ (f c' : Addr) (H1 : Hp) (s' : Shared), Inv X pins σ H1 s' → ExtN H H1 → Tabs T H1 → H1 f = some (LamO f ⟨X.env.qual ++ "<lambda>", params, body, scope⟩ c') → H1 c' = some (CodeO c' (X.env.qual ++ "<lambda>")) → Q (.ref f) s') :
    wpAny (model X.prog X.w) X.A (eval (.Lambda params body scope pos) X.env) Q E s := by
  obtain ⟨ps, hP, ht, ha⟩ := hT _ hm
  refine PySem.W.kla_eval hdef ?_
  have bP : s.heap.BuiltinsAt X.mg P := B.bm.keeps I.bk
  have hP' : s.heap.get? P = some { cls := .none, data := .fields ps } := I.hok P _ hP
  cases hc : codeAmong pos ps.toList with
  | none =>
    refine PySem.W.kla_makeFunction (mg := X.mg) (c := c) (P := P) (ps := ps) (closure_ok hfree) I.ok.glob (I.mod.glob.keeps I.bk) hcode (B.code.keeps I.bk) hP' ht hc B.gP bP fun c' ctv h' tk hx hge hlt hrec htb => ?_
    obtain ⟨c2, oc, vs, t, e2, hoc, hd, hv⟩ := hrec
    cases e2
    have nC : H c' = none := I.hok.fresh hge
    have I1 := inv_table (t' := tk) (more := #[rawInt pos.line, rawInt pos.col, .ref c']) (h' := h') I hP (fun b o hb e => hx b o hb e) htb hge ⟨oc, vs, t, hoc, hd, hv⟩
    obtain ⟨Hn, eH⟩ : ∃ Hn, Hn = upd (upd H P (.tbl (ps ++ #[rawInt pos.line, rawInt pos.col, .ref c']))) c' (CodeO c' (X.env.qual ++ "<lambda>")) := ⟨_, rfl⟩
    rw [← eH] at I1
    have hcN : Hn c' = some (CodeO c' (X.env.qual ++ "<lambda>")) := by rw [eH]; exact upd_same
    have hE : ExtN H Hn := fun b o e n => by
      rw [eH, upd_ne (ne_of_none e nC), upd_ne (fun z => n ps (Option.some.inj (e.symm.trans (by rw [z]; exact hP))))]
      exact e
    have hT1 : Tabs T Hn := fun p hp => by
      by_cases hb : p.1 = P
      · rw [hu p hp hb, hb]
        refine ⟨_, by rw [eH, upd_ne (ne_of_none hP nC), upd_same], by rw [Array.toList_append]; exact PySem.TriplesOk_snoc _ _ _ _ ht, fun p' cv hcv => ?_⟩
        rw [Array.toList_append] at hcv
        rcases among_app _ ht hcv with z | z
        · obtain ⟨c0, e1, e2⟩ := ha p' cv z
          exact ⟨c0, e1, hE _ _ e2 codeO_ne⟩
        · exact ⟨c', z, hcN⟩
      · obtain ⟨qs, a1, a2, a3⟩ := hT p hp
        refine ⟨qs, by rw [eH, upd_ne (ne_of_none a1 nC), upd_ne hb]; exact a1, a2, fun p' cv hcv => ?_⟩
        obtain ⟨c0, e1, e2⟩ := a3 p' cv hcv
        exact ⟨c0, e1, hE _ _ e2 codeO_ne⟩
    have nF := I1.hok.fresh (Nat.le_refl _)
    have I2 := inv_lam (L := ⟨X.env.qual ++ "<lambda>", params, body, scope⟩) (c' := c') (t' := tk) (pm := (X.mg "__name__").getD .none) (ctv := ctv) I1 rfl
    rw [hcl]
    exact h h'.objs.size c' _ _ I2 (hE.trans (ExtN.of fun b o e => (upd_ne (ne_of_none e nF)).trans e)) (hT1.ext fun b o e => (upd_ne (ne_of_none e nF)).trans e) upd_same ((upd_ne (Nat.ne_of_lt hlt)).trans hcN)
  | some cv =>
    obtain ⟨c', e, hco⟩ := ha pos cv hc
    subst e
    refine PySem.W.kla_makeFunctionHit (mg := X.mg) (c := c) (P := P) (ps := ps) (closure_ok hfree) I.ok.glob (I.mod.glob.keeps I.bk) hcode (B.code.keeps I.bk) hP' ht hc bP fun ctv h' tk hx hsz => ?_
    have I1 : Inv X pins σ H { s with heap := h', toks := tk } := I.kept hx
    have nF : H h'.objs.size = none := I1.hok.fresh (Nat.le_refl _)
    have I2 := inv_lam (L := ⟨X.env.qual ++ "<lambda>", params, body, scope⟩) (c' := c') (t' := tk) (pm := (X.mg "__name__").getD .none) (ctv := ctv) I1 rfl
    rw [hcl]
    exact h h'.objs.size c' _ _ I2 (ExtN.of fun b o e => (upd_ne (ne_of_none e nF)).trans e) (hT.ext fun b o e => (upd_ne (ne_of_none e nF)).trans e) upd_same ((upd_ne (ne_of_none hco nF)).trans hco)
/-- what() in the def that got such a lambda -/
theorem pe_actK {CXg : CXT} {Eg : XK} {Ng : List Str} {qg : Str} {sg : Scope} {g f c' : Addr} {cdg : Value} {L : Lf} {k i : Nat} {a : Str} {pn : List (Addr × Obj)} {xe : Value → Shared → Prop} {W : WX} {E : XK} {tb : TE} {p1 p2 : Pos}
    (I : Inv X pins σ H s) (Ls : LamS X.env.scope L.scope) (hq : L.qual = X.env.qual ++ "<lambda>") (hcl : cloFrom X.env.cells L.scope.names [] = [])
    (hbind : ∀ pm cv ctv, bindArgs (PySem.W.kla_fn "<lambda>" L.qual L.params L.body L.scope [] pm cv ctv) ⟨[], []⟩ = pure [])
    (tk : Takes ((cxOf CXg X.prog X.w X.K X.mg X.base Ng qg sg g cdg X.A X.stack s H Eg).tr pn xe) W) (hW : ∀ cls d σ' H', E cls d H' → W cls d σ' H') (hr : Room (k + 1) (X.A.deeper (envOfC qg sg s.heap.objs.size g cdg)))
    (hbody : ∀ (A : Around) (outer : List Env) (s : Shared) (H : Hp), Room k (A.deeper (lamEnv X L.scope s.heap.objs.size f c')) → PE (lamCx X A outer s H E L.scope f c') L.body tb)
    (hN : Ng[i]? = some a) (hv : Vis sg a) (hd : (a == ("__debug__" : Str)) = false := by decide) (hcd : (a == ("__classdict__" : Str)) = false := by decide) :
    PE ((cxOf CXg X.prog X.w X.K X.mg X.base Ng qg sg g cdg X.A X.stack s H Eg).tr pn xe) (.Call (.Name a p1) [] [] p2)
      (fun σZ HZ Q => σZ[i]? = some (some (.ref f)) ∧ HZ c' = some (CodeO c' (X.env.qual ++ "<lambda>")) ∧ HZ f = some (LamO f L c') ∧ tb σ HZ Q) := by
  refine ⟨fun pinsZ sZ σZ HZ Q IZ ⟨hs, hc, hl, ht⟩ => ?_⟩
  refine wpAny_Call_Name_kw (thn ((pe_var (pos := p1) (i := i) hN hv hd hcd).run pinsZ sZ σZ HZ (fun v H1 => v = .ref f ∧ H1 = HZ) IZ ⟨.ref f, hs, rfl, rfl⟩) fun u s1 ⟨v, H1, I1, r1, ev, eH⟩ => ?_)
  subst ev eH
  obtain rfl : u = Value.ref f := r1
  obtain ⟨⟨pm, ctv, of1⟩, _, _⟩ := I1.hok f _ hl
  obtain ⟨⟨oc, vs, t, hoc, hdc, hvc⟩, _, _⟩ := I1.hok c' _ hc
  refine PySem.W.callWith_F0 ⟨_, _, _, _, of1⟩ ?_
  have un : Un (frs X.stack) [] H H1 s.heap s1.heap := I1.base
  have rc : codeAny (model X.prog X.w) (X.A.deeper (envOfC qg sg s.heap.objs.size g cdg)) (.call (.ref f) ⟨[], []⟩) (CR (L2.CX X.prog X.w) (envOfC qg sg s.heap.objs.size g cdg :: X.stack) X.prog X.w H1 s1 Q E) s1 := by
    refine PySem.W.kla_callFunE hr.depth of1 rfl Ls.co Ls.gen rfl ⟨c', oc, vs, t, rfl, hoc, hdc, by rw [hq]; exact hvc⟩ ?_
    rw [hbind]
    refine wpAny_pure (wpAny_newFunctionEnv (fun y hy => (Ls.own y hy).2) (fun y hy => absurd hy (by simp)) (fun h₁ hns hsb => ⟨I1.nolimit.fresh _ hsb, ?_⟩) Ls.kind)
    have kp : ∀ b o, s1.heap.get? b = some o → h₁.get? b = some o := fun b o e => hsb.extBut b o (Nat.ne_of_lt (Heap.lt_size e)) (Heap.get?_push_of_some _ e)
    have J : Inv (lamCx X (X.A.deeper (envOfC qg sg s.heap.objs.size g cdg)) (envOfC qg sg s.heap.objs.size g cdg :: X.stack) s1 H1 E L.scope f c') [] σ H1 { s1 with heap := h₁, toks := s1.toks + ([] : List (Str × Value)).length } :=
      lam_start2 I Ls I1.env0 hr.hd un hns kp
    have ee : PySem.W.envX L.qual L.scope s1.heap.objs.size f (.ref c') [] = lamEnv X L.scope s1.heap.objs.size f c' := by
      show _ = PySem.W.envX (X.env.qual ++ "<lambda>") L.scope s1.heap.objs.size f (.ref c') (cloFrom X.env.cells L.scope.names [])
      rw [hcl, hq]
    show codeAny _ _ (.expr L.body (PySem.W.envX L.qual L.scope s1.heap.objs.size f (.ref c') [])) _ _
    rw [ee]
    refine PySem.W.kla_codeExpr (wpAny_mono ((hbody _ _ s1 H1 (hr.deeper _)).run [] _ _ H1 Q J ht) (fun v s' ⟨w', H', J', rv, q⟩ => ⟨w', H', J'.os, J'.bare, J'.base, J'.hok, rv, q⟩) fun e s' hq => hq)
  have hx : Passes (L2.CX X.prog X.w) ((cxOf CXg X.prog X.w X.K X.mg X.base Ng qg sg g cdg X.A X.stack s H Eg).tr pn xe) E := passes_call tk hW
  refine wpAny_call (codeAny_mono rc fun r s' hq => ?_)
  cases r with
  | error e => exact hx pinsZ σZ H1 s1 e s' I1 hq
  | ok fl =>
    cases fl with
    | ret u => exact I1.after hq
    | next => exact False.elim hq
    | brk => exact False.elim hq
    | cont => exact False.elim hq
end
section
variable {X : Cx}
/-- told(arg), where arg is such a lambda -/
theorem pe_toldK {es : List (Addr × Str)} {L : Lf} {x a : Str} {g : Addr} {k : Nat} {pg : Arguments} {bg : List Stmt} {sg : Scope} {dV kV doc pm cdv ct oc : Value} {an od : Option Addr} {osl : Array (Option Value)} {Ng : List Str} {arg : Expr} {ta : TE} {t : XK → TE} {p pos : Pos}
    (hg : Gl X x) (hm : X.mg x = some (.ref g)) (hk : PySem.W.keepIn X.K (.ref g) = true)
    (lk : X.K.lookup g = some ⟨oc, od, .func (PySem.W.fnOf x x pg bg sg dV kV doc pm an cdv ct), osl⟩) (hcg : PySem.W.codeIn X.K cdv x = true) (hb : L2.Binds X.K (PySem.W.fnOf x x pg bg sg dV kV doc pm an cdv ct) [a] []) (Sg : FnScope Ng [a] sg) (hNg : Ng[0]? = some a) (hva : Vis sg a)
    (hG : GivesTo X Ng x sg g cdv bg a (X.env.qual ++ "<lambda>") (TT9 X.K es))
    (harg : PE X arg ta) (hr : Room (k + 2) X.A) (Ls : LamS X.env.scope L.scope) (hq : L.qual = X.env.qual ++ "<lambda>") (hcl : cloFrom X.env.cells L.scope.names [] = [])
    (hbind : ∀ pm cv ctv, bindArgs (PySem.W.kla_fn "<lambda>" L.qual L.params L.body L.scope [] pm cv ctv) ⟨[], []⟩ = pure [])
    (hbody : ∀ (A : Around) (outer : List Env) (s : Shared) (H : Hp) (E : XK) (f c' : Addr), Room k (A.deeper (lamEnv X L.scope s.heap.objs.size f c')) → PE (lamCx X A outer s H E L.scope f c') L.body (t E))
    (hdb : (x == ("__debug__" : Str)) = false := by decide) (hd : (a == ("__debug__" : Str)) = false := by decide) (hcd : (a == ("__classdict__" : Str)) = false := by decide)
    (he : starEach (arg :: []) X.env = (false, eval arg X.env) :: starEach [] X.env := by rfl) :
    PE X (.Call (.Name x p) [arg] [] pos) (fun σ H Q => ta σ H fun v H1 => ∃ f c', v = .ref f ∧ H1 c' = some (CodeO c' (X.env.qual ++ "<lambda>")) ∧ H1 f = some (LamO f L c') ∧ TT9 X.K es (fun E H' Q' => H' f = some (LamO f L c') ∧ t E σ H' Q') H1 Q) := by
  refine ⟨fun pins s σ H Q I h => ?_⟩
  refine wpAny_Call_Name_kw (ld_glob I hg hm ?_ hdb)
  refine PySem.W.callWith_K (h₀ := X.base) I.ok.mod.kin hk ?_ he (by rfl)
  rw [he]
  show wpAny _ _ (spliced ((false, eval arg X.env) :: backTo pos (starEach [] X.env))) _ _ s
  refine Calls.spliced_cons (thn (harg.run pins s σ H _ I h) fun u s' ⟨v, H1, I1, r1, f, c', ev, hco, hlo, hT⟩ => ?_)
  subst ev
  obtain rfl : u = Value.ref f := r1
  refine Calls.spliced_nil ⟨I1.kIn, ?_⟩
  have rc : codeAny (model X.prog X.w) X.A (.call (.ref g) ⟨[.ref f], []⟩) (CR C8.CX0 X.stack X.prog X.w H1 s' Q C8.E0) s' := by
    refine run_ofS (N := Ng) (ps := [a]) (us := [.ref f]) (vs := [.ref f]) lk hcg Sg hr I1.env0 (hb s' [.ref f] I1.kIn rfl) (.cons rfl .nil) rfl fun hr' => ?_
    obtain ⟨t', ht', hq'⟩ := hG f c' s' H1 Q (fun E H' Q' => H' f = some (LamO f L c') ∧ t E σ H' Q') (fun W pn xe E p1 p2 tk hW => pe_actK (i := 0) I1 Ls hq hcl hbind tk hW hr' (fun A outer s H hr2 => hbody A outer s H E f c' hr2) hNg hva hd hcd) hco hT
    exact ⟨t', ht'.nox, hq'⟩
  refine wpAny_call (codeAny_mono rc fun r s2 hq => ?_)
  cases r with
  | error e => exact (show False from hq).elim
  | ok fl =>
    cases fl with
    | ret u => exact I1.after hq
    | next => exact False.elim hq
    | brk => exact False.elim hq
    | cont => exact False.elim hq
end
end Cal
/-! CalL -/
namespace Cal
open PySem PySem.Spec PyProof.Rows L2 LamX
/-! ### tuples and lists of such things; lambdas -/
def sTup (K : PySem.W.Frag) (rs : List Sv) : Sv := .kn fun G v => ∃ p vs, v = .ref p ∧ SqT K G p vs ∧ Vks K G vs rs
def sLst (K : PySem.W.Frag) (rs : List Sv) : Sv := .kn fun G v => ∃ p vs, v = .ref p ∧ SqL K G p vs ∧ Vks K G vs rs
def sLam (L : Lf) : Sv := .kn fun G v => ∃ f c', v = .ref f ∧ G f = some (LamO f L c') ∧ G c' = some (CodeO c' L.qual)
theorem vk_sTup {K : PySem.W.Frag} {G : Hp} {v : V} {rs : List Sv} (h : Vk K G v (sTup K rs)) : ∃ p vs, v = .ref p ∧ SqT K G p vs ∧ Vks K G vs rs := by
  obtain ⟨G0, e, p, vs, h1, h2, h3⟩ := h
  exact ⟨p, vs, h1, seqT e h2, h3.up e⟩
theorem vk_sLst {K : PySem.W.Frag} {G : Hp} {v : V} {rs : List Sv} (h : Vk K G v (sLst K rs)) : ∃ p vs, v = .ref p ∧ SqL K G p vs ∧ Vks K G vs rs := by
  obtain ⟨G0, e, p, vs, h1, h2, h3⟩ := h
  exact ⟨p, vs, h1, e.seq h2, h3.up e⟩
theorem vk_sLam {K : PySem.W.Frag} {G : Hp} {v : V} {L : Lf} (h : Vk K G v (sLam L)) : ∃ f c', v = .ref f ∧ G f = some (LamO f L c') ∧ G c' = some (CodeO c' L.qual) := by
  obtain ⟨G0, e, f, c', h1, h2, h3⟩ := h
  exact ⟨f, c', h1, e _ _ h2, e _ _ h3⟩
def cXW (K : PySem.W.Frag) (T : Tb) (ds : List Sv) (M : Ms) (r : Sv) (M' : Ms) : TE := fun σ H Q => ∃ G, Wo K M G H ∧ Tabs T H ∧ Sl K G σ ds ∧ ∀ v G' H', Same G G' → Wo K M' G' H' → Tabs T H' → Vk K G' v r → Q v H'
def cXA (K : PySem.W.Frag) (T : Tb) (ds : List Sv) (M : Ms) (rs : List Sv) (M' : Ms) : TA := fun σ H Q => ∃ G, Wo K M G H ∧ Tabs T H ∧ Sl K G σ ds ∧ ∀ vs G' H', Same G G' → Wo K M' G' H' → Tabs T H' → Vks K G' vs rs → Q vs H'
abbrev XW (X : Cx) (T : Tb) (ds : List Sv) (M : Ms) (e : Expr) (r : Sv) (M' : Ms) : Prop := PE X e (cXW X.K T ds M r M')
abbrev XA (X : Cx) (T : Tb) (ds : List Sv) (M : Ms) (es : List Expr) (rs : List Sv) (M' : Ms) : Prop := PA X es (cXA X.K T ds M rs M')
section
variable {X : Cx} {T : Tb} {ds ds' ds1 ds2 : List Sv} {M M' M0 M1 M2 : Ms} {a b c e elt tg : Expr} {es : List Expr} {st : Stmt} {ss body : List Stmt} {r ra rb : Sv} {rs : List Sv} {i j k : Int} {pos : Pos}
theorem xw_pd (hM : Lsts M) (h : PD X ds M e r M') : XW X T ds M e r M' := pe_mono h fun σ H Q ⟨G, w, t, s, k⟩ => ⟨G, w, s, fun v G' H' p hv => k v G' H' p.g p.w (tabs_po hM t w p) hv⟩
theorem xa_nil : XA X T ds M [] [] M := pa_mono pa_nil fun σ H Q ⟨G, w, t, s, k⟩ => k [] G H (Same.refl _) w t .nil
theorem xa_cons (he : XW X T ds M e r M1) (hr : XA X T ds M1 es rs M2) (hs : starEach (e :: es) X.env = (false, eval e X.env) :: starEach es X.env := by rfl) : XA X T ds M (e :: es) (r :: rs) M2 :=
  pa_mono (pa_cons he hr hs) fun σ H Q ⟨G, w, t, s, k⟩ => ⟨G, w, t, s, fun v G1 H1 g1 w1 t1 hv => ⟨G1, w1, t1, s.up g1, fun vs G2 H2 g2 w2 t2 hvs => k (v :: vs) G2 H2 (g1.trans g2) w2 t2 (.cons (hv.up g2) hvs)⟩⟩
theorem xw_tup {k : Nat} (hM : Lsts M1) (h : XA X T ds M es rs M1) (hl : rs.length ≤ 1000 := by exact Nat.le_of_ble_eq_true rfl) : XW X T ds M (.Tuple es k pos) (sTup X.K rs) M1 :=
  pe_mono (pe_tup h) fun σ H Q ⟨G, w, t, s, q⟩ => ⟨G, w, t, s, fun vs G' H' g' w' t' hv => by
    refine ⟨by rw [hv.len]; exact Nat.le_of_lt (small1000 hl), fun a ha => ?_⟩
    have p2 := Po.new w' ha (.tup vs)
    exact q _ _ _ (g'.trans p2.g) p2.w (tabs_po hM t' w' p2) ⟨_, Same.refl _, a, vs, rfl, SqT.of upd_same, hv.up p2.g⟩⟩
theorem xw_lst (hM : Lsts M1) (h : XA X T ds M es rs M1) (hl : rs.length ≤ 1000 := by exact Nat.le_of_ble_eq_true rfl) : XW X T ds M (.List es pos) (sLst X.K rs) M1 :=
  pe_mono (pe_lst h) fun σ H Q ⟨G, w, t, s, q⟩ => ⟨G, w, t, s, fun vs G' H' g' w' t' hv => by
    refine ⟨by rw [hv.len]; exact Nat.le_of_lt (small1000 hl), fun a ha => ?_⟩
    have p2 := Po.new w' ha (.lst vs)
    exact q _ _ _ (g'.trans p2.g) p2.w (tabs_po hM t' w' p2) ⟨_, Same.refl _, a, vs, rfl, SqL.of upd_same, hv.up p2.g⟩⟩
theorem wd_setX (i : Nat) {y : Str} {py : Pos} (he : XW X T ds M e r M1) (hN : X.N.Nodup) (hi : X.N[i]? = some y := by rfl) (hx : Loc X.env.scope y := by first | exact Or.inl rfl | exact Or.inr rfl) (hs : swapsWith e (some (.Name y py)) pos.line X.env = pure false := by rfl) (hf : X.fn y = true ∨ X.env.scope.names.lookup y = some .local := by first | exact .inl rfl | exact .inr rfl | assumption) :
    WD1 X T ds M (.Assign [.Name y py] e pos) (.nx (ds.set i r) M1) :=
  ps_mono (ps_set (i := i) hN hi hx he hs hf) fun D σ H ⟨G, w, t, s, k⟩ => ⟨G, w, t, s, fun v G' H' g w' t' hv => k _ G' H' w' t' ((s.up g).set i hv)⟩
theorem xw_lam {c P : Addr} {params : Arguments} {body : Expr} {scope : Scope} (hM : Lsts M) (B : TabB X.base X.mg c P) (hcode : X.env.code = .ref c) (hm : (P, X.env.qual ++ "<lambda>") ∈ T) (hu : ∀ p ∈ T, p.1 = P → p.2 = X.env.qual ++ "<lambda>") (hdef : defaultsOf params X.env = ([], []) := by rfl)
    (hfree : ∀ y ∈ scope.names, y.2 ≠ .free) (hcl : cloFrom X.env.cells scope.names [] = []) : XW X T ds M (.Lambda params body scope pos) (sLam ⟨X.env.qual ++ "<lambda>", params, body, scope⟩) M := by
  refine ⟨fun pins s σ H Q I ⟨G, w, t, sl, q⟩ => ?_⟩
  refine lam_kept I B hcode hm hu t hdef (fun y hy e => absurd e (hfree y hy)) hcl fun f c' H1 s' I1 eN T1 hf hc => ⟨.ref f, H1, I1, rfl, ?_⟩
  have w1 := wo_ext hM w eN
  obtain ⟨G', eG⟩ : ∃ G' : Hp, G' = fun b => match G b with | some o => some o | none => if b = f ∨ b = c' then H1 b else none := ⟨_, rfl⟩
  have g1 : Same G G' := fun b o h => by rw [eG]; show (match G b with | some o => some o | none => _) = _; rw [h]
  have at_ : ∀ b, G b = none → G' b = if b = f ∨ b = c' then H1 b else none := fun b h => by rw [eG]; show (match G b with | some o => some o | none => _) = _; rw [h]
  have sub : Same G' H1 := fun b o h => by
    cases hb : G b with
    | some u =>
      have := g1 b u hb
      rw [h] at this
      rw [this]
      exact w1.ex b u hb
    | none =>
      rw [at_ b hb] at h
      split at h
      · exact h
      · cases h
  have know : ∀ b o, (b = f ∨ b = c') → H1 b = some o → G' b = some o := fun b o hb h => by
    cases hg : G b with
    | some u =>
      have h1 := w1.ex b u hg
      rw [h] at h1
      rw [← Option.some.inj h1] at hg
      exact g1 b o hg
    | none => rw [at_ b hg, if_pos hb, h]
  refine q (.ref f) G' H1 g1 ⟨sub, fun p hp => ?_, w.nd, fun b ps h => ?_⟩ T1 ⟨G', Same.refl _, f, c', rfl, know f _ (.inl rfl) hf, know c' _ (.inr rfl) hc⟩
  · obtain ⟨⟨o, h1, h2⟩, h3⟩ := w1.mu p hp
    obtain ⟨rs, e2⟩ := hM p hp
    have h2' := h2
    rw [e2] at h2'
    obtain ⟨vs, e3, _⟩ := h2'.lst_of
    refine ⟨⟨o, h1, h2.up g1⟩, ?_⟩
    rw [at_ _ h3, if_neg]
    rintro (z | z)
    · rw [z, hf] at h1
      have z2 := Option.some.inj h1
      rw [e3] at z2
      unfold LamO at z2
      cases z2
    · rw [z, hc] at h1
      have z2 := Option.some.inj h1
      rw [e3] at z2
      unfold CodeO at z2
      cases z2
  · cases hg : G b with
    | some u =>
      have := g1 b u hg
      rw [h] at this
      rw [← Option.some.inj this] at hg
      exact w.nt b ps hg
    | none =>
      rw [at_ b hg] at h
      split at h
      · rename_i hb
        rcases hb with z | z
        · rw [z, hf] at h
          have z2 := Option.some.inj h
          unfold LamO at z2
          cases z2
        · rw [z, hc] at h
          have z2 := Option.some.inj h
          unfold CodeO at z2
          cases z2
      · cases h
/-- a place of such a tuple -/
theorem vks_ix {K : PySem.W.Frag} {G : Hp} {rs : List Sv} {vs : List V} {i : Int} {r : Sv} (h : Vks K G vs rs) (e : atI rs i = some r) : ∃ v, atI vs i = some v ∧ Vk K G v r := by
  unfold atI at e ⊢
  rw [h.len]
  cases q : ixN rs.length i with
  | none => rw [q] at e; cases e
  | some j =>
    rw [q] at e
    exact vks_at h e
theorem pd_ixS (ha : PD X ds M a (sTup X.K rs) M1) (hb : PD X ds M1 b (I i) M2) (h : atI rs i = some r := by rfl) (hs : PlainIx b := by exact fun _ _ => rfl) : PD X ds M (.Subscript a b pos) r M2 :=
  pe_mono (pe_ix ix_tup ha hb hs) fun σ H Q q => ce_bin (fun G H x y Q w hx hy k => by
    obtain ⟨p, vs, e, h1, h2⟩ := vk_sTup hx
    obtain ⟨v, e1, e2⟩ := vks_ix h2 h
    exact ⟨p, vs, i, v, e, vk_int hy, seqT w.ex h1, e1, k v G H (Po.refl w) e2⟩) q
/-- told(arg), where arg is such a lambda, that raises -/
theorem pd_toldK {es : List (Addr × Str)} {p : Addr × Str} {L : Lf} {x a' : Str} {g : Addr} {fd : FuncData} {k : Nat} {pg : Arguments} {bg : List Stmt} {sg : Scope} {Ng : List Str} {arg : Expr} {q : Pos} (hp : p ∈ es) (FD : FunD X.K x x pg bg sg [] [] g fd) (hm : X.mg x = some (.ref g))
    (h : ∀ (kV doc pm : Value) (an : Option Addr) (cdv ct : Value) (us : List Value), us.length = [a'].length → bindArgs (PySem.W.fnOf x x pg bg sg .none kV doc pm an cdv ct) ⟨us, []⟩ = pure ([a'].zip us)) (Sg : FnScope Ng [a'] sg) (hNg : Ng[0]? = some a') (hva : Vis sg a')
    (hG : ∀ cdg, GivesTo X Ng x sg g cdg bg a' (X.env.qual ++ "<lambda>") (TT9 X.K es)) (harg : PD X ds M arg (sLam L) M1) (hr : Room (k + 2) X.A) (Ls : LamS X.env.scope L.scope) (hq : L.qual = X.env.qual ++ "<lambda>") (hcl : cloFrom X.env.cells L.scope.names [] = [])
    (hbind : ∀ pm cv ctv, bindArgs (PySem.W.kla_fn "<lambda>" L.qual L.params L.body L.scope [] pm cv ctv) ⟨[], []⟩ = pure [])
    (hbody : ∀ (A : Around) (outer : List Env) (s : Shared) (H : Hp) (E : XK) (f c' : Addr), Room k (A.deeper (lamEnv X L.scope s.heap.objs.size f c')) → PX (lamCx X A outer s H E L.scope f c') (wE E) ds M1 L.body p.1)
    (hg : Gl X x := by rfl) (hdb : (x == ("__debug__" : Str)) = false := by decide) (hd : (a' == ("__debug__" : Str)) = false := by decide) (hcd : (a' == ("__classdict__" : Str)) = false := by decide)
    (he : starEach (arg :: []) X.env = (false, eval arg X.env) :: starEach [] X.env := by rfl) :
    PD X ds M (.Call (.Name x q) [arg] [] pos) (.dat (.str p.2)) M1 := by
  have hb := FD.bindsN h
  have hk := FD.kp
  obtain ⟨oc, od, dV, kV, doc, pm, an, cdv, ct, osl, rfl, lk, hcg, _, _⟩ := FD.ex
  refine pe_mono (pe_toldK (t := fun E => cEX X.K (wE E) ds M1 p.1) hg hm hk lk hcg hb Sg hNg hva (hG cdv) harg hr Ls hq hcl hbind (fun A outer s H E f c' hr' => hbody A outer s H E f c' hr') hdb hd hcd he) fun σ H Q ⟨G, w, s, kk⟩ => ⟨G, w, s, fun v G1 H1 p1 hv => ?_⟩
  obtain ⟨f, c', rfl, h1, h2⟩ := vk_sLam hv
  rw [hq] at h2
  exact ⟨f, c', rfl, p1.w.ex _ _ h2, p1.w.ex _ _ h1, p1.w.ex _ _ h1, G1, p1.w, s.up p1.g, fun G' H' p2 => ⟨p, hp, rfl, kk _ G' H' (p1.trans p2) (.str _)⟩⟩
end
section
variable {X : Cx} {ds : List Sv} {M M1 : Ms} {e elt tg : Expr} {ifs : List Expr} {scope : Scope} {pos : Pos}
abbrev gLcS (X : Cx) (scope : Scope) (ds : List Sv) (vs : List Nat) (tg : Expr) : TG := fun v σ H Q => ∃ z : Sv × List Sv × List Nat, (∀ s H C cl fp, GD (Zb X scope s H C cl fp) tg z.1 (wipeD ds vs) z.2.1 z.2.2) ∧ cG X.K z.1 (wipeD ds vs) z.2.1 z.2.2 v σ H Q
/-- [elt for tg in such a list if ..], nothing kept -/
theorem pd_lcF (own : List (Str × Nat)) {rs : List Sv} (hc : X.calm = true) (hN : X.N.Nodup) (hB : blkC X.N X.env.scope scope own = true) (he : PD X ds M e (sLst X.K rs) M1)
    (hT : ∀ (i : Nat) (r : Sv), rs[i]? = some r → ∃ eis ts, (∀ t ∈ ts, t ∈ own.map (·.2)) ∧ (∀ s H C cl fp, GD (Zb X scope s H C cl fp) tg r (wipeD ds (own.map (·.2))) eis ts) ∧ ∀ q s H C cl fp, PTs (Zb X scope s H C cl fp) ifs (cT X.K eis (q :: M1) false (q :: M1)))
    (hs : ∀ x, foldedSetIterable e X.env x = pure x := by intro _; rfl) : PD X ds M (.ListComp elt [⟨tg, e, ifs, 0⟩] scope pos) (.dat (.list [])) M1 := by
  refine pe_mono (pe_lc (own := own) (g := gLcS X scope ds (own.map (·.2)) tg) (tt := tLcT X scope ifs) (te := fun _ _ _ => False) hc hN (pi_list he) (blkOk_by hB) (fun s H C cl fp => pg_ex (ι := Sv × List Sv × List Nat) (p := fun z => ∀ s H C cl fp, GD (Zb X scope s H C cl fp) tg z.1 (wipeD ds (own.map (·.2))) z.2.1 z.2.2) (t := fun z => cG X.K z.1 (wipeD ds (own.map (·.2))) z.2.1 z.2.2) fun _ h => h s H C cl fp) lc_t (fun s H C cl fp => pe_no) hs) fun σ H Q ⟨G, w, s, k⟩ => ?_
  refine ⟨G, w, s, fun v G1 H1 p1 hv => ?_⟩
  obtain ⟨a, vs, rfl, h1, h2⟩ := vk_sLst hv
  refine ⟨a, rfl, ⟨vs, p1.w.ex.seq h1⟩, fun Dl hD => ?_⟩
  have hD0 : H Dl = none := none_back p1 hD
  refine lc_list (K := X.K) (a := a) (g := gLcS X scope ds (own.map (·.2)) tg) (tt := tLcT X scope ifs) (te := fun _ _ _ => False) (Qd := fun H' => Q (.ref Dl) H') (xs := vs)
    (fun i H' => ∃ Gi, Same G1 Gi ∧ Po X.K M ((Dl, .lst []) :: M1) G H Gi H') ⟨G1, Same.refl _, p1.trans (Po.mnew p1.w hD (m := .lst []) (o := .lst []) .nil)⟩ (fun i H' _ ⟨Gi, sg, p⟩ => (sg.trans p.w.ex).seq h1) (fun i x H' hx ⟨Gi, sg, p⟩ => ?_) (fun H' ⟨Gi, sg, p⟩ => ?_)
  · have hi : i < rs.length := by rw [← h2.len]; exact (List.getElem?_eq_some_iff.mp hx).1
    have hd : rs[i]? = some rs[i] := List.getElem?_eq_getElem hi
    obtain ⟨v, e1, e2⟩ := vks_at h2 hd
    rw [hx] at e1
    cases e1
    obtain ⟨eis, ts, hts, hg, ht⟩ := hT i _ hd
    refine ⟨(rs[i], eis, ts), hg, _, Gi, p.w, (s.up (p1.g.trans sg)).wipe (own.map (·.2)), e2.up sg, fun σ2 s2 chg => ⟨(chg (own.map (·.2)) hts).trans wipe_idem, (eis, (Dl, .lst []) :: M1, false), fun s H C cl fp => ht _ s H C cl fp, Gi, p.w, s2, fun G3 H3 p3 => iteF ⟨G3, sg.trans p3.g, p.trans p3⟩⟩⟩
  · obtain ⟨ws, q1, q2, q3⟩ := Wo.lst (A := []) p.w
    cases q2
    exact k _ _ _ (p.freeze q1 hD0) (Dp.lst (SqL.of upd_same) .nil)
end
end Cal
/-! CalM -/
namespace Cal
open PySem PySem.Spec PyProof.Rows L2
def b2n (b : Bool) : Int := if b = true then 1 else 0
theorem op_subBB {X : Cx} : OpR X (binaryOp .Sub) (fun x y H Q => ∃ p q, x = .bl p ∧ y = .bl q ∧ Q (.int (b2n p - b2n q)) H) := by
  intro pins s σ H x y v u Q I rx ry h
  obtain ⟨p, q, rfl, rfl, k⟩ := h
  cases rx
  cases ry
  exact sub_bool ⟨.int (b2n p - b2n q), H, I.tok _, ⟨_, rfl⟩, k⟩
section
variable {X : Cx} {ds : List Sv} {M M1 M2 : Ms} {a b c : Expr} {pos : Pos} {i j k : Int}
theorem pd_subB {x y : Bool} (ha : PD X ds M a (B x) M1) (hb : PD X ds M1 b (B y) M2) : PD X ds M (.BinOp a .Sub b pos) (I (b2n x - b2n y)) M2 := pe_mono (pe_op op_subBB ha hb) fun σ H Q q => ce_op (fun G H v u Q hx hy k => ⟨x, y, vk_bl hx, vk_bl hy, k _ (.int _)⟩) q
/-- tuples of two ints, less -/
theorem pd_ltP {x y : Int × Int} (hu : X.A.units < cLine) (ha : PD X ds M a (.dat (.tuple [.int x.1, .int x.2])) M1) (hb : PD X ds M1 b (.dat (.tuple [.int y.1, .int y.2])) M2) : PD X ds M (.Compare a [.Lt] [b] pos) (B (HT.lexLt [x.1, x.2] [y.1, y.2])) M2 := pe_mono (pe_cmpR (op_ltT hu) ha hb (nomark _)) fun σ H Q q => ce_bin (fun G H v u Q w hx hy k => by
  obtain ⟨p, vs, rfl, h1, h2⟩ := vk_tup hx
  obtain ⟨p', vs', rfl, h3, h4⟩ := vk_tup hy
  have e1 : vs = [x.1, x.2].map V.int := by
    cases h2 with
    | cons a b =>
      cases b with
      | cons b c =>
        cases c
        cases a
        cases b
        rfl
  have e2 : vs' = [y.1, y.2].map V.int := by
    cases h4 with
    | cons a b =>
      cases b with
      | cons b c =>
        cases c
        cases a
        cases b
        rfl
  subst e1 e2
  exact ⟨p, p', [x.1, x.2], [y.1, y.2], rfl, rfl, seqT w.ex h1, seqT w.ex h3, k _ G H (Po.refl w) (.bl _)⟩) q
end
end Cal
/-! CalN -/
namespace Cal
open PySem PySem.Spec PyProof.Rows L2
abbrev pD (u : Int × Int) : D := .tuple [.int u.1, .int u.2]
theorem dp_pair {K : PySem.W.Frag} {G : Hp} {x : V} {u : Int × Int} (h : Dp K G x (pD u)) : TupI K G x [u.1, u.2] := by
  cases h with
  | tup h1 h2 =>
    cases h2 with
    | cons a b =>
      cases b with
      | cons b c =>
        cases c
        cases a
        cases b
        exact ⟨_, rfl, h1⟩
theorem tupI_up {K : PySem.W.Frag} {G H : Hp} (e : Same G H) {x : V} {ns : List Int} (h : TupI K G x ns) : TupI K H x ns := by
  obtain ⟨t, e1, e2⟩ := h
  exact ⟨t, e1, seqT e e2⟩
theorem dps_perm {K : PySem.W.Frag} {G : Hp} : ∀ {zs xs : List V}, zs.Perm xs → ∀ us : List (Int × Int), DpAll K G xs (us.map pD) → ∃ us' : List (Int × Int), us'.Perm us ∧ DpAll K G zs (us'.map pD) := by
  intro zs xs hp
  induction hp with
  | nil =>
    intro us h
    exact ⟨us, .refl _, h⟩
  | cons x hp ih =>
    intro us h
    match us, h with
    | [], h => cases h
    | u :: us, h =>
      cases h with
      | cons h1 h2 =>
        obtain ⟨us', e1, e2⟩ := ih us h2
        exact ⟨u :: us', e1.cons u, .cons h1 e2⟩
  | swap x y l =>
    intro us h
    match us, h with
    | [], h => cases h
    | [u], h =>
      cases h with
      | cons h1 h2 => cases h2
    | u :: v :: us, h =>
      cases h with
      | cons h1 h2 =>
        cases h2 with
        | cons h2 h3 => exact ⟨v :: u :: us, .swap u v us, .cons h2 (.cons h1 h3)⟩
  | trans _ _ ih1 ih2 =>
    intro us h
    obtain ⟨us2, e1, e2⟩ := ih2 us h
    obtain ⟨us3, e3, e4⟩ := ih1 us2 e2
    exact ⟨us3, e3.trans e1, e4⟩
def cd6 (u : Int × Int) : Int := u.1 * 6 + u.2
theorem code6 (u : Int × Int) : TS.code 6 [u.1, u.2] = cd6 u := by
  show u.1 * 6 ^ 1 + (u.2 * 6 ^ 0 + 0) = _
  unfold cd6
  omega
theorem dps_mem {K : PySem.W.Frag} {G : Hp} : ∀ {zs : List V} {us : List (Int × Int)}, DpAll K G zs (us.map pD) → (∀ x ∈ zs, ∃ u ∈ us, Dp K G x (pD u)) ∧ (∀ u ∈ us, ∃ x ∈ zs, Dp K G x (pD u))
  | [], [], _ => ⟨fun x hx => absurd hx (by simp), fun x hx => absurd hx (by simp)⟩
  | [], u :: us, h => by cases h
  | z :: zs, [], h => by cases h
  | z :: zs, u :: us, h => by
    cases h with
    | cons h1 h2 =>
      obtain ⟨i1, i2⟩ := dps_mem h2
      refine ⟨fun x hx => ?_, fun v hv => ?_⟩
      · rcases List.mem_cons.mp hx with e | hx
        · exact ⟨u, by simp, by rw [e]; exact h1⟩
        · obtain ⟨v, h3, h4⟩ := i1 x hx
          exact ⟨v, by simp [h3], h4⟩
      · rcases List.mem_cons.mp hv with e | hv
        · exact ⟨z, by simp, by rw [e]; exact h1⟩
        · obtain ⟨x, h3, h4⟩ := i2 v hv
          exact ⟨x, by simp [h3], h4⟩
theorem dps_pair {K : PySem.W.Frag} {G H : Hp} (e : Same G H) : ∀ {zs : List V} {us : List (Int × Int)}, DpAll K G zs (us.map pD) → zs.Pairwise (fun x y => ∀ n m, TupI K H x n → TupI K H y m → TS.code 6 n ≤ TS.code 6 m) → us.Pairwise fun u v => cd6 u ≤ cd6 v
  | [], [], _, _ => .nil
  | [], u :: us, h, _ => by cases h
  | z :: zs, [], h, _ => by cases h
  | z :: zs, u :: us, h, hp => by
    cases h with
    | cons h1 h2 =>
      obtain ⟨p1, p2⟩ := List.pairwise_cons.mp hp
      refine List.pairwise_cons.mpr ⟨fun v hv => ?_, dps_pair e h2 p2⟩
      obtain ⟨x, hx, hd⟩ := (dps_mem h2).2 v hv
      have := p1 x hx [u.1, u.2] [v.1, v.2] (tupI_up e (dp_pair h1)) (tupI_up e (dp_pair hd))
      rw [code6, code6] at this
      exact this
theorem perm_uniq : ∀ {us vs : List (Int × Int)}, us.Perm vs → us.Pairwise (fun u v => cd6 u ≤ cd6 v) → vs.Pairwise (fun u v => cd6 u ≤ cd6 v) → (∀ u ∈ us, ∀ v ∈ us, cd6 u = cd6 v → u = v) → us = vs
  | [], vs, hp, _, _, _ => by
    have := hp.symm.eq_nil
    exact this.symm
  | u :: us, [], hp, _, _, _ => absurd hp.eq_nil (by simp)
  | u :: us, v :: vs, hp, h1, h2, ha => by
    obtain ⟨p1, p2⟩ := List.pairwise_cons.mp h1
    obtain ⟨q1, q2⟩ := List.pairwise_cons.mp h2
    have hv : v ∈ u :: us := hp.mem_iff.mpr (by simp)
    have hu : u ∈ v :: vs := hp.mem_iff.mp (by simp)
    have e : u = v := by
      refine ha u (by simp) v hv (Int.le_antisymm ?_ ?_)
      · rcases List.mem_cons.mp hv with z | z
        · rw [z]; exact Int.le_refl _
        · exact p1 v z
      · rcases List.mem_cons.mp hu with z | z
        · rw [z]; exact Int.le_refl _
        · exact q1 u z
    subst e
    rw [perm_uniq hp.cons_inv p2 q2 fun a ha' b hb hab => ha a (by simp [ha']) b (by simp [hb]) hab]
/-- a cell of six by six -/
def In6 (u : Int × Int) : Prop := 0 ≤ u.1 ∧ u.1 < 6 ∧ 0 ≤ u.2 ∧ u.2 < 6
theorem cd6_inj {u v : Int × Int} (hu : In6 u) (hv : In6 v) (h : cd6 u = cd6 v) : u = v := by
  unfold In6 at hu hv
  unfold cd6 at h
  exact Prod.ext (by omega) (by omega)
section
variable {X : Cx} {ds : List Sv} {M M1 : Ms} {a : Expr} {pos p : Pos}
/-- sorted(xs), pairs of small ints -/
theorem pd_sortP {us vs : List (Int × Int)} (hm : X.mg "sorted" = none) (ha : PD X ds M a (.dat (.list (us.map pD))) M1) (hl : us.length < 64) (hb : ∀ u ∈ us, In6 u) (hp : vs.Perm us) (hs : vs.Pairwise fun u v => cd6 u ≤ cd6 v) (hg : Gl X "sorted" := by rfl) (h1 : starEach (a :: []) X.env = (false, eval a X.env) :: starEach [] X.env := by rfl) :
    PD X ds M (.Call (.Name "sorted" p) [a] [] pos) (.dat (.list (vs.map pD))) M1 :=
  pe_mono (pe_callB (cr_sortT (d := 2) (B := 6) (by decide)) hg hm rfl (pda_cons ha pda_nil h1) (he := h1)) fun σ H Q q => ce_args (fun G H ws Q w hv k => by
    obtain ⟨v, rfl, h⟩ := vks1 hv
    obtain ⟨a', xs, rfl, h2, h3⟩ := vk_lst h
    have hlen := dps_len h3
    rw [List.length_map] at hlen
    refine ⟨a', xs, rfl, w.ex.seq h2, by omega, fun x hx => ?_, fun zs pp hz hz2 hpp => ?_⟩
    · obtain ⟨u, hu, hd⟩ := (dps_mem h3).1 x hx
      obtain ⟨b1, b2, b3, b4⟩ := hb u hu
      refine ⟨[u.1, u.2], tupI_up w.ex (dp_pair hd), rfl, fun m hm => ?_⟩
      simp only [List.mem_cons, List.not_mem_nil, or_false] at hm
      rcases hm with e | e
      · rw [e]; exact ⟨b1, b2⟩
      · rw [e]; exact ⟨b3, b4⟩
    · obtain ⟨us', e1, e2⟩ := dps_perm hz us h3
      have e3 := dps_pair w.ex e2 hz2
      have e4 : us' = vs := perm_uniq (e1.trans hp.symm) e3 hs fun x hx y hy => cd6_inj (hb x (e1.mem_iff.mp hx)) (hb y (e1.mem_iff.mp hy))
      rw [e4] at e2
      exact k _ _ _ (dp_newL w e2 hpp).1 (dp_newL w e2 hpp).2) q
end
end Cal
/-! CalO -/
namespace Cal
open PySem PySem.Spec PyProof.Rows L2
section
variable {prog : Program} {w : World} {A : Around} {E : Value → Shared → Prop}
abbrev tK (prog : Program) (w : World) := tupleKind (mixKind prog w)
theorem is_keep {h h' : Heap} {ks : List Key} {a : Addr} (k : ∀ o, h.get? a = some o → h'.get? a = some o) (x : (tK prog w).is h ks a) : (tK prog w).is h' ks a := by
  obtain ⟨o, its, n, h1, r⟩ := x
  exact ⟨o, its, n, k o h1, r⟩
abbrev Tr := List Key × Addr × Value
def putAll (acc : List Tr) (l : List Tr) : List Tr := l.foldl (fun a q => storedH a q.1 q.2.1 q.2.2) acc
theorem dof_keep {h h' : Heap} {S : Addr} {acc : List Tr} (kS : ∀ o, h.get? S = some o → h'.get? S = some o) (ka : ∀ x ∈ acc, ∀ o, h.get? x.2.1 = some o → h'.get? x.2.1 = some o) (x : h.DictOfH (tK prog w) S acc) : h'.DictOfH (tK prog w) S acc := by
  obtain ⟨o, es, ep, h1, h2, h3, h4, h5, h6⟩ := x
  exact ⟨o, es, ep, kS o h1, h2, h3, h4, fun y hy => is_keep (ka y hy) (h5 y hy), h6⟩
theorem stored_mem {acc : List Tr} {k : List Key} {a : Addr} {v : Value} {x : Tr} (h : x ∈ storedH acc k a v) : (∃ y ∈ acc, x.1 = y.1 ∧ x.2.1 = y.2.1) ∨ x = (k, a, v) := by
  unfold storedH at h
  split at h
  · obtain ⟨y, hy, e⟩ := List.mem_map.mp h
    left
    refine ⟨y, hy, ?_⟩
    rw [← e]
    unfold putAt
    split <;> exact ⟨rfl, rfl⟩
  · rcases List.mem_append.mp h with h | h
    · exact .inl ⟨x, h, rfl, rfl⟩
    · right
      simpa using h
theorem stored_len (acc : List Tr) (k : List Key) (a : Addr) (v : Value) : (storedH acc k a v).length ≤ acc.length + 1 := by
  unfold storedH
  split <;> simp
theorem upd_loopT {R : Result → Shared → Prop} {S I l : Addr} {items : Array Value} {res : Value} (hh : A.handled = none) (hu : (tK prog w).room A.in1) (hlI : l ≠ I) (hSI : S ≠ I) (hSl : S ≠ l) :
    ∀ (rest : List Tr) (i : Nat) (acc : List Tr) (ix : Int) (t : Tok) (s : Shared), items.size = i + rest.length → acc.length + rest.length ≤ sizeLine →
      (∀ (j : Nat) (q : Tr), rest[j]? = some q → ∃ b : Addr, items[i + j]? = some (.ref b) ∧ b ≠ S ∧ b ≠ I ∧ q.2.1 ≠ S ∧ q.2.1 ≠ I ∧ IsTup s.heap b #[.ref q.2.1, q.2.2] ∧ (tK prog w).is s.heap q.1 q.2.1) →
      (∀ x ∈ acc, x.2.1 ≠ S ∧ x.2.1 ≠ I) → s.heap.IsListIter I l i → s.heap.IsList l items → s.heap.DictOfH (tK prog w) S acc →
      (∀ h' tk, h'.DictOfH (tK prog w) S (putAll acc rest) → (∀ b o, b ≠ S → b ≠ I → s.heap.get? b = some o → h'.get? b = some o) → R (.ok (.ret res)) { s with heap := h', toks := tk }) →
      codeAny (model prog w) A (.builtin "dict.update.loop" ⟨[.ref S, .ref I, .int ix t, res], []⟩) R s
  | [], i, acc, ix, t, s, hsz, hln, ht, hac, hit, hl, hm, hR => by
    refine codeAny_builtin ud_entry ?_
    rw [Around.under_plainId ud_plain _]
    show wpAny _ A.in1 (pyNext (.ref I) >>= _) _ _ s
    refine wpAny_bind (wpAny_pyNext_list_end (A := A.in1) hh hit hl (by first | exact Array.getElem?_eq_none (Nat.le_of_eq hsz) | (simp at hsz; simp; omega)) fun h' he => ?_)
    show wpAny _ A.in1 (Builtin.Dict.addKeywords S [] >>= _) _ _ _
    refine wpAny_bind (wpAny_pure (wpAny_pure ?_))
    exact hR h' s.toks (dof_keep (fun o e => he S o hSI e) (fun x hx o e => he _ o (hac x hx).2 e) hm) fun b o _ hb e => he b o hb e
  | q :: rest, i, acc, ix, t, s, hsz, hln, ht, hac, hit, hl, hm, hR => by
    obtain ⟨b, hb, hbS, hbI, hkS, hkI, htup, hk⟩ := ht 0 q rfl
    rw [List.length_cons] at hsz hln
    refine codeAny_builtin ud_entry ?_
    rw [Around.under_plainId ud_plain _]
    show wpAny _ A.in1 (pyNext (.ref I) >>= _) _ _ s
    refine wpAny_bind (wpAny_pyNext_list_item (x := .ref b) hit hl (by simpa using hb) fun h1 hit1 hs1 => ?_)
    have ht1 : IsTup h1 b #[.ref q.2.1, q.2.2] := htup.extBut hs1.extBut hbI
    have hl1 : h1.IsList l items := hl.extBut hs1.extBut hlI
    obtain ⟨o, ho, hc, n, hd⟩ := id ht1
    show wpAny _ A.in1 (holding [Value.ref b] _ >>= _) _ _ _
    refine wpAny_bind (wpAny_holding ?_)
    refine wpAny_bind (wpAny_tryCatch ?_)
    unfold Builtin.Dict.pairItems
    refine wpAny_bind (wpAny_typeOf (T := "tuple") ⟨o, ho, hc⟩ ?_)
    rw [if_pos (by first | decide | rfl | simp)]
    refine wpAny_bind (wpAny_seqItems ho hd (wpAny_pure ?_))
    show wpAny _ A.in1 (holding [.ref q.2.1, q.2.2] (dictSet S (.ref q.2.1) q.2.2)) _ _ _
    have hm1 : h1.DictOfH (tK prog w) S acc := dof_keep (fun o e => hs1.extBut S o hSI e) (fun x hx o e => hs1.extBut _ o (hac x hx).2 e) hm
    refine wpAny_holding (wpAny_dictSet_heap (knd := tK prog w) (k := q.1) (a := q.2.1) (d := S) hu (is_keep (fun o e => hs1.extBut _ o hkI e) hk) hm1 (fun h2 hm2 hs2 => ?_) (by omega))
    have sl := stored_len acc q.1 q.2.1 q.2.2
    refine wpAny_pure ⟨plainId_quiet ud_plain _, upd_loopT (items := items) hh hu hlI hSI hSl rest (i + 1) (storedH acc q.1 q.2.1 q.2.2) (ix + 1) 0 _ (show items.size = i + 1 + rest.length by omega) (by omega) (fun j q' e => ?_) (fun x hx => ?_) ?_ ?_ hm2 fun h' tk hd' k => ?_⟩
    · obtain ⟨b', hb', hbS', hbI', hkS', hkI', htup', hk'⟩ := ht (j + 1) q' (by simpa using e)
      refine ⟨b', ?_, hbS', hbI', hkS', hkI', (htup'.extBut hs1.extBut hbI').extBut hs2.extBut hbS', is_keep (fun o e => hs2.extBut _ o hkS' (hs1.extBut _ o hkI' e)) hk'⟩
      rw [show i + 1 + j = i + (j + 1) by omega]
      exact hb'
    · rcases stored_mem hx with ⟨y, hy, _, e2⟩ | e
      · rw [e2]
        exact hac y hy
      · rw [e]
        exact ⟨hkS, hkI⟩
    · exact hit1.at fun o' e => hs2.extBut I o' (Ne.symm hSI) e
    · exact hl1.extBut hs2.extBut (Ne.symm hSl)
    · exact hR h' tk hd' fun c oc h3 h4 e => k c oc h3 h4 (hs2.extBut c oc h3 (hs1.extBut c oc h4 e))
/-- dict(l) of a list of pairs whose keys are tuples -/
theorem call_dict_pairsT {s : Shared} {l : Addr} {ol : Obj} {items : Array Value} {n : Nat} {prs : List Tr} {Q : Value → Shared → Prop} (hh : A.handled = none) (hu : (tK prog w).room A.in1.in1) (hl : s.heap.get? l = some ol) (hc : ol.cls = .type "list") (hd : ol.dict = none)
    (hdat : ol.data = .seq items n) (hsz : items.size = prs.length) (hln : prs.length ≤ sizeLine)
    (ht : ∀ (j : Nat) (q : Tr), prs[j]? = some q → ∃ b : Addr, items[j]? = some (.ref b) ∧ IsTup s.heap b #[.ref q.2.1, q.2.2] ∧ (tK prog w).is s.heap q.1 q.2.1)
    (h : ∀ h' tk, h'.DictOfH (tK prog w) s.heap.objs.size (putAll [] prs) → (∀ b o, s.heap.get? b = some o → h'.get? b = some o) → Q (.ref s.heap.objs.size) { s with heap := h', toks := tk }) :
    wpAny (model prog w) A (call (.type "dict") [.ref l]) Q E s := by
  refine callType_codes (Q₁ := fun obj s₁ => obj = .ref s.heap.objs.size ∧ s₁ = { s with heap := s.heap.push { cls := .type "dict", data := .dict #[] } }) PySem.F.kt_called_dict (PySem.F.kt_typeCall_dict_1 _) PySem.F.entry_dict_init (kt_code_dict_new _ ⟨rfl, rfl⟩) ?_
  rintro obj s₁ ⟨rfl, rfl⟩
  have hnew : (s.heap.push { cls := .type "dict", data := .dict #[] }).DictOfH (tK prog w) s.heap.objs.size [] := Heap.DictOfH.new s.heap
  have k0 : ∀ b o, s.heap.get? b = some o → (s.heap.push { cls := .type "dict", data := .dict #[] }).get? b = some o := fun b o e => Heap.get?_push_of_some _ e
  refine ⟨hnew.typeIs, PySem.F.args_dict_init_2 _ _, ?_⟩
  unfold Builtin.«dict.__init__»
  refine wpAny_bind ?_
  unfold Builtin.Dict.selfAndRest
  refine wpAny_bind (wpAny_notOrdered_dict hnew.typeIs ?_)
  show wpAny _ _ (pure (s.heap.objs.size, [Value.ref l])) _ _ _
  refine wpAny_pure ?_
  show wpAny _ _ (Builtin.Dict.updateFrom "dict.__init__" s.heap.objs.size (.ref l) [] .none) _ _ _
  unfold Builtin.Dict.updateFrom
  refine wpAny_bind (wpAny_typeOf (T := "list") ⟨ol, k0 _ _ hl, hc⟩ ?_)
  rw [if_pos (by first | decide | rfl | simp)]
  refine wpAny_bind (miss_list (k0 _ _ hl) hc hdat hd hh fun h1 tk1 hk1 => ?_)
  rw [if_pos (show (none : Option Value).isNone = true from rfl)]
  refine wpAny_bind (wpAny_rule ?_)
  have hl1 : h1.IsList l items := ⟨ol, hk1 _ _ (k0 _ _ hl), hc, n, hdat⟩
  have hS1 : s.heap.objs.size < h1.objs.size := by
    have e : (s.heap.push { cls := .type "dict", data := .dict #[] }).get? s.heap.objs.size = some { cls := .type "dict", data := .dict #[] } := Heap.get?_push_size _ rfl
    exact Heap.lt_size (hk1 _ _ e)
  refine wpAny_bind (wpAny_pyIter_list hl1 ?_)
  have k2 : ∀ b o, h1.get? b = some o → (h1.push { cls := .type "list_iterator", data := .fields #[.ref l, .int 0 0] }).get? b = some o := fun b o e => Heap.get?_push_of_some _ e
  have hlt : l < s.heap.objs.size := Heap.lt_size hl
  have key := upd_loopT (prog := prog) (w := w) (A := A.in1) (R := wants (fun r s₂ => r = .none ∧ Q (.ref s.heap.objs.size) s₂) E) (S := s.heap.objs.size) (I := h1.objs.size) (l := l) (items := items) (res := Value.none) hh hu
    (Nat.ne_of_lt (Nat.lt_trans hlt hS1)) (Nat.ne_of_lt hS1) (Nat.ne_of_gt hlt) prs 0 [] 0 0
    { s with heap := h1.push { cls := .type "list_iterator", data := .fields #[.ref l, .int 0 0] }, toks := tk1 } (by rw [hsz, Nat.zero_add]) (by rw [List.length_nil, Nat.zero_add]; exact hln)
    (fun j q e => by
      obtain ⟨b, e1, e2, e3⟩ := ht j q e
      have hb : b < s.heap.objs.size := e2.lt
      have hkk : q.2.1 < s.heap.objs.size := by
        obtain ⟨o, _, _, ho, _⟩ := e3
        exact Heap.lt_size ho
      exact ⟨b, by rw [Nat.zero_add]; exact e1, Nat.ne_of_lt hb, Nat.ne_of_lt (Nat.lt_trans hb hS1), Nat.ne_of_lt hkk, Nat.ne_of_lt (Nat.lt_trans hkk hS1), e2.keeps fun c o z => k2 _ _ (hk1 _ _ (k0 _ _ z)), is_keep (fun o z => k2 _ _ (hk1 _ _ (k0 _ _ z))) e3⟩)
    (fun x hx => absurd hx (by simp)) ⟨_, Heap.get?_push_size _ rfl, rfl, rfl⟩ (hl1.at fun o e => k2 _ _ e) (dof_keep (fun o e => k2 _ _ (hk1 _ _ e)) (fun x hx => absurd hx (by simp)) hnew)
    (fun h' tk hd' k => ⟨rfl, h h' tk hd' fun b o e => k b o (Nat.ne_of_lt (Heap.lt_size e)) (Nat.ne_of_lt (Nat.lt_trans (Heap.lt_size e) hS1)) (k2 _ _ (hk1 _ _ (k0 _ _ e)))⟩)
  first
    | exact wpAny_pure ⟨plainId_quiet ud_plain _, key⟩
    | exact wpAny_bind (wpAny_pure (wpAny_pure ⟨plainId_quiet ud_plain _, key⟩))
end
/-- the dict at a: its keys stand at bs -/
def DRaw (P : Program) (w : World) (a : Addr) (bs : List Addr) : HO := .ext fun h => (a == sysModules) = false ∧ ∃ o es ep, h.get? a = some o ∧ o.ExactDict ∧ o.data = .dict es ep ∧ es.toList.map (·.key) = bs.map Value.ref
theorem draw_of {P : Program} {w : World} {h : Heap} {a : Addr} {xs : List Tr} (x : h.DictOfH (tK P w) a xs) : ∃ o es ep, h.get? a = some o ∧ o.ExactDict ∧ o.data = .dict es ep ∧ es.toList.map (·.key) = (xs.map (·.2.1)).map Value.ref := by
  obtain ⟨o, es, ep, h1, h2, h3, h4, _⟩ := x
  refine ⟨o, es, ep, h1, h2, h3, ?_⟩
  rw [h4, List.map_map, List.map_map]
  rfl
/-- what a fold of pairs leaves -/
theorem putAll_mem : ∀ (l acc : List Tr) (x : Tr), x ∈ putAll acc l → (∃ y ∈ acc, x.1 = y.1 ∧ x.2.1 = y.2.1) ∨ ∃ y ∈ l, x.1 = y.1 ∧ x.2.1 = y.2.1
  | [], acc, x, h => .inl ⟨x, h, rfl, rfl⟩
  | q :: l, acc, x, h => by
    rcases putAll_mem l (storedH acc q.1 q.2.1 q.2.2) x h with ⟨y, hy, e1, e2⟩ | ⟨y, hy, e⟩
    · rcases stored_mem hy with ⟨z, hz, e3, e4⟩ | e
      · exact .inl ⟨z, hz, e1.trans e3, e2.trans e4⟩
      · right
        refine ⟨q, by simp, ?_, ?_⟩
        · rw [e1, e]
        · rw [e2, e]
    · exact .inr ⟨y, by simp [hy], e⟩
theorem stored_keys {acc : List Tr} {k : List Key} {a : Addr} {v : Value} : (∀ y ∈ acc, ∃ x ∈ storedH acc k a v, x.1 = y.1) ∧ ∃ x ∈ storedH acc k a v, x.1 = k := by
  unfold storedH
  by_cases h : (atKey acc k).isSome = true
  · rw [if_pos h]
    refine ⟨fun y hy => ⟨putAt k v y, List.mem_map.mpr ⟨y, hy, rfl⟩, by unfold putAt; split <;> rfl⟩, ?_⟩
    unfold atKey at h
    rw [Option.isSome_map] at h
    obtain ⟨y, hy⟩ := Option.isSome_iff_exists.mp h
    have hm := List.mem_of_find?_eq_some hy
    have hk : y.1 = k := by simpa using List.find?_some hy
    exact ⟨putAt k v y, List.mem_map.mpr ⟨y, hm, rfl⟩, by unfold putAt; split <;> exact hk⟩
  · rw [if_neg h]
    exact ⟨fun y hy => ⟨y, by simp [hy], rfl⟩, (k, a, v), by simp, rfl⟩
theorem putAll_keys : ∀ (l acc : List Tr), (∀ y ∈ acc, ∃ x ∈ putAll acc l, x.1 = y.1) ∧ ∀ y ∈ l, ∃ x ∈ putAll acc l, x.1 = y.1
  | [], acc => ⟨fun y hy => ⟨y, hy, rfl⟩, fun y hy => absurd hy (by simp)⟩
  | q :: l, acc => by
    obtain ⟨h1, h2⟩ := putAll_keys l (storedH acc q.1 q.2.1 q.2.2)
    obtain ⟨s1, s2⟩ := stored_keys (acc := acc) (k := q.1) (a := q.2.1) (v := q.2.2)
    refine ⟨fun y hy => ?_, fun y hy => ?_⟩
    · obtain ⟨z, hz, e⟩ := s1 y hy
      obtain ⟨x, hx, e2⟩ := h1 z hz
      exact ⟨x, hx, e2.trans e⟩
    · rcases List.mem_cons.mp hy with e | hy
      · obtain ⟨z, hz, e3⟩ := s2
        obtain ⟨x, hx, e2⟩ := h1 z hz
        exact ⟨x, hx, by rw [e2, e3, e]⟩
      · exact h2 y hy
end Cal
/-! CalP -/
namespace Cal
open PySem PySem.Spec PyProof.Rows L2
abbrev Rw2 := Addr × (Int × Int)
theorem putAll_len : ∀ (l acc : List Tr), (putAll acc l).length ≤ acc.length + l.length
  | [], acc => Nat.le_refl _
  | q :: l, acc => by
    have h1 := putAll_len l (storedH acc q.1 q.2.1 q.2.2)
    have h2 := stored_len acc q.1 q.2.1 q.2.2
    show (putAll (storedH acc q.1 q.2.1 q.2.2) l).length ≤ acc.length + (l.length + 1)
    omega
section
variable {X : Cx}
theorem trs_of {pins : List (Addr × Obj)} {σ : L2.St} {H : Hp} {s : Shared} (I : Inv X pins σ H s) : ∀ {ps : List Addr} {us : List Rw2}, Paired (fun p q => SqT X.K H p [.ref q.1, .int 1] ∧ SqT X.K H q.1 [.int q.2.1, .int q.2.2]) ps us →
    ∃ prs : List Tr, prs.map (fun q => (q.1, q.2.1)) = us.map (fun q => ([Sum.inl q.2.1, Sum.inl q.2.2], q.1)) ∧ prs.length = ps.length ∧ ∀ (j : Nat) (q : Tr), prs[j]? = some q → ∃ b : Addr, ps[j]? = some b ∧ IsTup s.heap b #[.ref q.2.1, q.2.2] ∧ (tK X.prog X.w).is s.heap q.1 q.2.1
  | _, _, .nil => ⟨[], rfl, rfl, fun j q e => by simp at e⟩
  | _, _, .cons (a := p) (b := kv) h t => by
    obtain ⟨prs, r, hl, hp⟩ := trs_of I t
    obtain ⟨its, rv, ht, _⟩ := I.tuple h.1
    obtain ⟨u, y, ei, ru, ry⟩ := vals2 rv
    subst ei
    obtain ⟨its2, rv2, ht2, _⟩ := I.tuple h.2
    obtain rfl : u = Value.ref kv.1 := ru
    have hk : (tK X.prog X.w).is s.heap [Sum.inl kv.2.1, Sum.inl kv.2.2] kv.1 := by
      obtain ⟨o, h1, h2, n, h3⟩ := ht2
      exact ⟨o, its2.toArray, n, h1, h2, h3, by simpa using items_are (ks := [Sum.inl kv.2.1, Sum.inl kv.2.2]) rv2⟩
    refine ⟨([Sum.inl kv.2.1, Sum.inl kv.2.2], kv.1, y) :: prs, by rw [List.map_cons, List.map_cons, r], by rw [List.length_cons, List.length_cons, hl], fun j q e => ?_⟩
    cases j with
    | zero =>
      have e' := Option.some.inj e
      subst e'
      exact ⟨p, rfl, ht, hk⟩
    | succ j =>
      obtain ⟨b, e1, e2, e3⟩ := hp j q (by simpa using e)
      exact ⟨b, by simpa using e1, e2, e3⟩
/-- dict(xs), a list of pairs (pair of ints, 1) -/
theorem cr_dictT (hcalm : X.calm = true) (hu : X.A.units + 64 < cLine) : CallR X (.type "dict") (fun xs H Q => ∃ (a : Addr) (ps : List Addr) (us : List Rw2), xs = [.ref a] ∧ SqL X.K H a (ps.map V.ref) ∧ Paired (fun p q => SqT X.K H p [.ref q.1, .int 1] ∧ SqT X.K H q.1 [.int q.2.1, .int q.2.2]) ps us ∧
    ∀ (d : Addr) (L : List Rw2), (L.map (·.2)).Nodup → (∀ x ∈ L, x ∈ us) → (∀ y ∈ us, ∃ x ∈ L, x.2 = y.2) → L.length ≤ us.length → H d = none → Q (.ref d) (upd H d (DRaw X.prog X.w d (L.map (·.1))))) := by
  intro pins s σ H xs us Q I r q
  obtain ⟨a, ps, us2, ex, hq, hp, q⟩ := q
  subst ex
  obtain ⟨u, eu, rx⟩ := vals1 r
  subst eu
  cases rx
  obtain ⟨its, rv, pl, hz⟩ := I.list hq
  have ei := refs_at rv
  subst ei
  rw [List.length_map] at hz
  obtain ⟨prs, rel, hl, hpr⟩ := trs_of I hp
  obtain ⟨o, n, ho, hc, hd, hdat⟩ := pl
  refine call_dict_pairsT (prs := prs) (I.ok.hd hcalm) (show X.A.units + 1 + 1 < cLine by omega) ho hc hd hdat (by simp [hl]) (by rw [hl]; exact hz) (fun j q' e => ?_) fun h' tk hd' k => ?_
  · obtain ⟨b, e1, e2, e3⟩ := hpr j q' e
    exact ⟨b, by simp [e1], e2, e3⟩
  · have hm : (s.heap.objs.size == sysModules) = false := beq_eq_false_iff_ne.mpr (Nat.ne_of_gt I.big)
    have hnd : ((putAll [] prs).map (·.1)).Nodup := by
      obtain ⟨_, _, _, _, _, _, _, _, z⟩ := hd'
      exact z
    have mm : ∀ y ∈ prs, ∃ q ∈ us2, y.1 = [Sum.inl q.2.1, Sum.inl q.2.2] ∧ y.2.1 = q.1 := by
      intro y hy
      have z : (y.1, y.2.1) ∈ prs.map (fun q => (q.1, q.2.1)) := List.mem_map.mpr ⟨y, hy, rfl⟩
      rw [rel] at z
      obtain ⟨q, hq, e⟩ := List.mem_map.mp z
      exact ⟨q, hq, (Prod.mk.inj e).1.symm, (Prod.mk.inj e).2.symm⟩
    have mu : ∀ q ∈ us2, ∃ y ∈ prs, y.1 = [Sum.inl q.2.1, Sum.inl q.2.2] ∧ y.2.1 = q.1 := by
      intro q hq
      have z : (([Sum.inl q.2.1, Sum.inl q.2.2] : List Key), q.1) ∈ us2.map (fun q => (([Sum.inl q.2.1, Sum.inl q.2.2] : List Key), q.1)) := List.mem_map.mpr ⟨q, hq, rfl⟩
      rw [← rel] at z
      obtain ⟨y, hy, e⟩ := List.mem_map.mp z
      exact ⟨y, hy, (Prod.mk.inj e).1, (Prod.mk.inj e).2⟩
    have each : ∀ x ∈ putAll [] prs, ∃ q ∈ us2, x.1 = [Sum.inl q.2.1, Sum.inl q.2.2] ∧ x.2.1 = q.1 := by
      intro x hx
      rcases putAll_mem prs [] x hx with ⟨y, hy, _⟩ | ⟨y, hy, e1, e2⟩
      · exact absurd hy (by simp)
      · obtain ⟨q, hq, e3, e4⟩ := mm y hy
        exact ⟨q, hq, e1.trans e3, e2.trans e4⟩
    -- the rows behind the keys
    have rows : ∀ l : List Tr, (∀ x ∈ l, ∃ q ∈ us2, x.1 = [Sum.inl q.2.1, Sum.inl q.2.2] ∧ x.2.1 = q.1) → ∃ L : List Rw2, L.map (·.1) = l.map (·.2.1) ∧ L.map (fun q => ([Sum.inl q.2.1, Sum.inl q.2.2] : List Key)) = l.map (·.1) ∧ ∀ x ∈ L, x ∈ us2 := by
      intro l
      induction l with
      | nil => intro _; exact ⟨[], rfl, rfl, fun x hx => absurd hx (by simp)⟩
      | cons x l ih =>
        intro hx
        obtain ⟨q, hq, e1, e2⟩ := hx x (by simp)
        obtain ⟨L, l1, l2, l3⟩ := ih fun y hy => hx y (by simp [hy])
        refine ⟨q :: L, by rw [List.map_cons, List.map_cons, l1, e2], by rw [List.map_cons, List.map_cons, l2, e1], fun y hy => ?_⟩
        rcases List.mem_cons.mp hy with e | hy
        · rw [e]; exact hq
        · exact l3 y hy
    obtain ⟨L, l1, l2, l3⟩ := rows _ each
    have hLn : (L.map (·.2)).Nodup := by
      rw [← l2] at hnd
      have e : L.map (fun q => ([Sum.inl q.2.1, Sum.inl q.2.2] : List Key)) = (L.map (·.2)).map (fun u => ([Sum.inl u.1, Sum.inl u.2] : List Key)) := by rw [List.map_map]; rfl
      rw [e] at hnd
      exact List.Pairwise.imp (fun hne z => hne (by rw [z])) (List.pairwise_map.mp hnd)
    have hLa : ∀ y ∈ us2, ∃ x ∈ L, x.2 = y.2 := by
      intro y hy
      obtain ⟨z, hz, e1, _⟩ := mu y hy
      obtain ⟨x, hx, e2⟩ := (putAll_keys prs []).2 z hz
      have hx2 : x.1 ∈ (putAll [] prs).map (·.1) := List.mem_map.mpr ⟨x, hx, rfl⟩
      rw [← l2] at hx2
      obtain ⟨q, hq, e3⟩ := List.mem_map.mp hx2
      refine ⟨q, hq, ?_⟩
      have e4 : ([Sum.inl q.2.1, Sum.inl q.2.2] : List Key) = [Sum.inl y.2.1, Sum.inl y.2.2] := e3.trans (e2.trans e1)
      have f1 := (List.cons.inj e4).1
      have f2 := (List.cons.inj (List.cons.inj e4).2).1
      exact Prod.ext (Sum.inl.inj f1) (Sum.inl.inj f2)
    have hLl : L.length ≤ us2.length := by
      have e1 := congrArg List.length l1
      have e2 := congrArg List.length rel
      have e3 := putAll_len prs []
      rw [List.length_map, List.length_map] at e1 e2
      rw [List.length_nil] at e3
      omega
    obtain ⟨o2, es, ep, g1, g2, g3, g4⟩ := draw_of hd'
    refine ⟨.ref s.heap.objs.size, upd H s.heap.objs.size (DRaw X.prog X.w s.heap.objs.size (L.map (·.1))), I.laid (t' := tk) k (Nat.le_refl _) ⟨⟨hm, o2, es, ep, g1, g2, g3, by rw [l1]; exact g4⟩, ⟨o2, g1⟩, fun h1 h2 ⟨z0, o3, es3, ep3, z1, z2⟩ st => ⟨z0, o3, es3, ep3, st _ z1, z2⟩⟩, rfl, q _ L hLn l3 hLa hLl (I.hok.fresh (Nat.le_refl _))⟩
theorem refs_perm {l : List Value} {bs : List Addr} (h : l.Perm (bs.map Value.ref)) : ∃ as : List Addr, l = as.map Value.ref ∧ as.Perm bs := by
  have all : ∀ l : List Value, (∀ v ∈ l, ∃ a, v = Value.ref a) → ∃ as : List Addr, l = as.map Value.ref := by
    intro l
    induction l with
    | nil => intro _; exact ⟨[], rfl⟩
    | cons v l ih =>
      intro hv
      obtain ⟨a, e⟩ := hv v (by simp)
      obtain ⟨as, e2⟩ := ih fun u hu => hv u (by simp [hu])
      exact ⟨a :: as, by rw [e, e2]; rfl⟩
  obtain ⟨as, e⟩ := all l fun v hv => by
    obtain ⟨a, _, e⟩ := List.mem_map.mp (h.mem_iff.mp hv)
    exact ⟨a, e.symm⟩
  refine ⟨as, e, ?_⟩
  rw [e] at h
  have h2 := h.map (fun v => match v with | .ref a => a | _ => 0)
  rw [List.map_map, List.map_map] at h2
  have f : ∀ l : List Addr, l.map ((fun v => match v with | .ref a => a | _ => 0) ∘ Value.ref) = l := by
    intro l
    induction l with
    | nil => rfl
    | cons a l ih => rw [List.map_cons, ih]; rfl
  rw [f, f] at h2
  exact h2
theorem refs_vals : ∀ as : List Addr, Vals (as.map V.ref) (as.map Value.ref)
  | [] => .nil
  | _ :: r => .cons rfl (refs_vals r)
/-- sorted(d), such a dict -/
theorem cr_sortedD (hcalm : X.calm = true) : CallR X (.builtin "sorted") (fun xs H Q => ∃ (d : Addr) (L : List Rw2), xs = [.ref d] ∧ H d = some (DRaw X.prog X.w d (L.map (·.1))) ∧ (∀ x ∈ L, SqT X.K H x.1 [.int x.2.1, .int x.2.2] ∧ In6 x.2) ∧ L.length < 64 ∧
    ∀ (as : List Addr) (p : Addr), as.Perm (L.map (·.1)) → (as.map V.ref).Pairwise (fun x y => ∀ n m, TupI X.K H x n → TupI X.K H y m → TS.code 6 n ≤ TS.code 6 m) → H p = none → Q (.ref p) (upd H p (.lst (as.map V.ref)))) := by
  intro pins s σ H xs us Q I r q
  obtain ⟨d, L, ex, hd, hL, h64, q⟩ := q
  subst ex
  obtain ⟨u, eu, rx⟩ := vals1 r
  subst eu
  cases rx
  obtain ⟨⟨lo, o, es, ep, ho, hx, hdt, hk⟩, _, _⟩ := I.hok d _ hd
  have hn : es.size = L.length := by
    have e := congrArg List.length hk
    rw [List.length_map, List.length_map, List.length_map, Array.length_toList] at e
    exact e
  refine Calls.call_function_entry PyProof.Rows.kind_sorted PyProof.Rows.plain_sorted PyProof.Rows.entry_sorted (PyProof.Rows.args_sorted1 _) ?_
  unfold Builtin.«sorted»
  refine wpAny_bind (m := checkCount "sorted" 1 1 _) (wpAny_pure ?_)
  refine wpAny_bind (PySem.W.kdu_collect (A := X.A.in1) (kdl_raw lo hx hdt) (I.ok.hd hcalm) ho (by rw [hn, sizeLine_eq]; omega) fun h' tk acc hkp hacc => ?_)
  have ea : acc.toList = (L.map (·.1)).map Value.ref := by
    rw [← hk]
    apply List.ext_getElem?
    intro j
    cases hj : acc.toList[j]? with
    | none =>
      have h1 := List.getElem?_eq_none_iff.mp hj
      rw [Array.length_toList, hacc.1] at h1
      rw [List.getElem?_eq_none (by rw [List.length_map, Array.length_toList]; omega)]
    | some v =>
      obtain ⟨en, hen, hv⟩ := hacc.2 j v (by rw [← Array.getElem?_toList]; exact hj)
      rw [List.getElem?_map, Array.getElem?_toList, hen, hv]
      rfl
  have hvl : acc.toList.length < 64 := by rw [ea, List.length_map, List.length_map]; exact h64
  have I1 : Inv X pins σ H { s with heap := h', toks := tk } := I.kept hkp
  refine wpAny_bind (wpAny_newList ?_ (by rw [sizeLine_eq]; omega))
  have hoL : (h'.push (seqObj "list" acc.toList.toArray 0)).get? h'.objs.size = some (seqObj "list" acc.toList.toArray 0) := Heap.get?_push_size _ rfl
  have tki : ∀ x ∈ L, TS.TupInts (h'.push (seqObj "list" acc.toList.toArray 0)) (.ref x.1) [x.2.1, x.2.2] := fun x hx2 => (tupI_raw (ns := [x.2.1, x.2.2]) I (hL x hx2).1).keeps fun b u e _ => Heap.get?_push_of_some _ (hkp b u e)
  have tok : TS.TupsOk (h'.push (seqObj "list" acc.toList.toArray 0)) 2 6 acc.toList := fun v hv => by
    rw [ea, List.map_map] at hv
    obtain ⟨x, hx2, e⟩ := List.mem_map.mp hv
    rw [← e]
    obtain ⟨b1, b2, b3, b4⟩ := (hL x hx2).2
    refine ⟨[x.2.1, x.2.2], tki x hx2, rfl, fun m hm => ?_⟩
    simp only [List.mem_cons, List.not_mem_nil, or_false] at hm
    rcases hm with e | e
    · rw [e]; exact ⟨b1, b2⟩
    · rw [e]; exact ⟨b3, b4⟩
  show wpAny _ _ _ _ _ { s with heap := h'.push (seqObj "list" acc.toList.toArray 0), toks := tk }
  refine wpAny_bind (wpAny_holding (TS.call_sort_tups (s := { s with heap := h'.push (seqObj "list" acc.toList.toArray 0), toks := tk }) hoL hvl (by decide) tok fun out a1 a2 => ?_))
  obtain ⟨c, hc⟩ := PyProof.Rows.sortedHeap_at (vs := acc.toList) (out := out) hoL
  rw [ea] at a1
  obtain ⟨as, e1, e2⟩ := refs_perm a1
  have pw : (as.map V.ref).Pairwise (fun x y => ∀ n m, TupI X.K H x n → TupI X.K H y m → TS.code 6 n ≤ TS.code 6 m) := by
    rw [e1] at a2
    refine List.pairwise_map.mpr (List.Pairwise.imp (fun {a b} hab n m hn2 hm2 => ?_) (List.pairwise_map.mp a2))
    obtain ⟨t1, z1, y1⟩ := hn2
    obtain ⟨t2, z2, y2⟩ := hm2
    cases z1
    cases z2
    have f1 : TS.intsOf (h'.push (seqObj "list" acc.toList.toArray 0)) (.ref a) = n := ((tupI_raw I y1).keeps fun b u e _ => Heap.get?_push_of_some _ (hkp b u e)).ints
    have f2 : TS.intsOf (h'.push (seqObj "list" acc.toList.toArray 0)) (.ref b) = m := ((tupI_raw I y2).keeps fun b u e _ => Heap.get?_push_of_some _ (hkp b u e)).ints
    rw [← f1, ← f2]
    exact hab
  have hz : (as.map V.ref).length ≤ sizeLine := by
    rw [List.length_map, e2.length_eq, List.length_map, sizeLine_eq]
    omega
  refine wpAny_pure ⟨_, rfl, .ref h'.objs.size, upd H h'.objs.size (.lst (as.map V.ref)), I1.laid (t' := tk) (fun b u e => ?_) (Nat.le_refl _) ⟨hz, as.map Value.ref, c, refs_vals as, by rw [← e1]; simpa using hc⟩, rfl, q as _ e2 pw (I1.hok.fresh (Nat.le_refl _))⟩
  have hlt := Heap.lt_size e
  show (PyProof.Rows.sortedHeap (h'.push (seqObj "list" acc.toList.toArray 0)) h'.objs.size acc.toList out).get? b = some u
  rw [PyProof.Rows.sortedHeap_old (Nat.ne_of_lt hlt) (by rw [PyProof.Rows.size_push']; exact Nat.lt_succ_of_lt hlt)]
  exact Heap.get?_push_of_some _ e
end
abbrev prD (u : Int × Int) : D := .tuple [pD u, .int 1]
def sDict (K : PySem.W.Frag) (P : Program) (w : World) (us : List (Int × Int)) : Sv := .kn fun G v => ∃ (d : Addr) (L : List Rw2), v = .ref d ∧ G d = some (DRaw P w d (L.map (·.1))) ∧ (L.map (·.2)).Nodup ∧ (∀ x ∈ L, SqT K G x.1 [.int x.2.1, .int x.2.2] ∧ x.2 ∈ us) ∧ (∀ u ∈ us, ∃ x ∈ L, x.2 = u) ∧ L.length ≤ us.length
theorem pairs_split {K : PySem.W.Frag} {G : Hp} : ∀ {ys : List V} {us : List (Int × Int)}, DpAll K G ys (us.map prD) → ∃ (ps : List Addr) (rs : List Rw2), ys = ps.map V.ref ∧ rs.map (·.2) = us ∧ Paired (fun p q => SqT K G p [.ref q.1, .int 1] ∧ SqT K G q.1 [.int q.2.1, .int q.2.2]) ps rs
  | [], [], _ => ⟨[], [], rfl, rfl, .nil⟩
  | [], u :: us, h => by cases h
  | y :: ys, [], h => by cases h
  | y :: ys, u :: us, h => by
    cases h with
    | cons h1 h2 =>
      obtain ⟨ps, rs, e1, e2, e3⟩ := pairs_split h2
      obtain ⟨p, ws, rfl, g1, g2⟩ := vk_tup (show Vk K G y (.dat (.tuple [pD u, .int 1])) from h1)
      cases g2 with
      | cons a b =>
        cases b with
        | cons b c =>
          cases c
          cases b
          obtain ⟨t, rfl, g3⟩ := dp_pair a
          exact ⟨p :: ps, (t, u) :: rs, by rw [e1]; rfl, by rw [List.map_cons, e2], .cons ⟨g1, g3⟩ e3⟩
section
variable {X : Cx} {ds : List Sv} {M M1 : Ms} {a : Expr} {pos p : Pos}
theorem pd_dictP {us : List (Int × Int)} (hm : X.mg "dict" = none) (hc : X.calm = true) (hu : X.A.units + 64 < cLine) (ha : PD X ds M a (.dat (.list (us.map prD))) M1) (hg : Gl X "dict" := by rfl) (h1 : starEach (a :: []) X.env = (false, eval a X.env) :: starEach [] X.env := by rfl) :
    PD X ds M (.Call (.Name "dict" p) [a] [] pos) (sDict X.K X.prog X.w us) M1 :=
  pe_mono (pe_callTy (cr_dictT hc hu) hg hm PyProof.Rows.boot_dict (pda_cons ha pda_nil h1) (he := h1)) fun σ H Q q => ce_args (fun G H ws Q w hv k => by
    obtain ⟨v, rfl, h⟩ := vks1 hv
    obtain ⟨a', ys, rfl, h2, h3⟩ := vk_lst h
    obtain ⟨ps, rs, e1, e2, e3⟩ := pairs_split h3
    subst e1
    refine ⟨a', ps, rs, rfl, w.ex.seq h2, Paired.mapP e3 fun _ _ z => ⟨seqT w.ex z.1, seqT w.ex z.2⟩, fun d L l1 l2 l3 l4 hd => ?_⟩
    have sq : ∀ x ∈ rs, SqT X.K G x.1 [.int x.2.1, .int x.2.2] := by
      have gen : ∀ (ps : List Addr) (rs : List Rw2), Paired (fun p q => SqT X.K G p [.ref q.1, .int 1] ∧ SqT X.K G q.1 [.int q.2.1, .int q.2.2]) ps rs → ∀ x ∈ rs, SqT X.K G x.1 [.int x.2.1, .int x.2.2] := by
        intro ps rs h
        induction h with
        | nil => intro x hx; exact absurd hx (by simp)
        | cons h t ih =>
          intro x hx
          rcases List.mem_cons.mp hx with e | hx
          · rw [e]; exact h.2
          · exact ih x hx
      exact gen ps rs e3
    have hnt : ∀ q, DRaw X.prog X.w d (L.map (·.1)) ≠ .tbl q := fun q z => by
      unfold DRaw at z
      cases z
    have p2 := Po.new w hd (DRaw X.prog X.w d (L.map (·.1))) hnt
    refine k _ _ _ p2 ⟨_, Same.refl _, d, L, rfl, upd_same, l1, fun x hx => ⟨seqT p2.g (sq x (l2 x hx)), ?_⟩, fun u hu2 => ?_, ?_⟩
    · rw [← e2]
      exact List.mem_map.mpr ⟨x, l2 x hx, rfl⟩
    · rw [← e2] at hu2
      obtain ⟨y, hy, rfl⟩ := List.mem_map.mp hu2
      exact l3 y hy
    · rw [← e2, List.length_map]
      exact l4) q
theorem pd_sortD {us vs : List (Int × Int)} (hm : X.mg "sorted" = none) (hc : X.calm = true) (ha : PD X ds M a (sDict X.K X.prog X.w us) M1) (hl : us.length < 64) (hb : ∀ u ∈ us, In6 u) (hmem : ∀ u, u ∈ vs ↔ u ∈ us) (hs : vs.Pairwise fun u v => cd6 u < cd6 v) (hg : Gl X "sorted" := by rfl) (h1 : starEach (a :: []) X.env = (false, eval a X.env) :: starEach [] X.env := by rfl) :
    PD X ds M (.Call (.Name "sorted" p) [a] [] pos) (.dat (.list (vs.map pD))) M1 :=
  pe_mono (pe_callB (cr_sortedD hc) hg hm rfl (pda_cons ha pda_nil h1) (he := h1)) fun σ H Q q => ce_args (fun G H ws Q w hv k => by
    obtain ⟨v, rfl, h⟩ := vks1 hv
    obtain ⟨G0, g0, d, L, rfl, f1, f2, f3, f4, f5⟩ := h
    refine ⟨d, L, rfl, w.ex _ _ (g0 _ _ f1), fun x hx => ⟨seqT (g0.trans w.ex) (f3 x hx).1, hb _ (f3 x hx).2⟩, by omega, fun as pp hz hz2 hpp => ?_⟩
    have dl : ∀ L : List Rw2, (∀ x ∈ L, SqT X.K G0 x.1 [.int x.2.1, .int x.2.2]) → DpAll X.K G ((L.map (·.1)).map V.ref) ((L.map (·.2)).map pD) := by
      intro L
      induction L with
      | nil => intro _; exact .nil
      | cons x L ih => intro hx; exact .cons (Dp.tup (seqT g0 (hx x (by simp))) (.cons (.int _) (.cons (.int _) .nil))) (ih fun y hy => hx y (by simp [hy]))
    obtain ⟨us', e1, e2⟩ := dps_perm (hz.map V.ref) (L.map (·.2)) (dl L fun x hx => (f3 x hx).1)
    have e3 := dps_pair w.ex e2 hz2
    have nv : vs.Nodup := List.Pairwise.imp (fun {u v} h z => by rw [z] at h; exact Int.lt_irrefl _ h) hs
    have pv : vs.Perm (L.map (·.2)) := (List.perm_ext_iff_of_nodup nv f2).mpr fun u => by
      rw [hmem u]
      constructor
      · intro hu
        obtain ⟨x, hx, e⟩ := f4 u hu
        exact List.mem_map.mpr ⟨x, hx, e⟩
      · intro hu
        obtain ⟨x, hx, e⟩ := List.mem_map.mp hu
        rw [← e]
        exact (f3 x hx).2
    have hin : ∀ u ∈ us', In6 u := fun u hu => hb u ((hmem u).mp (pv.mem_iff.mpr (e1.mem_iff.mp hu)))
    have e4 : us' = vs := perm_uniq (e1.trans pv.symm) e3 (hs.imp fun h => Int.le_of_lt h) fun x hx y hy => cd6_inj (hin x hx) (hin y hy)
    rw [e4] at e2
    exact k _ _ _ (dp_newL w e2 hpp).1 (dp_newL w e2 hpp).2) q
end
end Cal
/-! WpA -/
/-! What is to hold ahead of an expression, a test, a row of statements, so that what is wanted holds behind it; read off the text. -/
namespace Cal
open PySem PySem.Spec PyProof.Rows L2 LamX

abbrev PoE := Sv → Ms → Prop
abbrev PoA := List Sv → Ms → Prop
abbrev PoT := Bool → Ms → Prop
abbrev Er := Addr → Ms → Prop
/-- a def's promise, as what it asks -/
structure Sig where
  n : Nat
  dr : List Sv
  T : List Sv → Ms → PoE → Er → Prop
  mono : ∀ {rs : List Sv} {M : Ms} {Q Q' : PoE} {E E' : Er}, (∀ r M', Q r M' → Q' r M') → (∀ c M', E c M' → E' c M') → T rs M Q E → T rs M Q' E'
/-- what is known of the module -/
structure Gi where
  T : Tb
  k : Nat
  sg : Str → Nat → Option Sig
  gv : Str → Option Sv
  bi : Str → Bool
  gc : Str → Bool
  fa : Str → Addr
  ex : Str → Option Addr
  es : List (Addr × Str)
  lq : Str
/-- what is known of the block: all names by slots, the scope, the cells of its own -/
structure Sc where
  N : List Str
  sc : Scope
  fn : Str → Bool
  lam : Bool
  tq : Bool
/-- a lambda that captures nothing, beside a text -/
def pairLS (L : Lf) (t : Str) : Sv := .kn fun G v => ∃ p f c', v = .ref p ∧ G p = some (.tup [.ref f, .str t]) ∧ G f = some (LamO f L c') ∧ G c' = some (CodeO c' L.qual)
theorem vk_pairLS {K : PySem.W.Frag} {G : Hp} {v : V} {L : Lf} {t : Str} (h : Vk K G v (pairLS L t)) : ∃ p f c', v = .ref p ∧ G p = some (.tup [.ref f, .str t]) ∧ G f = some (LamO f L c') ∧ G c' = some (CodeO c' L.qual) := by
  obtain ⟨G0, e, p, f, c', h1, h2, h3, h4⟩ := h
  exact ⟨p, f, c', h1, e _ _ h2, e _ _ h3, e _ _ h4⟩
section
variable (K : PySem.W.Frag) (T : Tb)
structure Wt (M : Ms) (G H : Hp) : Prop where
  w : Wo K M G H
  t : Tabs T H
def okE (G : Hp) (Q : PoE) (q : VK) : Prop := ∀ r M' v G' H', Q r M' → Same G G' → Wt K T M' G' H' → Vk K G' v r → q v H'
def okA (G : Hp) (Q : PoA) (q : List V → Hp → Prop) : Prop := ∀ rs M' vs G' H', Q rs M' → Same G G' → Wt K T M' G' H' → Vks K G' vs rs → q vs H'
def okT (G : Hp) (Q : PoT) (q : Bool → Hp → Prop) : Prop := ∀ b M' G' H', Q b M' → Same G G' → Wt K T M' G' H' → q b H'
def erE (G : Hp) (E : Er) (W : WX) : Prop := ∀ c M' G' H' σ', E c M' → Same G G' → Wt K T M' G' H' → W (.ref c) none σ' H'
def erX (G : Hp) (E : Er) (W : XK) : Prop := ∀ c M' G' H', E c M' → Same G G' → Wt K T M' G' H' → W (.ref c) none H'
def tE (W : WX) (ds : List Sv) (M : Ms) (Q : PoE) (E : Er) : TE := fun σ H q => ∃ G, Wt K T M G H ∧ Sl K G σ ds ∧ okE K T G Q q ∧ erE K T G E W
def tA (W : WX) (ds : List Sv) (M : Ms) (Q : PoA) (E : Er) : TA := fun σ H q => ∃ G, Wt K T M G H ∧ Sl K G σ ds ∧ okA K T G Q q ∧ erE K T G E W
def tT (W : WX) (ds : List Sv) (M : Ms) (Q : PoT) (E : Er) : TT := fun σ H q => ∃ G, Wt K T M G H ∧ Sl K G σ ds ∧ okT K T G Q q ∧ erE K T G E W
def spP (S : Sig) : Sp := fun vs H Q E => ∃ G rs M Qp Ep, vs.length = S.n ∧ Wt K T M G H ∧ Vks K G vs rs ∧ S.T rs M Qp Ep ∧ okE K T G Qp Q ∧ erX K T G Ep E
end
section
variable {K : PySem.W.Frag} {T : Tb} {M M' : Ms} {G G' H H' : Hp}
theorem okE.up {Q : PoE} {q : VK} (e : Same G G') (h : okE K T G Q q) : okE K T G' Q q := fun r M' v G2 H2 hq s w hv => h r M' v G2 H2 hq (e.trans s) w hv
theorem okA.up {Q : PoA} {q : List V → Hp → Prop} (e : Same G G') (h : okA K T G Q q) : okA K T G' Q q := fun r M' v G2 H2 hq s w hv => h r M' v G2 H2 hq (e.trans s) w hv
theorem okT.up {Q : PoT} {q : Bool → Hp → Prop} (e : Same G G') (h : okT K T G Q q) : okT K T G' Q q := fun r M' G2 H2 hq s w => h r M' G2 H2 hq (e.trans s) w
theorem erE.up {E : Er} {W : WX} (e : Same G G') (h : erE K T G E W) : erE K T G' E W := fun c M' G2 H2 σ' hq s w => h c M' G2 H2 σ' hq (e.trans s) w
theorem Wt.new (w : Wt K T M G H) {p : Addr} (h : H p = none) (o : HO) (ho : ∀ ps, o ≠ .tbl ps := by intro _ z; cases z) : Same G (upd G p o) ∧ Wt K T M (upd G p o) (upd H p o) := by
  have p1 := Po.new w.w h o ho
  exact ⟨p1.g, p1.w, w.t.ext fun b u e => by rw [upd_ne (ne_of_none e h)]; exact e⟩
theorem Wt.mnew (w : Wt K T M G H) {p : Addr} (h : H p = none) {o : HO} {m : MO} (hm : MoK K G m o) : Wt K T ((p, m) :: M) G (upd H p o) :=
  ⟨(Po.mnew w.w h hm).w, w.t.ext fun b u e => by rw [upd_ne (ne_of_none e h)]; exact e⟩
theorem tabs_put (t : Tabs T H) {p : Addr} {vs : List V} {o' : HO} (h : H p = some (.lst vs)) : Tabs T (upd H p o') := fun q hq => by
  obtain ⟨ps, h1, h2, h3⟩ := t q hq
  refine ⟨ps, by rw [upd_ne (ne_of h1 h (by intro z; cases z))]; exact h1, h2, fun pos cv hc => ?_⟩
  obtain ⟨c, e1, e2⟩ := h3 pos cv hc
  exact ⟨c, e1, by rw [upd_ne (ne_of e2 h (by unfold CodeO; intro z; cases z))]; exact e2⟩
theorem Wt.mput {A C : Ms} {p : Addr} {rs : List Sv} {m' : MO} {o' : HO} (w : Wt K T (A ++ (p, .lst rs) :: C) G H) (hm : MoK K G m' o') : Wt K T (A ++ (p, m') :: C) G (upd H p o') := by
  obtain ⟨vs, h1, _, _⟩ := w.w.lst
  exact ⟨(Po.mput w.w hm).w, tabs_put w.t h1⟩
theorem Wt.lst {A C : Ms} {p : Addr} {rs : List Sv} (w : Wt K T (A ++ (p, .lst rs) :: C) G H) : ∃ vs, H p = some (.lst vs) ∧ Vks K G vs rs ∧ G p = none := w.w.lst
theorem nodup_mid {A C : Ms} {p : Addr × MO} (h : ((A ++ p :: C).map (·.1)).Nodup) : ((A ++ C).map (·.1)).Nodup := by
  rw [List.map_append, List.map_cons] at h
  rw [List.map_append]
  obtain ⟨h1, h2, h3⟩ := List.nodup_append.mp h
  exact List.nodup_append.mpr ⟨h1, (List.nodup_cons.mp h2).2, fun a ha b hb => h3 a ha b (List.mem_cons_of_mem _ hb)⟩
theorem mid_ne {A C : Ms} {p q : Addr × MO} (h : ((A ++ p :: C).map (·.1)).Nodup) (hq : q ∈ A ++ C) : q.1 ≠ p.1 := by
  rw [List.map_append, List.map_cons] at h
  obtain ⟨h1, h2, h3⟩ := List.nodup_append.mp h
  intro e
  rcases List.mem_append.mp hq with hq | hq
  · exact h3 q.1 (List.mem_map.mpr ⟨q, hq, rfl⟩) p.1 (by simp) e
  · exact (List.nodup_cons.mp h2).1 (by rw [← e]; exact List.mem_map.mpr ⟨q, hq, rfl⟩)
theorem mem_mid {A C : Ms} {p q : Addr × MO} (hq : q ∈ A ++ C) : q ∈ A ++ p :: C := by
  rcases List.mem_append.mp hq with h | h
  · exact List.mem_append_left _ h
  · exact List.mem_append_right _ (List.mem_cons_of_mem _ h)
/-- what changes no more: known from now on -/
theorem Wt.freeze {A C : Ms} {p : Addr} {m : MO} {o : HO} (w : Wt K T (A ++ (p, m) :: C) G H) (ho : H p = some o) (htb : ∀ ps, o ≠ .tbl ps := by intro _ z; cases z) : Same G (upd G p o) ∧ Wt K T (A ++ C) (upd G p o) H := by
  have gp : G p = none := (w.w.mu (p, m) (by simp)).2
  have g : Same G (upd G p o) := fun x u e => by rw [upd_ne (ne_of_none e gp)]; exact e
  refine ⟨g, ⟨fun x u e => ?_, fun q hq => ?_, nodup_mid w.w.nd, fun x ps e => ?_⟩, w.t⟩
  · by_cases hx : x = p
    · subst hx; rw [upd_same] at e; rw [ho]; exact e
    · rw [upd_ne hx] at e; exact w.w.ex x u e
  · obtain ⟨⟨oq, e1, e2⟩, e3⟩ := w.w.mu q (mem_mid hq)
    have ne := mid_ne w.w.nd hq
    rw [upd_ne ne]; exact ⟨⟨oq, e1, e2.up g⟩, e3⟩
  · by_cases hx : x = p
    · subst hx; rw [upd_same] at e; exact htb ps (Option.some.inj e)
    · rw [upd_ne hx] at e; exact w.w.nt x ps e
/-- .. or forgotten -/
theorem Wt.drop {A C : Ms} {p : Addr × MO} (w : Wt K T (A ++ p :: C) G H) : Wt K T (A ++ C) G H :=
  ⟨⟨w.w.ex, fun q hq => w.w.mu q (mem_mid hq), nodup_mid w.w.nd, w.w.nt⟩, w.t⟩
end
end Cal
/-! WpB -/
namespace Cal
open PySem PySem.Spec PyProof.Rows L2 LamX
/-! ### the reading of the text -/
def brP (b : Bool) (A B : Prop) : Prop := match b with
  | true => A
  | false => B
theorem brS {b : Bool} {A B : Prop} (h1 : b = true → A) (h2 : b = false → B) : brP b A B := by
  cases b with
  | true => exact h1 rfl
  | false => exact h2 rfl
theorem brT {b : Bool} {A B : Prop} (h : b = true) (h1 : A) : brP b A B := by rw [h]; exact h1
theorem brF {b : Bool} {A B : Prop} (h : b = false) (h1 : B) : brP b A B := by rw [h]; exact h1
abbrev PoI := List Sv → (Ms → Prop) → Ms → Prop
structure Wps where
  E : Sc → Expr → List Sv → Ms → PoE → Er → Prop
  T : Sc → Expr → List Sv → Ms → PoT → Er → Prop
  I : Sc → Expr → Expr → List Sv → Ms → PoI → Er → Prop
def wps0 : Wps := ⟨fun _ _ _ _ _ _ => False, fun _ _ _ _ _ _ => False, fun _ _ _ _ _ _ _ => False⟩
/-- rows of expressions -/
def wpL (f : Expr → Ms → PoE → Prop) : List Expr → Ms → PoA → Prop
  | [], M, Q => Q [] M
  | e :: es, M, Q => f e M fun v M1 => wpL f es M1 fun vs M2 => Q (v :: vs) M2
/-- the slot of a name of the block -/
def visB (sc : Scope) (x : Str) : Bool := match sc.names.lookup x with
  | some .local => true
  | some .cell => true
  | some .free => true
  | _ => false
def slotV (S : Sc) (x : Str) : Option Nat := if visB S.sc x && !(x == ("__debug__" : Str)) && !(x == ("__classdict__" : Str)) then S.N.findIdx? (· == x) else none
def locB (S : Sc) (x : Str) : Bool := match S.sc.names.lookup x with
  | some .local => true
  | some .cell => S.fn x
  | _ => false
def slotL (S : Sc) (x : Str) : Option Nat := if locB S x then S.N.findIdx? (· == x) else none
def globB (S : Sc) (x : Str) : Bool := match S.sc.names.lookup x with
  | some .globalImplicit => !(x == ("__debug__" : Str))
  | _ => false
/-- a slot's value -/
def getD (ds : List Sv) (i : Nat) (Q : Sv → Prop) : Prop := match ds[i]? with
  | some .no => False
  | some r => Q r
  | none => False
/-- a list that changes, found among the others -/
def atM (M : Ms) (l : Addr) (Q : Ms → List Sv → Ms → Prop) : Prop := ∃ A rs C, M = A ++ (l, .lst rs) :: C ∧ Q A rs C
def mulP (i j : Int) : Prop := CMul i j ∨ CMulW i j
def fdivP (j : Int) : Prop := j ≠ 0 ∧ j.natAbs.log2 < 9000
def binW : Operator → Sv → Sv → Ms → PoE → Prop
  | .Add, .dat (.int i), .dat (.int j), M, Q => Q (I (i + j)) M
  | .Add, .dat (.str x), .dat (.str y), M, Q => x.length + y.length ≤ 1000 ∧ Q (.dat (.str (x ++ y))) M
  | .Add, .dat (.list xs), .dat (.list ys), M, Q => xs.length + ys.length ≤ 1000 ∧ Q (.dat (.list (xs ++ ys))) M
  | .Add, .dat (.tuple xs), .dat (.tuple ys), M, Q => xs.length + ys.length ≤ 1000 ∧ Q (.dat (.tuple (xs ++ ys))) M
  | .Add, .raw (.ref l), .dat (.list ys), M, Q => atM M l fun _ rs _ => ∃ xs, rs = dats xs ∧ xs.length + ys.length ≤ 1000 ∧ Q (.dat (.list (xs ++ ys))) M
  | .Sub, .dat (.int i), .dat (.int j), M, Q => Q (I (i - j)) M
  | .Mult, .dat (.int i), .dat (.int j), M, Q => mulP i j ∧ Q (I (i * j)) M
  | .FloorDiv, .dat (.int i), .dat (.int j), M, Q => fdivP j ∧ Q (I (i.fdiv j)) M
  | .Mod, .dat (.int i), .dat (.int j), M, Q => 0 < j ∧ Q (I (i % j)) M
  | .Pow, .dat (.int i), .dat (.int j), M, Q => CPow i j ∧ Q (I (i ^ j.toNat)) M
  | _, _, _, _, _ => False
/-- a value read as data: itself, or a list that changes -/
def rdW (v : Sv) (M : Ms) (Q : D → Prop) : Prop := match v with
  | .dat d => Q d
  | .raw (.ref l) => atM M l fun _ rs _ => ∃ xs, rs = dats xs ∧ Q (.list xs)
  | _ => False
def eqB (neg : Bool) (d d' : D) : Bool := match neg with
  | false => PyData.eqv d d'
  | true => !PyData.eqv d d'
def inB (neg : Bool) (d : D) (xs : List D) : Bool := match neg with
  | false => xs.any fun z => PyData.eqv z d
  | true => !xs.any fun z => PyData.eqv z d
def eqW (neg : Bool) (a b : Sv) (M : Ms) (Q : PoT) : Prop := rdW a M fun d => rdW b M fun d' => SeqAt.shaped d = true ∧ SeqAt.shaped d' = true ∧ Q (eqB neg d d') M
def inW (neg : Bool) (a b : Sv) (M : Ms) (Q : PoT) : Prop := rdW a M fun d => rdW b M fun d' => match d' with
  | .list xs => SeqAt.shaped d = true ∧ SeqAt.shaped (.list xs) = true ∧ Q (inB neg d xs) M
  | .tuple xs => SeqAt.shaped d = true ∧ SeqAt.shaped (.tuple xs) = true ∧ Q (inB neg d xs) M
  | _ => False
def cmpW : CmpOp → Sv → Sv → Ms → PoT → Prop
  | .Lt, .dat (.int i), .dat (.int j), M, Q => Q (decide (i < j)) M
  | .LtE, .dat (.int i), .dat (.int j), M, Q => Q (decide (i ≤ j)) M
  | .Gt, .dat (.int i), .dat (.int j), M, Q => Q (decide (j < i)) M
  | .GtE, .dat (.int i), .dat (.int j), M, Q => Q (decide (j ≤ i)) M
  | .Eq, a, b, M, Q => eqW false a b M Q
  | .NotEq, a, b, M, Q => eqW true a b M Q
  | .In, a, b, M, Q => inW false a b M Q
  | .NotIn, a, b, M, Q => inW true a b M Q
  | .Is, .dat d, .dat .none, M, Q => Q (isNon d) M
  | .IsNot, .dat d, .dat .none, M, Q => Q (!isNon d) M
  | _, _, _, _, _ => False
def intW (v : Sv) (Q : Int → Prop) : Prop := match v with
  | .dat (.int i) => Q i
  | _ => False
def boolW (v : Sv) (Q : Bool → Prop) : Prop := match v with
  | .dat (.bool b) => Q b
  | _ => False
def unW : UnaryOp → Sv → Ms → PoE → Prop
  | .USub, .dat (.int i), M, Q => Q (I (-i)) M
  | .Not, .dat (.bool b), M, Q => Q (B (!b)) M
  | _, _, _, _ => False
/-- an item -/
def ixW : Sv → Sv → Ms → PoE → Prop
  | .dat (.tuple xs), .dat (.int i), M, Q => ∃ d, atI xs i = some d ∧ Q (.dat d) M
  | .dat (.list xs), .dat (.int i), M, Q => ∃ d, atI xs i = some d ∧ Q (.dat d) M
  | .raw (.ref l), .dat (.int i), M, Q => atM M l fun _ rs _ => ∃ r, atI rs i = some r ∧ Q r M
  | .kn φ, .dat (.int i), M, Q => ∃ L t, Sv.kn φ = pairLS L t ∧ ((i = 0 ∧ Q (sLam L) M) ∨ (i = 1 ∧ Q (.dat (.str t)) M))
  | _, _, _, _ => False
/-- a part -/
def slW (v : Sv) (lo hi : Option Int) (M : Ms) (Q : PoE) : Prop := match v with
  | .dat (.list xs) => Q (.dat (.list (cutD xs lo hi))) M
  | .dat (.tuple xs) => Q (.dat (.tuple (cutD xs lo hi))) M
  | .raw (.ref l) => atM M l fun _ rs _ => ∃ xs, rs = dats xs ∧ Q (.dat (.list (cutD xs lo hi))) M
  | _ => False
/-- a new list: known for ever, or one that changes -/
def lstW (rs : List Sv) (M : Ms) (Q : PoE) : Prop := rs.length ≤ 1000 ∧ ((∃ xs, rs = dats xs ∧ Q (.dat (.list xs)) M) ∨ ∀ l, Q (.raw (.ref l)) ((l, .lst rs) :: M))
/-- built-in functions, of values -/
def lenW (v : Sv) (M : Ms) (Q : PoE) : Prop := match v with
  | .dat (.list xs) => Q (I xs.length) M
  | .dat (.tuple xs) => Q (I xs.length) M
  | .raw (.ref l) => atM M l fun _ rs _ => Q (I rs.length) M
  | _ => False
def listW (v : Sv) (M : Ms) (Q : PoE) : Prop := match v with
  | .dat (.list xs) => lstW (dats xs) M Q
  | .dat (.tuple xs) => lstW (dats xs) M Q
  | .raw (.ref l) => atM M l fun _ rs _ => lstW rs M Q
  | _ => False
def tupleW (v : Sv) (M : Ms) (Q : PoE) : Prop := match v with
  | .dat (.list xs) => Q (.dat (.tuple xs)) M
  | .dat (.tuple xs) => Q (.dat (.tuple xs)) M
  | .raw (.ref l) => atM M l fun _ rs _ => ∃ xs, rs = dats xs ∧ Q (.dat (.tuple xs)) M
  | _ => False
def absI (i : Int) : Int := if i < 0 then -i else i
def minI (i j : Int) : Int := if j < i then j else i
def maxI (i j : Int) : Int := if j > i then j else i
def lenA (vs : List Sv) (M : Ms) (Q : PoE) : Prop := match vs with
  | [v] => lenW v M Q
  | _ => False
def absA (vs : List Sv) (M : Ms) (Q : PoE) : Prop := match vs with
  | [v] => intW v fun i => Q (I (absI i)) M
  | _ => False
def intA (vs : List Sv) (M : Ms) (Q : PoE) : Prop := match vs with
  | [.dat (.int i)] => Q (I i) M
  | [.dat (.bool b)] => Q (I (if b then 1 else 0)) M
  | _ => False
def listA (vs : List Sv) (M : Ms) (Q : PoE) : Prop := match vs with
  | [v] => listW v M Q
  | _ => False
def tupleA (vs : List Sv) (M : Ms) (Q : PoE) : Prop := match vs with
  | [v] => tupleW v M Q
  | _ => False
def minA (vs : List Sv) (M : Ms) (Q : PoE) : Prop := match vs with
  | [v, u] => intW v fun i => intW u fun j => Q (I (minI i j)) M
  | _ => False
def maxA (vs : List Sv) (M : Ms) (Q : PoE) : Prop := match vs with
  | [v, u] => intW v fun i => intW u fun j => Q (I (maxI i j)) M
  | _ => False
def gcdA (vs : List Sv) (M : Ms) (Q : PoE) : Prop := match vs with
  | [v, u] => intW v fun i => intW u fun j => Q (I ((Nat.gcd i.natAbs j.natAbs : Nat) : Int)) M
  | _ => False
def undat : List Sv → Option (List D)
  | [] => some []
  | .dat d :: r => match undat r with
    | some xs => some (d :: xs)
    | none => none
  | _ :: _ => none
theorem undat_ok : ∀ {rs : List Sv} {xs : List D}, undat rs = some xs → rs = dats xs
  | [], xs, h => by cases h; rfl
  | .dat d :: r, xs, h => by
    unfold undat at h
    cases e : undat r with
    | none => rw [e] at h; cases h
    | some ys =>
      rw [e] at h
      cases h
      rw [undat_ok e]
      rfl
  | .no :: _, _, h => by cases h
  | .raw _ :: _, _, h => by cases h
  | .kn _ :: _, _, h => by cases h
def tupW (rs : List Sv) (M : Ms) (Q : PoE) : Prop := match undat rs with
  | some xs => match Nat.ble xs.length 1000 with
    | true => Q (.dat (.tuple xs)) M
    | false => False
  | none => False
def dspW (rs : List Sv) (M : Ms) (Q : PoE) : Prop := match Nat.ble rs.length 1000 with
  | true => (match undat rs with
    | some xs => Q (.dat (.list xs)) M
    | none => False) ∨ ∀ l, Q (.raw (.ref l)) ((l, .lst rs) :: M)
  | false => False
def anyA (vs : List Sv) (M : Ms) (Q : PoE) : Prop := match vs with
  | [.dat (.list xs)] => ∃ bs : List Bool, xs = bs.map .bool ∧ Q (B (bs.any id)) M
  | _ => False
def rdL (v : Sv) (M : Ms) (P : List Sv → Prop) : Prop := match v with
  | .dat (.list xs) => P (dats xs)
  | .raw (.ref l) => atM M l fun _ rs _ => P rs
  | _ => False
/-- sorted, of ints: any row of them in order -/
def sortedA (vs : List Sv) (M : Ms) (Q : PoE) : Prop := match vs with
  | [v] => rdL v M fun rs => ∃ ns : List Int, rs = dats (ns.map .int) ∧ ∀ ms : List Int, ms.Perm ns → ms.Pairwise (· ≤ ·) → lstW (dats (ms.map .int)) M Q
  | _ => False
def bltL : List (Str × (List Sv → Ms → PoE → Prop)) := [("len", lenA), ("abs", absA), ("int", intA), ("list", listA), ("tuple", tupleA), ("min", minA), ("max", maxA), ("any", anyA), ("sorted", sortedA)]
def notStar : Expr → Bool
  | .Starred .. => false
  | _ => true
/-- a slot is set; the row stays written out -/
def setK (ds : List Sv) (i : Nat) (r : Sv) (k : List Sv → Prop) : Prop := match ds, i with
  | [], _ => k []
  | x :: xs, 0 => k (r :: xs)
  | x :: xs, i + 1 => setK xs i r fun ys => k (x :: ys)
theorem setK_eq : ∀ (ds : List Sv) (i : Nat) (r : Sv) (k : List Sv → Prop), setK ds i r k = k (ds.set i r)
  | [], _, _, _ => rfl
  | _ :: _, 0, _, _ => rfl
  | x :: xs, i + 1, r, k => setK_eq xs i r fun ys => k (x :: ys)
/-- what is stored -/
def wpGL (f : Expr → Sv → List Sv → (List Sv → Prop) → Prop) : List Expr → List D → List Sv → (List Sv → Prop) → Prop
  | [], [], ds, Q => Q ds
  | e :: es, x :: xs, ds, Q => f e (.dat x) ds fun ds1 => wpGL f es xs ds1 Q
  | _, _, _, _ => False
def wpG (S : Sc) : Nat → Expr → Sv → List Sv → (List Sv → Prop) → Prop
  | 0, _, _, _, _ => False
  | n + 1, .Name x _, r, ds, Q => match slotL S x with
    | some i => setK ds i r Q
    | none => False
  | n + 1, .Tuple es _ _, .dat (.tuple xs), ds, Q => match es.all notStar && decide (es.length = xs.length) with
    | true => wpGL (wpG S n) es xs ds Q
    | false => False
  | n + 1, .Tuple es _ _, .dat (.list xs), ds, Q => match es.all notStar && decide (es.length = xs.length) with
    | true => wpGL (wpG S n) es xs ds Q
    | false => False
  | _, _, _, _, _ => False
def tgSl (S : Sc) : Nat → Expr → List Nat
  | 0, _ => []
  | n + 1, .Name x _ => match slotL S x with
    | some i => [i]
    | none => []
  | n + 1, .Tuple es _ _ => (es.map (tgSl S n)).flatten
  | _, _ => []
def subB (ts vs : List Nat) : Bool := ts.all fun t => vs.contains t
end Cal
/-! WpC -/
namespace Cal
open PySem PySem.Spec PyProof.Rows L2 LamX
def noE : Er := fun _ _ => False
def notCmpr : Expr → Bool
  | .ListComp .. => false
  | .SetComp .. => false
  | .DictComp .. => false
  | _ => true
def notSet : Expr → Bool
  | .Set .. => false
  | _ => true
def notSlice : Expr → Bool
  | .Slice .. => false
  | _ => true
def plainBase : Expr → Bool
  | .Call .. => false
  | _ => true
def wpAndE (f : Expr → Ms → PoE → Prop) : List Expr → Ms → PoE → Prop
  | [], _, _ => False
  | [e], M, Q => f e M Q
  | e :: es, M, Q => f e M fun v M1 => boolW v fun b => brP b (wpAndE f es M1 Q) (Q (B false) M1)
def wpOrE (f : Expr → Ms → PoE → Prop) : List Expr → Ms → PoE → Prop
  | [], _, _ => False
  | [e], M, Q => f e M Q
  | e :: es, M, Q => f e M fun v M1 => boolW v fun b => brP b (Q (B true) M1) (wpOrE f es M1 Q)
def wpAndT (f : Expr → Ms → PoT → Prop) : List Expr → Ms → PoT → Prop
  | [], _, _ => False
  | [e], M, Q => f e M Q
  | e :: es, M, Q => f e M fun b M1 => brP b (wpAndT f es M1 Q) (Q false M1)
def wpOrT (f : Expr → Ms → PoT → Prop) : List Expr → Ms → PoT → Prop
  | [], _, _ => False
  | [e], M, Q => f e M Q
  | e :: es, M, Q => f e M fun b M1 => brP b (Q true M1) (wpOrT f es M1 Q)
def wpO (f : Expr → Ms → PoE → Prop) : Option Expr → Ms → (Option Int → Ms → Prop) → Prop
  | none, M, Q => Q none M
  | some e, M, Q => f e M fun v M1 => intW v fun i => Q (some i) M1
/-- methods of a list that changes -/
def tyL (v : Sv) (M : Ms) (P : Prop) : Prop := match v with
  | .raw (.ref l) => atM M l (fun _ _ _ => True) ∧ P
  | _ => False
def popW (v : Sv) (M : Ms) (Q : PoE) : Prop := match v with
  | .raw (.ref l) => atM M l fun A rs C => ∃ r, rs[rs.length - 1]? = some r ∧ Q r (A ++ (l, .lst rs.dropLast) :: C)
  | _ => False
def appendW (v : Sv) (r : Sv) (M : Ms) (Q : PoE) : Prop := match v with
  | .raw (.ref l) => atM M l fun A rs C => rs.length ≤ 1000 ∧ Q (.dat .none) (A ++ (l, .lst (rs ++ [r])) :: C)
  | _ => False
def mtL0 : List (Str × (Sv → Ms → PoE → Prop)) := [("pop", popW)]
def mtL1 : List (Str × (Sv → Sv → Ms → PoE → Prop)) := [("append", appendW)]
def relS (sc scope : Scope) : Scope := { scope with names := scope.names.map fun (n, k) => if (k == .free && sc.kind == .function && sc.names.lookup n == some .cell) then (n, .cell) else (n, k) }
def inS (S : Sc) (scope : Scope) : Sc := ⟨S.N, relS S.sc scope, fun x => scope.names.lookup x == some .cell, false, S.tq⟩
/-- a lambda's body, told -/
def lamI (S : Sc) (scope : Scope) : Sc := ⟨S.N, scope, fun _ => false, false, false⟩
def ownS (S : Sc) (scope : Scope) : List (Str × Nat) := scope.names.filterMap fun (n, k) => if (k == .local || k == .cell) then (S.N.findIdx? (· == n)).map (n, ·) else none
def wpIfs (f : Expr → Ms → PoT → Prop) : List Expr → Ms → PoT → Prop
  | [], M, Q => Q true M
  | [e], M, Q => f e M Q
  | _, _, _ => False
def isTupE : Expr → Bool
  | .Tuple .. => true
  | _ => false
/-- the items that are gone through -/
def itW (v : Sv) (M : Ms) (Q : PoI) : Prop := match v with
  | .dat (.list xs) => Q (dats xs) (fun _ => True) M
  | .dat (.tuple xs) => Q (dats xs) (fun _ => True) M
  | .raw (.ref l) => atM M l fun _ rs _ => Q rs (fun M' => ∃ A C, M' = A ++ (l, .lst rs) :: C) M
  | _ => False
def seqW (v : Sv) (Q : List D → Prop) : Prop := match v with
  | .dat (.list xs) => Q xs
  | .dat (.tuple xs) => Q xs
  | _ => False
def rngS (i : Int) (n : Nat) : List Sv := (List.range n).map fun k => I (i + (k : Nat))
def enuS (xs : List D) : List Sv := (List.range xs.length).map fun k => .dat (.tuple [.int (k : Nat), xs.getD k .none])
def zipD (xs ys : List D) : List D := (List.range (min xs.length ys.length)).map fun k => .tuple [xs.getD k .none, ys.getD k .none]
def tup2W (v u : Sv) (Q : List D → List D → Prop) : Prop := match v, u with
  | .dat (.tuple xs), .dat (.tuple ys) => Q xs ys
  | _, _ => False
/-- zip of two, counted -/
def zipA (g : Gi) (S : Sc) : Expr → Option (Expr × Expr)
  | .Call (.Name z _) [b, c] [] _ => match z == ("zip" : Str) && globB S z && g.bi z && notStar b && notStar c with
    | true => some (b, c)
    | false => none
  | _ => none
def rgP (i : Int) : Prop := -(2 ^ 62) ≤ i ∧ i < 2 ^ 62
/-- the def that calls what it got, and tells which error came -/
def toldW (g : Gi) (W : Wps) (S : Sc) (x : Str) (es : List Expr) (ds : List Sv) (M : Ms) (Q : PoE) (Er' : Er) : Prop := match es with
  | [.Lambda params body scope _] => match globB S x && S.lam && lamSB S.sc scope with
    | false => False
    | true => Lsts M ∧ (∀ env, defaultsOf params env = ([], [])) ∧ (∀ (q : Str) (cl : List (Str × Addr)) (pm cv ctv : Value), bindArgs (PySem.W.kla_fn "<lambda>" q params body scope cl pm cv ctv) ⟨[], []⟩ = pure []) ∧
        W.E (lamI S scope) body ds M Q (fun c M1 => ∃ t, (c, t) ∈ g.es ∧ Q (.dat (.str t)) M1)
  | [.Subscript a b p] => match globB S x with
    | false => False
    | true => W.E S (.Subscript a b p) ds M (fun v M1 => ∃ L : Lf, v = sLam L ∧ L.qual = g.lq ∧ lamSB S.sc L.scope = true ∧ (∀ cells, cloFrom cells L.scope.names [] = []) ∧
        (∀ pm cv ctv : Value, bindArgs (PySem.W.kla_fn "<lambda>" L.qual L.params L.body L.scope [] pm cv ctv) ⟨[], []⟩ = pure []) ∧
        W.E (lamI S L.scope) L.body ds M1 Q (fun c M2 => ∃ t, (c, t) ∈ g.es ∧ Q (.dat (.str t)) M2)) Er'
  | _ => False
def stepW (g : Gi) (W : Wps) : Wps where
  E := fun S e ds M Q Er' => match e with
    | .Constant c _ _ => match c with
      | .int i => Q (I i) M
      | .bool b => Q (B b) M
      | .str x => Q (.dat (.str x)) M
      | .none => Q (.dat .none) M
      | _ => False
    | .Name x _ => match slotV S x with
      | some i => getD ds i fun r => Q r M
      | none => match globB S x with
        | true => match g.gv x with
          | some r => Q r M
          | none => False
        | false => False
    | .BinOp a op b _ => W.E S a ds M (fun va M1 => W.E S b ds M1 (fun vb M2 => binW op va vb M2 Q) Er') Er'
    | .UnaryOp .USub a _ => W.E S a ds M (fun v M1 => unW .USub v M1 Q) Er'
    | .UnaryOp .Not a _ => W.E S a ds M (fun v M1 => unW .Not v M1 Q) Er'
    | .Compare a [op] [b] _ => match behindInMarks op b with
      | false => W.E S a ds M (fun va M1 => W.E S b ds M1 (fun vb M2 => cmpW op va vb M2 fun c M3 => Q (B c) M3) Er') Er'
      | true => False
    | .Compare a [op, op'] [b, c] _ => match lastMarks [op, op'] [b, c] with
      | false => W.E S a ds M (fun va M1 => W.E S b ds M1 (fun vb M2 => cmpW op va vb M2 fun k M3 => brP k (W.E S c ds M3 (fun vc M4 => cmpW op' vb vc M4 fun k' M5 => Q (B k') M5) Er') (Q (B false) M3)) Er') Er'
      | true => False
    | .BoolOp .And es _ => wpAndE (fun e M Q => W.E S e ds M Q Er') es M Q
    | .BoolOp .Or es _ => wpOrE (fun e M Q => W.E S e ds M Q Er') es M Q
    | .IfExp c a b _ => W.T S c ds M (fun k M1 => brP k (W.E S a ds M1 Q Er') (W.E S b ds M1 Q Er')) Er'
    | .Tuple [.Lambda params body scope _, .Constant (.str t) _ _] _ _ => match S.lam with
      | true => Lsts M ∧ (∀ env, defaultsOf params env = ([], [])) ∧ (∀ cells, cloFrom cells scope.names [] = []) ∧ (∀ y ∈ scope.names, y.2 ≠ .free) ∧ Q (pairLS ⟨g.lq, params, body, scope⟩ t) M
      | false => False
    | .Tuple es _ _ => match es.all notStar with
      | false => False
      | true => wpL (fun e M Q => W.E S e ds M Q Er') es M fun vs M1 => tupW vs M1 Q
    | .List es _ => match es.all notStar with
      | false => False
      | true => wpL (fun e M Q => W.E S e ds M Q Er') es M fun vs M1 => dspW vs M1 Q
    | .Call (.Name x _) es [] _ => match S.tq && (x == ("_law_told" : Str)) with
      | true => toldW g W S x es ds M Q Er'
      | false => match es.all notStar with
        | false => False
        | true => match globB S x with
          | false => match slotV S x with
            | some i => match es with
              | [] => False
              | _ => getD ds i fun r => ∃ y s, r = .raw (.ref (g.fa y)) ∧ g.sg y es.length = some s ∧ wpL (fun e M Q => W.E S e ds M Q Er') es M fun vs M1 => vs.length + s.dr.length = s.n ∧ s.T (vs ++ s.dr) M1 Q Er'
            | none => False
          | true => match g.sg x es.length with
            | some s => wpL (fun e M Q => W.E S e ds M Q Er') es M fun vs M1 => vs.length + s.dr.length = s.n ∧ s.T (vs ++ s.dr) M1 Q Er'
            | none => match g.bi x with
              | true => match bltL.lookup x with
                | some f => match es with
                  | [] => False
                  | _ => wpL (fun e M Q => W.E S e ds M Q Er') es M fun vs M1 => f vs M1 Q
                | none => False
              | false => match g.gc x with
                | true => match es with
                  | [] => False
                  | _ => wpL (fun e M Q => W.E S e ds M Q Er') es M fun vs M1 => gcdA vs M1 Q
                | false => False
    | .Call (.Attribute o m ap) [] [] cp => match plainBase o && (ap.endLine == cp.line) with
      | true => match mtL0.lookup m with
        | some f => W.E S o ds M (fun v M1 => tyL v M1 (f v M1 Q)) Er'
        | none => False
      | false => False
    | .Call (.Attribute o m ap) [e] [] cp => match notStar e && plainBase o && (ap.endLine == cp.line) with
      | true => match mtL1.lookup m with
        | some f => W.E S o ds M (fun v M1 => tyL v M1 (W.E S e ds M1 (fun u M2 => f v u M2 Q) Er')) Er'
        | none => False
      | false => False
    | .Subscript a (.Slice lo hi none _) _ => W.E S a ds M (fun v M1 => wpO (fun e M Q => W.E S e ds M Q Er') lo M1 fun l M2 => wpO (fun e M Q => W.E S e ds M Q Er') hi M2 fun h M3 => slW v l h M3 Q) Er'
    | .Subscript a b _ => match notSlice b with
      | true => W.E S a ds M (fun va M1 => W.E S b ds M1 (fun vb M2 => ixW va vb M2 Q) Er') Er'
      | false => False
    | .ListComp elt [⟨tg, it, ifs, 0⟩] scope _ => match notSet it && blkC S.N S.sc scope (ownS S scope) && subB (tgSl (inS S scope) 9 tg) ((ownS S scope).map (·.2)) with
      | false => False
      | true => W.I S tg it ds M (fun rs Kp M1 => rs.length ≤ 1000 ∧ ∃ Inv : Nat → List Sv → Ms → Prop, Inv 0 [] M1 ∧ (∀ i acc M, i ≤ rs.length → Inv i acc M → Kp M ∧ acc.length ≤ i) ∧
          (∀ D i r acc M, rs[i]? = some r → Inv i acc M → wpG (inS S scope) 9 tg r (wipeD ds ((ownS S scope).map (·.2))) fun ds' =>
            wpIfs (fun e M Q => W.T (inS S scope) e ds' M Q noE) ifs ((D, .lst acc) :: M) fun b M2 => ∃ M3, M2 = (D, .lst acc) :: M3 ∧
              brP b (W.E (inS S scope) elt ds' ((D, .lst acc) :: M3) (fun v M4 => ∃ M5, M4 = (D, .lst acc) :: M5 ∧ Inv (i + 1) (acc ++ [v]) M5) noE) (Inv (i + 1) acc M3)) ∧
          (∀ acc M, Inv rs.length acc M → lstW acc M Q)) Er'
    | _ => False
  T := fun S e ds M Q Er' => match e with
    | .UnaryOp .Not a _ => W.T S a ds M (fun b M1 => Q (!b) M1) Er'
    | .BoolOp .And es _ => wpAndT (fun e M Q => W.T S e ds M Q Er') es M Q
    | .BoolOp .Or es _ => wpOrT (fun e M Q => W.T S e ds M Q Er') es M Q
    | .IfExp .. => False
    | .Compare a [op] [b] _ => match behindInMarks op b with
      | false => W.E S a ds M (fun va M1 => W.E S b ds M1 (fun vb M2 => cmpW op va vb M2 Q) Er') Er'
      | true => False
    | .Compare a [op, op'] [b, c] _ => match lastMarks [op, op'] [b, c] with
      | false => W.E S a ds M (fun va M1 => W.E S b ds M1 (fun vb M2 => cmpW op va vb M2 fun k M3 => brP k (W.E S c ds M3 (fun vc M4 => cmpW op' vb vc M4 Q) Er') (Q false M3)) Er') Er'
      | true => False
    | .Compare .. => False
    | e => W.E S e ds M (fun v M1 => boolW v fun b => Q b M1) Er'
  I := fun S tg e ds M Q Er' => match e with
    | .Call (.Name x _) [a] [] _ =>
      if x == ("range" : Str) then (match notStar a && globB S x && g.bi x with
        | true => W.E S a ds M (fun v M1 => intW v fun j => rgP j ∧ Q (rngS 0 j.toNat) (fun _ => True) M1) Er'
        | false => False)
      else if x == ("enumerate" : Str) then (match notStar a && globB S x && g.bi x && isTupE tg with
        | true => match zipA g S a with
          | some (b, c) => W.E S b ds M (fun v M1 => W.E S c ds M1 (fun u M2 => tup2W v u fun xs ys => Q (enuS (zipD xs ys)) (fun _ => True) M2) Er') Er'
          | none => W.E S a ds M (fun v M1 => seqW v fun xs => Q (enuS xs) (fun _ => True) M1) Er'
        | false => False)
      else W.E S e ds M (fun v M1 => itW v M1 Q) Er'
    | .Call (.Name x _) [a, b] [] _ =>
      if x == ("range" : Str) then (match notStar a && notStar b && globB S x && g.bi x with
        | true => W.E S a ds M (fun v M1 => W.E S b ds M1 (fun u M2 => intW v fun i => intW u fun j => rgP i ∧ rgP j ∧ Q (rngS i (j - i).toNat) (fun _ => True) M2) Er') Er'
        | false => False)
      else if x == ("zip" : Str) then (match notStar a && notStar b && globB S x && g.bi x && isTupE tg with
        | true => W.E S a ds M (fun v M1 => W.E S b ds M1 (fun u M2 => tup2W v u fun xs ys => Q (dats (zipD xs ys)) (fun _ => True) M2) Er') Er'
        | false => False)
      else W.E S e ds M (fun v M1 => itW v M1 Q) Er'
    | e => W.E S e ds M (fun v M1 => itW v M1 Q) Er'
def wps (g : Gi) : Nat → Wps
  | 0 => wps0
  | n + 1 => stepW g (wps g n)
def wq (g : Gi) : Wps := stepW g (wps g 39)
/-! ### statements -/
structure Kt where
  nx : List Sv → Ms → Prop
  rt : Sv → Ms → Prop
  bk : List Sv → Ms → Prop
  ct : List Sv → Ms → Prop
  er : Er
abbrev Nx := List Sv → Ms → Prop
abbrev StF := Stmt → List Sv → Ms → Nx → PoE → Nx → Nx → Er → Prop
def wpSs (f : StF) : List Stmt → List Sv → Ms → Nx → PoE → Nx → Nx → Er → Prop
  | [], ds, M, nx, _, _, _, _ => nx ds M
  | st :: ss, ds, M, nx, rt, bk, ct, er => f st ds M (fun ds1 M1 => wpSs f ss ds1 M1 nx rt bk ct er) rt bk ct er
def isNames (ts : List Expr) : Bool := ts.all fun
  | .Name .. => true
  | _ => false
def isTupV : Expr → Bool
  | .Tuple .. => true
  | _ => false
/-- may two stores be exchanged -/
def swT (S : Sc) (ts vs : List Expr) : Option (Option (List Str)) :=
  if ts.length == 2 && vs.length == 2 && vs.all notStar then
    let line := (ts.head?.map (·.pos.line)).getD 0
    let names := ts.filterMap fun
      | .Name id pos => if S.sc.names.lookup id == some .local && pos.line == line then some id else none
      | _ => none
    if names.length != ts.length || names.eraseDups.length != names.length then some none
    else if vs.all (foldedForSure 8) then some none
    else if vs.all (constantsAlone 8) then none
    else some (some names)
  else if !(ts.length == 2 || ts.length == 3) || vs.length != ts.length then some none
  else none
def setW (va vb r : Sv) (ds : List Sv) (M : Ms) (nx : List Sv → Ms → Prop) : Prop := match va with
  | .raw (.ref l) => intW vb fun i => atM M l fun A rs C => ∃ j, ixN rs.length i = some j ∧ nx ds (A ++ (l, .lst (rs.set j r)) :: C)
  | _ => False
def augW (r : Sv) (P : Int → Prop) : Prop := match r with
  | .dat (.int b) => P b
  | _ => False
def stepS (g : Gi) (S : Sc) (f : StF) (st : Stmt) (ds : List Sv) (M : Ms) (nx : Nx) (rt : PoE) (bk ct : Nx) (er : Er) : Prop := match st with
    | .Pass _ => nx ds M
    | .Break _ => bk ds M
    | .Continue _ => ct ds M
    | .Return (some e) _ => (wq g).E S e ds M rt er
    | .Return none _ => rt (.dat .none) M
    | .Expr e _ => match notCmpr e with
      | true => (wq g).E S e ds M (fun _ M1 => nx ds M1) er
      | false => False
    | .If c a b _ => (wq g).T S c ds M (fun t M1 => brP t (wpSs f a ds M1 nx rt bk ct er) (wpSs f b ds M1 nx rt bk ct er)) er
    | .Assign [.Name x _] e _ => match slotL S x with
      | some i => (wq g).E S e ds M (fun r M1 => setK ds i r fun ds1 => nx ds1 M1) er
      | none => False
    | .Assign [.Tuple ts k2 p2] e _ => match notCmpr e with
      | false => False
      | true => match isTupV e with
        | false => (wq g).E S e ds M (fun r M1 => wpG S 9 (.Tuple ts k2 p2) r ds fun ds1 => nx ds1 M1) er
        | true => match e with
          | .Tuple vs _ _ => match swT S ts vs with
            | some none => (∀ env : Env, swappedStores [.Tuple ts k2 p2] e { env with scope := S.sc } = pure none) ∧ (wq g).E S e ds M (fun r M1 => wpG S 9 (.Tuple ts k2 p2) r ds fun ds1 => nx ds1 M1) er
            | some (some _) => match ts, vs with
              | [.Name x _, .Name y _], [a, b] => match slotL S x, slotL S y with
                | some i, some j => match !(decide (i = j)) && notStar a && notStar b && (S.sc.names.lookup x == some .local) && (S.sc.names.lookup y == some .local) with
                  | true => (∀ env : Env, swappedStores [.Tuple ts k2 p2] e { env with scope := S.sc } = pure (some [x, y])) ∧
                    (wq g).E S a ds M (fun va M1 => (wq g).E S b ds M1 (fun vb M2 => setK ds i va fun ds1 => setK ds1 j vb fun ds2 => nx ds2 M2) er) er
                  | false => False
                | _, _ => False
              | _, _ => False
            | _ => False
          | _ => False
    | .Assign [.Subscript a b p] e _ => match notCmpr e && notSlice b && (match e with | .Tuple .. => false | _ => true) with
      | true => (wq g).E S e ds M (fun r M1 => (wq g).E S a ds M1 (fun va M2 => (wq g).E S b ds M2 (fun vb M3 => setW va vb r ds M3 nx) er) er) er
      | false => False
    | .AugAssign (.Name x _) .Add e _ => match slotL S x with
      | some i => getD ds i fun r0 => match r0 with
        | .dat (.int a) => (wq g).E S e ds M (fun r M1 => augW r fun b => setK ds i (I (a + b)) fun ds1 => nx ds1 M1) er
        | _ => False
      | none => False
    | .For tg it body [] _ => match notSet it with
      | true => (wq g).I S tg it ds M (fun rs Kp M1 => ∃ Inv : Nat → List Sv → Ms → Prop, Inv 0 ds M1 ∧ (∀ i ds M, i ≤ rs.length → Inv i ds M → Kp M) ∧
          (∀ i r ds M, rs[i]? = some r → Inv i ds M → wpG S 9 tg r ds fun ds' => wpSs f body ds' M (Inv (i + 1)) rt nx (Inv (i + 1)) er) ∧ (∀ ds M, Inv rs.length ds M → nx ds M)) er
      | false => False
    | .While c body [] _ => ∃ Inv : Nat → List Sv → Ms → Prop, (∃ m, Inv m ds M) ∧ ∀ m ds M, Inv m ds M → (wq g).T S c ds M (fun t M1 => brP t (wpSs f body ds M1 (fun ds M => ∃ m', m' < m ∧ Inv m' ds M) rt nx (fun ds M => ∃ m', m' < m ∧ Inv m' ds M) er) (nx ds M1)) er
    | .Raise (some (.Call (.Name x _) [.Constant (.str _) _ _] [] _)) none _ => match globB S x with
      | true => match g.ex x with
        | some c => er c M
        | none => False
      | false => False
    | _ => False
def wpS (g : Gi) (S : Sc) : Nat → StF
  | 0 => fun _ _ _ _ _ _ _ _ => False
  | n + 1 => stepS g S (wpS g S n)
def wpB (g : Gi) (S : Sc) (ss : List Stmt) (ds : List Sv) (M : Ms) (Q : PoE) (E : Er) : Prop := wpSs (wpS g S 40) ss ds M (fun _ M1 => Q (.dat .none) M1) Q (fun _ _ => False) (fun _ _ => False) E
end Cal
/-! WpD -/
namespace Cal
open PySem PySem.Spec PyProof.Rows L2 LamX
/-! ### the operations are as read -/
section
variable {X : Cx} {T : Tb}
/-- a value is so, in a state -/
structure Va (K : PySem.W.Frag) (T : Tb) (M : Ms) (G H : Hp) : Prop where
  w : Wt K T M G H
theorem okE.self {K : PySem.W.Frag} {M : Ms} {G H : Hp} {Q : PoE} {q : VK} {r : Sv} {v : V} (ok : okE K T G Q q) (w : Wt K T M G H) (hq : Q r M) (hv : Vk K G v r) : q v H := ok r M v G H hq (Same.refl _) w hv
theorem okE.newT {K : PySem.W.Frag} {M : Ms} {G H : Hp} {Q : PoE} {q : VK} {xs : List D} {vs : List V} (ok : okE K T G Q q) (w : Wt K T M G H) (hq : Q (.dat (.tuple xs)) M) (hv : DpAll K G vs xs) {p : Addr} (hp : H p = none) : q (.ref p) (upd H p (.tup vs)) := by
  obtain ⟨g, w2⟩ := w.new hp (.tup vs)
  exact ok _ M _ _ _ hq g w2 (Dp.tup (SqT.of upd_same) (dpsUp g xs hv))
theorem okE.newL {K : PySem.W.Frag} {M : Ms} {G H : Hp} {Q : PoE} {q : VK} {xs : List D} {vs : List V} (ok : okE K T G Q q) (w : Wt K T M G H) (hq : Q (.dat (.list xs)) M) (hv : DpAll K G vs xs) {p : Addr} (hp : H p = none) : q (.ref p) (upd H p (.lst vs)) := by
  obtain ⟨g, w2⟩ := w.new hp (.lst vs)
  exact ok _ M _ _ _ hq g w2 (Dp.lst (SqL.of upd_same) (dpsUp g xs hv))
theorem okE.newM {K : PySem.W.Frag} {M : Ms} {G H : Hp} {Q : PoE} {q : VK} {rs : List Sv} {vs : List V} (ok : okE K T G Q q) (w : Wt K T M G H) (hq : ∀ l, Q (.raw (.ref l)) ((l, .lst rs) :: M)) (hv : Vks K G vs rs) {p : Addr} (hp : H p = none) : q (.ref p) (upd H p (.lst vs)) :=
  ok _ _ _ G _ (hq p) (Same.refl _) (w.mnew hp (m := .lst rs) hv) rfl
theorem lstW_ok {K : PySem.W.Frag} {M : Ms} {G H : Hp} {Q : PoE} {q : VK} {rs : List Sv} {vs : List V} (h : lstW rs M Q) (ok : okE K T G Q q) (w : Wt K T M G H) (hv : Vks K G vs rs) {p : Addr} (hp : H p = none) : q (.ref p) (upd H p (.lst vs)) := by
  obtain ⟨_, h⟩ := h
  rcases h with ⟨xs, e, h⟩ | h
  · subst e
    exact ok.newL w h (vks_dats hv) hp
  · exact ok.newM w h hv hp
theorem atM_lst {K : PySem.W.Frag} {M : Ms} {G H : Hp} {l : Addr} {P : Ms → List Sv → Ms → Prop} (h : atM M l P) (w : Wt K T M G H) : ∃ A rs C vs, M = A ++ (l, .lst rs) :: C ∧ P A rs C ∧ H l = some (.lst vs) ∧ Vks K G vs rs ∧ G l = none := by
  obtain ⟨A, rs, C, rfl, h⟩ := h
  obtain ⟨vs, h1, h2, h3⟩ := w.lst
  exact ⟨A, rs, C, vs, rfl, h, h1, h2, h3⟩
/-- read as data, in the heap as it stands -/
theorem rdW_ok {K : PySem.W.Frag} {M : Ms} {G H : Hp} {v : V} {r : Sv} {P : D → Prop} (h : rdW r M P) (w : Wt K T M G H) (hv : Vk K G v r) : ∃ d, Dp K H v d ∧ P d := by
  unfold rdW at h
  split at h
  · exact ⟨_, dpUp w.w.ex _ hv, h⟩
  · obtain ⟨A, rs, C, vs, e, ⟨xs, e2, h⟩, h1, h2, h3⟩ := atM_lst h w
    subst e2
    have hv' : v = .ref _ := hv
    subst hv'
    exact ⟨_, Dp.lst (SqL.of h1) (dpsUp w.w.ex xs (vks_dats h2)), h⟩
  · exact h.elim
def rBin (K : PySem.W.Frag) (T : Tb) (op : Operator) : R2 := fun x y H q => ∃ va vb M G Q, binW op va vb M Q ∧ Wt K T M G H ∧ Vk K G x va ∧ Vk K G y vb ∧ okE K T G Q q
theorem op_bin {op : Operator} : OpR X (binaryOp op) (rBin X.K T op) := by
  intro pins s σ H x y v u q I rx ry h
  obtain ⟨va, vb, M, G, Q, hb, w, hx, hy, ok⟩ := h
  unfold binW at hb
  split at hb
  · cases vk_int hx; cases vk_int hy
    exact op_add pins s σ H _ _ v u q I rx ry ⟨_, _, rfl, rfl, ok.self w hb (.int _)⟩
  · cases vk_str hx; cases vk_str hy
    exact op_add_str pins s σ H _ _ v u q I rx ry ⟨_, _, rfl, rfl, Nat.le_of_lt (small1000 hb.1), ok.self w hb.2 (.str _)⟩
  · obtain ⟨p, vs, rfl, h1, h2⟩ := vk_lst hx
    obtain ⟨p', vs', rfl, h3, h4⟩ := vk_lst hy
    exact op_catD pins s σ H _ _ v u q I rx ry ⟨p, p', vs, vs', rfl, rfl, w.w.ex.seq h1, w.w.ex.seq h3, by rw [dps_len h2, dps_len h4]; exact Nat.le_of_lt (small1000 hb.1), fun p hp => ok.newL w hb.2 (dps_app h2 h4) hp⟩
  · obtain ⟨p, vs, rfl, h1, h2⟩ := vk_tup hx
    obtain ⟨p', vs', rfl, h3, h4⟩ := vk_tup hy
    refine op_catA pins s σ H _ _ v u q I rx ry ⟨p, p', vs, vs', rfl, rfl, seqT w.w.ex h1, seqT w.w.ex h3, by rw [dps_len h2, dps_len h4]; exact Nat.le_of_lt (small1000 hb.1), fun e => ?_, fun _ e => ?_, fun _ _ p hp => ok.newT w hb.2 (dps_app h2 h4) hp⟩
    · subst e
      cases h2
      exact ok.self (r := .dat (.tuple _)) w (by simpa using hb.2) (Dp.tup h3 h4)
    · subst e
      cases h4
      exact ok.self (r := .dat (.tuple _)) w (by simpa using hb.2) (Dp.tup h1 h2)
  · obtain ⟨p', vs', rfl, h3, h4⟩ := vk_lst hy
    obtain ⟨A, rs, C, vs, e, ⟨xs, e2, hz, h⟩, h1, h2, _⟩ := atM_lst hb w
    subst e2
    have hx' : x = .ref _ := hx
    subst hx'
    have h5 := vks_dats h2
    exact op_catD pins s σ H _ _ v u q I rx ry ⟨_, p', vs, vs', rfl, rfl, SqL.of h1, w.w.ex.seq h3, by rw [dps_len h5, dps_len h4]; exact Nat.le_of_lt (small1000 hz), fun p hp => ok.newL w h (dps_app h5 h4) hp⟩
  · cases vk_int hx; cases vk_int hy
    exact op_sub pins s σ H _ _ v u q I rx ry ⟨_, _, rfl, rfl, ok.self w hb (.int _)⟩
  · cases vk_int hx; cases vk_int hy
    rcases hb.1 with hc | hc
    · exact op_mul pins s σ H _ _ v u q I rx ry ⟨_, _, rfl, rfl, hc, ok.self w hb.2 (.int _)⟩
    · exact op_mulW pins s σ H _ _ v u q I rx ry ⟨_, _, rfl, rfl, hc, ok.self w hb.2 (.int _)⟩
  · cases vk_int hx; cases vk_int hy
    have ho : OpR X (binaryOp .FloorDiv) (rI (fun _ j => fdivP j) fun i j => .int (i.fdiv j)) := opI fun _ _ _ _ _ _ _ hc q => floordiv_int hc.1 q (.inl (PyProof.noPylong_of_log2 hc.2))
    exact ho pins s σ H _ _ v u q I rx ry ⟨_, _, rfl, rfl, hb.1, ok.self w hb.2 (.int _)⟩
  · cases vk_int hx; cases vk_int hy
    exact op_mod pins s σ H _ _ v u q I rx ry ⟨_, _, rfl, rfl, hb.1, ok.self w hb.2 (.int _)⟩
  · cases vk_int hx; cases vk_int hy
    exact op_pow pins s σ H _ _ v u q I rx ry ⟨_, _, rfl, rfl, hb.1, ok.self w hb.2 (.int _)⟩
  · exact hb.elim
def rUn (K : PySem.W.Frag) (T : Tb) (op : UnaryOp) : V → Hp → VK → Prop := fun x H q => ∃ va M G Q, unW op va M Q ∧ Wt K T M G H ∧ Vk K G x va ∧ okE K T G Q q
/-- comparisons: a bool comes -/
def okB (K : PySem.W.Frag) (T : Tb) (G : Hp) (Q : PoT) (q : VK) : Prop := ∀ b M' G' H', Q b M' → Same G G' → Wt K T M' G' H' → q (.bl b) H'
def rCmp (K : PySem.W.Frag) (T : Tb) (op : CmpOp) : R2 := fun x y H q => ∃ va vb M G Q, cmpW op va vb M Q ∧ Wt K T M G H ∧ Vk K G x va ∧ Vk K G y vb ∧ okB K T G Q q
theorem okB.self {K : PySem.W.Frag} {M : Ms} {G H : Hp} {Q : PoT} {q : VK} {b : Bool} (ok : okB K T G Q q) (w : Wt K T M G H) (hq : Q b M) : q (.bl b) H := ok b M G H hq (Same.refl _) w
theorem op_inA (hu : X.A.units + 65 < cLine) {neg : Bool} : OpR X (compareOp (match neg with | false => .In | true => .NotIn)) (fun x y H Q => ∃ d e, Dp X.K H x d ∧ Dp X.K H y e ∧ SeqAt.shaped d = true ∧ SeqAt.shaped e = true ∧ ∃ xs, (e = .list xs ∨ e = .tuple xs) ∧ Q (.bl (inB neg d xs)) H) := by
  intro pins s σ H x y v u Q I rx ry h
  obtain ⟨d, e, hd, he, sd, se, xs, hxs, q⟩ := h
  obtain ⟨as, r1⟩ := Dp.reads I d x v hd rx
  obtain ⟨bs, r2⟩ := Dp.reads I e y u he ry
  rcases hxs with e1 | e1
  · subst e1
    cases neg with
    | false => exact SeqAt.in_list_reads r2 r1 (SeqAt.canLay_of_shaped se) (SeqAt.canLay_of_shaped sd) (room_in_shaped sd hu) ⟨.bl _, H, I, rfl, q⟩
    | true => exact SeqAt.notIn_list_reads r2 r1 (SeqAt.canLay_of_shaped se) (SeqAt.canLay_of_shaped sd) (room_in_shaped sd hu) ⟨.bl _, H, I, rfl, q⟩
  · subst e1
    cases neg with
    | false => exact SeqAt.in_tuple_reads r2 r1 (SeqAt.canLay_of_shaped se) (SeqAt.canLay_of_shaped sd) (room_in_shaped sd hu) ⟨.bl _, H, I, rfl, q⟩
    | true => exact SeqAt.notIn_tuple_reads r2 r1 (SeqAt.canLay_of_shaped se) (SeqAt.canLay_of_shaped sd) (room_in_shaped sd hu) ⟨.bl _, H, I, rfl, q⟩
theorem inW_ok {K : PySem.W.Frag} {neg : Bool} {va vb : Sv} {M : Ms} {Q : PoT} {G H : Hp} {x y : V} {q : VK} (h : inW neg va vb M Q) (w : Wt K T M G H) (hx : Vk K G x va) (hy : Vk K G y vb) (ok : okB K T G Q q) :
    ∃ d e, Dp K H x d ∧ Dp K H y e ∧ SeqAt.shaped d = true ∧ SeqAt.shaped e = true ∧ ∃ xs, (e = .list xs ∨ e = .tuple xs) ∧ q (.bl (inB neg d xs)) H := by
  obtain ⟨d, hd, h⟩ := rdW_ok h w hx
  obtain ⟨e, he, h⟩ := rdW_ok h w hy
  refine ⟨d, e, hd, he, ?_⟩
  split at h
  · exact ⟨h.1, h.2.1, _, .inl rfl, ok.self w h.2.2⟩
  · exact ⟨h.1, h.2.1, _, .inr rfl, ok.self w h.2.2⟩
  · exact h.elim
theorem op_cmp (hu : X.A.units + 65 < cLine) {op : CmpOp} : OpR X (compareOp op) (rCmp X.K T op) := by
  intro pins s σ H x y v u q I rx ry h
  obtain ⟨va, vb, M, G, Q, hb, w, hx, hy, ok⟩ := h
  unfold cmpW at hb
  split at hb
  · cases vk_int hx; cases vk_int hy
    exact op_lt pins s σ H _ _ v u q I rx ry ⟨_, _, rfl, rfl, ok.self w hb⟩
  · cases vk_int hx; cases vk_int hy
    exact op_le pins s σ H _ _ v u q I rx ry ⟨_, _, rfl, rfl, ok.self w hb⟩
  · cases vk_int hx; cases vk_int hy
    exact op_gt pins s σ H _ _ v u q I rx ry ⟨_, _, rfl, rfl, ok.self w hb⟩
  · cases vk_int hx; cases vk_int hy
    exact op_ge pins s σ H _ _ v u q I rx ry ⟨_, _, rfl, rfl, ok.self w hb⟩
  · obtain ⟨d, hd, h⟩ := rdW_ok hb w hx
    obtain ⟨e, he, h⟩ := rdW_ok h w hy
    exact op_eqD (by omega) pins s σ H _ _ v u q I rx ry ⟨d, e, hd, he, h.1, h.2.1, ok.self w h.2.2⟩
  · obtain ⟨d, hd, h⟩ := rdW_ok hb w hx
    obtain ⟨e, he, h⟩ := rdW_ok h w hy
    exact op_neD (by omega) pins s σ H _ _ v u q I rx ry ⟨d, e, hd, he, h.1, h.2.1, ok.self w h.2.2⟩
  · exact op_inA (neg := false) hu pins s σ H _ _ v u q I rx ry (inW_ok hb w hx hy ok)
  · exact op_inA (neg := true) hu pins s σ H _ _ v u q I rx ry (inW_ok hb w hx hy ok)
  · have h' : Dp X.K G y .none := hy
    cases h'
    exact op_isN pins s σ H _ _ v u q I rx ry ⟨rfl, by rw [vk_non hx]; exact ok.self w hb⟩
  · have h' : Dp X.K G y .none := hy
    cases h'
    exact op_notN pins s σ H _ _ v u q I rx ry ⟨rfl, by rw [vk_non hx]; exact ok.self w hb⟩
  · exact hb.elim
def rIx (K : PySem.W.Frag) (T : Tb) : R2 := fun x y H q => ∃ va vb M G Q, ixW va vb M Q ∧ Wt K T M G H ∧ Vk K G x va ∧ Vk K G y vb ∧ okE K T G Q q
theorem ix_all : IxR X (rIx X.K T) := by
  intro value slice pins s σ H x y v u q I rx ry h hs
  obtain ⟨va, vb, M, G, Q, hb, w, hx, hy, ok⟩ := h
  unfold ixW at hb
  split at hb
  · cases vk_int hy
    obtain ⟨d, e, h⟩ := hb
    obtain ⟨p, vs, rfl, h1, h2⟩ := vk_tup hx
    obtain ⟨z, e1, e2⟩ := dps_at h2 e
    exact ix_tup value slice pins s σ H _ _ v u q I rx ry ⟨p, vs, _, z, rfl, rfl, seqT w.w.ex h1, e1, ok.self w h e2⟩ hs
  · cases vk_int hy
    obtain ⟨d, e, h⟩ := hb
    obtain ⟨p, vs, rfl, h1, h2⟩ := vk_lst hx
    obtain ⟨z, e1, e2⟩ := dps_at h2 e
    exact ix_list value slice pins s σ H _ _ v u q I rx ry ⟨p, vs, _, z, rfl, rfl, w.w.ex.seq h1, e1, ok.self w h e2⟩ hs
  · cases vk_int hy
    obtain ⟨A, rs, C, vs, e, ⟨r, e2, h⟩, h1, h2, _⟩ := atM_lst hb w
    have hx' : x = .ref _ := hx
    subst hx'
    unfold atI at e2
    obtain ⟨j, q1, q2⟩ := Option.bind_eq_some_iff.mp e2
    obtain ⟨z, z1, z2⟩ := vks_at h2 q2
    exact ix_list value slice pins s σ H _ _ v u q I rx ry ⟨_, vs, _, z, rfl, rfl, SqL.of h1, by unfold atI; rw [h2.len, q1]; exact z1, ok.self w h z2⟩ hs
  · cases vk_int hy
    obtain ⟨L, t, e, h⟩ := hb
    rw [e] at hx
    obtain ⟨p, f, c', rfl, h1, h2, h3⟩ := vk_pairLS hx
    have hT := SqT.of (K := X.K) (w.w.ex _ _ h1)
    rcases h with ⟨rfl, h⟩ | ⟨rfl, h⟩
    · exact ix_tup value slice pins s σ H _ _ v u q I rx ry ⟨p, _, _, .ref f, rfl, rfl, hT, rfl, ok.self w h ⟨G, Same.refl _, f, c', rfl, h2, h3⟩⟩ hs
    · exact ix_tup value slice pins s σ H _ _ v u q I rx ry ⟨p, _, _, .str t, rfl, rfl, hT, rfl, ok.self w h (.str _)⟩ hs
  · exact hb.elim
def rSl (K : PySem.W.Frag) (T : Tb) : V → Option Int → Option Int → Hp → VK → Prop := fun x lo hi H q => ∃ va M G Q, slW va lo hi M Q ∧ Wt K T M G H ∧ Vk K G x va ∧ okE K T G Q q
theorem cut_dps {K : PySem.W.Frag} {G : Hp} {vs : List V} {xs : List D} (h : DpAll K G vs xs) (lo hi : Option Int) : DpAll K G (cutV vs lo hi) (cutD xs lo hi) := by
  unfold cutV cutD
  rw [dps_len h]
  exact dps_take _ (dps_drop _ h)
theorem sl_all : SlR X (rSl X.K T) := by
  intro pins s σ H x v vl vu lo hi sl q I rx hs pl pu h
  obtain ⟨va, M, G, Q, hb, w, hx, ok⟩ := h
  unfold slW at hb
  split at hb
  · obtain ⟨p, vs, rfl, h1, h2⟩ := vk_lst hx
    exact sl_list pins s σ H _ v vl vu lo hi sl q I rx hs pl pu ⟨p, vs, rfl, w.w.ex.seq h1, fun p hp => ok.newL w hb (cut_dps h2 lo hi) hp⟩
  · rename_i xs
    obtain ⟨p, vs, rfl, h1, h2⟩ := vk_tup hx
    refine sl_tupA pins s σ H _ v vl vu lo hi sl q I rx hs pl pu ⟨p, vs, rfl, seqT w.w.ex h1, fun e => ?_, fun _ p hp => ok.newT w hb (cut_dps h2 lo hi) hp⟩
    have e2 : cutD xs lo hi = xs := by
      unfold cutD
      rw [← dps_len h2, e.1, e.2, List.drop_zero, Nat.sub_zero, dps_len h2, List.take_length]
    rw [e2] at hb
    exact ok.self (r := .dat (.tuple xs)) w hb (Dp.tup h1 h2)
  · obtain ⟨A, rs, C, vs, e, ⟨xs, e2, h⟩, h1, h2, _⟩ := atM_lst hb w
    subst e2
    have hx' : x = .ref _ := hx
    subst hx'
    exact sl_list pins s σ H _ v vl vu lo hi sl q I rx hs pl pu ⟨_, vs, rfl, SqL.of h1, fun p hp => ok.newL w h (cut_dps (vks_dats h2) lo hi) hp⟩
  · exact hb.elim
end
end Cal
/-! WpE -/
namespace Cal
open PySem PySem.Spec PyProof.Rows L2 LamX
/-! ### calls -/
structure FnP (P : Program) (w : World) (K : PySem.W.Frag) (mg : Str → Option Value) (base : Heap) (T : Tb) (k : Nat) (x : Str) (s : Sig) : Prop where
  ex : ∃ f fd ps us dvs, FnOk P w K mg base (L2.CX P w) k f fd ps (spP K T s) ∧ mg x = some (.ref f) ∧ PySem.W.keepIn K (.ref f) = true ∧ Binds K fd ps us ∧ Vals dvs us ∧ ∀ G, Vks K G dvs s.dr
theorem FnP.up {P : Program} {w : World} {K : PySem.W.Frag} {mg : Str → Option Value} {base : Heap} {T : Tb} {k k' : Nat} {x : Str} {s : Sig} (h : FnP P w K mg base T k x s) (l : k ≤ k') : FnP P w K mg base T k' x s := by
  obtain ⟨f, fd, ps, us, dvs, F, r⟩ := h.ex
  exact ⟨f, fd, ps, us, dvs, F.mono l, r⟩
structure GiOk (g : Gi) (P : Program) (w : World) (K : PySem.W.Frag) (mg : Str → Option Value) (base : Heap) : Prop where
  sg : ∀ x n s, g.sg x n = some s → FnP P w K mg base g.T g.k x s
  fa : ∀ x n s, g.sg x n = some s → mg x = some (.ref (g.fa x))
  gv : ∀ x r, g.gv x = some r → ∃ v u, mg x = some u ∧ RelV v u ∧ ∀ G, Vk K G v r
  bi : ∀ x, g.bi x = true → mg x = none
  gc : ∀ x, g.gc x = true → mg x = some (.builtin "math.gcd")
  ex : ∀ x c, g.ex x = some c → c = He.ga K x ∧ mg x = some (.ref c) ∧ (He.Fa.exc x).ok K = true
/-- the def that calls what it got, as it stands -/
structure ToldK (g : Gi) (K : PySem.W.Frag) (mg : Str → Option Value) : Prop where
  ex : ∃ (params : Arguments) (body : List Stmt) (scope : Scope) (a : Addr) (fd : FuncData), FunD K "_law_told" "_law_told" params body scope [] [] a fd ∧ mg "_law_told" = some (.ref a) ∧ FnScope ["what"] ["what"] scope ∧ Vis scope "what" ∧
    (∀ (kV doc pm : Value) (an : Option Addr) (cdv ct : Value) (us : List Value), us.length = (["what"] : List Str).length → bindArgs (PySem.W.fnOf "_law_told" "_law_told" params body scope .none kV doc pm an cdv ct) ⟨us, []⟩ = pure ((["what"] : List Str).zip us)) ∧
    ∀ X : Cx, X.K = K → X.mg = mg → ∀ cdg, GivesTo X ["what"] "_law_told" scope a cdg body "what" g.lq (TT9 K g.es)
structure ToldAt (g : Gi) (X : Cx) : Prop where
  k : ToldK g X.K X.mg
  q : X.env.qual ++ "<lambda>" = g.lq
  r : Room (g.k + 2) X.A
structure LamB (g : Gi) (X : Cx) : Prop where
  ex : ∃ c P, TabB X.base X.mg c P ∧ X.env.code = .ref c ∧ (P, g.lq) ∈ g.T ∧ ∀ p ∈ g.T, p.1 = P → p.2 = g.lq
  q : X.env.qual ++ "<lambda>" = g.lq
structure Xo (g : Gi) (S : Sc) (X : Cx) (W : WX) : Prop where
  ok : GiOk g X.prog X.w X.K X.mg X.base
  N : X.N = S.N
  sc : X.env.scope = S.sc
  fn : ∀ x, S.fn x = true → X.fn x = true
  nd : X.N.Nodup
  calm : X.calm = true
  room : Room g.k X.A
  tk : Takes X W
  lam : S.lam = true → LamB g X
  told : S.tq = true → ToldAt g X
theorem Xo.units {g : Gi} {S : Sc} {X : Cx} {W : WX} (o : Xo g S X W) : X.A.units + 65 < cLine := by
  have := o.room.un
  omega
section
variable {X : Cx}
theorem run_fnD {CX : CXT} {k : Nat} {f : Addr} {fd : FuncData} {ps : List Str} {sp : Sp} {E : L2.St → XK} {pins : List (Addr × Obj)} {σ : L2.St} {H : Hp} {s : Shared} {Q : VK} {us ds : List Value} {vs dvs : List V} (F : FnOk X.prog X.w X.K X.mg X.base CX k f fd ps sp) (hr : Room k X.A) (hb : Binds X.K fd ps ds) (hd : Vals dvs ds)
    (hx : PassesAt CX X σ (E σ)) (I : Inv X pins σ H s) (r : Vals vs us) (h : sp (vs ++ dvs) H Q (E σ)) : wpAny (model X.prog X.w) X.A (call (.ref f) us) (EP X pins σ Q) X.xe s := by
  have hr2 := r.append hd
  have hl : (us ++ ds).length = ps.length := by rw [← hr2.length]; exact F.len _ _ _ _ h
  refine wpAny_call (codeAny_mono (F.run X.A X.stack s H ⟨us, []⟩ (us ++ ds) (vs ++ dvs) Q (E σ) hr I.env0 (hb s us I.kIn hl) hr2 h) fun r s' hq => ?_)
  cases r with
  | error e => exact hx pins H s e s' I hq
  | ok fl =>
    cases fl with
    | ret u => exact I.after hq
    | next => exact False.elim hq
    | brk => exact False.elim hq
    | cont => exact False.elim hq
theorem pe_callD {CX : CXT} {k : Nat} {f : Addr} {fd : FuncData} {ps : List Str} {sp : Sp} {E : L2.St → XK} {x : Str} {p pos : Pos} {e : Expr} {es : List Expr} {t : TA} {ds : List Value} {dvs : List V} (F : FnOk X.prog X.w X.K X.mg X.base CX k f fd ps sp) (hr : Room k X.A) (hg : Gl X x) (hm : X.mg x = some (.ref f)) (hk : PySem.W.keepIn X.K (.ref f) = true) (hb : Binds X.K fd ps ds) (hd : Vals dvs ds)
    (hx : ∀ σ, PassesAt CX X σ (E σ)) (ha : PA X (e :: es) t) (hdb : (x == ("__debug__" : Str)) = false) (he : starEach (e :: es) X.env = (false, eval e X.env) :: starEach es X.env) (hpl : (backTo pos (starEach es X.env)).any (·.1) = false) :
    PE X (.Call (.Name x p) (e :: es) [] pos) (fun σ H Q => t σ H fun vs H1 => sp (vs ++ dvs) H1 Q (E σ)) := by
  refine ⟨fun pins s σ H Q I h => ?_⟩
  refine wpAny_Call_Name_kw (ld_glob I hg hm ?_ hdb)
  refine PySem.W.callWith_K (h₀ := X.base) I.ok.mod.kin hk (thn (ha.run pos pins s σ H _ I h) fun us s1 ⟨vs, H1, I1, r, q⟩ => ⟨I1.kIn, ?_⟩) he hpl
  exact run_fnD F hr hb hd (hx σ) I1 r q
theorem pe_callDL {CX : CXT} {k i : Nat} {f : Addr} {fd : FuncData} {ps : List Str} {sp : Sp} {E : L2.St → XK} {x : Str} {p pos : Pos} {e : Expr} {es : List Expr} {t : TA} {ds : List Value} {dvs : List V} (F : FnOk X.prog X.w X.K X.mg X.base CX k f fd ps sp) (hr : Room k X.A) (hN : X.N[i]? = some x) (hv : Vis X.env.scope x) (hk : PySem.W.keepIn X.K (.ref f) = true) (hb : Binds X.K fd ps ds) (hd : Vals dvs ds)
    (hx : ∀ σ, PassesAt CX X σ (E σ)) (ha : PA X (e :: es) t) (hdb : (x == ("__debug__" : Str)) = false) (hcd : (x == ("__classdict__" : Str)) = false) (he : starEach (e :: es) X.env = (false, eval e X.env) :: starEach es X.env) (hpl : (backTo pos (starEach es X.env)).any (·.1) = false) :
    PE X (.Call (.Name x p) (e :: es) [] pos) (fun σ H Q => σ[i]? = some (some (.ref f)) ∧ t σ H fun vs H1 => sp (vs ++ dvs) H1 Q (E σ)) := by
  refine ⟨fun pins s σ H Q J ⟨hs, h⟩ => ?_⟩
  refine wpAny_Call_Name_kw (thn ((pe_var (pos := p) hN hv hdb hcd).run pins s σ H (fun v H1 => v = .ref f ∧ H1 = H) J ⟨.ref f, hs, rfl, rfl⟩) fun u s1 ⟨v, H1, I1, r1, q1⟩ => ?_)
  obtain ⟨rfl, rfl⟩ := q1
  obtain rfl : u = Value.ref f := r1
  refine PySem.W.callWith_K (h₀ := X.base) I1.ok.mod.kin hk (thn (ha.run pos pins s1 σ H1 _ I1 h) fun us s2 ⟨vs, H2, I2, r, q⟩ => ⟨I2.kIn, ?_⟩) he hpl
  exact run_fnD F hr hb hd (hx σ) I2 r q
theorem pe_callD0 {CX : CXT} {k : Nat} {f : Addr} {fd : FuncData} {ps : List Str} {sp : Sp} {E : L2.St → XK} {x : Str} {p pos : Pos} {ds : List Value} {dvs : List V} (F : FnOk X.prog X.w X.K X.mg X.base CX k f fd ps sp) (hr : Room k X.A) (hg : Gl X x) (hm : X.mg x = some (.ref f)) (hk : PySem.W.keepIn X.K (.ref f) = true) (hb : Binds X.K fd ps ds) (hd : Vals dvs ds)
    (hx : ∀ σ, PassesAt CX X σ (E σ)) (hdb : (x == ("__debug__" : Str)) = false) : PE X (.Call (.Name x p) [] [] pos) (fun σ H Q => sp dvs H Q (E σ)) := by
  refine ⟨fun pins s σ H Q I h => ?_⟩
  refine wpAny_Call_Name_kw (ld_glob I hg hm ?_ hdb)
  refine PySem.W.callWith_K0 I.kIn hk ?_
  exact run_fnD F hr hb hd (hx σ) I .nil h
end
/-! ### names -/
theorem findIdx_at : ∀ {N : List Str} {x : Str} {i : Nat}, N.findIdx? (· == x) = some i → N[i]? = some x := fun {N x i} h => by
  obtain ⟨h1, h2, _⟩ := List.findIdx?_eq_some_iff_getElem.mp h
  rw [List.getElem?_eq_getElem h1]
  exact congrArg some (eq_of_beq h2)
theorem slotV_ok {S : Sc} {x : Str} {i : Nat} (h : slotV S x = some i) : S.N[i]? = some x ∧ Vis S.sc x ∧ (x == ("__debug__" : Str)) = false ∧ (x == ("__classdict__" : Str)) = false := by
  unfold slotV at h
  split at h
  · rename_i hc
    simp only [Bool.and_eq_true, Bool.not_eq_true'] at hc
    refine ⟨findIdx_at h, ?_, hc.1.2, hc.2⟩
    have hv := hc.1.1
    unfold visB at hv
    unfold Vis
    split at hv
    · exact .inl (by assumption)
    · exact .inr (.inl (by assumption))
    · exact .inr (.inr (by assumption))
    · cases hv
  · cases h
theorem slotL_ok {S : Sc} {x : Str} {i : Nat} (h : slotL S x = some i) : S.N[i]? = some x ∧ L2.Loc S.sc x ∧ (S.fn x = true ∨ S.sc.names.lookup x = some .local) := by
  unfold slotL at h
  split at h
  · rename_i hc
    refine ⟨findIdx_at h, ?_⟩
    unfold locB at hc
    unfold L2.Loc
    split at hc
    · exact ⟨.inl (by assumption), .inr (by assumption)⟩
    · exact ⟨.inr (by assumption), .inl hc⟩
    · cases hc
  · cases h
section
variable {g : Gi} {S : Sc} {X : Cx} {W : WX}
theorem Xo.gl (o : Xo g S X W) {x : Str} (h : globB S x = true) : Gl X x ∧ (x == ("__debug__" : Str)) = false := by
  unfold globB at h
  split at h
  · rename_i hl
    refine ⟨?_, by simpa using h⟩
    show X.env.scope.names.lookup x = some .globalImplicit
    rw [o.sc]
    exact hl
  · cases h
theorem Xo.vis (o : Xo g S X W) {x : Str} (h : Vis S.sc x) : Vis X.env.scope x := by rw [o.sc]; exact h
theorem Xo.loc (o : Xo g S X W) {x : Str} (h : L2.Loc S.sc x) : L2.Loc X.env.scope x := by rw [o.sc]; exact h
theorem Xo.at (o : Xo g S X W) {x : Str} {i : Nat} (h : S.N[i]? = some x) : X.N[i]? = some x := by rw [o.N]; exact h
theorem Xo.hf (o : Xo g S X W) {x : Str} (h : S.fn x = true ∨ S.sc.names.lookup x = some .local) : X.fn x = true ∨ X.env.scope.names.lookup x = some .local := by
  rw [o.sc]
  exact h.imp (o.fn x) id
end
theorem star_one {e : Expr} {es : List Expr} {env : Env} (h : notStar e = true) : starEach (e :: es) env = (false, eval e env) :: starEach es env := by
  cases e <;> first | rfl | cases h
theorem star_all {pos : Pos} {env : Env} : ∀ {es : List Expr}, es.all notStar = true → (backTo pos (starEach es env)).any (·.1) = false
  | [], _ => rfl
  | e :: es, h => by
    rw [List.all_cons, Bool.and_eq_true] at h
    rw [star_one h.1]
    show (false || (backTo pos (starEach es env)).any (·.1)) = false
    rw [star_all h.2]
    rfl
section
variable {X : Cx}
theorem pa_ex {es : List Expr} {ι : Type} {p : ι → Prop} {t : ι → TA} (h : ∀ i, p i → PA X es (t i)) : PA X es (fun σ H Q => ∃ i, p i ∧ t i σ H Q) := ⟨fun pos pins s σ H Q I ⟨i, hp, q⟩ => (h i hp).run pos pins s σ H Q I q⟩
theorem po_ex {e : Option Expr} {ι : Type} {p : ι → Prop} {t : ι → TO} (h : ∀ i, p i → PO X e (t i)) : PO X e (fun σ H Q => ∃ i, p i ∧ t i σ H Q) := ⟨fun pins s σ H Q I ⟨i, hp, q⟩ => (h i hp).run pins s σ H Q I q⟩
variable {T : Tb} {W : WX} {ds : List Sv} {M : Ms} {Q : PoE} {E : Er} {a b e : Expr} {es : List Expr} {pos : Pos}
/-- rows of expressions are as read -/
theorem wpL_ok {f : Expr → Ms → PoE → Prop} (hf : ∀ e M Q, f e M Q → PE X e (tE X.K T W ds M Q E)) : ∀ {es : List Expr} {M : Ms} {Q : PoA}, es.all notStar = true → wpL f es M Q → PA X es (tA X.K T W ds M Q E)
  | [], M, Q, _, h => pa_mono pa_nil fun σ H q ⟨G, w, s, ok, er⟩ => ok [] M [] G H h (Same.refl _) w .nil
  | e :: es, M, Q, hs, h => by
    rw [List.all_cons, Bool.and_eq_true] at hs
    refine pa_mono (pa_cons (hf e M _ h) (pa_ex (ι := Sv × Ms) (p := fun z => wpL f es z.2 fun vs M2 => Q (z.1 :: vs) M2) (t := fun z => tA X.K T W ds z.2 (fun vs M2 => Q (z.1 :: vs) M2) E) fun z hz => wpL_ok hf hs.2 hz) (star_one hs.1)) fun σ H q ⟨G, w, s, ok, er⟩ => ?_
    refine ⟨G, w, s, fun v M1 x G1 H1 hv sg w1 hx => ⟨(v, M1), hv, G1, w1, s.up sg, fun vs M2 xs G2 H2 hq sg2 w2 hxs => ?_, er.up sg⟩, er⟩
    exact ok (v :: vs) M2 (x :: xs) G2 H2 hq (sg.trans sg2) w2 (.cons (hx.up sg2) hxs)
/-- the second of two -/
abbrev tSec (K : PySem.W.Frag) (T : Tb) (W : WX) (ds : List Sv) (P : Sv → Ms → Prop) (Qf : Sv → PoE) (E : Er) : TE := fun σ H q => ∃ z : Sv × Ms, P z.1 z.2 ∧ tE K T W ds z.2 (Qf z.1) E σ H q
theorem pe_sec {P : Sv → Ms → Prop} {Qf : Sv → PoE} (h : ∀ v M1, P v M1 → PE X e (tE X.K T W ds M1 (Qf v) E)) : PE X e (tSec X.K T W ds P Qf E) := pe_ex (ι := Sv × Ms) (p := fun z => P z.1 z.2) (t := fun z => tE X.K T W ds z.2 (Qf z.1) E) fun z hz => h z.1 z.2 hz
theorem tOp_of {K : PySem.W.Frag} {r2 : R2} {P : Sv → Ms → Prop} {Qf : Sv → PoE} {σ : L2.St} {H : Hp} {q : VK} (hop : ∀ va vb M2 G x y H q, Qf va vb M2 → Wt K T M2 G H → Vk K G x va → Vk K G y vb → okE K T G Q q → r2 x y H q) (h : tE K T W ds M Q E σ H q) :
    tOp r2 (tE K T W ds M P E) (tSec K T W ds P Qf E) σ H q := by
  obtain ⟨G, w, s, ok, er⟩ := h
  exact ⟨G, w, s, fun va M1 x G1 H1 hB sg w1 hx => ⟨(va, M1), hB, G1, w1, s.up sg, fun vb M2 y G2 H2 hQ sg2 w2 hy => hop va vb M2 G2 x y H2 q hQ w2 (hx.up sg2) hy (ok.up (sg.trans sg2)), er.up sg⟩, er⟩
/-- one after another: what the first gives goes to a further reading -/
theorem tE_then {K : PySem.W.Frag} {Q1 : PoE} {σ : L2.St} {H : Hp} {q q1 : VK} (h : tE K T W ds M Q E σ H q) (hq : ∀ r M' v G' H', Q1 r M' → Wt K T M' G' H' → Vk K G' v r → okE K T G' Q q → q1 v H') : tE K T W ds M Q1 E σ H q1 := by
  obtain ⟨G, w, s, ok, er⟩ := h
  exact ⟨G, w, s, fun r M' v G' H' h1 sg w' hv => hq r M' v G' H' h1 w' hv (ok.up sg), er⟩
end
end Cal
/-! WpF -/
namespace Cal
open PySem PySem.Spec PyProof.Rows L2 LamX
/-! ### built-in functions, displays, methods -/
def rB (K : PySem.W.Frag) (T : Tb) (W : List Sv → Ms → PoE → Prop) : List V → Hp → VK → Prop := fun vs H q => ∃ rs M G Q, W rs M Q ∧ Wt K T M G H ∧ Vks K G vs rs ∧ okE K T G Q q
section
variable {X : Cx} {T : Tb}
theorem cb_len : CallR X (.builtin "len") (rB X.K T lenA) := by
  intro pins s σ H xs us q J r ⟨rs, M, G, Q, h', w, hv, ok⟩
  unfold lenA at h'
  split at h'
  · obtain ⟨v, rfl, hv1⟩ := vks1 hv
    unfold lenW at h'
    split at h'
    · obtain ⟨p, vs, rfl, h1, h2⟩ := vk_lst hv1
      exact call_len_seq pins s σ H _ us q J r ⟨p, vs, rfl, .inl (w.w.ex.seq h1), by rw [dps_len h2]; exact ok.self w h' (.int _)⟩
    · obtain ⟨p, vs, rfl, h1, h2⟩ := vk_tup hv1
      exact call_len_seq pins s σ H _ us q J r ⟨p, vs, rfl, .inr (seqT w.w.ex h1), by rw [dps_len h2]; exact ok.self w h' (.int _)⟩
    · obtain ⟨A, rs, C, vs, e, h3, h1, h2, _⟩ := atM_lst h' w
      have hx' : v = .ref _ := hv1
      subst hx'
      exact call_len_seq pins s σ H _ us q J r ⟨_, vs, rfl, .inl (SqL.of h1), by rw [h2.len]; exact ok.self w h3 (.int _)⟩
    · exact h'.elim
  · exact h'.elim
theorem cb_abs : CallR X (.builtin "abs") (rB X.K T absA) := by
  intro pins s σ H xs us q J r ⟨rs, M, G, Q, h', w, hv, ok⟩
  unfold absA at h'
  split at h'
  · obtain ⟨v, rfl, hv1⟩ := vks1 hv
    unfold intW at h'
    split at h'
    · cases vk_int hv1
      exact call_abs pins s σ H _ us q J r ⟨_, rfl, ok.self w h' (.int _)⟩
    · exact h'.elim
  · exact h'.elim
theorem cb_min (hc : X.calm = true) : CallR X (.builtin "min") (rB X.K T minA) := by
  intro pins s σ H xs us q J r ⟨rs, M, G, Q, h', w, hv, ok⟩
  unfold minA at h'
  split at h'
  · obtain ⟨v, u, rfl, hv1, hv2⟩ := vks2 hv
    unfold intW at h'
    split at h'
    · split at h'
      · cases vk_int hv1
        cases vk_int hv2
        exact call_min2 hc pins s σ H _ us q J r ⟨_, _, rfl, ok.self w h' (.int _)⟩
      · exact h'.elim
    · exact h'.elim
  · exact h'.elim
theorem cb_max (hc : X.calm = true) : CallR X (.builtin "max") (rB X.K T maxA) := by
  intro pins s σ H xs us q J r ⟨rs, M, G, Q, h', w, hv, ok⟩
  unfold maxA at h'
  split at h'
  · obtain ⟨v, u, rfl, hv1, hv2⟩ := vks2 hv
    unfold intW at h'
    split at h'
    · split at h'
      · cases vk_int hv1
        cases vk_int hv2
        exact call_max2 hc pins s σ H _ us q J r ⟨_, _, rfl, ok.self w h' (.int _)⟩
      · exact h'.elim
    · exact h'.elim
  · exact h'.elim
theorem cb_int : CallR X (.type "int") (rB X.K T intA) := by
  intro pins s σ H xs us q J r ⟨rs, M, G, Q, h', w, hv, ok⟩
  unfold intA at h'
  split at h'
  · obtain ⟨v, rfl, hv1⟩ := vks1 hv
    cases vk_int hv1
    exact call_int1 pins s σ H _ us q J r (.inl ⟨_, rfl, ok.self w h' (.int _)⟩)
  · obtain ⟨v, rfl, hv1⟩ := vks1 hv
    cases vk_bl hv1
    exact call_int1 pins s σ H _ us q J r (.inr ⟨_, rfl, ok.self w h' (.int _)⟩)
  · exact h'.elim
theorem cb_list : CallR X (.type "list") (rB X.K T listA) := by
  intro pins s σ H xs us q J r ⟨rs, M, G, Q, h', w, hv, ok⟩
  unfold listA at h'
  split at h'
  · obtain ⟨v, rfl, hv1⟩ := vks1 hv
    unfold listW at h'
    split at h'
    · obtain ⟨p, vs, rfl, h1, h2⟩ := vk_lst hv1
      exact call_list_of pins s σ H _ us q J r ⟨p, vs, rfl, .inl (w.w.ex.seq h1), fun l hl => lstW_ok h' ok w (dps_vks h2) hl⟩
    · obtain ⟨p, vs, rfl, h1, h2⟩ := vk_tup hv1
      exact call_list_of pins s σ H _ us q J r ⟨p, vs, rfl, .inr (seqT w.w.ex h1), fun l hl => lstW_ok h' ok w (dps_vks h2) hl⟩
    · obtain ⟨A, rs, C, vs, e, h3, h1, h2, _⟩ := atM_lst h' w
      have hx' : v = .ref _ := hv1
      subst hx'
      exact call_list_of pins s σ H _ us q J r ⟨_, vs, rfl, .inl (SqL.of h1), fun l hl => lstW_ok h3 ok w h2 hl⟩
    · exact h'.elim
  · exact h'.elim
theorem cb_tuple : CallR X (.type "tuple") (rB X.K T tupleA) := by
  intro pins s σ H xs us q J r ⟨rs, M, G, Q, h', w, hv, ok⟩
  unfold tupleA at h'
  split at h'
  · obtain ⟨v, rfl, hv1⟩ := vks1 hv
    unfold tupleW at h'
    split at h'
    · obtain ⟨p, vs, rfl, h1, h2⟩ := vk_lst hv1
      exact call_tuple_of pins s σ H _ us q J r ⟨p, vs, rfl, .inl ⟨w.w.ex.seq h1, fun l hl => ok.newT w h' h2 hl⟩⟩
    · obtain ⟨p, vs, rfl, h1, h2⟩ := vk_tup hv1
      exact call_tuple_of pins s σ H _ us q J r ⟨p, vs, rfl, .inr ⟨seqT w.w.ex h1, ok.self w h' hv1⟩⟩
    · obtain ⟨A, rs, C, vs, e, ⟨xs, e2, h3⟩, h1, h2, _⟩ := atM_lst h' w
      have hx' : v = .ref _ := hv1
      subst hx' e2
      exact call_tuple_of pins s σ H _ us q J r ⟨_, vs, rfl, .inl ⟨SqL.of h1, fun l hl => ok.newT w h3 (vks_dats h2) hl⟩⟩
    · exact h'.elim
  · exact h'.elim
theorem bools_of {K : PySem.W.Frag} {G : Hp} : ∀ {vs : List V} {bs : List Bool}, DpAll K G vs (bs.map .bool) → vs = bs.map V.bl
  | [], [], _ => rfl
  | [], b :: bs, h => by cases h
  | v :: vs, [], h => by cases h
  | v :: vs, b :: bs, .cons h hs => by rw [bools_of hs, vk_bl (G := G) h]; rfl
theorem ints_of {K : PySem.W.Frag} {G : Hp} : ∀ {vs : List V} {ns : List Int}, DpAll K G vs (ns.map .int) → vs = ns.map V.int
  | [], [], _ => rfl
  | [], b :: bs, h => by cases h
  | v :: vs, [], h => by cases h
  | v :: vs, b :: bs, .cons h hs => by rw [ints_of hs, vk_int (G := G) h]; rfl
theorem of_ints {K : PySem.W.Frag} {G : Hp} : ∀ {ns : List Int}, DpAll K G (ns.map V.int) (ns.map .int)
  | [] => .nil
  | n :: ns => .cons (.int n) of_ints
theorem cb_any (hc : X.calm = true) : CallR X (.builtin "any") (rB X.K T anyA) := by
  intro pins s σ H xs us q J r ⟨rs, M, G, Q, h', w, hv, ok⟩
  unfold anyA at h'
  split at h'
  · obtain ⟨v, rfl, hv1⟩ := vks1 hv
    obtain ⟨bs, rfl, h'⟩ := h'
    obtain ⟨p, vs, rfl, h1, h2⟩ := vk_lst hv1
    have e := bools_of h2
    subst e
    exact cr_any hc pins s σ H _ us q J r ⟨p, bs, rfl, w.w.ex.seq h1, ok.self w h' (.bl _)⟩
  · exact h'.elim
theorem cb_sorted : CallR X (.builtin "sorted") (rB X.K T sortedA) := by
  intro pins s σ H xs us q J r ⟨rs, M, G, Q, h', w, hv, ok⟩
  unfold sortedA at h'
  split at h'
  · obtain ⟨v, rfl, hv1⟩ := vks1 hv
    unfold rdL at h'
    split at h'
    · obtain ⟨p, vs, rfl, h1, h2⟩ := vk_lst hv1
      obtain ⟨ns, e, h'⟩ := h'
      have e2 := ints_of (K := X.K) (G := G) (ns := ns) (by have h3 := vks_dats (K := X.K) (G := G) (xs := ns.map .int) (vs := vs) (by rw [← e]; exact dps_vks h2); exact h3)
      subst e2
      exact cr_sortedI pins s σ H _ us q J r ⟨p, ns, rfl, w.w.ex.seq h1, fun ms l hp hs hl => lstW_ok (h' ms hp hs) ok w (dps_vks of_ints) hl⟩
    · obtain ⟨A, rs, C, vs, e, ⟨ns, e2, h3⟩, h1, h2, _⟩ := atM_lst h' w
      have hx' : v = .ref _ := hv1
      subst hx' e2
      have e2 := ints_of (vks_dats h2)
      subst e2
      exact cr_sortedI pins s σ H _ us q J r ⟨_, ns, rfl, SqL.of h1, fun ms l hp hs hl => lstW_ok (h3 ms hp hs) ok w (dps_vks of_ints) hl⟩
    · exact h'.elim
  · exact h'.elim
variable {W : WX} {ds : List Sv} {M : Ms} {Q : PoE} {E : Er} {a b e : Expr} {es : List Expr} {pos p : Pos}
theorem tB_of {K : PySem.W.Frag} {Wb : List Sv → Ms → PoE → Prop} {σ : L2.St} {H : Hp} {q : VK} (h : tE K T W ds M Q E σ H q) : tCB (rB K T Wb) (tA K T W ds M (fun vs M1 => Wb vs M1 Q) E) σ H q := by
  obtain ⟨G, w, s, ok, er⟩ := h
  exact ⟨G, w, s, fun rs M1 vs G1 H1 hb sg w1 hv => ⟨rs, M1, G1, Q, hb, w1, hv, ok.up sg⟩, er⟩
theorem cb_gcd : CallR X (.builtin "math.gcd") (rB X.K T gcdA) := by
  intro pins s σ H xs us q J r ⟨rs, M, G, Q, h', w, hv, ok⟩
  unfold gcdA at h'
  split at h'
  · obtain ⟨v, u, rfl, hv1, hv2⟩ := vks2 hv
    unfold intW at h'
    split at h'
    · split at h'
      · cases vk_int hv1
        cases vk_int hv2
        exact cr_gcd pins s σ H _ us q J r ⟨_, _, rfl, ok.self w h' (.int _)⟩
      · exact h'.elim
    · exact h'.elim
  · exact h'.elim
theorem lookup_mem {α : Type} : ∀ {l : List (Str × α)} {x : Str} {f : α}, l.lookup x = some f → (x, f) ∈ l
  | (y, g) :: l, x, f, h => by
    rw [List.lookup_cons] at h
    split at h
    · rename_i e
      cases h
      rw [eq_of_beq e]
      exact List.mem_cons_self
    · exact List.mem_cons_of_mem _ (lookup_mem h)
theorem blt_ok {x : Str} {f : List Sv → Ms → PoE → Prop} (hc : X.calm = true) (hg : Gl X x) (hdb : (x == ("__debug__" : Str)) = false) (hm : X.mg x = none) (hf : bltL.lookup x = some f) (ha : PA X (e :: es) (tA X.K T W ds M (fun vs M1 => f vs M1 Q) E)) (hs : (e :: es).all notStar = true) :
    PE X (.Call (.Name x p) (e :: es) [] pos) (tE X.K T W ds M Q E) := by
  rw [List.all_cons, Bool.and_eq_true] at hs
  have h1 := star_one (es := es) (env := X.env) hs.1
  have h2 := star_all (pos := pos) (env := X.env) hs.2
  have hm2 := lookup_mem hf
  simp only [bltL, List.mem_cons, Prod.mk.injEq, List.not_mem_nil, or_false] at hm2
  rcases hm2 with ⟨e1, e2⟩ | ⟨e1, e2⟩ | ⟨e1, e2⟩ | ⟨e1, e2⟩ | ⟨e1, e2⟩ | ⟨e1, e2⟩ | ⟨e1, e2⟩ | ⟨e1, e2⟩ | ⟨e1, e2⟩ <;> subst e1 e2
  · exact pe_mono (pe_callB cb_len hg hm PySem.boot_len ha (by decide) hdb h1 h2) fun σ H q h => tB_of h
  · exact pe_mono (pe_callB cb_abs hg hm (by decide +kernel) ha (by decide) hdb h1 h2) fun σ H q h => tB_of h
  · exact pe_mono (pe_callTy cb_int hg hm (by decide +kernel) ha (by decide) hdb h1 h2) fun σ H q h => tB_of h
  · exact pe_mono (pe_callTy cb_list hg hm (by decide +kernel) ha (by decide) hdb h1 h2) fun σ H q h => tB_of h
  · exact pe_mono (pe_callTy cb_tuple hg hm (by decide +kernel) ha (by decide) hdb h1 h2) fun σ H q h => tB_of h
  · exact pe_mono (pe_callB (cb_min hc) hg hm (by decide +kernel) ha (by decide) hdb h1 h2) fun σ H q h => tB_of h
  · exact pe_mono (pe_callB (cb_max hc) hg hm (by decide +kernel) ha (by decide) hdb h1 h2) fun σ H q h => tB_of h
  · exact pe_mono (pe_callB (cb_any hc) hg hm (by decide +kernel) ha (by decide) hdb h1 h2) fun σ H q h => tB_of h
  · exact pe_mono (pe_callB cb_sorted hg hm (by decide +kernel) ha (by decide) hdb h1 h2) fun σ H q h => tB_of h
theorem gcd_ok {x : Str} (hg : Gl X x) (hdb : (x == ("__debug__" : Str)) = false) (hm : X.mg x = some (.builtin "math.gcd")) (ha : PA X (e :: es) (tA X.K T W ds M (fun vs M1 => gcdA vs M1 Q) E)) (hs : (e :: es).all notStar = true) :
    PE X (.Call (.Name x p) (e :: es) [] pos) (tE X.K T W ds M Q E) := by
  rw [List.all_cons, Bool.and_eq_true] at hs
  exact pe_mono (pe_callBfun cb_gcd hg hm ha hdb (star_one hs.1) (star_all hs.2)) fun σ H q h => tB_of h
end
end Cal
/-! WpG -/
namespace Cal
open PySem PySem.Spec PyProof.Rows L2 LamX
section
variable {X : Cx} {T : Tb} {W : WX} {ds : List Sv} {M : Ms} {Q : PoE} {E : Er} {a b e : Expr} {es : List Expr} {pos p : Pos}
/-! ### methods -/
theorem tyL_ok {K : PySem.W.Frag} {v : Sv} {M : Ms} {P : Prop} {G H : Hp} {x : V} (h : tyL v M P) (w : Wt K T M G H) (hv : Vk K G x v) : tyV K "list" x H ∧ P := by
  unfold tyL at h
  split at h
  · obtain ⟨A, rs, C, vs, e, _, h1, h2, _⟩ := atM_lst h.1 w
    have hx' : x = .ref _ := hv
    subst hx'
    exact ⟨.inl ⟨rfl, _, SqL.of h1⟩, h.2⟩
  · exact h.elim
def rM0 (K : PySem.W.Frag) (T : Tb) (f : Sv → Ms → PoE → Prop) : V → List V → Hp → VK → Prop := fun v vs H q => vs = [] ∧ ∃ r M G Q, f r M Q ∧ Wt K T M G H ∧ Vk K G v r ∧ okE K T G Q q
def rM1 (K : PySem.W.Frag) (T : Tb) (f : Sv → Sv → Ms → PoE → Prop) : V → List V → Hp → VK → Prop := fun v vs H q => ∃ u, vs = [u] ∧ ∃ r r1 M G Q, f r r1 M Q ∧ Wt K T M G H ∧ Vk K G v r ∧ Vk K G u r1 ∧ okE K T G Q q
theorem vks_drop {K : PySem.W.Frag} {G : Hp} : ∀ {vs : List V} {rs : List Sv}, Vks K G vs rs → Vks K G vs.dropLast rs.dropLast
  | _, _, .nil => .nil
  | _, _, .cons h .nil => .nil
  | _, _, .cons h (.cons h2 t) => .cons h (vks_drop (.cons h2 t))
theorem mt_pop0 : MtR X "list.pop" (rM0 X.K T popW) := by
  intro pins s σ H x xs v us q J rx rs h
  obtain ⟨rfl, r, M, G, Q, h, w, hv, ok⟩ := h
  unfold popW at h
  split at h
  · obtain ⟨A, rs', C, vs, e, ⟨r, e2, hq⟩, h1, h2, _⟩ := atM_lst h w
    have hx' : x = .ref _ := hv
    subst hx' e
    obtain ⟨y, y1, y2⟩ := vks_at h2 e2
    exact mt_pop pins s σ H _ _ v us q J rx rs ⟨_, vs, y, rfl, rfl, h1, by rw [h2.len]; exact y1, ok _ _ _ G _ hq (Same.refl _) (w.mput (m' := .lst _) (vks_drop h2)) y2⟩
  · exact h.elim
theorem mt_app1 : MtR X "list.append" (rM1 X.K T appendW) := by
  intro pins s σ H x xs v us q J rx rs h
  obtain ⟨u, rfl, r, r1, M, G, Q, h, w, hv, hu, ok⟩ := h
  unfold appendW at h
  split at h
  · obtain ⟨A, rs', C, vs, e, ⟨hz, hq⟩, h1, h2, _⟩ := atM_lst h w
    have hx' : x = .ref _ := hv
    subst hx' e
    exact mt_append pins s σ H _ _ v us q J rx rs ⟨_, vs, u, rfl, rfl, h1, by rw [h2.len]; exact small1000 hz, ok (.dat .none) _ _ G _ hq (Same.refl _) (w.mput (m' := .lst _) (h2.app (.cons hu .nil))) Dp.non⟩
  · exact h.elim
theorem base_ok {o : Expr} {m : Str} {env : Env} (h : plainBase o = true) : attributeBase o m env (eval o env) = eval o env := by
  cases o <;> first | rfl | cases h
theorem m0_ok {m : Str} {ap cp : Pos} {f : Sv → Ms → PoE → Prop} {o : Expr} (hb : plainBase o = true) (hl : (ap.endLine == cp.line) = true) (hf : mtL0.lookup m = some f) (ho : PE X o (tE X.K T W ds M (fun v M1 => tyL v M1 (f v M1 Q)) E)) : PE X (.Call (.Attribute o m ap) [] [] cp) (tE X.K T W ds M Q E) := by
  have hm2 := lookup_mem hf
  simp only [mtL0, List.mem_cons, Prod.mk.injEq, List.not_mem_nil, or_false] at hm2
  obtain ⟨e1, e2⟩ := hm2
  subst e1 e2
  refine pe_mono (pe_bm0 PySem.F.plainAttrs_list PySem.F.slot_list_pop PySem.F.type_list_pop (mt_pop0 (T := T)) ho (base_ok hb) hl) fun σ H q ⟨G, w, s, ok, er⟩ => ⟨G, w, s, fun v M1 x G1 H1 h sg w1 hx => ?_, er⟩
  obtain ⟨ty, h⟩ := tyL_ok h w1 hx
  exact ⟨ty, rfl, v, M1, G1, Q, h, w1, hx, ok.up sg⟩
theorem m1_ok {m : Str} {ap cp : Pos} {f : Sv → Sv → Ms → PoE → Prop} {o : Expr} {P : Sv → Ms → Prop} (hs : notStar e = true) (hb : plainBase o = true) (hl : (ap.endLine == cp.line) = true) (hf : mtL1.lookup m = some f) (ho : PE X o (tE X.K T W ds M (fun v M1 => tyL v M1 (P v M1)) E))
    (he : ∀ v M1, P v M1 → PE X e (tE X.K T W ds M1 (fun u M2 => f v u M2 Q) E)) : PE X (.Call (.Attribute o m ap) [e] [] cp) (tE X.K T W ds M Q E) := by
  have hm2 := lookup_mem hf
  simp only [mtL1, List.mem_cons, Prod.mk.injEq, List.not_mem_nil, or_false] at hm2
  obtain ⟨e1, e2⟩ := hm2
  subst e1 e2
  have ha := pa_cons (pe_sec (X := X) (T := T) (W := W) (ds := ds) (E := E) (P := P) (Qf := fun v u M2 => appendW v u M2 Q) he) pa_nil (star_one hs)
  have h1 := star_one (es := []) (env := X.env) hs
  refine pe_mono (pe_bm PySem.F.plainAttrs_list PySem.F.slot_list_append PySem.F.type_list_append (mt_app1 (T := T)) ho ha (base_ok hb) (by rw [h1]; rfl) hl h1 rfl) fun σ H q ⟨G, w, s, ok, er⟩ => ⟨G, w, s, fun v M1 x G1 H1 h sg w1 hx => ?_, er⟩
  obtain ⟨ty, h⟩ := tyL_ok h w1 hx
  exact ⟨ty, (v, M1), h, G1, w1, s.up sg, fun u M2 y G2 H2 hf sg2 w2 hy => ⟨y, rfl, v, u, M2, G2, Q, hf, w2, hx.up sg2, hy, ok.up (sg.trans sg2)⟩, er.up sg⟩
end
/-! ### targets -/
def tGx (K : PySem.W.Frag) (T : Tb) (r : Sv) (ds : List Sv) (Qg : List Sv → Prop) (ts : List Nat) : TG := fun v σ H q => ∃ M G, Wt K T M G H ∧ Sl K G σ ds ∧ Vk K G v r ∧ ∀ ds' σ', Qg ds' → Sl K G σ' ds' → Chg ts σ σ' → q σ' H
def tGxs (K : PySem.W.Frag) (T : Tb) (rs : List Sv) (ds : List Sv) (Qg : List Sv → Prop) (ts : List Nat) : TGs := fun vs σ H q => ∃ M G, Wt K T M G H ∧ Sl K G σ ds ∧ Vks K G vs rs ∧ ∀ ds' σ', Qg ds' → Sl K G σ' ds' → Chg ts σ σ' → q σ' H
theorem pgs_ex {X : Cx} {es : List Expr} {ι : Type} {p : ι → Prop} {t : ι → TGs} (h : ∀ i, p i → PGs X es (t i)) : PGs X es (fun v σ H Q => ∃ i, p i ∧ t i v σ H Q) := ⟨fun pins s σ H v u Q I r ⟨i, hp, q⟩ => (h i hp).run pins s σ H v u Q I r q⟩
theorem asg_one {e : Expr} {es : List Expr} {env : Env} (h : notStar e = true) : assignEach (e :: es) env = (false, assign e env) :: assignEach es env := by
  cases e <;> first | rfl | cases h
theorem asg_all {env : Env} : ∀ {es : List Expr}, es.all notStar = true → (assignEach es env).length = es.length ∧ (assignEach es env).findIdx? (·.1) = none
  | [], _ => ⟨rfl, rfl⟩
  | e :: es, h => by
    rw [List.all_cons, Bool.and_eq_true] at h
    obtain ⟨h1, h2⟩ := asg_all (env := env) h.2
    rw [asg_one h.1]
    refine ⟨by rw [List.length_cons, List.length_cons, h1], ?_⟩
    rw [List.findIdx?_cons, h2]
    rfl
structure Xn (S : Sc) (X : Cx) : Prop where
  N : X.N = S.N
  sc : X.env.scope = S.sc
  fn : ∀ x, S.fn x = true → X.fn x = true
  nd : X.N.Nodup
  calm : X.calm = true
theorem Xo.n {g : Gi} {S : Sc} {X : Cx} {W : WX} (o : Xo g S X W) : Xn S X := ⟨o.N, o.sc, o.fn, o.nd, o.calm⟩
section
variable {S : Sc} {X : Cx} {T : Tb}
theorem wpGL_ok (o : Xn S X) {f : Expr → Sv → List Sv → (List Sv → Prop) → Prop} {tg : Expr → List Nat} (hf : ∀ e r ds Q, f e r ds Q → PG X e (tGx X.K T r ds Q (tg e))) : ∀ {es : List Expr} {xs : List D} {ds : List Sv} {Q : List Sv → Prop}, es.all notStar = true → wpGL f es xs ds Q → PGs X es (tGxs X.K T (dats xs) ds Q ((es.map tg).flatten))
  | [], [], ds, Q, _, h => pgs_mono pgs_nil fun vs σ H q ⟨M, G, w, s, hv, k⟩ => ⟨by cases hv; rfl, k ds σ h s fun _ _ => rfl⟩
  | [], _ :: _, ds, Q, _, h => h.elim
  | _ :: _, [], ds, Q, _, h => h.elim
  | e :: es, x :: xs, ds, Q, hs, h => by
    rw [List.all_cons, Bool.and_eq_true] at hs
    refine pgs_mono (pgs_cons (hf e (.dat x) ds _ h) (pgs_ex (ι := List Sv) (p := fun ds1 => wpGL f es xs ds1 Q) (t := fun ds1 => tGxs X.K T (dats xs) ds1 Q ((es.map tg).flatten)) fun ds1 h1 => wpGL_ok o hf hs.2 h1) (by rw [asg_one hs.1]; rfl)) fun vs σ H q ⟨M, G, w, s, hv, k⟩ => ?_
    cases hv with
    | cons hv1 hv2 =>
      refine ⟨_, _, rfl, M, G, w, s, hv1, fun ds1 σ1 h1 s1 c1 => ⟨ds1, h1, M, G, w, s1, hv2, fun ds2 σ2 h2 s2 c2 => k ds2 σ2 h2 s2 fun us hu => ?_⟩⟩
      exact (c2 us fun t ht => hu t (by rw [List.map_cons, List.flatten_cons]; exact List.mem_append_right _ ht)).trans (c1 us fun t ht => hu t (by rw [List.map_cons, List.flatten_cons]; exact List.mem_append_left _ ht))
theorem wpG_ok (o : Xn S X) : ∀ (n : Nat) (e : Expr) (r : Sv) (ds : List Sv) (Q : List Sv → Prop), wpG S n e r ds Q → PG X e (tGx X.K T r ds Q (tgSl S n e)) := by
  intro n
  induction n with
  | zero => intro e r ds Q h; unfold wpG at h; exact h.elim
  | succ n ih =>
    intro e r ds Q h
    unfold wpG at h
    split at h
    · cases ‹_ = _›
    · rename_i m x ps e1
      cases e1
      split at h
      · rename_i i hi
        obtain ⟨h1, h2, h3⟩ := slotL_ok hi
        have et : tgSl S (n + 1) (.Name x ps) = [i] := by
          unfold tgSl
          rw [hi]
        rw [et]
        refine pg_mono (pg_name (i := i) o.nd (by rw [o.N]; exact h1) (by rw [o.sc]; exact h2) (by rw [o.sc]; exact h3.imp (o.fn x) id)) fun v σ H q ⟨M, G, w, s, hv, k⟩ => k _ _ (by rw [setK_eq] at h; exact h) (s.set i hv) fun vs hvs => (wipe_put vs).1 (hvs i (by simp))
      · exact h.elim
    · rename_i m es k ps xs e1
      cases e1
      split at h
      · rename_i hc
        simp only [Bool.and_eq_true, decide_eq_true_eq] at hc
        obtain ⟨a1, a2⟩ := asg_all (env := X.env) hc.1
        have hh := wpGL_ok (T := T) o ih hc.1 h
        refine pg_mono (pg_tup o.calm hh a1 a2) fun v σ H q ⟨M, G, w, s, hv, k⟩ => ?_
        obtain ⟨p, vs, e, h1, h2⟩ := vk_tup hv
        exact ⟨p, vs, e, seqT w.w.ex h1, by rw [dps_len h2]; exact hc.2.symm, M, G, w, s, dps_vks h2, k⟩
      · exact h.elim
    · rename_i m es k ps xs e1
      cases e1
      split at h
      · rename_i hc
        simp only [Bool.and_eq_true, decide_eq_true_eq] at hc
        obtain ⟨a1, a2⟩ := asg_all (env := X.env) hc.1
        have hh := wpGL_ok (T := T) o ih hc.1 h
        refine pg_mono (pg_unl o.calm hh a1 a2) fun v σ H q ⟨M, G, w, s, hv, k⟩ => ?_
        obtain ⟨p, vs, e, h1, h2⟩ := vk_lst hv
        exact ⟨p, vs, e, w.w.ex.seq h1, by rw [dps_len h2]; exact hc.2.symm, M, G, w, s, dps_vks h2, k⟩
      · exact h.elim
    · exact h.elim
end
end Cal
/-! WpH -/
namespace Cal
open PySem PySem.Spec PyProof.Rows L2 LamX
/-! ### what is gone through -/
structure Src (K : PySem.W.Frag) (T : Tb) (J : It) (G1 : Hp) (rs : List Sv) (Kp : Ms → Prop) : Prop where
  go : ∀ i M G H, i < rs.length → Same G1 G → Wt K T M G H → Kp M → J.go i H
  stop : ∀ M G H, Same G1 G → Wt K T M G H → Kp M → J.stop rs.length H
  yld : ∀ i M G H x H', i < rs.length → Same G1 G → Wt K T M G H → Kp M → J.yld i H x H' → ∃ G' r, rs[i]? = some r ∧ Same G G' ∧ Wt K T M G' H' ∧ Vk K G' x r
  up : ∀ p M, Kp M → Kp (p :: M) := by exact fun _ _ h => h
def tI (K : PySem.W.Frag) (T : Tb) (W : WX) (ds : List Sv) (M : Ms) (Q : PoI) (E : Er) : TI := fun σ H R => ∃ G, Wt K T M G H ∧ Sl K G σ ds ∧ (∀ rs Kp M' G1 H1 J, Q rs Kp M' → Same G G1 → Wt K T M' G1 H1 → Src K T J G1 rs Kp → R J H1) ∧ erE K T G E W
section
variable {K : PySem.W.Frag} {T : Tb} {G1 : Hp} {a : Addr}
theorem dats_get {xs : List D} {i : Nat} {d : D} (h : xs[i]? = some d) : (dats xs)[i]? = some (.dat d) := by
  unfold dats
  rw [List.getElem?_map, h]
  rfl
theorem dats_len (xs : List D) : (dats xs).length = xs.length := by unfold dats; rw [List.length_map]
theorem src_list {vs : List V} {xs : List D} (h1 : SqL K G1 a vs) (h2 : DpAll K G1 vs xs) : Src K T (Itl K a) G1 (dats xs) (fun _ => True) where
  go := fun i M G H hi sg w _ => by
    rw [dats_len, ← dps_len h2] at hi
    exact ⟨vs, vs[i], (sg.trans w.w.ex).seq h1, List.getElem?_eq_getElem hi⟩
  stop := fun M G H sg w _ => ⟨vs, (sg.trans w.w.ex).seq h1, by rw [dats_len, dps_len h2]; exact Nat.le_refl _⟩
  yld := fun i M G H x H' hi sg w _ ⟨e, hy⟩ => by
    subst e
    rw [dats_len] at hi
    obtain ⟨v, e1, e2⟩ := dps_get h2 (List.getElem?_eq_getElem hi)
    have e3 := hy vs ((sg.trans w.w.ex).seq h1)
    rw [e1] at e3
    cases e3
    exact ⟨G, _, dats_get (List.getElem?_eq_getElem hi), Same.refl _, w, dpUp sg _ e2⟩
theorem src_tup {vs : List V} {xs : List D} (h1 : SqT K G1 a vs) (h2 : DpAll K G1 vs xs) : Src K T (Itt K a) G1 (dats xs) (fun _ => True) where
  go := fun i M G H hi sg w _ => by
    rw [dats_len, ← dps_len h2] at hi
    exact ⟨vs, vs[i], seqT (sg.trans w.w.ex) h1, List.getElem?_eq_getElem hi⟩
  stop := fun M G H sg w _ => ⟨vs, seqT (sg.trans w.w.ex) h1, by rw [dats_len, dps_len h2]; exact Nat.le_refl _⟩
  yld := fun i M G H x H' hi sg w _ ⟨e, hy⟩ => by
    subst e
    rw [dats_len] at hi
    obtain ⟨v, e1, e2⟩ := dps_get h2 (List.getElem?_eq_getElem hi)
    have e3 := hy vs (seqT (sg.trans w.w.ex) h1)
    rw [e1] at e3
    cases e3
    exact ⟨G, _, dats_get (List.getElem?_eq_getElem hi), Same.refl _, w, dpUp sg _ e2⟩
theorem src_raw {rs : List Sv} : Src K T (Itl K a) G1 rs (fun M => ∃ A C, M = A ++ (a, .lst rs) :: C) where
  go := fun i M G H hi sg w ⟨A, C, e⟩ => by
    subst e
    obtain ⟨vs, h1, h2, _⟩ := w.lst
    rw [← h2.len] at hi
    exact ⟨vs, vs[i], SqL.of h1, List.getElem?_eq_getElem hi⟩
  stop := fun M G H sg w ⟨A, C, e⟩ => by
    subst e
    obtain ⟨vs, h1, h2, _⟩ := w.lst
    exact ⟨vs, SqL.of h1, by rw [h2.len]; exact Nat.le_refl _⟩
  yld := fun i M G H x H' hi sg w ⟨A, C, e⟩ ⟨e2, hy⟩ => by
    subst e e2
    obtain ⟨vs, h1, h2, _⟩ := w.lst
    obtain ⟨v, z1, z2⟩ := vks_at h2 (List.getElem?_eq_getElem hi)
    have e3 := hy vs (SqL.of h1)
    rw [z1] at e3
    cases e3
    exact ⟨G, _, List.getElem?_eq_getElem hi, Same.refl _, w, z2⟩
  up := fun p M ⟨A, C, e⟩ => ⟨p :: A, C, by rw [e]; rfl⟩
theorem rng_get {i : Int} {n k : Nat} (h : k < n) : (rngS i n)[k]? = some (I (i + (k : Nat))) := by
  unfold rngS
  rw [List.getElem?_map, List.getElem?_range h]
  rfl
theorem rng_len {i : Int} {n : Nat} : (rngS i n).length = n := by unfold rngS; rw [List.length_map, List.length_range]
theorem src_rng {i : Int} {n : Nat} : Src K T (Itr i n) G1 (rngS i n) (fun _ => True) where
  go := fun k M G H hk sg w _ => by rw [rng_len] at hk; exact hk
  stop := fun M G H sg w _ => by rw [rng_len]; exact Nat.le_refl _
  yld := fun k M G H x H' hk sg w _ ⟨e, hy⟩ => by
    subst e hy
    rw [rng_len] at hk
    exact ⟨G, _, rng_get hk, Same.refl _, w, Dp.int _⟩
theorem enu_len {xs : List D} : (enuS xs).length = xs.length := by unfold enuS; rw [List.length_map, List.length_range]
theorem enu_get {xs : List D} {k : Nat} {d : D} (h : xs[k]? = some d) : (enuS xs)[k]? = some (.dat (.tuple [.int (k : Nat), d])) := by
  unfold enuS
  have hk := (List.getElem?_eq_some_iff.mp h).1
  have e : xs.getD k .none = d := by rw [List.getD_eq_getElem?_getD, h]; rfl
  rw [List.getElem?_map, List.getElem?_range hk, ← e]
  rfl
theorem src_enuL {vs : List V} {xs : List D} (h1 : SqL K G1 a vs) (h2 : DpAll K G1 vs xs) : Src K T (Ite K a) G1 (enuS xs) (fun _ => True) where
  go := fun i M G H hi sg w _ => by
    rw [enu_len, ← dps_len h2] at hi
    exact ⟨vs, vs[i], (sg.trans w.w.ex).seq h1, List.getElem?_eq_getElem hi⟩
  stop := fun M G H sg w _ => ⟨vs, (sg.trans w.w.ex).seq h1, by rw [enu_len, dps_len h2]; exact Nat.le_refl _⟩
  yld := fun i M G H x H' hi sg w _ ⟨P, y, e1, hn, e2, hy⟩ => by
    subst e1 e2
    rw [enu_len] at hi
    obtain ⟨v, z1, z2⟩ := dps_get h2 (List.getElem?_eq_getElem hi)
    have e3 := hy vs ((sg.trans w.w.ex).seq h1)
    rw [z1] at e3
    cases e3
    obtain ⟨g, w2⟩ := w.new hn (.tup [.int (i : Nat), y])
    exact ⟨_, _, enu_get (List.getElem?_eq_getElem hi), g, w2, Dp.tup (SqT.of upd_same) (.cons (.int _) (.cons (dpUp (sg.trans g) _ z2) .nil))⟩
end
section
variable {X : Cx} {T : Tb} {W : WX} {ds : List Sv} {M : Ms} {E : Er} {tg a b e : Expr} {es : List Expr} {pos p : Pos}
/-- by what a value is: one of two ways of going through -/
theorem pi_or {wi wi' : TI} {it : Expr} (h : PI X tg it wi) (h' : PI X tg it wi') : PI X tg it (fun σ H R => wi σ H R ∨ wi' σ H R) := ⟨fun pins s σ H R I q => by
  rcases q with q | q
  · exact h.run pins s σ H R I q
  · exact h'.run pins s σ H R I q⟩
theorem pi_mono {wi wi' : TI} {it : Expr} (h : PI X tg it wi) (k : ∀ σ H R, wi' σ H R → wi σ H R) : PI X tg it wi' := ⟨fun pins s σ H R I q => h.run pins s σ H R I (k σ H R q)⟩
def iSeq (K : PySem.W.Frag) (tl : TE) : TI := fun σ H R => tl σ H fun x H1 => ∃ a, x = .ref a ∧ ((∃ xs, SqL K H1 a xs ∧ R (Itl K a) H1) ∨ (∃ xs, SqT K H1 a xs ∧ R (Itt K a) H1))
theorem pi_seq {l : Expr} {tl : TE} (hl : PE X l tl) : PI X tg l (iSeq X.K tl) := by
  refine ⟨fun pins s σ H R J h => ?_⟩
  refine thn (hl.run pins s σ H _ J h) fun v s1 ⟨x, H1, I1, r1, q1⟩ => ?_
  obtain ⟨a, e, ⟨xs, hq, q⟩ | ⟨xs, hq, q⟩⟩ := q1
  · subst e
    cases r1
    obtain ⟨its, rv, p, hz⟩ := I1.list hq
    refine wpAny_pyIter_list p.isList ?_
    refine ⟨s1.heap.objs.size, [s1.heap.objs.size], _, _, H1, rfl, I1.kept (t' := s1.toks) fun b o e => Heap.get?_push_of_some _ e, turn_list a _, ⟨_, Heap.get?_push_size _ rfl, rfl, rfl⟩, fun b hb => ?_, q⟩
    have e : b = s1.heap.objs.size := by simpa using hb
    subst e
    exact I1.fpOk (Nat.le_refl _) (I1.hok.fresh (Nat.le_refl _))
  · subst e
    cases r1
    obtain ⟨its, rv, p, hz⟩ := I1.tuple hq
    refine wpAny_pyIter_tuple (show s1.heap.IsTuple a its.toArray from p) ?_
    refine ⟨s1.heap.objs.size, [s1.heap.objs.size], _, _, H1, rfl, I1.kept (t' := s1.toks) fun b o e => Heap.get?_push_of_some _ e, turn_tuple a _, ⟨_, Heap.get?_push_size _ rfl, rfl, rfl⟩, fun b hb => ?_, q⟩
    have e : b = s1.heap.objs.size := by simpa using hb
    subst e
    exact I1.fpOk (Nat.le_refl _) (I1.hok.fresh (Nat.le_refl _))
theorem pi_val {Q : PoI} (h : PE X e (tE X.K T W ds M (fun v M1 => itW v M1 Q) E)) : PI X tg e (tI X.K T W ds M Q E) := pi_mono (pi_seq h) fun σ H R ⟨G, w, s, k, er⟩ => ⟨G, w, s, fun v M' x G1 H1 hi sg w1 hx => by
  have hi : itW v M' Q := hi
  unfold itW at hi
  split at hi
  · obtain ⟨p, vs, rfl, h1, h2⟩ := vk_lst hx
    exact ⟨p, rfl, .inl ⟨vs, w1.w.ex.seq h1, k _ _ _ _ _ _ hi sg w1 (src_list h1 h2)⟩⟩
  · obtain ⟨p, vs, rfl, h1, h2⟩ := vk_tup hx
    exact ⟨p, rfl, .inr ⟨vs, seqT w1.w.ex h1, k _ _ _ _ _ _ hi sg w1 (src_tup h1 h2)⟩⟩
  · obtain ⟨A, rs, C, vs, e, h3, h1, h2, _⟩ := atM_lst hi w1
    have hx' : x = .ref _ := hx
    subst hx'
    exact ⟨_, rfl, .inl ⟨vs, SqL.of h1, k _ _ _ _ _ _ h3 sg w1 src_raw⟩⟩
  · exact hi.elim, er⟩
theorem pi_r1 {Q : PoI} (hg : Gl X "range") (hm : X.mg "range" = none) (hs : notStar a = true) (h : PE X a (tE X.K T W ds M (fun v M1 => intW v fun j => rgP j ∧ Q (rngS 0 j.toNat) (fun _ => True) M1) E)) : PI X tg (.Call (.Name "range" p) [a] [] pos) (tI X.K T W ds M Q E) :=
  pi_mono (pi_range1 hg hm (pa_cons h pa_nil (star_one hs)) (by rw [star_one hs]; rfl)) fun σ H R ⟨G, w, s, k, er⟩ => ⟨G, w, s, fun v M' x G1 H1 hi sg w1 hx => by
    have hi : intW v (fun j => rgP j ∧ Q (rngS 0 j.toNat) (fun _ => True) M') := hi
    unfold intW at hi
    split at hi
    · cases vk_int hx
      exact ⟨_, rfl, hi.1.1, hi.1.2, k _ _ _ _ _ _ hi.2 sg w1 src_rng⟩
    · exact hi.elim, er⟩
theorem pi_r2 {Q : PoI} {P : Sv → Ms → Prop} (hg : Gl X "range") (hm : X.mg "range" = none) (hs : notStar a = true) (hs2 : notStar b = true) (h : PE X a (tE X.K T W ds M P E))
    (h2 : ∀ v M1, P v M1 → PE X b (tE X.K T W ds M1 (fun u M2 => intW v fun i => intW u fun j => rgP i ∧ rgP j ∧ Q (rngS i (j - i).toNat) (fun _ => True) M2) E)) : PI X tg (.Call (.Name "range" p) [a, b] [] pos) (tI X.K T W ds M Q E) :=
  pi_mono (pi_range2 hg hm (pa_cons h (pa_cons (pe_sec (P := P) (Qf := fun v u M2 => intW v fun i => intW u fun j => rgP i ∧ rgP j ∧ Q (rngS i (j - i).toNat) (fun _ => True) M2) h2) pa_nil (star_one hs2)) (star_one hs)) (by rw [star_one hs, star_one hs2]; rfl) (by rw [star_one hs2]; rfl)) fun σ H R ⟨G, w, s, k, er⟩ =>
    ⟨G, w, s, fun v M' x G1 H1 hi sg w1 hx => ⟨(v, M'), hi, G1, w1, s.up sg, fun u M2 y G2 H2 hi2 sg2 w2 hy => by
      have hx2 := hx.up sg2
      have hi2 : intW v (fun i => intW u fun j => rgP i ∧ rgP j ∧ Q (rngS i (j - i).toNat) (fun _ => True) M2) := hi2
      unfold intW at hi2
      split at hi2
      · split at hi2
        · cases vk_int hx2
          cases vk_int hy
          exact ⟨_, _, rfl, ⟨hi2.1.1, hi2.1.2, hi2.2.1.1, hi2.2.1.2⟩, k _ _ _ _ _ _ hi2.2.2 (sg.trans sg2) w2 src_rng⟩
        · exact hi2.elim
      · exact hi2.elim, er.up sg⟩, er⟩
end
end Cal
/-! WpI -/
namespace Cal
open PySem PySem.Spec PyProof.Rows L2 LamX
structure WOk (g : Gi) (U : Wps) : Prop where
  E : ∀ {S : Sc} {X : Cx} {W : WX} {e : Expr} {ds : List Sv} {M : Ms} {Q : PoE} {Er' : Er}, Xo g S X W → U.E S e ds M Q Er' → PE X e (tE X.K g.T W ds M Q Er')
  T : ∀ {S : Sc} {X : Cx} {W : WX} {e : Expr} {ds : List Sv} {M : Ms} {Q : PoT} {Er' : Er}, Xo g S X W → U.T S e ds M Q Er' → PT X e (tT X.K g.T W ds M Q Er')
  I : ∀ {S : Sc} {X : Cx} {W : WX} {tg e : Expr} {ds : List Sv} {M : Ms} {Q : PoI} {Er' : Er}, Xo g S X W → U.I S tg e ds M Q Er' → PI X tg e (tI X.K g.T W ds M Q Er')
abbrev W0 : WX := fun _ _ _ _ => False
theorem erE0 {K : PySem.W.Frag} {T : Tb} {G : Hp} : erE K T G noE W0 := fun _ _ _ _ _ h => h.elim
section
variable {g : Gi} {U : Wps} {S : Sc} {X : Cx} {W : WX} {ds : List Sv} {M : Ms} {Q : PoE} {Er' : Er} {a b c e elt tg it : Expr} {es ifs : List Expr} {scope : Scope} {pos p : Pos}
theorem Xo.inner (o : Xo g S X W) (scope : Scope) (s : Shared) (H : Hp) (C : Addr) (cl : List (Str × Addr)) (fp : List Addr) : Xo g (inS S scope) (X.blk s H scope (compEnvC scope cl C X.env) fp) W0 where
  ok := o.ok
  N := o.N
  sc := by
    show relabel scope X.env = relS S.sc scope
    unfold relabel relS
    rw [← o.sc]
    rfl
  fn := fun x h => h
  nd := o.nd
  calm := o.calm
  room := o.room
  tk := L2.takes0
  lam := fun h => (nomatch h)
  told := fun h => ⟨(o.told h).k, (o.told h).q, (o.told h).r⟩
theorem pts_one' {t : TT} (h : PT X c t) : PTs X [c] t := pts_one h
theorem wpIfs_ok {f : Expr → Ms → PoT → Prop} {Z : Cx} (hf : ∀ e M Q, f e M Q → PT Z e (tT Z.K g.T W0 ds M Q noE)) : ∀ {es : List Expr} {M : Ms} {Q : PoT}, wpIfs f es M Q → PTs Z es (tT Z.K g.T W0 ds M Q noE)
  | [], M, Q, h => ⟨fun pins s σ H q I ⟨G, w, sl, ok, er⟩ => pts_nil.run pins s σ H q I (ok true M G H h (Same.refl _) w)⟩
  | [e], M, Q, h => pts_one (hf e M Q h)
  | _ :: _ :: _, M, Q, h => h.elim
abbrev uG (K : PySem.W.Frag) (T : Tb) (S' : Sc) (tg : Expr) : TG := fun v σ H q => ∃ z : Sv × List Sv × (List Sv → Prop), wpG S' 9 tg z.1 z.2.1 z.2.2 ∧ tGx K T z.1 z.2.1 z.2.2 (tgSl S' 9 tg) v σ H q
abbrev uT (K : PySem.W.Frag) (T : Tb) (U : Wps) (S' : Sc) (ifs : List Expr) : TT := fun σ H q => ∃ z : List Sv × Ms × PoT, wpIfs (fun e M Q => U.T S' e z.1 M Q noE) ifs z.2.1 z.2.2 ∧ tT K T W0 z.1 z.2.1 z.2.2 noE σ H q
abbrev uE (K : PySem.W.Frag) (T : Tb) (U : Wps) (S' : Sc) (elt : Expr) : TE := fun σ H q => ∃ z : List Sv × Ms × PoE, U.E S' elt z.1 z.2.1 z.2.2 noE ∧ tE K T W0 z.1 z.2.1 z.2.2 noE σ H q
theorem sub_of {ts vs : List Nat} (h : subB ts vs = true) : ∀ t ∈ ts, t ∈ vs := fun t ht => by
  unfold subB at h
  rw [List.all_eq_true] at h
  simpa using h t ht
/-- what is asked of a list comprehension -/
def lcP (U : Wps) (S' : Sc) (tg elt : Expr) (ifs : List Expr) (ds' : List Sv) (Q : PoE) (rs : List Sv) (Kp : Ms → Prop) (M1 : Ms) : Prop :=
  rs.length ≤ 1000 ∧ ∃ Inv : Nat → List Sv → Ms → Prop, Inv 0 [] M1 ∧ (∀ i acc M, i ≤ rs.length → Inv i acc M → Kp M ∧ acc.length ≤ i) ∧
    (∀ D i r acc M, rs[i]? = some r → Inv i acc M → wpG S' 9 tg r ds' fun ds' =>
      wpIfs (fun e M Q => U.T S' e ds' M Q noE) ifs ((D, .lst acc) :: M) fun b M2 => ∃ M3, M2 = (D, .lst acc) :: M3 ∧
        brP b (U.E S' elt ds' ((D, .lst acc) :: M3) (fun v M4 => ∃ M5, M4 = (D, .lst acc) :: M5 ∧ Inv (i + 1) (acc ++ [v]) M5) noE) (Inv (i + 1) acc M3)) ∧
    (∀ acc M, Inv rs.length acc M → lstW acc M Q)
theorem lc_run {S' : Sc} {own : List (Str × Nat)} {K : PySem.W.Frag} (hsub : subB (tgSl S' 9 tg) (own.map (·.2)) = true) {σ : L2.St} {H : Hp} {q : VK}
    (h : tE K g.T W ds M Q Er' σ H q) : tLc (tI K g.T W ds M (lcP U S' tg elt ifs (wipeD ds (own.map (·.2))) Q) Er') (uG K g.T S' tg) (uT K g.T U S' ifs) (uE K g.T U S' elt) (own.map (·.2)) σ H q := by
  obtain ⟨G, w, s, ok, er⟩ := h
  refine ⟨G, w, s, fun rs Kp M1 G1 H1 J hl sg w1 src D hD => ?_, er⟩
  obtain ⟨hlen, Inv, h0, hk, hstep, hend⟩ := hl
  refine ⟨fun i m H => m = rs.length - i ∧ i ≤ rs.length ∧ ∃ acc M Gi, Inv i acc M ∧ Same G1 Gi ∧ Wt K g.T ((D, .lst acc) :: M) Gi H, ⟨rs.length, by simp, Nat.zero_le _, [], M1, G1, h0, Same.refl _, w1.mnew hD (m := .lst []) .nil⟩, ?_⟩
  rintro i m Hi ⟨rfl, hi, acc, Mi, Gi, hinv, sgi, wi⟩
  obtain ⟨hkp, hal⟩ := hk i acc Mi hi hinv
  have hkp2 := src.up (D, .lst acc) Mi hkp
  by_cases hlt : i < rs.length
  · refine .inr ⟨src.go i _ Gi Hi hlt sgi wi hkp2, fun H' => ∃ acc M Gi, Inv (i + 1) acc M ∧ Same G1 Gi ∧ Wt K g.T ((D, .lst acc) :: M) Gi H', fun H' ⟨acc', M', G', z1, z2, z3⟩ => ⟨rs.length - (i + 1), by omega, rfl, by omega, acc', M', G', z1, z2, z3⟩, fun x H' hy => ?_⟩
    obtain ⟨G', r, hr, sg', w', hx⟩ := src.yld i _ Gi Hi x H' hlt sgi wi hkp2 hy
    have s' := (s.up (sg.trans (sgi.trans sg'))).wipe (own.map (·.2))
    refine ⟨(r, _, _), hstep D i r acc Mi hr hinv, _, G', w', s', hx, fun ds2 σ2 hq s2 chg => ⟨(chg _ (sub_of hsub)).trans wipe_idem, (ds2, _, _), hq, G', w', s2, fun b M2 G2 H2 hb sg2 w2 => ?_, erE0⟩⟩
    obtain ⟨M3, rfl, hb⟩ := hb
    cases b with
    | true =>
      refine iteT ⟨(ds2, (D, .lst acc) :: M3, _), hb, G2, w2, s2.up sg2, fun v M4 y G4 H4 hv sg4 w4 hy4 => ?_, erE0⟩
      obtain ⟨M5, rfl, hinv5⟩ := hv
      obtain ⟨vs', q1, q2, _⟩ := Wt.lst (A := []) w4
      exact ⟨vs', q1, by rw [q2.len]; exact small1000 (by omega), acc ++ [v], M5, G4, hinv5, sgi.trans (sg'.trans (sg2.trans sg4)), Wt.mput (A := []) w4 (m' := .lst (acc ++ [v])) (q2.app (.cons hy4 .nil))⟩
    | false => exact iteF ⟨acc, M3, G2, hb, sgi.trans (sg'.trans sg2), w2⟩
  · have e : i = rs.length := by omega
    subst e
    refine .inl ⟨src.stop _ Gi Hi sgi wi hkp2, ?_⟩
    obtain ⟨_, hl⟩ := hend acc Mi hinv
    obtain ⟨vs', q1, q2, q3⟩ := Wt.lst (A := []) wi
    rcases hl with ⟨xs, e, hq⟩ | hq
    · subst e
      obtain ⟨g2, w2⟩ := Wt.freeze (A := []) wi q1
      exact ok _ Mi _ _ _ hq (sg.trans (sgi.trans g2)) w2 (Dp.lst (SqL.of upd_same) (dpsUp g2 xs (vks_dats q2)))
    · exact ok _ _ _ _ _ (hq D) (sg.trans sgi) wi rfl
theorem lc_ok (hU : WOk g U) (o : Xo g S X W) (h1 : notSet it = true) (h2 : blkC S.N S.sc scope (ownS S scope) = true) (h3 : subB (tgSl (inS S scope) 9 tg) ((ownS S scope).map (·.2)) = true)
    (h : U.I S tg it ds M (lcP U (inS S scope) tg elt ifs (wipeD ds ((ownS S scope).map (·.2))) Q) Er') : PE X (.ListComp elt [⟨tg, it, ifs, 0⟩] scope pos) (tE X.K g.T W ds M Q Er') := by
  refine pe_mono (pe_lc (own := ownS S scope) o.calm o.nd (hU.I o h) (blkOk_by (by rw [o.N, o.sc]; exact h2))
    (g := uG X.K g.T (inS S scope) tg) (tt := uT X.K g.T U (inS S scope) ifs) (te := uE X.K g.T U (inS S scope) elt)
    (fun s H C cl fp => pg_ex (ι := Sv × List Sv × (List Sv → Prop)) (p := fun z => wpG (inS S scope) 9 tg z.1 z.2.1 z.2.2) (t := fun z => tGx X.K g.T z.1 z.2.1 z.2.2 (tgSl (inS S scope) 9 tg)) fun z hz => wpG_ok (o.inner scope s H C cl fp).n 9 tg _ _ _ hz)
    (fun s H C cl fp => pts_ex (ι := List Sv × Ms × PoT) (p := fun z => wpIfs (fun e M Q => U.T (inS S scope) e z.1 M Q noE) ifs z.2.1 z.2.2) (t := fun z => tT X.K g.T W0 z.1 z.2.1 z.2.2 noE) fun z hz => wpIfs_ok (Z := X.blk s H scope (compEnvC scope cl C X.env) fp) (fun e M Q he => hU.T (o.inner scope s H C cl fp) he) hz)
    (fun s H C cl fp => pe_ex (ι := List Sv × Ms × PoE) (p := fun z => U.E (inS S scope) elt z.1 z.2.1 z.2.2 noE) (t := fun z => tE X.K g.T W0 z.1 z.2.1 z.2.2 noE) fun z hz => hU.E (o.inner scope s H C cl fp) hz)
    (fun x => by cases it <;> first | rfl | cases h1)) fun σ H q hq => lc_run h3 hq
end
end Cal
/-! WpJ -/
namespace Cal
open PySem PySem.Spec PyProof.Rows L2 LamX
section
variable {X : Cx} {T : Tb} {W : WX} {ds : List Sv} {M : Ms} {Q : PoE} {E : Er} {a b c e : Expr} {es : List Expr} {pos : Pos}
theorem tE_self {K : PySem.W.Frag} {σ : L2.St} {H : Hp} {q : VK} {r : Sv} {v : V} (h : tE K T W ds M Q E σ H q) (hq : Q r M) (hv : ∀ G, Vk K G v r) : q v H := by
  obtain ⟨G, w, s, ok, er⟩ := h
  exact ok.self w hq (hv G)
theorem boolW_ok {K : PySem.W.Frag} {G : Hp} {v : V} {r : Sv} {P : Bool → Prop} (h : boolW r P) (hv : Vk K G v r) : ∃ b, r = B b ∧ v = .bl b ∧ P b := by
  unfold boolW at h
  split at h
  · exact ⟨_, rfl, vk_bl hv, h⟩
  · exact h.elim
theorem intW_ok {K : PySem.W.Frag} {G : Hp} {v : V} {r : Sv} {P : Int → Prop} (h : intW r P) (hv : Vk K G v r) : ∃ i, v = .int i ∧ P i := by
  unfold intW at h
  split at h
  · exact ⟨_, vk_int hv, h⟩
  · exact h.elim
/-- the second of two, by the memory alone -/
abbrev tSecM (K : PySem.W.Frag) (T : Tb) (W : WX) (ds : List Sv) (P : Ms → Prop) (Q : PoE) (E : Er) : TE := fun σ H q => ∃ M1 : Ms, P M1 ∧ tE K T W ds M1 Q E σ H q
theorem pe_secM {P : Ms → Prop} (h : ∀ M1, P M1 → PE X e (tE X.K T W ds M1 Q E)) : PE X e (tSecM X.K T W ds P Q E) := pe_ex (ι := Ms) (p := P) (t := fun M1 => tE X.K T W ds M1 Q E) h
abbrev tSecT (K : PySem.W.Frag) (T : Tb) (W : WX) (ds : List Sv) (P : Ms → Prop) (Q : PoT) (E : Er) : TT := fun σ H q => ∃ M1 : Ms, P M1 ∧ tT K T W ds M1 Q E σ H q
theorem pw_ex {e : Expr} {ι : Type} {p : ι → Prop} {t : ι → TT} (h : ∀ i, p i → PW X e (t i)) : PW X e (fun σ H Q => ∃ i, p i ∧ t i σ H Q) := ⟨fun wh pins s σ H Q I ⟨i, hp, q⟩ => (h i hp).run wh pins s σ H Q I q⟩
theorem pw_secT {P : Ms → Prop} {Q : PoT} (h : ∀ M1, P M1 → PW X e (tT X.K T W ds M1 Q E)) : PW X e (tSecT X.K T W ds P Q E) := pw_ex (ι := Ms) (p := P) (t := fun M1 => tT X.K T W ds M1 Q E) h
theorem wpAndE_ok {f : Expr → Ms → PoE → Prop} (hf : ∀ e M Q, f e M Q → PE X e (tE X.K T W ds M Q E)) : ∀ {es : List Expr} {M : Ms} {Q : PoE}, wpAndE f es M Q → PE X (.BoolOp .And es pos) (tE X.K T W ds M Q E)
  | [], M, Q, h => h.elim
  | [e], M, Q, h => pe_one (hf e M Q h)
  | e :: e2 :: es, M, Q, h => by
    refine pe_mono (pe_and (hf e M _ h) (pe_secM (P := fun M1 => wpAndE f (e2 :: es) M1 Q) fun M1 h1 => wpAndE_ok hf h1)) fun σ H q ⟨G, w, s, ok, er⟩ => ⟨G, w, s, fun v M1 x G1 H1 hb sg w1 hx => ?_, er⟩
    obtain ⟨k, _, e1, hb⟩ := boolW_ok hb hx
    subst e1
    refine ⟨k, rfl, ?_⟩
    cases k with
    | true => exact iteT ⟨M1, hb, G1, w1, s.up sg, ok.up sg, er.up sg⟩
    | false => exact iteF ((ok.up sg).self w1 hb (.bl _))
theorem wpOrE_ok {f : Expr → Ms → PoE → Prop} (hf : ∀ e M Q, f e M Q → PE X e (tE X.K T W ds M Q E)) : ∀ {es : List Expr} {M : Ms} {Q : PoE}, wpOrE f es M Q → PE X (.BoolOp .Or es pos) (tE X.K T W ds M Q E)
  | [], M, Q, h => h.elim
  | [e], M, Q, h => pe_one (hf e M Q h)
  | e :: e2 :: es, M, Q, h => by
    refine pe_mono (pe_or (hf e M _ h) (pe_secM (P := fun M1 => wpOrE f (e2 :: es) M1 Q) fun M1 h1 => wpOrE_ok hf h1)) fun σ H q ⟨G, w, s, ok, er⟩ => ⟨G, w, s, fun v M1 x G1 H1 hb sg w1 hx => ?_, er⟩
    obtain ⟨k, _, e1, hb⟩ := boolW_ok hb hx
    subst e1
    refine ⟨k, rfl, ?_⟩
    cases k with
    | true => exact iteT ((ok.up sg).self w1 hb (.bl _))
    | false => exact iteF ⟨M1, hb, G1, w1, s.up sg, ok.up sg, er.up sg⟩
theorem wpAndT_ok {f : Expr → Ms → PoT → Prop} (hf : ∀ e M Q, f e M Q → PT X e (tT X.K T W ds M Q E)) : ∀ {es : List Expr} {M : Ms} {Q : PoT}, wpAndT f es M Q → PW X (.BoolOp .And es pos) (tT X.K T W ds M Q E)
  | [], M, Q, h => h.elim
  | [e], M, Q, h => pw_and1 (hf e M Q h)
  | e :: e2 :: es, M, Q, h => by
    refine pw_mono (pw_and (hf e M _ h) (pw_secT (P := fun M1 => wpAndT f (e2 :: es) M1 Q) fun M1 h1 => wpAndT_ok hf h1)) fun σ H q ⟨G, w, s, ok, er⟩ => ⟨G, w, s, fun k M1 G1 H1 hb sg w1 => ?_, er⟩
    cases k with
    | true => exact iteT ⟨M1, hb, G1, w1, s.up sg, ok.up sg, er.up sg⟩
    | false => exact iteF (ok _ _ _ _ hb sg w1)
theorem wpOrT_ok {f : Expr → Ms → PoT → Prop} (hf : ∀ e M Q, f e M Q → PT X e (tT X.K T W ds M Q E)) : ∀ {es : List Expr} {M : Ms} {Q : PoT}, wpOrT f es M Q → PW X (.BoolOp .Or es pos) (tT X.K T W ds M Q E)
  | [], M, Q, h => h.elim
  | [e], M, Q, h => pw_or1 (hf e M Q h)
  | e :: e2 :: es, M, Q, h => by
    refine pw_mono (pw_or (hf e M _ h) (pw_secT (P := fun M1 => wpOrT f (e2 :: es) M1 Q) fun M1 h1 => wpOrT_ok hf h1)) fun σ H q ⟨G, w, s, ok, er⟩ => ⟨G, w, s, fun k M1 G1 H1 hb sg w1 => ?_, er⟩
    cases k with
    | true => exact iteT (ok _ _ _ _ hb sg w1)
    | false => exact iteF ⟨M1, hb, G1, w1, s.up sg, ok.up sg, er.up sg⟩
/-- optional ints -/
def tOo (K : PySem.W.Frag) (T : Tb) (W : WX) (ds : List Sv) (M : Ms) (Q : Option Int → Ms → Prop) (E : Er) : TO := fun σ H q => ∃ G, Wt K T M G H ∧ Sl K G σ ds ∧ (∀ o M' G' H', Q o M' → Same G G' → Wt K T M' G' H' → q o H') ∧ erE K T G E W
theorem wpO_ok {f : Expr → Ms → PoE → Prop} (hf : ∀ e M Q, f e M Q → PE X e (tE X.K T W ds M Q E)) : ∀ {o : Option Expr} {M : Ms} {Q : Option Int → Ms → Prop}, wpO f o M Q → PO X o (tOo X.K T W ds M Q E)
  | none, M, Q, h => po_mono po_none fun σ H q ⟨G, w, s, ok, er⟩ => ok none M G H h (Same.refl _) w
  | some e, M, Q, h => po_mono (po_some (hf e M _ h)) fun σ H q ⟨G, w, s, ok, er⟩ => ⟨G, w, s, fun v M1 x G1 H1 hi sg w1 hx => by
    obtain ⟨i, e1, hi⟩ := intW_ok hi hx
    exact ⟨i, e1, ok _ _ _ _ hi sg w1⟩, er⟩
theorem slice_ok {o : Expr} {lo hi : Option Expr} {p2 : Pos} {P1 : Sv → Ms → Prop} {P2 : Sv → Option Int → Ms → Prop} (h0 : PE X o (tE X.K T W ds M P1 E)) (h1 : ∀ v M1, P1 v M1 → PO X lo (tOo X.K T W ds M1 (P2 v) E))
    (h2 : ∀ v l M2, P2 v l M2 → PO X hi (tOo X.K T W ds M2 (fun h M3 => slW v l h M3 Q) E)) : PE X (.Subscript o (.Slice lo hi none p2) pos) (tE X.K T W ds M Q E) := by
  refine pe_mono (pe_slice (sl_all (T := T)) h0 (po_ex (ι := Sv × Ms) (p := fun z => P1 z.1 z.2) (t := fun z => tOo X.K T W ds z.2 (P2 z.1) E) fun z hz => h1 z.1 z.2 hz)
    (po_ex (ι := Sv × Option Int × Ms) (p := fun z => P2 z.1 z.2.1 z.2.2) (t := fun z => tOo X.K T W ds z.2.2 (fun h M3 => slW z.1 z.2.1 h M3 Q) E) fun z hz => h2 z.1 z.2.1 z.2.2 hz)) fun σ H q ⟨G, w, s, ok, er⟩ => ?_
  refine ⟨G, w, s, fun v M1 x G1 H1 hv sg w1 hx => ⟨(v, M1), hv, G1, w1, s.up sg, fun l M2 G2 H2 hl sg2 w2 => ⟨(v, l, M2), hl, G2, w2, s.up (sg.trans sg2), fun h M3 G3 H3 hh sg3 w3 => ?_, er.up (sg.trans sg2)⟩, er.up sg⟩, er⟩
  exact ⟨v, M3, G3, Q, hh, w3, hx.up (sg2.trans sg3), ok.up (sg.trans (sg2.trans sg3))⟩
end
theorem plainIx_ok {b : Expr} (h : notSlice b = true) : PlainIx b := by
  cases b <;> first | exact fun _ _ => rfl | cases h
end Cal
/-! WpK -/
namespace Cal
open PySem PySem.Spec PyProof.Rows L2 LamX
section
variable {g : Gi} {U : Wps} {S : Sc} {X : Cx} {W : WX} {ds : List Sv} {M : Ms} {Q : PoE} {Er' : Er} {pos p : Pos}
theorem usub_ok {a : Expr} {T : Tb} (h : PE X a (tE X.K T W ds M (fun v M1 => unW .USub v M1 Q) Er')) : PE X (.UnaryOp .USub a pos) (tE X.K T W ds M Q Er') := by
  refine pe_mono (pe_un un_neg h) fun σ H q ⟨G, w, s, ok, er⟩ => ⟨G, w, s, fun v M1 x G1 H1 hb sg w1 hx => ?_, er⟩
  have hb : unW .USub v M1 Q := hb
  unfold unW at hb
  split at hb
  · cases vk_int hx
    exact ⟨_, rfl, (ok.up sg).self w1 hb (.int _)⟩
  · rename_i e; cases e
  · exact hb.elim
theorem not_ok {a : Expr} {T : Tb} (h : PE X a (tE X.K T W ds M (fun v M1 => unW .Not v M1 Q) Er')) : PE X (.UnaryOp .Not a pos) (tE X.K T W ds M Q Er') := by
  refine pe_mono (pe_not h) fun σ H q ⟨G, w, s, ok, er⟩ => ⟨G, w, s, fun v M1 x G1 H1 hb sg w1 hx => ?_, er⟩
  have hb : unW .Not v M1 Q := hb
  unfold unW at hb
  split at hb
  · rename_i e; cases e
  · cases vk_bl hx
    exact ⟨_, rfl, (ok.up sg).self w1 hb (.bl _)⟩
  · exact hb.elim
theorem okB_of {K : PySem.W.Frag} {T : Tb} {G : Hp} {q : VK} (ok : okE K T G Q q) : okB K T G (fun c M3 => Q (B c) M3) q := fun b M' G' H' hb sg w => ok (B b) M' (.bl b) G' H' hb sg w (.bl b)
theorem cmp_ok {op : CmpOp} {a b : Expr} {T : Tb} {P : Sv → Ms → Prop} (hu : X.A.units + 65 < cLine) (hm : behindInMarks op b = false) (ha : PE X a (tE X.K T W ds M P Er')) (hb : ∀ va M1, P va M1 → PE X b (tE X.K T W ds M1 (fun vb M2 => cmpW op va vb M2 fun c M3 => Q (B c) M3) Er')) :
    PE X (.Compare a [op] [b] pos) (tE X.K T W ds M Q Er') :=
  pe_mono (pe_cmpR (op_cmp (T := T) hu) ha (pe_sec (Qf := fun va vb M2 => cmpW op va vb M2 fun c M3 => Q (B c) M3) hb) hm) fun σ H q h => tOp_of (fun va vb M2 G x y H q hq w hx hy ok => ⟨va, vb, M2, G, _, hq, w, hx, hy, okB_of ok⟩) h
theorem tTest_of {K : PySem.W.Frag} {T : Tb} {r2 : R2} {P : Sv → Ms → Prop} {Qf : Sv → PoE} {Qt : PoT} {σ : L2.St} {H : Hp} {q : Bool → Hp → Prop} (hop : ∀ va vb M2 G x y H (q : VK), Qf va vb M2 → Wt K T M2 G H → Vk K G x va → Vk K G y vb → okB K T G Qt q → r2 x y H q) (h : tT K T W ds M Qt Er' σ H q) :
    tTest (tOp r2 (tE K T W ds M P Er') (tSec K T W ds P Qf Er')) σ H q := by
  obtain ⟨G, w, s, ok, er⟩ := h
  exact ⟨G, w, s, fun va M1 x G1 H1 hB sg w1 hx => ⟨(va, M1), hB, G1, w1, s.up sg, fun vb M2 y G2 H2 hQ sg2 w2 hy => hop va vb M2 G2 x y H2 _ hQ w2 (hx.up sg2) hy fun b M3 G3 H3 hb sg3 w3 => ⟨b, rfl, ok b M3 G3 H3 hb (sg.trans (sg2.trans sg3)) w3⟩, er.up sg⟩, er⟩
theorem cmpT_ok {op : CmpOp} {a b : Expr} {T : Tb} {P : Sv → Ms → Prop} {Qt : PoT} (hu : X.A.units + 65 < cLine) (hm : behindInMarks op b = false) (ha : PE X a (tE X.K T W ds M P Er')) (hb : ∀ va M1, P va M1 → PE X b (tE X.K T W ds M1 (fun vb M2 => cmpW op va vb M2 Qt) Er')) :
    PT X (.Compare a [op] [b] pos) (tT X.K T W ds M Qt Er') :=
  pt_mono (pt_cmpR (op_cmp (T := T) hu) ha (pe_sec (Qf := fun va vb M2 => cmpW op va vb M2 Qt) hb) hm) fun σ H q h => tTest_of (fun va vb M2 G x y H q hq w hx hy ok => ⟨va, vb, M2, G, _, hq, w, hx, hy, ok⟩) h
/-- a op b op' c -/
theorem chain_run {op op' : CmpOp} {T : Tb} {K : PySem.W.Frag} {P : Sv → Ms → Prop} {Qb : PoT} {Pc : Sv → Ms → Prop} {σ : L2.St} {H : Hp} {q : VK} (hq : ∀ G : Hp, True) {G : Hp} (w : Wt K T M G H) (s : Sl K G σ ds) (ok : okB K T G Qb q) (er : erE K T G Er' W) :
    tChain (rCmp K T op) (rCmp K T op') (tE K T W ds M P Er') (tSec K T W ds P (fun va vb M2 => cmpW op va vb M2 fun k M3 => brP k (Pc vb M3) (Qb false M3)) Er') (tSec K T W ds Pc (fun vb vc M4 => cmpW op' vb vc M4 Qb) Er') σ H q := by
  refine ⟨G, w, s, fun va M1 x G1 H1 hB sg w1 hx => ⟨(va, M1), hB, G1, w1, s.up sg, fun vb M2 y G2 H2 hQ sg2 w2 hy => ⟨va, vb, M2, G2, _, hQ, w2, hx.up sg2, hy, fun k M3 G3 H3 hk sg3 w3 => ⟨k, rfl, ?_⟩⟩, er.up sg⟩, er⟩
  cases k with
  | true => exact iteT ⟨(vb, M3), hk, G3, w3, s.up (sg.trans (sg2.trans sg3)), fun vc M4 z G4 H4 hc sg4 w4 hz => ⟨vb, vc, M4, G4, Qb, hc, w4, hy.up (sg3.trans sg4), hz, fun b M5 G5 H5 hb sg5 w5 => ok b M5 G5 H5 hb (sg.trans (sg2.trans (sg3.trans (sg4.trans sg5)))) w5⟩, er.up (sg.trans (sg2.trans sg3))⟩
  | false => exact iteF (ok false M3 G3 H3 hk (sg.trans (sg2.trans sg3)) w3)
theorem chain_ok {op op' : CmpOp} {a b c : Expr} {T : Tb} {P Pc : Sv → Ms → Prop} (hu : X.A.units + 65 < cLine) (hm : lastMarks [op, op'] [b, c] = false) (ha : PE X a (tE X.K T W ds M P Er'))
    (hb : ∀ va M1, P va M1 → PE X b (tE X.K T W ds M1 (fun vb M2 => cmpW op va vb M2 fun k M3 => brP k (Pc vb M3) (Q (B false) M3)) Er')) (hc : ∀ vb M3, Pc vb M3 → PE X c (tE X.K T W ds M3 (fun vc M4 => cmpW op' vb vc M4 fun k M5 => Q (B k) M5) Er')) :
    PE X (.Compare a [op, op'] [b, c] pos) (tE X.K T W ds M Q Er') :=
  pe_mono (pe_chain (op_cmp (T := T) hu) (op_cmp (T := T) hu) ha (pe_sec (Qf := fun va vb M2 => cmpW op va vb M2 fun k M3 => brP k (Pc vb M3) (Q (B false) M3)) hb) (pe_sec (Qf := fun vb vc M4 => cmpW op' vb vc M4 fun k M5 => Q (B k) M5) hc) hm)
    fun σ H q ⟨G, w, s, ok, er⟩ => chain_run (Qb := fun k M5 => Q (B k) M5) (fun _ => trivial) w s (okB_of ok) er
theorem chainT_ok {op op' : CmpOp} {a b c : Expr} {T : Tb} {P Pc : Sv → Ms → Prop} {Qt : PoT} (hu : X.A.units + 65 < cLine) (hm : lastMarks [op, op'] [b, c] = false) (ha : PE X a (tE X.K T W ds M P Er'))
    (hb : ∀ va M1, P va M1 → PE X b (tE X.K T W ds M1 (fun vb M2 => cmpW op va vb M2 fun k M3 => brP k (Pc vb M3) (Qt false M3)) Er')) (hc : ∀ vb M3, Pc vb M3 → PE X c (tE X.K T W ds M3 (fun vc M4 => cmpW op' vb vc M4 Qt) Er')) :
    PT X (.Compare a [op, op'] [b, c] pos) (tT X.K T W ds M Qt Er') :=
  pt_mono (pt_chain (op_cmp (T := T) hu) (op_cmp (T := T) hu) ha (pe_sec (Qf := fun va vb M2 => cmpW op va vb M2 fun k M3 => brP k (Pc vb M3) (Qt false M3)) hb) (pe_sec (Qf := fun vb vc M4 => cmpW op' vb vc M4 Qt) hc) hm)
    fun σ H q ⟨G, w, s, ok, er⟩ => chain_run (Qb := Qt) (fun _ => trivial) w s (fun b M' G' H' hb sg w' => ⟨b, rfl, ok b M' G' H' hb sg w'⟩) er
theorem call_ok (o : Xo g S X W) {x : Str} {es : List Expr} {s : Sig} (hs : es.all notStar = true) (hg : Gl X x) (hdb : (x == ("__debug__" : Str)) = false) (hf : FnP X.prog X.w X.K X.mg X.base g.T g.k x s)
    {f : Expr → Ms → PoE → Prop} (hE : ∀ e M Q, f e M Q → PE X e (tE X.K g.T W ds M Q Er')) (h : wpL f es M (fun vs M1 => vs.length + s.dr.length = s.n ∧ s.T (vs ++ s.dr) M1 Q Er')) : PE X (.Call (.Name x p) es [] pos) (tE X.K g.T W ds M Q Er') := by
  obtain ⟨fa, fd, ps, us, dvs, F, h1, h2, h3, h4, h5⟩ := hf.ex
  have key : ∀ (σ : L2.St) (H : Hp) (q : VK) (rs : List Sv) (M1 : Ms) (vs : List V) (G : Hp), rs.length + s.dr.length = s.n → s.T (rs ++ s.dr) M1 Q Er' → Wt X.K g.T M1 G H → Vks X.K G vs rs → okE X.K g.T G Q q → erE X.K g.T G Er' W → spP X.K g.T s (vs ++ dvs) H q (WE W σ) := fun σ H q rs M1 vs G hl hT w hv ok er =>
    ⟨G, rs ++ s.dr, M1, Q, Er', by rw [List.length_append, hv.len, (h5 G).len]; exact hl, w, hv.app (h5 G), hT, ok, fun c M' G' H' he sg w' => er c M' G' H' σ he sg w'⟩
  cases es with
  | nil =>
    refine pe_mono (pe_callD0 (E := WE W) F o.room hg h1 h2 h3 h4 (passAt o.tk) hdb) fun σ H q ⟨G, w, sl, ok, er⟩ => ?_
    have h' : ([] : List Sv).length + s.dr.length = s.n ∧ s.T ([] ++ s.dr) M Q Er' := h
    exact key σ H q [] M [] G h'.1 h'.2 w .nil ok er
  | cons e es =>
    have ha := wpL_ok hE hs h
    rw [List.all_cons, Bool.and_eq_true] at hs
    refine pe_mono (pe_callD (E := WE W) F o.room hg h1 h2 h3 h4 (passAt o.tk) ha hdb (star_one hs.1) (star_all hs.2)) fun σ H q ⟨G, w, sl, ok, er⟩ => ?_
    exact ⟨G, w, sl, fun rs M1 vs G1 H1 ⟨hl, hT⟩ sg w1 hv => key σ H1 q rs M1 vs G1 hl hT w1 hv (ok.up sg) (er.up sg), er⟩
theorem callL_ok (o : Xo g S X W) {x y : Str} {es : List Expr} {s : Sig} {i : Nat} (hs : es.all notStar = true) (hne : es ≠ []) (hi : slotV S x = some i) (hd : ds[i]? = some (.raw (.ref (g.fa y)))) (hf : FnP X.prog X.w X.K X.mg X.base g.T g.k y s) (hfa : X.mg y = some (.ref (g.fa y)))
    {f : Expr → Ms → PoE → Prop} (hE : ∀ e M Q, f e M Q → PE X e (tE X.K g.T W ds M Q Er')) (h : wpL f es M (fun vs M1 => vs.length + s.dr.length = s.n ∧ s.T (vs ++ s.dr) M1 Q Er')) : PE X (.Call (.Name x p) es [] pos) (tE X.K g.T W ds M Q Er') := by
  obtain ⟨h1, h2, h3, h4⟩ := slotV_ok hi
  obtain ⟨fa, fd, ps, us, dvs, F, m2, m3, m4, m5, m6⟩ := hf.ex
  have ea : fa = g.fa y := by
    rw [hfa] at m2
    exact (Value.ref.inj (Option.some.inj m2)).symm
  subst ea
  cases es with
  | nil => exact absurd rfl hne
  | cons e es =>
    have ha := wpL_ok hE hs h
    rw [List.all_cons, Bool.and_eq_true] at hs
    refine pe_mono (pe_callDL (E := WE W) F o.room (o.at h1) (o.vis h2) m3 m4 m5 (passAt o.tk) ha h3 h4 (star_one hs.1) (star_all hs.2)) fun σ H q ⟨G, w, sl, ok, er⟩ => ?_
    obtain ⟨v, z1, z2⟩ := sl.val hd (by intro z; cases z)
    have z2' : v = .ref (g.fa y) := z2
    subst z2'
    exact ⟨z1, G, w, sl, fun rs M1 vs G1 H1 ⟨hl, hT⟩ sg w1 hv => ⟨G1, rs ++ s.dr, M1, Q, Er', by rw [List.length_append, hv.len, (m6 G1).len]; exact hl, w1, hv.app (m6 G1), hT, ok.up sg, fun c M' G' H' he sg2 w' => er c M' G' H' σ he (sg.trans sg2) w'⟩, er⟩
theorem findI {ds : List Sv} {i : Nat} {P : Sv → Prop} (h : getD ds i P) : ∃ r, ds[i]? = some r ∧ r ≠ .no ∧ P r := by
  unfold getD at h
  split at h
  · exact h.elim
  · rename_i r hr
    exact ⟨_, by assumption, by intro z; subst z; exact absurd rfl (by assumption), h⟩
  · exact h.elim
end
/-- told(arg), where arg comes to be such a lambda -/
theorem pe_toldX {X : Cx} {es : List (Addr × Str)} {x a : Str} {g : Addr} {k : Nat} {pg : Arguments} {bg : List Stmt} {sg : Scope} {dV kV doc pm cdv ct oc : Value} {an od : Option Addr} {osl : Array (Option Value)} {Ng : List Str} {arg : Expr} {ta : TE} {p pos : Pos}
    (hg : Gl X x) (hm : X.mg x = some (.ref g)) (hk : PySem.W.keepIn X.K (.ref g) = true)
    (lk : X.K.lookup g = some ⟨oc, od, .func (PySem.W.fnOf x x pg bg sg dV kV doc pm an cdv ct), osl⟩) (hcg : PySem.W.codeIn X.K cdv x = true) (hb : L2.Binds X.K (PySem.W.fnOf x x pg bg sg dV kV doc pm an cdv ct) [a] []) (Sg : FnScope Ng [a] sg) (hNg : Ng[0]? = some a) (hva : Vis sg a)
    (hG : GivesTo X Ng x sg g cdv bg a (X.env.qual ++ "<lambda>") (TT9 X.K es)) (harg : PE X arg ta) (hr : Room (k + 2) X.A)
    (hdb : (x == ("__debug__" : Str)) = false) (hd : (a == ("__debug__" : Str)) = false) (hcd : (a == ("__classdict__" : Str)) = false) (he : starEach (arg :: []) X.env = (false, eval arg X.env) :: starEach [] X.env) :
    PE X (.Call (.Name x p) [arg] [] pos) (fun σ H Q => ta σ H fun v H1 => ∃ (L : Lf) (f c' : Addr), v = .ref f ∧ LamS X.env.scope L.scope ∧ L.qual = X.env.qual ++ "<lambda>" ∧ cloFrom X.env.cells L.scope.names [] = [] ∧
      (∀ pm cv ctv, bindArgs (PySem.W.kla_fn "<lambda>" L.qual L.params L.body L.scope [] pm cv ctv) ⟨[], []⟩ = pure []) ∧ H1 c' = some (CodeO c' (X.env.qual ++ "<lambda>")) ∧ H1 f = some (LamO f L c') ∧
      ∃ t : XK → TE, (∀ (A : Around) (outer : List Env) (s : Shared) (H : Hp) (E : XK) (f c' : Addr), Room k (A.deeper (lamEnv X L.scope s.heap.objs.size f c')) → PE (lamCx X A outer s H E L.scope f c') L.body (t E)) ∧ TT9 X.K es (fun E H' Q' => H' f = some (LamO f L c') ∧ t E σ H' Q') H1 Q) := by
  refine ⟨fun pins s σ H Q I h => ?_⟩
  refine wpAny_Call_Name_kw (ld_glob I hg hm ?_ hdb)
  refine PySem.W.callWith_K (h₀ := X.base) I.ok.mod.kin hk ?_ he (by rfl)
  rw [he]
  show wpAny _ _ (spliced ((false, eval arg X.env) :: backTo pos (starEach [] X.env))) _ _ s
  refine Calls.spliced_cons (thn (harg.run pins s σ H _ I h) fun u s' ⟨v, H1, I1, r1, L, f, c', ev, Ls, hq, hcl, hbind, hco, hlo, t, hbody, hT⟩ => ?_)
  subst ev
  obtain rfl : u = Value.ref f := r1
  refine Calls.spliced_nil ⟨I1.kIn, ?_⟩
  have rc : codeAny (model X.prog X.w) X.A (.call (.ref g) ⟨[.ref f], []⟩) (CR C8.CX0 X.stack X.prog X.w H1 s' Q C8.E0) s' := by
    refine run_ofS (N := Ng) (ps := [a]) (us := [.ref f]) (vs := [.ref f]) lk hcg Sg hr I1.env0 (hb s' [.ref f] I1.kIn rfl) (.cons rfl .nil) rfl fun hr' => ?_
    obtain ⟨t', ht', hq'⟩ := hG f c' s' H1 Q (fun E H' Q' => H' f = some (LamO f L c') ∧ t E σ H' Q') (fun W pn xe E p1 p2 tk hW => pe_actK (i := 0) I1 Ls hq hcl hbind tk hW hr' (fun A outer s H hr2 => hbody A outer s H E f c' hr2) hNg hva hd hcd) hco hT
    exact ⟨t', ht'.nox, hq'⟩
  refine wpAny_call (codeAny_mono rc fun r s2 hq => ?_)
  cases r with
  | error e => exact (show False from hq).elim
  | ok fl =>
    cases fl with
    | ret u => exact I1.after hq
    | next => exact False.elim hq
    | brk => exact False.elim hq
    | cont => exact False.elim hq
/-- (lambda: .., text) -/
theorem pair_ok {g : Gi} {S : Sc} {X : Cx} {W : WX} {ds : List Sv} {M : Ms} {Q : PoE} {Er' : Er} {params : Arguments} {body : Expr} {scope : Scope} {t : Str} {p0 p1 p3 : Pos} {j kk : Nat} {c P : Addr} (o : Xo g S X W) (hM : Lsts M) (TB : TabB X.base X.mg c P) (hcode : X.env.code = .ref c) (hm : (P, g.lq) ∈ g.T) (hu : ∀ p ∈ g.T, p.1 = P → p.2 = g.lq) (hq : X.env.qual ++ "<lambda>" = g.lq)
    (hd : defaultsOf params X.env = ([], [])) (hfree : ∀ y ∈ scope.names, y.2 ≠ .free) (hcl : cloFrom X.env.cells scope.names [] = []) (h : Q (pairLS ⟨g.lq, params, body, scope⟩ t) M) :
    PE X (.Tuple [.Lambda params body scope p0, .Constant (.str t) j p1] kk p3) (tE X.K g.T W ds M Q Er') := by
  refine pe_mono (pe_tup (xa_cons (xw_lam hM TB hcode (by rw [hq]; exact hm) (by rw [hq]; exact hu) hd hfree hcl) (xa_cons (xw_pd hM pd_str) xa_nil))) fun σ H q ⟨G, w, s, ok, er⟩ => ⟨G, w.w, w.t, s, fun vs G' H' g' w' t' hv => ⟨by rw [hv.len]; show 2 ≤ sizeLine; decide, fun a ha => ?_⟩⟩
  have p2 := Po.new w' ha (.tup vs)
  cases hv with
  | cons h1 h2 =>
    cases h2 with
    | cons h2 h3 =>
      cases h3
      obtain ⟨f, c', rfl, k1, k2⟩ := vk_sLam h1
      have e2 := vk_str h2
      subst e2
      refine ok _ M _ _ _ h (g'.trans p2.g) ⟨p2.w, tabs_po hM t' w' p2⟩ ⟨_, Same.refl _, a, f, c', rfl, upd_same, ?_, ?_⟩
      · rw [upd_ne (ne_of_none (w'.ex _ _ k1) ha), k1, hq]
      · rw [upd_ne (ne_of_none (w'.ex _ _ k2) ha), k2, hq]
theorem told_ok {g : Gi} {U : Wps} {S : Sc} {X : Cx} {W : WX} {ds : List Sv} {M : Ms} {Q : PoE} {Er' : Er} {x : Str} {p pos : Pos} {es : List Expr} (hU : WOk g U) (o : Xo g S X W) (ht : S.tq = true) (hx : x = ("_law_told" : Str))
    (h : toldW g U S x es ds M Q Er') : PE X (.Call (.Name x p) es [] pos) (tE X.K g.T W ds M Q Er') := by
  subst hx
  obtain ⟨⟨params0, body0, scope0, a, fd, FD, hm, Sf, hv, hbd, hG⟩, hq, hr⟩ := o.told ht
  have hb := FD.bindsN hbd
  have hk := FD.kp
  obtain ⟨oc, od, dV, kV, doc, pm, an, cdv, ct, osl, rfl, lk, hcg, _, _⟩ := FD.ex
  have hG2 : GivesTo X ["what"] "_law_told" scope0 a cdv body0 "what" (X.env.qual ++ "<lambda>") (TT9 X.K g.es) := by rw [hq]; exact hG X rfl rfl cdv
  have body : ∀ (scope : Scope) (e : Expr) (M : Ms), U.E (lamI S scope) e ds M Q (fun c M1 => ∃ t, (c, t) ∈ g.es ∧ Q (.dat (.str t)) M1) → ∀ (A : Around) (outer : List Env) (s : Shared) (H : Hp) (E : XK) (f c' : Addr), Room g.k (A.deeper (lamEnv X scope s.heap.objs.size f c')) → PE (lamCx X A outer s H E scope f c') e (tE X.K g.T (wE E) ds M Q (fun c M1 => ∃ t, (c, t) ∈ g.es ∧ Q (.dat (.str t)) M1)) := fun scope e M h A outer s H E f c' hr => hU.E (S := lamI S scope) ⟨o.ok, o.N, rfl, fun _ z => (nomatch z), o.nd, rfl, hr, takes_of rfl rfl rfl rfl, fun z => (nomatch z), fun z => (nomatch z)⟩ h
  unfold toldW at h
  split at h
  · rename_i pr bd sco lps
    split at h
    · exact h.elim
    · rename_i hc
      simp only [Bool.and_eq_true] at hc
      obtain ⟨c, P, TB, hcode, hmT, hu⟩ := (o.lam hc.1.2).ex
      obtain ⟨hM, hd, hbind, h⟩ := h
      have Ls : LamS X.env.scope sco := by rw [o.sc]; exact lamS_by hc.2
      refine pe_mono (pe_lamcall (k := g.k) (t := fun E => tE X.K g.T (wE E) ds M Q (fun c M1 => ∃ t, (c, t) ∈ g.es ∧ Q (.dat (.str t)) M1)) (o.gl hc.1.1).1 hm hk lk hcg hb Sf rfl hv hG2 TB hcode (by rw [hq]; exact hmT) (by rw [hq]; exact hu) hr Ls (hd _) hbind (fun A outer s H E f c' hr2 => body sco bd M h A outer s H E f c' hr2)) fun σ H q ⟨G, w, s, ok, er⟩ => ?_
      exact ⟨w.t, fun H1 eN T1 => ⟨G, ⟨wo_ext hM w.w eN, T1⟩, s, ok, fun c M' G' H' σ' ⟨t, ht, hq⟩ sg w' => ⟨(c, t), ht, rfl, ok _ _ _ _ _ hq sg w' (.str _)⟩⟩⟩
  · split at h
    · exact h.elim
    · rename_i sa sb sp hg
      have gl := (o.gl hg).1
      refine ⟨fun pins s σ H q I ⟨G, w, sl, ok, er⟩ => ?_⟩
      have hdb : (("_law_told" : Str) == ("__debug__" : Str)) = false := by decide
      refine (pe_mono (pe_toldX (k := g.k) (es := g.es) gl hm hk lk hcg hb Sf rfl hv hG2 (hU.E o h) hr hdb (by decide) (by decide) rfl) (t' := tE X.K g.T W ds M Q Er') fun σ H q ⟨G, w, s, ok, er⟩ => ⟨G, w, s, fun v M1 x G1 H1 hQ sg w1 hv1 => ?_, er⟩).run pins s σ H q I ⟨G, w, sl, ok, er⟩
      obtain ⟨L, e, hql, hls, hcl, hbind, hB⟩ := hQ
      subst e
      obtain ⟨f, c', rfl, h1, h2⟩ := vk_sLam hv1
      refine ⟨L, f, c', rfl, by rw [o.sc]; exact lamS_by hls, hql.trans hq.symm, hcl _, hbind, by rw [hq, ← hql]; exact w1.w.ex _ _ h2, w1.w.ex _ _ h1, fun E => tE X.K g.T (wE E) ds M1 Q (fun c M1 => ∃ t, (c, t) ∈ g.es ∧ Q (.dat (.str t)) M1), fun A outer s H E f c' hr2 => body _ _ M1 hB A outer s H E f c' hr2, ?_⟩
      exact ⟨w1.w.ex _ _ h1, G1, w1, s.up sg, ok.up sg, fun c M' G' H' σ' ⟨t, ht, hq⟩ sg' w' => ⟨(c, t), ht, rfl, (ok.up sg) _ _ _ _ _ hq sg' w' (.str _)⟩⟩
  · exact h.elim
section
variable {g : Gi} {U : Wps}
theorem stepE_ok (hU : WOk g U) {S : Sc} {X : Cx} {W : WX} {e : Expr} {ds : List Sv} {M : Ms} {Q : PoE} {Er' : Er} (o : Xo g S X W) (h : (stepW g U).E S e ds M Q Er') : PE X e (tE X.K g.T W ds M Q Er') := by
  have hE : ∀ (e : Expr) (M : Ms) (Q : PoE), U.E S e ds M Q Er' → PE X e (tE X.K g.T W ds M Q Er') := fun e M Q h => hU.E o h
  unfold stepW at h
  dsimp only at h
  split at h
  · split at h
    · exact pe_mono pe_int fun σ H q hq => tE_self hq h fun _ => .int _
    · exact pe_mono pe_bl fun σ H q hq => tE_self hq h fun _ => .bl _
    · exact pe_mono pe_str fun σ H q hq => tE_self hq h fun _ => .str _
    · exact pe_mono pe_non fun σ H q hq => tE_self hq h fun _ => Dp.non
    · exact h.elim
  · rename_i x ps
    split at h
    · rename_i i hi
      obtain ⟨h1, h2, h3, h4⟩ := slotV_ok hi
      obtain ⟨r, e1, e2, h⟩ := findI h
      refine pe_mono (pe_var (o.at h1) (o.vis h2) h3 h4) fun σ H q ⟨G, w, s, ok, er⟩ => ?_
      obtain ⟨v, z1, z2⟩ := s.val e1 e2
      exact ⟨v, z1, ok.self w h z2⟩
    · split at h
      · rename_i hg
        obtain ⟨g1, g2⟩ := o.gl hg
        split at h
        · rename_i r hr
          obtain ⟨v, u, m1, m2, m3⟩ := o.ok.gv x r hr
          exact pe_mono (pe_glob g1 m1 m2 g2) fun σ H q hq => tE_self hq h m3
        · exact h.elim
      · exact h.elim
  · exact pe_mono (pe_op (op_bin (T := g.T)) (hU.E o h) (pe_sec (P := fun va M1 => U.E S _ ds M1 (fun vb M2 => binW _ va vb M2 Q) Er') (Qf := fun va vb M2 => binW _ va vb M2 Q) fun va M1 h1 => hU.E o h1)) fun σ H q hq => tOp_of (fun va vb M2 G x y H q hq w hx hy ok => ⟨va, vb, M2, G, _, hq, w, hx, hy, ok⟩) hq
  · exact usub_ok (hU.E o h)
  · exact not_ok (hU.E o h)
  · split at h
    · rename_i hm
      exact cmp_ok o.units hm (hU.E o h) fun va M1 h1 => hU.E o h1
    · exact h.elim
  · split at h
    · rename_i hm
      exact chain_ok (Pc := fun vb M3 => U.E S _ ds M3 (fun vc M4 => cmpW _ vb vc M4 fun k' M5 => Q (B k') M5) Er') o.units hm (hU.E o h) (fun va M1 h1 => hU.E o h1) fun vb M3 h3 => hU.E o h3
    · exact h.elim
  · exact wpAndE_ok hE h
  · exact wpOrE_ok hE h
  · rename_i c a b ps
    refine pe_mono (pe_ifExp (hU.T o h) (pe_secM (P := fun M1 => U.E S a ds M1 Q Er') fun M1 h1 => hU.E o h1) (pe_secM (P := fun M1 => U.E S b ds M1 Q Er') fun M1 h1 => hU.E o h1)) fun σ H q ⟨G, w, s, ok, er⟩ => ⟨G, w, s, fun k M1 G1 H1 hb sg w1 => ?_, er⟩
    cases k with
    | true => exact iteT ⟨M1, hb, G1, w1, s.up sg, ok.up sg, er.up sg⟩
    | false => exact iteF ⟨M1, hb, G1, w1, s.up sg, ok.up sg, er.up sg⟩
  · rename_i params body scope p0 t p1 p2 p3 p4
    split at h
    · rename_i hl
      obtain ⟨c, P, TB, hcode, hmT, hu⟩ := (o.lam hl).ex
      obtain ⟨hM, hd, hcl, hfree, h⟩ := h
      have hqq := (o.lam hl).q
      exact pair_ok o hM TB hcode hmT hu hqq (hd _) hfree (hcl _) h
    · exact h.elim
  · split at h
    · exact h.elim
    · rename_i es k ps hno hs
      refine pe_mono (pe_tup (wpL_ok hE hs h)) fun σ H q ⟨G, w, s, ok, er⟩ => ⟨G, w, s, fun rs M1 vs G1 H1 hq sg w1 hv => ?_, er⟩
      have hk : tupW rs M1 Q := hq
      clear hq
      unfold tupW at hk
      split at hk
      · rename_i xs hx
        split at hk
        · rename_i hz
          have e1 := undat_ok hx
          subst e1
          have hd := vks_dats hv
          exact ⟨by rw [dps_len hd]; exact Nat.le_of_lt (small1000 (Nat.le_of_ble_eq_true hz)), fun p hp => (ok.up sg).newT w1 hk hd hp⟩
        · exact hk.elim
      · exact hk.elim
  · split at h
    · exact h.elim
    · rename_i es ps hs
      refine pe_mono (pe_lst (wpL_ok hE hs h)) fun σ H q ⟨G, w, s, ok, er⟩ => ⟨G, w, s, fun rs M1 vs G1 H1 hq sg w1 hv => ?_, er⟩
      have hk : dspW rs M1 Q := hq
      clear hq
      unfold dspW at hk
      split at hk
      · rename_i hz
        refine ⟨by rw [hv.len]; exact Nat.le_of_lt (small1000 (Nat.le_of_ble_eq_true hz)), fun p hp => ?_⟩
        rcases hk with hk | hk
        · split at hk
          · rename_i xs hx
            have e1 := undat_ok hx
            subst e1
            exact (ok.up sg).newL w1 hk (vks_dats hv) hp
          · exact hk.elim
        · exact (ok.up sg).newM w1 hk hv hp
      · exact hk.elim
  · rename_i x ps es ps2
    split at h
    · rename_i hq
      simp only [Bool.and_eq_true] at hq
      exact told_ok hU o hq.1 (eq_of_beq hq.2) h
    split at h
    · exact h.elim
    · rename_i hs
      split at h
      · split at h
        · rename_i i hi
          split at h
          · exact h.elim
          · rename_i hne
            obtain ⟨r, e1, e2, y, s, er, hsg, h⟩ := findI h
            subst er
            exact callL_ok o hs (fun z => hne z) hi e1 (o.ok.sg _ _ _ hsg) (o.ok.fa _ _ _ hsg) hE h
        · exact h.elim
      · rename_i hg
        obtain ⟨g1, g2⟩ := o.gl hg
        split at h
        · rename_i s hsg
          exact call_ok o hs g1 g2 (o.ok.sg _ _ _ hsg) hE h
        · split at h
          · rename_i hbi
            split at h
            · rename_i f hf
              split at h
              · exact h.elim
              · rename_i hne
                cases es with
                | nil => exact (hne rfl).elim
                | cons e es => exact blt_ok o.calm g1 g2 (o.ok.bi _ hbi) hf (wpL_ok hE hs h) hs
            · exact h.elim
          · split at h
            · rename_i hgc
              split at h
              · exact h.elim
              · rename_i hne
                cases es with
                | nil => exact (hne rfl).elim
                | cons e es => exact gcd_ok g1 g2 (o.ok.gc _ hgc) (wpL_ok hE hs h) hs
            · exact h.elim
  · split at h
    · rename_i hc
      simp only [Bool.and_eq_true] at hc
      split at h
      · rename_i f hf
        exact m0_ok hc.1 hc.2 hf (hU.E o h)
      · exact h.elim
    · exact h.elim
  · split at h
    · rename_i hc
      simp only [Bool.and_eq_true] at hc
      split at h
      · rename_i f hf
        exact m1_ok hc.1.1 hc.1.2 hc.2 hf (hU.E o h) fun v M1 h1 => hU.E o h1
      · exact h.elim
    · exact h.elim
  · exact slice_ok (hU.E o h) (fun v M1 h1 => wpO_ok hE h1) fun v l M2 h2 => wpO_ok hE h2
  · split at h
    · rename_i hs
      exact pe_mono (pe_ix (ix_all (T := g.T)) (hU.E o h) (pe_sec (Qf := fun va vb M2 => ixW va vb M2 Q) fun va M1 h1 => hU.E o h1) (plainIx_ok hs)) fun σ H q hq => tOp_of (fun va vb M2 G x y H q hq w hx hy ok => ⟨va, vb, M2, G, _, hq, w, hx, hy, ok⟩) hq
    · exact h.elim
  · split at h
    · exact h.elim
    · rename_i hc
      simp only [Bool.and_eq_true] at hc
      exact lc_ok hU o hc.1.1 hc.1.2 hc.2 h
  · exact h.elim
theorem stepT_ok (hU : WOk g U) {S : Sc} {X : Cx} {W : WX} {e : Expr} {ds : List Sv} {M : Ms} {Q : PoT} {Er' : Er} (o : Xo g S X W) (h : (stepW g U).T S e ds M Q Er') : PT X e (tT X.K g.T W ds M Q Er') := by
  have hT : ∀ (e : Expr) (M : Ms) (Q : PoT), U.T S e ds M Q Er' → PT X e (tT X.K g.T W ds M Q Er') := fun e M Q h => hU.T o h
  unfold stepW at h
  dsimp only at h
  split at h
  · exact pt_mono (pt_not (hU.T o h)) fun σ H q ⟨G, w, s, ok, er⟩ => ⟨G, w, s, fun b M1 G1 H1 hb sg w1 => ok _ _ _ _ hb sg w1, er⟩
  · exact (wpAndT_ok hT h).pt
  · exact (wpOrT_ok hT h).pt
  · exact h.elim
  · split at h
    · rename_i hm
      exact cmpT_ok o.units hm (hU.E o h) fun va M1 h1 => hU.E o h1
    · exact h.elim
  · split at h
    · rename_i hm
      exact chainT_ok (Pc := fun vb M3 => U.E S _ ds M3 (fun vc M4 => cmpW _ vb vc M4 Q) Er') o.units hm (hU.E o h) (fun va M1 h1 => hU.E o h1) fun vb M3 h3 => hU.E o h3
    · exact h.elim
  · exact h.elim
  · rename_i h1 h2 h3 h4 h5 h6 h7
    refine pt_mono (pt_val (hU.E o h) (fun wh => ?_)) fun σ H q ⟨G, w, s, ok, er⟩ => ⟨G, w, s, fun v M1 x G1 H1 hb sg w1 hx => ?_, er⟩
    · cases e with
      | UnaryOp op a p => cases op <;> first | rfl | exact absurd rfl (h1 _ _)
      | BoolOp op es p => cases op <;> first | exact absurd rfl (h2 _ _) | exact absurd rfl (h3 _ _)
      | IfExp => exact absurd rfl (h4 _ _ _ _)
      | Compare => exact absurd rfl (h7 _ _ _ _)
      | _ => rfl
    · obtain ⟨b, _, e1, hb⟩ := boolW_ok hb hx
      exact ⟨b, e1, ok _ _ _ _ hb sg w1⟩
end
end Cal
/-! WpL -/
/-! enumerate of a tuple: after the pattern of the library's for a list -/
namespace Cal
open PySem PySem.Spec PyProof.Rows L2 LamX
open PySem.Sem (wp)
open PySem.AutoSeq1 (wpAny_loadPart')
theorem enu_newT (l : Addr) (items : Array Value) (n : Nat) (dct : Option Addr) (sl : Array (Option Value)) :
    Meets (Builtin.«enumerate.__new__» ⟨[.type "enumerate", .ref l], []⟩) (fun _ R s => s.heap.get? l = some { cls := .type "tuple", dict := dct, data := .seq items n, slots := sl } ∧
      R (.ok (.ret (.ref (s.heap.push { cls := .type "tuple_iterator", data := .fields #[.ref l, .int 0 0] }).objs.size))) { s with heap := (s.heap.push { cls := .type "tuple_iterator", data := .fields #[.ref l, .int 0 0] }).push { cls := .type "enumerate", data := .fields #[.none, .bool false, .ref s.heap.objs.size, rawInt 0, .none, .none] } }) := by
  refine .of_wp fun prog w A R s h => ?_
  obtain ⟨hp, g, d, tk, os⟩ := s
  obtain ⟨hl, h⟩ := h
  have hsub := sub_enumerate
  have hL : Heap.IsTuple (Shared.heap ⟨hp, g, d, tk, os⟩) l items := ⟨_, hl, rfl, n, rfl⟩
  wp_walk using wpAny_loadPart' hl
  refine wpAny_stack_any fun st => wpAny_pure ?_
  split
  · rename_i c _ _ _ _ _
    cases (c == Value.type "enumerate") <;> (wp_walk using wpAny_loadPart' hl, wpAny_pyIter_tuple hL) <;> exact ⟨_, rfl, h⟩
  · wp_walk using wpAny_loadPart' hl, wpAny_pyIter_tuple hL
    exact ⟨_, rfl, h⟩
section
variable {prog : Program} {w : World} {A : Around}
theorem tup_drawn {it t : Addr} {i : Nat} {items : Array Value} {x : Value} {s : Shared} {Q : Value → Shared → Prop} {E : Value → Shared → Prop} (hit : s.heap.IsTupleIter it t i) (ht : s.heap.IsTuple t items) (hx : items[i]? = some x)
    (hQ : ∀ h', h'.IsTupleIter it t (i + 1) → Heap.SameBut it s.heap h' → Q x { s with heap := h' }) : wpAny (model prog w) A (Builtin.SmallTypes.nextOf (.ref it)) Q E s := by
  obtain ⟨o, ho, hc, hd⟩ := id hit
  obtain ⟨ol, hol, _, nl, hdl⟩ := ht
  have e1 : Obj.data o = .fields #[.ref t, .int i 0] := hd
  unfold Builtin.SmallTypes.nextOf
  refine wpAny_bind (wpAny_callSpecial?_slot (name := Str.ofString "__next__") hit.typeIs F.slot_tuple_iterator_next (wpAny_call_entry F.slot_tuple_iterator_next hit.typeIs F.entry_tuple_iterator_next ?_ (F.args_tuple_iterator_next_1 _)))
  refine wpAny_bind (m := field (.ref it) 0) (wpAny_field ho e1 (x := .ref t) rfl ?_)
  show wpAny _ _ (if (Value.ref t == Value.none) = true then _ else _) _ _ _
  rw [if_neg (c := (Value.ref t == Value.none) = true) (fun z => Bool.false_ne_true z)]
  refine wpAny_bind (m := field (.ref it) 1) (wpAny_field ho e1 (x := .int i 0) rfl (wpAny_bind (m := seqItems? (.ref t)) (wpAny_seqItems hol hdl ?_)))
  simp only [Int.toNat_natCast, hx]
  exact wpAny_bind (wpAny_setField ho hd (by simp) (wpAny_pure ⟨x, rfl, wpAny_pure (hQ _ ⟨_, Heap.get?_update_self _ ho (Obj.isFreed_of_fields (Obj.data_mapFields hd _)), (Obj.cls_mapFields ..).trans hc, by rw [Obj.data_mapFields hd]; simp [rawInt]⟩ (Heap.SameBut.update ..))⟩))
theorem tup_done {it t : Addr} {i : Nat} {items : Array Value} {s : Shared} {Q : Value → Shared → Prop} {E : Value → Shared → Prop} (hh : A.handled = none) (hit : s.heap.IsTupleIter it t i) (ht : s.heap.IsTuple t items) (hx : items[i]? = none)
    (hE : ∀ h' e, Heap.ExtBut it s.heap h' → (∃ o, h'.get? e = some o ∧ o.cls = .type "StopIteration") → E (.ref e) { s with heap := h' }) : wpAny (model prog w) A (Builtin.SmallTypes.nextOf (.ref it)) Q E s := by
  obtain ⟨o, ho, hc, hd⟩ := id hit
  obtain ⟨ol, hol, _, nl, hdl⟩ := ht
  have e1 : Obj.data o = .fields #[.ref t, .int i 0] := hd
  unfold Builtin.SmallTypes.nextOf
  refine wpAny_bind (wpAny_callSpecial?_slot (name := Str.ofString "__next__") hit.typeIs F.slot_tuple_iterator_next (wpAny_call_entry F.slot_tuple_iterator_next hit.typeIs F.entry_tuple_iterator_next ?_ (F.args_tuple_iterator_next_1 _)))
  refine wpAny_bind (m := field (.ref it) 0) (wpAny_field ho e1 (x := .ref t) rfl ?_)
  show wpAny _ _ (if (Value.ref t == Value.none) = true then _ else _) _ _ _
  rw [if_neg (c := (Value.ref t == Value.none) = true) (fun z => Bool.false_ne_true z)]
  refine wpAny_bind (m := field (.ref it) 1) (wpAny_field ho e1 (x := .int i 0) rfl (wpAny_bind (m := seqItems? (.ref t)) (wpAny_seqItems hol hdl ?_)))
  simp only [Int.toNat_natCast, hx]
  refine wpAny_bind (wpAny_rule (wpAny_bind (wpAny_setField ho hd (by simp) ?_)))
  refine wpAny_bind (m := newExc (.type "StopIteration") []) ?_
  simp only [newExc, newTuple]
  refine wpAny_bind (wpAny_newObj_type ?_ (by size_fits))
  refine wpAny_bind (m := firstArgMember _ _) (wpAny_of_eq (a := Value.none) (by first | rfl | (simp only [firstArgMember]; rfl)) ?_)
  refine wpAny_newObj_type ?_ (by size_fits)
  simp only [raiseNew]
  refine wpAny_bind (wpAny_handled ?_)
  first | rw [show A.in1.handled = none from hh] | rw [hh]
  exact wpAny_bind (wpAny_pure (wpAny_throw (hE _ _ (((Heap.SameBut.update ..).extBut.push _).push _) ⟨_, Heap.get?_push_size _ rfl, rfl⟩)))
theorem draws_tup {it t : Addr} {items : Array Value} (hh : A.handled = none) (hne : it ≠ t) : Draws prog w A it [it, t] items.size (fun i x => items[i]? = some x) (fun i h => h.IsTupleIter it t i ∧ h.IsTuple t items) where
  live := fun i h ⟨⟨o, ho, _⟩, _⟩ => ⟨o, ho⟩
  frame := fun i h h' ⟨a, ol, hol, b⟩ k => ⟨by obtain ⟨o, ho, r⟩ := a; exact ⟨o, k it (by simp) o ho, r⟩, ol, k t (by simp) ol hol, b⟩
  item := fun i s Q E hi ⟨a, b⟩ hQ => tup_drawn a b (Array.getElem?_eq_getElem hi) fun h' a' sb => hQ _ h' s.toks (Array.getElem?_eq_getElem hi) ⟨a', by obtain ⟨ol, hol, r⟩ := b; exact ⟨ol, (sb.2 t (Ne.symm hne)).trans hol, r⟩⟩ sb
  done := fun s Q E ⟨a, b⟩ hE => tup_done hh a b (by simp) hE
end
end Cal
/-! WpM -/
namespace Cal
open PySem PySem.Spec PyProof.Rows L2 LamX
theorem draws_end {prog : Program} {w : World} {A : Around} {it t : Addr} {items : Array Value} {n : Nat} (hh : A.handled = none) (hn : items.size ≤ n) : Draws prog w A it [it, t] n (fun _ _ => True) (fun i h => h.IsTupleIter it t i ∧ h.IsTuple t items ∧ i = n) where
  live := fun i h ⟨⟨o, ho, _⟩, _⟩ => ⟨o, ho⟩
  frame := fun i h h' ⟨a, ⟨ol, hol, b⟩, e⟩ k => ⟨by obtain ⟨o, ho, r⟩ := a; exact ⟨o, k it (by simp) o ho, r⟩, ⟨ol, k t (by simp) ol hol, b⟩, e⟩
  item := fun i s Q E hi ⟨a, b, e⟩ hQ => absurd hi (by omega)
  done := fun s Q E ⟨a, b, e⟩ hE => tup_done hh a b (Array.getElem?_eq_none hn) hE
/-- the tuple at a, each item in a new pair -/
def IteT (K : PySem.W.Frag) (a : Addr) : It :=
  ⟨fun i H => ∃ (xs : List V) (x : V), SqT K H a xs ∧ xs[i]? = some x, fun i H v H' => ∃ P x, v = .ref P ∧ H P = none ∧ H' = upd H P (.tup [.int (i : Nat), x]) ∧ ∀ xs, SqT K H a xs → xs[i]? = some x, fun i H => ∃ xs : List V, SqT K H a xs ∧ xs.length ≤ i⟩
theorem turn_enuT {P : Program} {w : World} {K : PySem.W.Frag} {elts : List Expr} {kk : Nat} {tpos : Pos} (a e it : Addr) :
    Turn P w K (.Tuple elts kk tpos) (IteT K a) [e, it] e (fun i h => (∃ old, IsEnum h e it ((i : Nat) : Int) old) ∧ h.IsTupleIter it a i ∧ e ≠ it ∧ e ≠ a ∧ it ≠ a) where
  mem := by simp
  obj := fun i h st b hb => by
    obtain ⟨⟨old, he⟩, ⟨o, ho, hc, hd⟩, _⟩ := st
    rcases (show b = e ∨ b = it by simpa using hb) with z | z
    · rw [z]
      exact ⟨_, he, fun v q => nomatch q⟩
    · rw [z]
      exact ⟨o, ho, fun v q => by rw [hd] at q; cases q⟩
  keep := fun i h h' st k => by
    obtain ⟨⟨old, he⟩, ⟨o, ho, r⟩, hne⟩ := st
    exact ⟨⟨old, k e (by simp) _ he⟩, ⟨o, k it (by simp) o ho, r⟩, hne⟩
  item := by
    intro X hP hw hK hc i pins s σ H E J hf st hg
    subst hP hw hK
    obtain ⟨⟨old, he⟩, hit, hne, hea, hia⟩ := st
    obtain ⟨xs, x, hq, hx⟩ := hg
    obtain ⟨its, rv, p, hz⟩ := J.tuple hq
    obtain ⟨u, hu, ru⟩ := rv.get hx
    have hel : e < s.heap.objs.size := Heap.lt_size he
    have hil : it < s.heap.objs.size := by obtain ⟨_, q, _⟩ := hit; exact Heap.lt_size q
    have hlt : i < its.toArray.size := by simpa using (List.getElem?_eq_some_iff.mp hu).1
    refine wpAny_pyNext_enum_itemD (draws_tup (it := it) (t := a) (items := its.toArray) (show X.A.in1.handled = none from J.ok.hd hc) hia) he ⟨hit, p⟩ hlt hne (by simp [hne, hea]) fun x' h' tk hx' ho hit' hT hsz hk => ?_
    have ex : x' = u := by
      have z : its.toArray[i]? = some u := by simpa using hu
      rw [z] at hx'
      exact (Option.some.inj hx').symm
    subst ex
    refine ⟨_, rfl, wpAny_letOwnedTupleGo_enum (s := { s with heap := h', toks := tk + 1 }) ho fun h'' he' sb => ?_⟩
    have hT2 : h''.get? s.heap.objs.size = some { cls := .type "tuple", data := .seq #[.int i tk, x'] } := (sb.2 _ (Nat.ne_of_gt hel)).trans hT
    have new : ObjOk X.prog X.w (upd H s.heap.objs.size (.tup [.int (i : Nat), x])) h'' s.heap.objs.size (.tup [.int (i : Nat), x]) := ⟨by show 2 ≤ sizeLine; decide, [.int i tk, x'], .cons ⟨_, rfl⟩ (.cons ru .nil), ⟨_, hT2, rfl, _, rfl⟩⟩
    have I1 : Inv X pins σ (upd H s.heap.objs.size (.tup [.int (i : Nat), x])) { s with heap := h'', toks := tk + 1 } :=
      J.turnedNew (ch := [e, it]) (fun b ob hb q => (sb.2 b (fun z => hb (by simp [z]))).trans (hk b ob (fun z => hb (by simp [z])) (fun z => hb (by simp [z])) q)) hf (Nat.le_refl _) new
    refine ⟨.ref s.heap.objs.size, _, I1, rfl, ⟨_, x, rfl, J.hok.fresh (Nat.le_refl _), rfl, fun ys hy => by rw [J.tuple_inj hy hq]; exact hx⟩, ⟨⟨x', ?_⟩, ?_, hne, hea, hia⟩, fun b hb => ?_⟩
    · rw [show ((i + 1 : Nat) : Int) = (i : Int) + 1 by omega]
      exact he'
    · obtain ⟨o, z1, z2⟩ := hit'.1
      exact ⟨o, (sb.2 it (Ne.symm hne)).trans z1, z2⟩
    · have hb' : b < s.heap.objs.size := by
        rcases (show b = e ∨ b = it by simpa using hb) with z | z
        · rw [z]; exact hel
        · rw [z]; exact hil
      rw [upd_ne (Nat.ne_of_lt hb')]
      exact (hf b hb).1
  done := by
    intro X hP hw hK hc i pins s σ H E J hf st hg
    subst hP hw hK
    obtain ⟨⟨old, he⟩, hit, hne, hea, hia⟩ := st
    obtain ⟨xs, hq, hx⟩ := hg
    obtain ⟨its, rv, p, hz⟩ := J.tuple hq
    obtain ⟨f0, f1, f2, f3, f4, f5⟩ := hf it (by simp)
    have hlen : its.toArray.size ≤ i := by
      have hl := rv.length
      simp only [List.size_toArray]
      omega
    exact wpAny_pyNext_enum_endD (draws_end (it := it) (t := a) (items := its.toArray) (show X.A.in1.handled = none from J.ok.hd hc) hlen) he ⟨hit, p, rfl⟩ fun h' eb => ⟨rfl, J.turned (t' := s.toks) (fun b o hb q => eb b o hb q) f0 f1 f3 f4 f5⟩
  self := fun A i s Q E st h => by
    obtain ⟨⟨_, he⟩, _⟩ := st
    exact wpAny_pyIter_enum he h
def iEnuT (K : PySem.W.Frag) (ta : TA) : TI := fun σ H R => ta σ H fun vs H1 => ∃ a xs, vs = [.ref a] ∧ ((SqL K H1 a xs ∧ R (Ite K a) H1) ∨ (SqT K H1 a xs ∧ R (IteT K a) H1))
theorem call_enuT {prog : Program} {w : World} {A : Around} {E : Value → Shared → Prop} {s : Shared} {l : Addr} {items : Array Value} {Q : Value → Shared → Prop} (hL : s.heap.IsTuple l items)
    (h : ∀ h', IsEnum h' (s.heap.objs.size + 1) s.heap.objs.size 0 .none → h'.IsTupleIter s.heap.objs.size l 0 → (∀ b o, s.heap.get? b = some o → h'.get? b = some o) → Q (.ref (s.heap.objs.size + 1)) { s with heap := h' }) :
    wpAny (model prog w) A (call (.type "enumerate") [.ref l]) Q E s := by
  obtain ⟨⟨c, dct, dt, sl⟩, hl, hc, n, hd⟩ := hL
  obtain rfl : c = .type "tuple" := hc
  obtain rfl : dt = .seq items n := hd
  refine callType_new F.called_enumerate (by decide) (F.typeCall_enumerate_1 _) (F.newCall_enumerate_1 _) (fun obj => F.args_object_init_2 obj _) F.entry_enumerate_new (enu_newT l items n dct sl) ⟨hl, ?_⟩
  obtain ⟨o1, eo1⟩ : ∃ o1 : Obj, o1 = { cls := .type "tuple_iterator", data := .fields #[.ref l, .int 0 0] } := ⟨_, rfl⟩
  obtain ⟨o2, eo2⟩ : ∃ o2 : Obj, o2 = { cls := .type "enumerate", data := .fields #[.none, .bool false, .ref s.heap.objs.size, rawInt 0, .none, .none] } := ⟨_, rfl⟩
  rw [← eo1, ← eo2]
  have hz : (s.heap.push o1).objs.size = s.heap.objs.size + 1 := Heap.size_push ..
  have he : IsEnum ((s.heap.push o1).push o2) (s.heap.objs.size + 1) s.heap.objs.size 0 .none := by
    have z := Heap.get?_push_size (s.heap.push o1) (o := o2) (by rw [eo2]; rfl)
    rw [hz, eo2] at z
    rw [eo2]
    exact z
  show _ ∧ _
  rw [hz]
  exact ⟨⟨_, he, rfl⟩, h _ he ⟨o1, Heap.get?_push_of_some _ (Heap.get?_push_size _ (by rw [eo1]; rfl)), by rw [eo1], by rw [eo1]; rfl⟩ fun b o x => Heap.get?_push_of_some _ (Heap.get?_push_of_some _ x)⟩
theorem pi_enuT {X : Cx} {e : Expr} {ta : TA} {p pos tpos : Pos} {elts : List Expr} {kk : Nat} (hg : Gl X "enumerate") (hm : X.mg "enumerate" = none) (ha : PA X [e] ta) (hs : starEach [e] X.env = [(false, eval e X.env)]) :
    PI X (.Tuple elts kk tpos) (.Call (.Name "enumerate" p) [e] [] pos) (iEnuT X.K ta) := by
  refine ⟨fun pins s σ H R J h => ?_⟩
  refine Call_ (ld_blt J hg hm boot_enumerate (PyProof.Rows.callWith_type1 (thn (ha.run pos pins s σ H _ J h) fun us s1 ⟨vs, H1, I1, r1, q1⟩ => ?_) hs rfl))
  obtain ⟨a, xs, ex, hq⟩ := q1
  subst ex
  have nf : ∀ b ∈ [s1.heap.objs.size + 1, s1.heap.objs.size], s1.heap.objs.size ≤ b := fun b hb => by
    rcases (show b = s1.heap.objs.size + 1 ∨ b = s1.heap.objs.size by simpa using hb) with z | z <;> omega
  cases r1 with
  | cons r rr =>
    cases rr
    cases r
    rcases hq with ⟨hq, q⟩ | ⟨hq, q⟩
    · obtain ⟨its, rv, p', hz⟩ := I1.list hq
      refine call_enumerate_list p'.isList fun h' he hit hsz hk => wpAny_pyIter_enum he ?_
      exact ⟨s1.heap.objs.size + 1, [s1.heap.objs.size + 1, s1.heap.objs.size], _, _, H1, rfl, I1.kept (t' := s1.toks) hk, turn_enum a (s1.heap.objs.size + 1) s1.heap.objs.size, ⟨⟨.none, he⟩, hit, Nat.succ_ne_self _⟩, fun b hb => I1.fpOk (nf b hb) (I1.hok.fresh (nf b hb)), q⟩
    · obtain ⟨its, rv, p', hz⟩ := I1.tuple hq
      have hal : a < s1.heap.objs.size := by obtain ⟨o, ho, _⟩ := p'; exact Heap.lt_size ho
      refine call_enuT (show s1.heap.IsTuple a its.toArray from p') fun h' he hit hk => wpAny_pyIter_enum he ?_
      exact ⟨s1.heap.objs.size + 1, [s1.heap.objs.size + 1, s1.heap.objs.size], _, _, H1, rfl, I1.kept (t' := s1.toks) hk, turn_enuT a (s1.heap.objs.size + 1) s1.heap.objs.size, ⟨⟨.none, he⟩, hit, Nat.succ_ne_self _, Nat.ne_of_gt (Nat.lt_succ_of_lt hal), Nat.ne_of_gt hal⟩, fun b hb => I1.fpOk (nf b hb) (I1.hok.fresh (nf b hb)), q⟩
end Cal
/-! WpZa -/
/-! zip of two tuples that is itself counted: the pair that was given out stands still, or is gone; the zip knows both cases (own; the steps go as the library's own ones for a zip that is walked) -/
namespace Cal
open PySem PySem.Spec PyProof.Rows L2 LamX
open PySem.Sem (wp)
section
variable {prog : Program} {w : World} {A : Around} {E : Value → Shared → Prop} {s : Shared}
/-- a zip in any of its states: the pair last given out (or none), and whether it is known to stand still -/
abbrev ZObj (f0 : Value) (f : Bool) (tI tO : Addr) : Obj := { cls := .type "zip", dict := none, data := .fields #[f0, .bool f, .bool false, .ref tI, .ref tO], slots := #[] }
def ZLast (f0 : Value) : Prop := f0 = .none ∨ ∃ t : Addr, f0 = rawInt t
theorem look_alive {a : Addr} {Q : Option Obj → Shared → Prop} (q : Q (s.heap.get? a) s) : wpAny (model prog w) A (loadIfAlive a) Q E s := fun _ _ _ => q
/-- is the kept tuple free? -/
theorem zp_free {zp tI tO : Addr} {f0 : Value} {f : Bool} {Q : Bool → Shared → Prop} (hz : s.heap.get? zp = some (ZObj f0 f tI tO)) (hl : ZLast f0) (yes : Q true s)
    (no : ∀ g', g'.get? zp = some (ZObj f0 true tI tO) → Heap.SameBut zp s.heap g' → Q false { s with heap := g' }) : wpAny (model prog w) A (Builtin.SmallTypes.ownedTupleIsFree (.ref zp)) Q E s := by
  unfold Builtin.SmallTypes.ownedTupleIsFree
  refine wpAny_bind (m := field (.ref zp) 0) (wpAny_field hz rfl (x := f0) rfl ?_)
  rcases hl with e | ⟨t, e⟩
  · rw [e]
    exact wpAny_pure yes
  · rw [e] at hz no ⊢
    refine wpAny_bind (m := loadIfAlive ((t : Int).toNat)) ?_
    rw [Int.toNat_natCast]
    refine look_alive ?_
    cases s.heap.get? t with
    | none => exact wpAny_pure yes
    | some oT =>
      refine wpAny_bind (m := field (.ref zp) 1) (wpAny_field hz rfl (x := .bool f) rfl ?_)
      cases f with
      | true => exact wpAny_pure (no s.heap hz (Heap.SameBut.refl zp s.heap))
      | false => exact wpAny_bind (m := setField (.ref zp) 1 (.bool true)) (wpAny_setField_rec hz (by simp) fun g1 z1 sb => wpAny_pure (no g1 z1 sb))
end
end Cal
/-! WpZb -/
namespace Cal
open PySem PySem.Spec PyProof.Rows L2 LamX
open PySem.Sem (wp)
section
variable {prog : Program} {w : World} {A : Around} {E : Value → Shared → Prop} {s : Shared}
/-- all that a zip of two tuples stands on, k items drawn -/
structure ZAt (zp tI tO p1 p2 l1 l2 : Addr) (k : Nat) (h : Heap) : Prop where
  z : ∃ f0 f, ZLast f0 ∧ h.get? zp = some (ZObj f0 f tI tO)
  i : IsPair h tI (.ref p1) (.ref p2)
  o : ∃ a b, IsPair h tO a b
  a : h.IsTupleIter p1 l1 k
  b : h.IsTupleIter p2 l2 k
theorem ZAt.keep {zp tI tO p1 p2 l1 l2 : Addr} {k : Nat} {h h' : Heap} (q : ZAt zp tI tO p1 p2 l1 l2 k h) (kp : ∀ c ∈ [zp, tI, tO, p1, p2], ∀ o, h.get? c = some o → h'.get? c = some o) : ZAt zp tI tO p1 p2 l1 l2 k h' := by
  obtain ⟨⟨f0, f, z1, z2⟩, i, ⟨a, b, o⟩, ⟨oa, a1, a2⟩, ⟨ob, b1, b2⟩⟩ := q
  exact ⟨⟨f0, f, z1, kp _ (by simp) _ z2⟩, kp _ (by simp) _ i, ⟨a, b, kp _ (by simp) _ o⟩, ⟨oa, kp _ (by simp) _ a1, a2⟩, ⟨ob, kp _ (by simp) _ b1, b2⟩⟩
theorem tupAt {h h' : Heap} {l : Addr} {xs : Array Value} (t : h.IsTuple l xs) (kp : ∀ o, h.get? l = some o → h'.get? l = some o) : h'.IsTuple l xs := by
  obtain ⟨o, e, r⟩ := t
  exact ⟨o, kp o e, r⟩
theorem zp_item {zp tI tO p1 p2 l1 l2 : Addr} {k : Nat} {xs ys : Array Value} {x y : Value} {Q : Value → Shared → Prop} (D : ZipApart zp tI tO p1 p2 l1 l2) (st : ZAt zp tI tO p1 p2 l1 l2 k s.heap)
    (t1 : s.heap.IsTuple l1 xs) (t2 : s.heap.IsTuple l2 ys) (hx : xs[k]? = some x) (hy : ys[k]? = some y)
    (hQ : ∀ g', ZAt zp tI tO p1 p2 l1 l2 (k + 1) g' → IsPair g' s.heap.objs.size x y → g'.objs.size = s.heap.objs.size + 1 → (∀ c o, c ∉ [zp, tI, tO, p1, p2] → s.heap.get? c = some o → g'.get? c = some o) → Q (.ref s.heap.objs.size) { s with heap := g' }) :
    wpAny (model prog w) A (Builtin.«zip.__next__» ⟨[.ref zp], []⟩) (fun fin s' => ∃ v, fin = .done (.ret v) ∧ Q v s') E s := by
  obtain ⟨⟨f0, f, hl, hz⟩, hI, ⟨a, b, hO⟩, h1, h2⟩ := st
  refine wpAny_bind (m := field (.ref zp) 2) (wpAny_field hz rfl (x := .bool false) rfl ?_)
  refine wpAny_bind (m := field (.ref zp) 3) (wpAny_field hz rfl (x := .ref tI) rfl ?_)
  refine wpAny_bind (m := seqItems? (.ref tI)) (wpAny_seqItems hI rfl ?_)
  refine wpAny_bind (m := Builtin.SmallTypes.ownedTupleIsFree (.ref zp)) (zp_free hz hl ?_ fun g1 z1 b1 => ?_)
  · simp only [if_true]
    refine wpAny_bind (wpAny_rule ?_)
    refine wpAny_bind (m := field (.ref zp) 4) (wpAny_field hz rfl (x := .ref tO) rfl ?_)
    refine wpAny_bind (wpAny_setField_rec hz (by simp) fun g1 z1 b1 => ?_)
    refine wpAny_bind ?_
    simp only [List.zipIdx_cons, List.zipIdx_nil, List.forIn_cons, List.forIn_nil]
    refine wpAny_bind (wpAny_bind (wpAny_onRaise ?_))
    refine wpAny_bind (m := Builtin.SmallTypes.nextOf (.ref p1)) (RZ.nextOf_tuple_item (h1.extBut b1.extBut D.i1z) (tupAt t1 fun o => b1.extBut _ o D.l1z) hx fun g2 n1 b2 => wpAny_pure ?_)
    have O2 : IsPair g2 tO a b := b2.extBut _ _ D.TOi1 (b1.extBut _ _ D.TOz hO)
    refine wpAny_bind (wpAny_seqItems O2 rfl ?_)
    refine wpAny_bind (wpAny_updateSeq_pair O2 fun g3 O3 b3 => ?_)
    replace O3 : IsPair g3 tO x b := O3
    refine wpAny_bind (wpAny_letGo (wpAny_pure ?_))
    refine wpAny_bind (wpAny_bind (wpAny_onRaise ?_))
    refine wpAny_bind (m := Builtin.SmallTypes.nextOf (.ref p2)) (RZ.nextOf_tuple_item (((h2.extBut b1.extBut D.i2z).extBut b2.extBut D.i12.symm).extBut b3.extBut D.TOi2.symm)
      (tupAt t2 fun o e => b3.extBut _ o D.l2TO (b2.extBut _ o D.l2i1 (b1.extBut _ o D.l2z e))) hy fun g4 n2 b4 => wpAny_pure ?_)
    have O4 : IsPair g4 tO x b := b4.extBut _ _ D.TOi2 O3
    refine wpAny_bind (wpAny_seqItems O4 rfl ?_)
    refine wpAny_bind (wpAny_updateSeq_pair O4 fun g5 O5 b5 => ?_)
    replace O5 : IsPair g5 tO x y := O5
    refine wpAny_bind (wpAny_letGo (wpAny_pure (wpAny_pure ?_)))
    refine wpAny_bind (wpAny_seqItems O5 rfl ?_)
    refine wpAny_bind (wpAny_newTuple ?_)
    have sz : g5.objs.size = s.heap.objs.size := by rw [b5.1, b4.1, b3.1, b2.1, b1.1]
    have kp : ∀ c o, c ≠ zp → c ≠ tO → c ≠ p1 → c ≠ p2 → s.heap.get? c = some o → g5.get? c = some o := fun c o c1 c2 c3 c4 e =>
      b5.extBut _ _ c2 (b4.extBut _ _ c4 (b3.extBut _ _ c2 (b2.extBut _ _ c3 (b1.extBut _ _ c1 e))))
    have z5 := b5.extBut _ _ D.TOz.symm (b4.extBut _ _ D.i2z.symm (b3.extBut _ _ D.TOz.symm (b2.extBut _ _ D.i1z.symm z1)))
    have m1 : g5.IsTupleIter p1 l1 (k + 1) := ((n1.extBut b3.extBut D.TOi1.symm).extBut b4.extBut D.i12).extBut b5.extBut D.TOi1.symm
    have m2 : g5.IsTupleIter p2 l2 (k + 1) := n2.extBut b5.extBut D.TOi2.symm
    have zlt : zp < g5.objs.size := Heap.lt_size z5
    refine wpAny_bind (m := Builtin.SmallTypes.ownedTupleHandOut (.ref zp) (.ref g5.objs.size)) ?_
    unfold Builtin.SmallTypes.ownedTupleHandOut
    have z6 := Heap.get?_push_of_some { cls := .type "tuple", data := .seq #[x, y] } z5
    refine wpAny_bind (wpAny_setField_rec z6 (by simp) fun g7 z7 b7 => ?_)
    refine wpAny_setField_rec z7 (by simp) fun g8 z8 b8 => ?_
    have up : ∀ c o, c ≠ zp → g5.get? c = some o → g8.get? c = some o := fun c o c1 e => b8.extBut _ _ c1 (b7.extBut _ _ c1 (Heap.get?_push_of_some _ e))
    have T8 : IsPair g8 g5.objs.size x y := b8.extBut _ _ (Nat.ne_of_gt zlt) (b7.extBut _ _ (Nat.ne_of_gt zlt) (Heap.get?_push_size _ rfl))
    have s8 : g8.objs.size = g5.objs.size + 1 := by rw [b8.1, b7.1, Heap.size_push]
    rw [sz] at T8 s8
    refine wpAny_pure ⟨_, rfl, ?_⟩
    show Q (.ref g5.objs.size) _
    rw [sz]
    refine hQ g8 ⟨⟨_, _, .inr ⟨_, rfl⟩, z8⟩, up _ _ D.TIz (kp _ _ D.TIz D.TITO D.TIi1 D.TIi2 hI), ⟨x, y, up _ _ D.TOz O5⟩, m1.at fun o e => up _ o D.i1z e, m2.at fun o e => up _ o D.i2z e⟩ T8 s8 fun c o hc e => ?_
    simp only [List.mem_cons, List.not_mem_nil, or_false, not_or] at hc
    exact up c o hc.1 (kp c o hc.1 hc.2.2.1 hc.2.2.2.1 hc.2.2.2.2 e)
  · simp only [Bool.false_eq_true, if_false]
    refine wpAny_bind ?_
    rw [← Array.forIn_toList]
    simp only [List.forIn_cons, List.forIn_nil]
    refine wpAny_bind (wpAny_bind (wpAny_holding ?_))
    refine wpAny_bind (m := Builtin.SmallTypes.nextOf (.ref p1)) (RZ.nextOf_tuple_item (s := { s with heap := g1 }) (h1.extBut b1.extBut D.i1z) (tupAt t1 fun o => b1.extBut _ o D.l1z) hx fun g2 n1 b2 => wpAny_pure (wpAny_pure ?_))
    refine wpAny_bind (wpAny_bind (wpAny_holding ?_))
    refine wpAny_bind (m := Builtin.SmallTypes.nextOf (.ref p2)) (RZ.nextOf_tuple_item (s := { s with heap := g2 }) ((h2.extBut b1.extBut D.i2z).extBut b2.extBut D.i12.symm) (tupAt t2 fun o e => b2.extBut _ o D.l2i1 (b1.extBut _ o D.l2z e)) hy fun g3 n2 b3 => wpAny_pure (wpAny_pure (wpAny_pure ?_)))
    refine wpAny_bind (m := newTuple [x, y]) (wpAny_newTuple ?_)
    have sz : g3.objs.size = s.heap.objs.size := by rw [b3.1, b2.1, b1.1]
    have z3 := b3.extBut _ _ D.i2z.symm (b2.extBut _ _ D.i1z.symm z1)
    have kp : ∀ c o, c ≠ zp → c ≠ p1 → c ≠ p2 → s.heap.get? c = some o → g3.get? c = some o := fun c o c1 c2 c3 e => b3.extBut _ _ c3 (b2.extBut _ _ c2 (b1.extBut _ _ c1 e))
    have m1 : g3.IsTupleIter p1 l1 (k + 1) := n1.extBut b3.extBut D.i12
    refine wpAny_pure ⟨_, rfl, ?_⟩
    show Q (.ref g3.objs.size) _
    have T4 : IsPair (g3.push { cls := .type "tuple", data := .seq #[x, y] }) g3.objs.size x y := Heap.get?_push_size _ rfl
    have s4 : (g3.push { cls := .type "tuple", data := .seq #[x, y] }).objs.size = g3.objs.size + 1 := Heap.size_push ..
    rw [sz] at T4 s4 ⊢
    refine hQ _ ⟨⟨f0, true, hl, Heap.get?_push_of_some _ z3⟩, Heap.get?_push_of_some _ (kp _ _ D.TIz D.TIi1 D.TIi2 hI), ⟨a, b, Heap.get?_push_of_some _ (kp _ _ D.TOz D.TOi1 D.TOi2 hO)⟩, m1.at fun o e => Heap.get?_push_of_some _ e, n2.at fun o e => Heap.get?_push_of_some _ e⟩ T4 s4 fun c o hc e => ?_
    simp only [List.mem_cons, List.not_mem_nil, or_false, not_or] at hc
    exact Heap.get?_push_of_some _ (kp c o hc.1 hc.2.2.2.1 hc.2.2.2.2 e)
end
end Cal
/-! WpZc -/
namespace Cal
open PySem PySem.Spec PyProof.Rows L2 LamX
open PySem.Sem (wp)
section
variable {prog : Program} {w : World} {A : Around} {E : Value → Shared → Prop} {s : Shared}
theorem zp_end {zp tI tO p1 p2 l1 l2 : Addr} {k : Nat} {xs ys : Array Value} {Q : Fin → Shared → Prop} (hh : A.handled = none) (D : ZipApart zp tI tO p1 p2 l1 l2) (st : ZAt zp tI tO p1 p2 l1 l2 k s.heap)
    (t1 : s.heap.IsTuple l1 xs) (t2 : s.heap.IsTuple l2 ys) (hx : xs[k]? = none ∨ ys[k]? = none)
    (hE : ∀ g' e, (∀ c o, c ∉ [zp, tI, tO, p1, p2] → s.heap.get? c = some o → g'.get? c = some o) → (∃ o, g'.get? e = some o ∧ o.cls = .type "StopIteration") → E (.ref e) { s with heap := g' }) :
    wpAny (model prog w) A (Builtin.«zip.__next__» ⟨[.ref zp], []⟩) Q E s := by
  obtain ⟨⟨f0, f, hl, hz⟩, hI, ⟨a, b, hO⟩, h1, h2⟩ := st
  have far : ∀ {c : Addr}, c ∉ [zp, tI, tO, p1, p2] → c ≠ zp ∧ c ≠ tO ∧ c ≠ p1 ∧ c ≠ p2 := fun {c} hc => by
    simp only [List.mem_cons, List.not_mem_nil, or_false, not_or] at hc
    exact ⟨hc.1, hc.2.2.1, hc.2.2.2.1, hc.2.2.2.2⟩
  refine wpAny_bind (m := field (.ref zp) 2) (wpAny_field hz rfl (x := .bool false) rfl ?_)
  refine wpAny_bind (m := field (.ref zp) 3) (wpAny_field hz rfl (x := .ref tI) rfl ?_)
  refine wpAny_bind (m := seqItems? (.ref tI)) (wpAny_seqItems hI rfl ?_)
  refine wpAny_bind (m := Builtin.SmallTypes.ownedTupleIsFree (.ref zp)) (zp_free hz hl ?_ fun g1 z1 b1 => ?_)
  · simp only [if_true]
    refine wpAny_bind (wpAny_rule ?_)
    refine wpAny_bind (m := field (.ref zp) 4) (wpAny_field hz rfl (x := .ref tO) rfl ?_)
    refine wpAny_bind (wpAny_setField_rec hz (by simp) fun g1 z1 b1 => ?_)
    refine wpAny_bind ?_
    simp only [List.zipIdx_cons, List.zipIdx_nil, List.forIn_cons, List.forIn_nil]
    refine wpAny_bind (wpAny_bind (wpAny_onRaise ?_))
    cases e1 : xs[k]? with
    | none =>
      refine wpAny_bind (m := Builtin.SmallTypes.nextOf (.ref p1)) (RZ.nextOf_tuple_end hh (h1.extBut b1.extBut D.i1z) (tupAt t1 fun o => b1.extBut _ o D.l1z) e1 fun g2 e b2 he => ?_)
      obtain ⟨oe, he1, he2⟩ := he
      have z2 := b2 _ _ D.i1z.symm z1
      have ez : e ≠ zp := fun q => by
        rw [q] at he1
        rw [he1] at z2
        have q2 := congrArg Obj.cls (Option.some.inj z2)
        rw [he2] at q2
        simp at q2
      exact wpAny_setField_rec z2 (by simp) fun g3 _ b3 => hE g3 e (fun c o hc q => b3.extBut _ _ (far hc).1 (b2 _ _ (far hc).2.2.1 (b1.extBut _ _ (far hc).1 q))) ⟨oe, b3.extBut _ _ ez he1, he2⟩
    | some x =>
      have e2 : ys[k]? = none := hx.resolve_left (by rw [e1]; exact fun q => nomatch q)
      refine wpAny_bind (m := Builtin.SmallTypes.nextOf (.ref p1)) (RZ.nextOf_tuple_item (h1.extBut b1.extBut D.i1z) (tupAt t1 fun o => b1.extBut _ o D.l1z) e1 fun g2 n1 b2 => wpAny_pure ?_)
      have O2 : IsPair g2 tO a b := b2.extBut _ _ D.TOi1 (b1.extBut _ _ D.TOz hO)
      refine wpAny_bind (wpAny_seqItems O2 rfl ?_)
      refine wpAny_bind (wpAny_updateSeq_pair O2 fun g3 O3 b3 => ?_)
      refine wpAny_bind (wpAny_letGo (wpAny_pure ?_))
      refine wpAny_bind (wpAny_bind (wpAny_onRaise ?_))
      refine wpAny_bind (m := Builtin.SmallTypes.nextOf (.ref p2)) (RZ.nextOf_tuple_end hh (((h2.extBut b1.extBut D.i2z).extBut b2.extBut D.i12.symm).extBut b3.extBut D.TOi2.symm)
        (tupAt t2 fun o e => b3.extBut _ o D.l2TO (b2.extBut _ o D.l2i1 (b1.extBut _ o D.l2z e))) e2 fun g4 e b4 he => ?_)
      obtain ⟨oe, he1, he2⟩ := he
      have z4 := b4 _ _ D.i2z.symm (b3.extBut _ _ D.TOz.symm (b2.extBut _ _ D.i1z.symm z1))
      have ez : e ≠ zp := fun q => by
        rw [q] at he1
        rw [he1] at z4
        have q2 := congrArg Obj.cls (Option.some.inj z4)
        rw [he2] at q2
        simp at q2
      exact wpAny_setField_rec z4 (by simp) fun g5 _ b5 => hE g5 e (fun c o hc q => b5.extBut _ _ (far hc).1 (b4 _ _ (far hc).2.2.2 (b3.extBut _ _ (far hc).2.1 (b2.extBut _ _ (far hc).2.2.1 (b1.extBut _ _ (far hc).1 q))))) ⟨oe, b5.extBut _ _ ez he1, he2⟩
  · simp only [Bool.false_eq_true, if_false]
    refine wpAny_bind ?_
    rw [← Array.forIn_toList]
    simp only [List.forIn_cons, List.forIn_nil]
    refine wpAny_bind (wpAny_bind (wpAny_holding ?_))
    cases e1 : xs[k]? with
    | none =>
      refine wpAny_bind (m := Builtin.SmallTypes.nextOf (.ref p1)) (RZ.nextOf_tuple_end (s := { s with heap := g1 }) hh (h1.extBut b1.extBut D.i1z) (tupAt t1 fun o => b1.extBut _ o D.l1z) e1 fun g2 e b2 he => ?_)
      exact hE g2 e (fun c o hc q => b2 _ _ (far hc).2.2.1 (b1.extBut _ _ (far hc).1 q)) he
    | some x =>
      have e2 : ys[k]? = none := hx.resolve_left (by rw [e1]; exact fun q => nomatch q)
      refine wpAny_bind (m := Builtin.SmallTypes.nextOf (.ref p1)) (RZ.nextOf_tuple_item (s := { s with heap := g1 }) (h1.extBut b1.extBut D.i1z) (tupAt t1 fun o => b1.extBut _ o D.l1z) e1 fun g2 n1 b2 => wpAny_pure (wpAny_pure ?_))
      refine wpAny_bind (wpAny_bind (wpAny_holding ?_))
      refine wpAny_bind (m := Builtin.SmallTypes.nextOf (.ref p2)) (RZ.nextOf_tuple_end (s := { s with heap := g2 }) hh ((h2.extBut b1.extBut D.i2z).extBut b2.extBut D.i12.symm) (tupAt t2 fun o e => b2.extBut _ o D.l2i1 (b1.extBut _ o D.l2z e)) e2 fun g3 e b3 he => ?_)
      exact hE g3 e (fun c o hc q => b3 _ _ (far hc).2.2.2 (b2.extBut _ _ (far hc).2.2.1 (b1.extBut _ _ (far hc).1 q))) he
/-- one more of it -/
theorem zp_nextOf {zp tI tO p1 p2 l1 l2 : Addr} {k : Nat} {xs ys : Array Value} {x y : Value} {Q : Value → Shared → Prop} (D : ZipApart zp tI tO p1 p2 l1 l2) (st : ZAt zp tI tO p1 p2 l1 l2 k s.heap)
    (t1 : s.heap.IsTuple l1 xs) (t2 : s.heap.IsTuple l2 ys) (hx : xs[k]? = some x) (hy : ys[k]? = some y)
    (hQ : ∀ g', ZAt zp tI tO p1 p2 l1 l2 (k + 1) g' → IsPair g' s.heap.objs.size x y → g'.objs.size = s.heap.objs.size + 1 → (∀ c o, c ∉ [zp, tI, tO, p1, p2] → s.heap.get? c = some o → g'.get? c = some o) → Q (.ref s.heap.objs.size) { s with heap := g' }) :
    wpAny (model prog w) A (Builtin.SmallTypes.nextOf (.ref zp)) Q E s := by
  obtain ⟨f0, f, _, hz⟩ := st.z
  have ty : s.TypeIs (.ref zp) "zip" := ⟨_, hz, rfl⟩
  unfold Builtin.SmallTypes.nextOf
  exact wpAny_bind (wpAny_callSpecial?_slot (name := Str.ofString "__next__") ty F.slot_zip_next (wpAny_call_entry F.slot_zip_next ty F.entry_zip_next (zp_item D st t1 t2 hx hy fun g' q1 q2 q3 q4 => wpAny_pure (hQ g' q1 q2 q3 q4)) (F.args_zip_next_1 _)))
theorem zp_nextEnd {zp tI tO p1 p2 l1 l2 : Addr} {k : Nat} {xs ys : Array Value} {Q : Value → Shared → Prop} (hh : A.handled = none) (D : ZipApart zp tI tO p1 p2 l1 l2) (st : ZAt zp tI tO p1 p2 l1 l2 k s.heap)
    (t1 : s.heap.IsTuple l1 xs) (t2 : s.heap.IsTuple l2 ys) (hx : xs[k]? = none ∨ ys[k]? = none)
    (hE : ∀ g' e, (∀ c o, c ∉ [zp, tI, tO, p1, p2] → s.heap.get? c = some o → g'.get? c = some o) → (∃ o, g'.get? e = some o ∧ o.cls = .type "StopIteration") → E (.ref e) { s with heap := g' }) :
    wpAny (model prog w) A (Builtin.SmallTypes.nextOf (.ref zp)) Q E s := by
  obtain ⟨f0, f, _, hz⟩ := st.z
  have ty : s.TypeIs (.ref zp) "zip" := ⟨_, hz, rfl⟩
  unfold Builtin.SmallTypes.nextOf
  exact wpAny_bind (wpAny_callSpecial?_slot (name := Str.ofString "__next__") ty F.slot_zip_next (wpAny_call_entry F.slot_zip_next ty F.entry_zip_next (zp_end hh D st t1 t2 hx hE) (F.args_zip_next_1 _)))
/-- the count's next, over whatever stands behind it -/
theorem cnt_item {en src : Addr} {ch : List Addr} {i : Int} {old : Value} {P : Value → Heap → Prop} {Q : Value → Shared → Prop} (he : IsEnum s.heap en src i old) (hn : en ∉ ch)
    (inner : ∀ R : Value → Shared → Prop, (∀ x g1, P x g1 → (∀ c o, c ∉ ch → s.heap.get? c = some o → g1.get? c = some o) → R x { s with heap := g1 }) → wpAny (model prog w) A (Builtin.SmallTypes.nextOf (.ref src)) R E s)
    (hQ : ∀ x g1 g' tk, P x g1 → (∀ c o, c ∉ ch → s.heap.get? c = some o → g1.get? c = some o) → IsEnumOut g' en src (i + 1) x g1.objs.size → g'.get? g1.objs.size = some { cls := .type "tuple", data := .seq #[.int i tk, x] } → (∀ c o, c ≠ en → g1.get? c = some o → g'.get? c = some o) → Q (.ref g1.objs.size) { s with heap := g', toks := tk + 1 }) :
    wpAny (model prog w) A (Builtin.«enumerate.__next__» ⟨[.ref en], []⟩) (fun fin s' => ∃ v, fin = .done (.ret v) ∧ Q v s') E s := by
  refine wpAny_bind (m := field (.ref en) 2) (wpAny_field he rfl (x := .ref src) rfl ?_)
  refine wpAny_bind (m := Builtin.SmallTypes.nextOf (.ref src)) (inner _ fun x g1 hP kp => ?_)
  have he1 : IsEnum g1 en src i old := kp _ _ hn he
  refine wpAny_bind (m := field (.ref en) 3) (wpAny_field (s := { s with heap := g1 }) he1 rfl (x := rawInt i) rfl ?_)
  refine wpAny_bind (m := field (.ref en) 4) (wpAny_field (s := { s with heap := g1 }) he1 rfl (x := .none) rfl ?_)
  refine wpAny_bind (m := mkInt i) (wpAny_mkInt ?_)
  refine wpAny_bind (m := setField (.ref en) 3 (rawInt (i + 1))) (wpAny_setField_rec he1 (by simp) fun g2 e2 b2 => ?_)
  replace e2 : IsEnum g2 en src (i + 1) old := e2
  refine wpAny_bind (m := setField (.ref en) 4 .none) (wpAny_setField_rec e2 (by simp) fun g3 e3 b3 => ?_)
  replace e3 : IsEnum g3 en src (i + 1) old := e3
  refine wpAny_bind (m := newTuple [.int i s.toks, x]) (wpAny_newTuple ?_)
  have e4 : IsEnum (g3.push { cls := .type "tuple", data := .seq #[.int i s.toks, x] }) en src (i + 1) old := Heap.get?_push_of_some _ e3
  have sz : g3.objs.size = g1.objs.size := by rw [b3.1, b2.1]
  have elt : en < g1.objs.size := Heap.lt_size he1
  have t4 : (g3.push { cls := .type "tuple", data := .seq #[.int i s.toks, x] }).get? g1.objs.size = some { cls := .type "tuple", data := .seq #[.int i s.toks, x] } := by rw [← sz]; exact Heap.get?_push_size _ rfl
  have k4 : ∀ c o, c ≠ en → g1.get? c = some o → (g3.push { cls := .type "tuple", data := .seq #[.int i s.toks, x] }).get? c = some o := fun c o hc q => Heap.get?_push_of_some _ (b3.extBut c o hc (b2.extBut c o hc q))
  obtain ⟨g4, eg4⟩ : ∃ g4, g4 = g3.push { cls := .type "tuple", data := .seq #[.int i s.toks, x] } := ⟨_, rfl⟩
  rw [← eg4] at e4 t4 k4
  show wpAny _ _ (Builtin.SmallTypes.ownedTupleIsFree (.ref en) >>= _) _ _ ({ s with heap := g3.push { cls := .type "tuple", data := .seq #[.int i s.toks, x] }, toks := s.toks + 1 } : Shared)
  rw [← eg4, sz]
  refine wpAny_bind (m := Builtin.SmallTypes.ownedTupleIsFree (.ref en)) ?_
  unfold Builtin.SmallTypes.ownedTupleIsFree
  refine wpAny_bind (m := field (.ref en) 0) (wpAny_field e4 rfl (x := .none) rfl (wpAny_pure ?_))
  simp only [if_true]
  refine wpAny_bind (wpAny_rule ?_)
  refine wpAny_bind (wpAny_field e4 rfl (x := old) rfl ?_)
  refine wpAny_bind (wpAny_setField_rec e4 (by simp) fun g5 e5 b5 => ?_)
  replace e5 : IsEnum g5 en src (i + 1) x := e5
  refine wpAny_bind (m := Builtin.SmallTypes.ownedTupleHandOut (.ref en) (.ref g1.objs.size)) ?_
  unfold Builtin.SmallTypes.ownedTupleHandOut
  refine wpAny_bind (wpAny_setField_rec e5 (by simp) fun g6 e6 b6 => ?_)
  replace e6 : IsEnumOut g6 en src (i + 1) x g1.objs.size := e6
  refine wpAny_setField_rec e6 (by simp) fun g7 e7 b7 => ?_
  replace e7 : IsEnumOut g7 en src (i + 1) x g1.objs.size := e7
  have k7 : ∀ c o, c ≠ en → g4.get? c = some o → g7.get? c = some o := fun c o hc q => b7.extBut c o hc (b6.extBut c o hc (b5.extBut c o hc q))
  exact wpAny_bind (wpAny_letGo (wpAny_pure ⟨_, rfl, hQ x g1 g7 s.toks hP kp e7 (k7 _ _ (Nat.ne_of_gt elt) t4) fun c o hc q => k7 c o hc (k4 c o hc q)⟩))
end
end Cal
/-! WpZd -/
namespace Cal
open PySem PySem.Spec PyProof.Rows L2 LamX RZ
open PySem.Sem (wp)
def IteZ (K : PySem.W.Frag) (a b : Addr) : It :=
  ⟨fun i H => ∃ (xs ys : List V) (x y : V), SqT K H a xs ∧ SqT K H b ys ∧ xs[i]? = some x ∧ ys[i]? = some y,
    fun i H v H' => ∃ P T x y, v = .ref P ∧ H T = none ∧ upd H T (.tup [x, y]) P = none ∧ H' = upd (upd H T (.tup [x, y])) P (.tup [.int (i : Nat), .ref T]) ∧ (∀ xs, SqT K H a xs → xs[i]? = some x) ∧ ∀ ys, SqT K H b ys → ys[i]? = some y,
    fun i H => ∃ xs ys : List V, SqT K H a xs ∧ SqT K H b ys ∧ (xs.length ≤ i ∨ ys.length ≤ i)⟩
theorem cnt_next {prog : Program} {w : World} {A : Around} {E : Value → Shared → Prop} {s : Shared} {en src : Addr} {ch : List Addr} {i : Int} {old : Value} {P : Value → Heap → Prop} {Q : Option Value → Shared → Prop} (he : IsEnum s.heap en src i old) (hn : en ∉ ch)
    (inner : ∀ (E : Value → Shared → Prop) (R : Value → Shared → Prop), (∀ x g1, P x g1 → (∀ c o, c ∉ ch → s.heap.get? c = some o → g1.get? c = some o) → R x { s with heap := g1 }) → wpAny (model prog w) A.in1 (Builtin.SmallTypes.nextOf (.ref src)) R E s)
    (hQ : ∀ x g1 g' tk, P x g1 → (∀ c o, c ∉ ch → s.heap.get? c = some o → g1.get? c = some o) → IsEnumOut g' en src (i + 1) x g1.objs.size → g'.get? g1.objs.size = some { cls := .type "tuple", data := .seq #[.int i tk, x] } → (∀ c o, c ≠ en → g1.get? c = some o → g'.get? c = some o) → Q (some (.ref g1.objs.size)) { s with heap := g', toks := tk + 1 }) :
    wpAny (model prog w) A (pyNext (.ref en)) Q E s := by
  have ty : s.TypeIs (.ref en) "enumerate" := ⟨_, he, rfl⟩
  unfold pyNext
  exact wpAny_bind (wpAny_attempt (wpAny_callSpecial?_slot (name := Str.ofString "__next__") ty F.slot_enumerate_next (wpAny_call_entry F.slot_enumerate_next ty F.entry_enumerate_next
      (cnt_item he hn (inner _) fun x g1 g' tk a b c d k => wpAny_pure (hQ x g1 g' tk a b c d k)) (F.args_enumerate_next_1 _))))
theorem turn_cz {P : Program} {w : World} {K : PySem.W.Frag} {elts : List Expr} {kk : Nat} {tpos : Pos} {a b en zp tI tO p1 p2 : Addr} (D : ZipApart zp tI tO p1 p2 a b) (hen : en ∉ [zp, tI, tO, p1, p2]) :
    Turn P w K (.Tuple elts kk tpos) (IteZ K a b) [en, zp, tI, tO, p1, p2] en (fun i h => (∃ old, IsEnum h en zp ((i : Nat) : Int) old) ∧ ZAt zp tI tO p1 p2 a b i h) where
  mem := by simp
  obj := fun i h st c hc => by
    obtain ⟨⟨old, he⟩, ⟨f0, f, _, z⟩, q1, ⟨_, _, q2⟩, ⟨oa, a1, _, a2⟩, ⟨ob, b1, _, b2⟩⟩ := st
    rcases (show c = en ∨ c = zp ∨ c = tI ∨ c = tO ∨ c = p1 ∨ c = p2 by simpa using hc) with e | e | e | e | e | e <;> rw [e]
    · exact ⟨_, he, fun v q => nomatch q⟩
    · exact ⟨_, z, fun v q => nomatch q⟩
    · exact ⟨_, q1, fun v q => nomatch q⟩
    · exact ⟨_, q2, fun v q => nomatch q⟩
    · exact ⟨oa, a1, fun v q => by rw [a2] at q; cases q⟩
    · exact ⟨ob, b1, fun v q => by rw [b2] at q; cases q⟩
  keep := fun i h h' st k => by
    obtain ⟨⟨old, he⟩, q⟩ := st
    exact ⟨⟨old, k en (by simp) _ he⟩, q.keep fun c hc => k c (List.mem_cons_of_mem _ hc)⟩
  item := by
    intro X hP hw hK hc i pins s σ H E J hf st hg
    subst hP hw hK
    obtain ⟨⟨old, he⟩, hz⟩ := st
    obtain ⟨xs, ys, x, y, hqx, hqy, hx, hy⟩ := hg
    obtain ⟨its, rv, t1, _⟩ := J.tuple hqx
    obtain ⟨its2, rv2, t2, _⟩ := J.tuple hqy
    obtain ⟨u, hu, ru⟩ := rv.get hx
    obtain ⟨u2, hu2, ru2⟩ := rv2.get hy
    have hel : en < s.heap.objs.size := Heap.lt_size he
    have fsub : ∀ c ∈ [zp, tI, tO, p1, p2], FpOk X pins H c := fun c hc => hf c (List.mem_cons_of_mem _ hc)
    refine cnt_next (P := fun v g1 => v = .ref s.heap.objs.size ∧ ZAt zp tI tO p1 p2 a b (i + 1) g1 ∧ IsPair g1 s.heap.objs.size u u2 ∧ g1.objs.size = s.heap.objs.size + 1) he hen (fun E R hR => zp_nextOf D hz t1 t2 (by simpa using hu) (by simpa using hu2) fun g1 q1 q2 q3 q4 => hR _ g1 ⟨rfl, q1, q2, q3⟩ q4) fun v g1 g' tk hP kp ho hT k2 => ?_
    obtain ⟨rfl, hz1, hp1, sz1⟩ := hP
    refine ⟨_, rfl, ?_⟩
    refine wpAny_letOwnedTupleGo_enum (s := { s with heap := g', toks := tk + 1 }) ho fun g2 he2 sb => ?_
    have nT : en ≠ s.heap.objs.size := Nat.ne_of_lt hel
    have nP : en ≠ g1.objs.size := by rw [sz1]; exact Nat.ne_of_lt (Nat.lt_succ_of_lt hel)
    have k3 : ∀ c o, c ≠ en → g1.get? c = some o → g2.get? c = some o := fun c o hc q => sb.extBut c o hc (k2 c o hc q)
    have I1 : Inv X pins σ (upd H s.heap.objs.size (.tup [x, y])) { s with heap := g1, toks := tk + 1 } :=
      J.turnedNew (ch := [zp, tI, tO, p1, p2]) kp fsub (Nat.le_refl _) ⟨by show 2 ≤ sizeLine; decide, [u, u2], .cons ru (.cons ru2 .nil), ⟨_, hp1, rfl, _, rfl⟩⟩
    obtain ⟨f0, f1, f2, f3, f4, f5⟩ := hf en (by simp)
    have fen : ∀ c ∈ [en], FpOk X pins (upd H s.heap.objs.size (.tup [x, y])) c := fun c hc => by
      obtain rfl : c = en := by simpa using hc
      exact ⟨by rw [upd_ne nT]; exact f0, f1, f2, f3, f4, f5⟩
    have hnP := I1.hok.fresh (Nat.le_refl g1.objs.size)
    have I2 : Inv X pins σ (upd (upd H s.heap.objs.size (.tup [x, y])) g1.objs.size (.tup [.int (i : Nat), .ref s.heap.objs.size])) { s with heap := g2, toks := tk + 1 } :=
      I1.turnedNew (t' := tk + 1) (ch := [en]) (fun c o hc q => k3 c o (by simpa using hc) q) fen (Nat.le_refl _) ⟨by show 2 ≤ sizeLine; decide, [.int i tk, .ref s.heap.objs.size], .cons ⟨_, rfl⟩ (.cons rfl .nil), ⟨_, sb.extBut _ _ (Ne.symm nP) hT, rfl, _, rfl⟩⟩
    refine ⟨.ref g1.objs.size, _, I2, rfl, ⟨_, s.heap.objs.size, x, y, rfl, J.hok.fresh (Nat.le_refl _), hnP, rfl, fun l hl => by rw [J.tuple_inj hl hqx]; exact hx, fun l hl => by rw [J.tuple_inj hl hqy]; exact hy⟩, ⟨⟨_, by rw [show ((i + 1 : Nat) : Int) = (i : Int) + 1 by omega]; exact he2⟩, hz1.keep fun c hc o q => k3 c o (fun e => hen (e ▸ hc)) q⟩, fun c hc => ?_⟩
    have hlt : c < s.heap.objs.size := by
      obtain ⟨o, ho, _⟩ : ∃ o, s.heap.get? c = some o ∧ True := by
        obtain ⟨⟨f0, f, _, z⟩, q1, ⟨_, _, q2⟩, ⟨oa, a1, _⟩, ⟨ob, b1, _⟩⟩ := hz
        rcases (show c = en ∨ c = zp ∨ c = tI ∨ c = tO ∨ c = p1 ∨ c = p2 by simpa using hc) with e | e | e | e | e | e <;> rw [e]
        · exact ⟨_, he, trivial⟩
        · exact ⟨_, z, trivial⟩
        · exact ⟨_, q1, trivial⟩
        · exact ⟨_, q2, trivial⟩
        · exact ⟨_, a1, trivial⟩
        · exact ⟨_, b1, trivial⟩
      exact Heap.lt_size ho
    rw [upd_ne (show c ≠ g1.objs.size by rw [sz1]; exact Nat.ne_of_lt (Nat.lt_succ_of_lt hlt)), upd_ne (Nat.ne_of_lt hlt)]
    exact (hf c hc).1
  done := by
    intro X hP hw hK hc i pins s σ H E J hf st hg
    subst hP hw hK
    obtain ⟨⟨old, he⟩, hz⟩ := st
    obtain ⟨xs, ys, hqx, hqy, hend⟩ := hg
    obtain ⟨its, rv, t1, _⟩ := J.tuple hqx
    obtain ⟨its2, rv2, t2, _⟩ := J.tuple hqy
    have le1 := rv.length
    have le2 := rv2.length
    have hx : its.toArray[i]? = none ∨ its2.toArray[i]? = none := by
      rcases hend with q | q
      · exact .inl (by simp; omega)
      · exact .inr (by simp; omega)
    have ty : s.TypeIs (.ref en) "enumerate" := ⟨_, he, rfl⟩
    unfold pyNext
    refine wpAny_bind (wpAny_attempt (wpAny_callSpecial?_slot (name := Str.ofString "__next__") ty F.slot_enumerate_next (wpAny_call_entry F.slot_enumerate_next ty F.entry_enumerate_next ?_ (F.args_enumerate_next_1 _))))
    refine wpAny_bind (m := field (.ref en) 2) (wpAny_field he rfl (x := .ref zp) rfl ?_)
    refine wpAny_bind (m := Builtin.SmallTypes.nextOf (.ref zp)) (zp_nextEnd (show X.A.in1.handled = none from J.ok.hd hc) D hz t1 t2 hx fun g' e kp hs => ?_)
    obtain ⟨o, ho, hcl⟩ := hs
    refine wpAny_bind (wpAny_isInstance (T := "StopIteration") (b := true) ⟨o, ho, hcl⟩ isSubtype_stop ?_)
    exact wpAny_pure ⟨rfl, J.turnedL (t' := s.toks) (ch := [zp, tI, tO, p1, p2]) kp fun c hc => hf c (List.mem_cons_of_mem _ hc)⟩
  self := fun A i s Q E st h => by
    obtain ⟨⟨_, he⟩, _⟩ := st
    exact wpAny_pyIter_enum he h
end Cal
/-! WpZe -/
namespace Cal
open PySem PySem.Spec PyProof.Rows L2 LamX RZ
open PySem.Sem (wp)
open PySem.AutoSeq1 (wpAny_loadPart')
abbrev cntObj (zp : Addr) : Obj := { cls := .type "enumerate", data := .fields #[.none, .bool false, .ref zp, rawInt 0, .none, .none] }
theorem cz_new (zp tI tO : Addr) (f0 : Value) :
    Meets (Builtin.«enumerate.__new__» ⟨[.type "enumerate", .ref zp], []⟩) (fun _ R s => s.heap.get? zp = some (ZObj f0 false tI tO) ∧ R (.ok (.ret (.ref s.heap.objs.size))) { s with heap := s.heap.push (cntObj zp) }) := by
  refine .of_wp fun prog w A R s h => ?_
  obtain ⟨hp, g, d, tk, os⟩ := s
  obtain ⟨hl, h⟩ := h
  have hsub := sub_enumerate
  have hL : IsZip (Shared.heap ⟨hp, g, d, tk, os⟩) zp tI tO f0 := hl
  wp_walk using wpAny_loadPart' hl
  refine wpAny_stack_any fun st => wpAny_pure ?_
  split
  · rename_i c _ _ _ _ _
    cases (c == Value.type "enumerate") <;> (wp_walk using wpAny_loadPart' hl, wpAny_pyIter_zip hL) <;> exact ⟨_, rfl, h⟩
  · wp_walk using wpAny_loadPart' hl, wpAny_pyIter_zip hL
    exact ⟨_, rfl, h⟩
theorem cz_call {prog : Program} {w : World} {A : Around} {E : Value → Shared → Prop} {s : Shared} {zp tI tO : Addr} {f0 : Value} {Q : Value → Shared → Prop} (hz : s.heap.get? zp = some (ZObj f0 false tI tO))
    (h : ∀ h', IsEnum h' s.heap.objs.size zp 0 .none → (∀ b o, s.heap.get? b = some o → h'.get? b = some o) → Q (.ref s.heap.objs.size) { s with heap := h' }) :
    wpAny (model prog w) A (call (.type "enumerate") [.ref zp]) Q E s := by
  refine callType_new F.called_enumerate (by decide) (F.typeCall_enumerate_1 _) (F.newCall_enumerate_1 _) (fun obj => F.args_object_init_2 obj _) F.entry_enumerate_new (cz_new zp tI tO f0) ⟨hz, ?_⟩
  have he : IsEnum (s.heap.push (cntObj zp)) s.heap.objs.size zp 0 .none := Heap.get?_push_size _ rfl
  exact ⟨⟨_, he, rfl⟩, h _ he fun b o q => Heap.get?_push_of_some _ q⟩
def iCz (K : PySem.W.Frag) (ta : TA) : TI := fun σ H R => ta σ H fun vs H1 => ∃ a b xs ys, vs = [.ref a, .ref b] ∧ SqT K H1 a xs ∧ SqT K H1 b ys ∧ R (IteZ K a b) H1
theorem starC {x : Expr} {es : List Expr} {ks : List Keyword} {p : Pos} {env : Env} : starEach [.Call x es ks p] env = [(false, eval (.Call x es ks p) env)] := rfl
theorem pi_cz {X : Cx} {e e2 : Expr} {ta : TA} {p p2 pos pos2 tpos : Pos} {elts : List Expr} {kk : Nat} (hg : Gl X "enumerate") (hm : X.mg "enumerate" = none) (hgz : Gl X "zip") (hmz : X.mg "zip" = none) (ha : PA X [e, e2] ta)
    (hs : starEach [e, e2] X.env = (false, eval e X.env) :: starEach [e2] X.env) (hpl : (backTo pos2 (starEach [e2] X.env)).any (·.1) = false) :
    PI X (.Tuple elts kk tpos) (.Call (.Name "enumerate" p) [.Call (.Name "zip" p2) [e, e2] [] pos2] [] pos) (iCz X.K ta) := by
  refine ⟨fun pins s σ H R J h => ?_⟩
  refine Call_ (ld_blt J hg hm boot_enumerate (PyProof.Rows.callWith_type1 ?_ starC rfl))
  show wpAny _ _ (spliced ((false, eval (.Call (.Name "zip" p2) [e, e2] [] pos2) X.env) :: [])) _ _ s
  refine Calls.spliced_cons ?_
  refine Call_ (ld_blt J hgz hmz PyProof.Rows.boot_zip (PyProof.Rows.callWith_type1 (thn (ha.run pos2 pins s σ H _ J h) fun us s1 ⟨vs, H1, I1, r1, q1⟩ => ?_) hs hpl))
  obtain ⟨a, b, xs, ys, ex, hqx, hqy, q⟩ := q1
  subst ex
  cases r1 with
  | cons r rr =>
    cases rr with
    | cons r' rr =>
      cases rr
      cases r
      cases r'
      obtain ⟨its, rv, t1, _⟩ := I1.tuple hqx
      obtain ⟨its2, rv2, t2, _⟩ := I1.tuple hqy
      have la : a < s1.heap.objs.size := by obtain ⟨o, ho, _⟩ := t1; exact Heap.lt_size ho
      have lb : b < s1.heap.objs.size := by obtain ⟨o, ho, _⟩ := t2; exact Heap.lt_size ho
      refine call_zipT (show s1.heap.IsTuple a its.toArray from t1) (show s1.heap.IsTuple b its2.toArray from t2) fun g1 z1 z2 z3 z4 z5 z6 k1 => ?_
      refine Calls.spliced_nil ?_
      refine cz_call (s := { s1 with heap := g1 }) z1 fun g2 he k2 => wpAny_pyIter_enum he ?_
      have he : IsEnum g2 (s1.heap.objs.size + 5) (s1.heap.objs.size + 4) 0 .none := by rw [← z6]; exact he
      have I2 : Inv X pins σ H1 { s1 with heap := g2 } := I1.kept (t' := s1.toks) fun c o e => k2 c o (k1 c o e)
      have fr : ∀ c ∈ [s1.heap.objs.size + 5, s1.heap.objs.size + 4, s1.heap.objs.size + 2, s1.heap.objs.size + 3, s1.heap.objs.size, s1.heap.objs.size + 1], FpOk X pins H1 c := fun c hc => by
        have hle : s1.heap.objs.size ≤ c := by
          rcases (show c = s1.heap.objs.size + 5 ∨ c = s1.heap.objs.size + 4 ∨ c = s1.heap.objs.size + 2 ∨ c = s1.heap.objs.size + 3 ∨ c = s1.heap.objs.size ∨ c = s1.heap.objs.size + 1 by simpa using hc) with z | z | z | z | z | z <;> rw [z] <;> first | exact Nat.le_add_right _ _ | exact Nat.le_refl _
        exact I1.fpOk hle (I1.hok.fresh hle)
      show PIE _ _ _ _ _ (.ref g1.objs.size) _
      rw [z6]
      refine ⟨s1.heap.objs.size + 5, [s1.heap.objs.size + 5, s1.heap.objs.size + 4, s1.heap.objs.size + 2, s1.heap.objs.size + 3, s1.heap.objs.size, s1.heap.objs.size + 1], _, _, H1, rfl, I2, turn_cz (a := a) (b := b) (PySem.W.ktu_apart s1.heap.objs.size a b la lb) (by simp), ⟨⟨.none, he⟩, ⟨.none, false, .inl rfl, k2 _ _ z1⟩, k2 _ _ z2, ⟨_, _, k2 _ _ z3⟩, z4.at fun o e => k2 _ o e, z5.at fun o e => k2 _ o e⟩, fr, q⟩
end Cal
/-! WpN -/
namespace Cal
open PySem PySem.Spec PyProof.Rows L2 LamX
section
variable {K : PySem.W.Frag} {T : Tb} {G1 : Hp} {a : Addr}
theorem src_enuT {vs : List V} {xs : List D} (h1 : SqT K G1 a vs) (h2 : DpAll K G1 vs xs) : Src K T (IteT K a) G1 (enuS xs) (fun _ => True) where
  go := fun i M G H hi sg w _ => by
    rw [enu_len, ← dps_len h2] at hi
    exact ⟨vs, vs[i], seqT (sg.trans w.w.ex) h1, List.getElem?_eq_getElem hi⟩
  stop := fun M G H sg w _ => ⟨vs, seqT (sg.trans w.w.ex) h1, by rw [enu_len, dps_len h2]; exact Nat.le_refl _⟩
  yld := fun i M G H x H' hi sg w _ ⟨P, y, e1, hn, e2, hy⟩ => by
    subst e1 e2
    rw [enu_len] at hi
    obtain ⟨v, z1, z2⟩ := dps_get h2 (List.getElem?_eq_getElem hi)
    have e3 := hy vs (seqT (sg.trans w.w.ex) h1)
    rw [z1] at e3
    cases e3
    obtain ⟨g, w2⟩ := w.new hn (.tup [.int (i : Nat), y])
    exact ⟨_, _, enu_get (List.getElem?_eq_getElem hi), g, w2, Dp.tup (SqT.of upd_same) (.cons (.int _) (.cons (dpUp (sg.trans g) _ z2) .nil))⟩
end
section
variable {K : PySem.W.Frag} {T : Tb} {G1 : Hp} {a b : Addr}
theorem zipD_len {xs ys : List D} : (dats (zipD xs ys)).length = min xs.length ys.length := by unfold zipD dats; simp
theorem zipD_get {xs ys : List D} {i : Nat} {x y : D} (h1 : xs[i]? = some x) (h2 : ys[i]? = some y) : (dats (zipD xs ys))[i]? = some (.dat (.tuple [x, y])) := by
  have l1 := (List.getElem?_eq_some_iff.mp h1).1
  have l2 := (List.getElem?_eq_some_iff.mp h2).1
  unfold zipD dats
  rw [List.getElem?_map, List.getElem?_map, List.getElem?_range (by omega)]
  simp [List.getD, h1, h2]
theorem src_zip {vs us : List V} {xs ys : List D} (h1 : SqT K G1 a vs) (h2 : SqT K G1 b us) (h3 : DpAll K G1 vs xs) (h4 : DpAll K G1 us ys) : Src K T (RZ.ItzT K a b) G1 (dats (zipD xs ys)) (fun _ => True) where
  go := fun i M G H hi sg w _ => by
    rw [zipD_len, ← dps_len h3, ← dps_len h4] at hi
    exact ⟨vs, us, vs[i], us[i], seqT (sg.trans w.w.ex) h1, seqT (sg.trans w.w.ex) h2, List.getElem?_eq_getElem (by omega), List.getElem?_eq_getElem (by omega)⟩
  stop := fun M G H sg w _ => ⟨vs, us, seqT (sg.trans w.w.ex) h1, seqT (sg.trans w.w.ex) h2, by rw [zipD_len, dps_len h3, dps_len h4]; omega⟩
  yld := fun i M G H x H' hi sg w _ ⟨P, u, y, e1, hn, e2, hu, hy⟩ => by
    subst e1 e2
    rw [zipD_len] at hi
    have g1 : xs[i]? = some xs[i] := List.getElem?_eq_getElem (by omega)
    have g2 : ys[i]? = some ys[i] := List.getElem?_eq_getElem (by omega)
    obtain ⟨v, z1, z2⟩ := dps_get h3 g1
    obtain ⟨v', z3, z4⟩ := dps_get h4 g2
    have e3 := hu vs (seqT (sg.trans w.w.ex) h1)
    rw [z1] at e3
    cases e3
    have e4 := hy us (seqT (sg.trans w.w.ex) h2)
    rw [z3] at e4
    cases e4
    obtain ⟨g, w2⟩ := w.new hn (.tup [u, y])
    exact ⟨_, _, zipD_get g1 g2, g, w2, Dp.tup (SqT.of upd_same) (.cons (dpUp (sg.trans g) _ z2) (.cons (dpUp (sg.trans g) _ z4) .nil))⟩
theorem src_cz {vs us : List V} {xs ys : List D} (h1 : SqT K G1 a vs) (h2 : SqT K G1 b us) (h3 : DpAll K G1 vs xs) (h4 : DpAll K G1 us ys) : Src K T (IteZ K a b) G1 (enuS (zipD xs ys)) (fun _ => True) where
  go := fun i M G H hi sg w _ => by
    have hi2 : i < (dats (zipD xs ys)).length := by rw [enu_len] at hi; unfold dats; rw [List.length_map]; exact hi
    rw [zipD_len, ← dps_len h3, ← dps_len h4] at hi2
    exact ⟨vs, us, vs[i], us[i], seqT (sg.trans w.w.ex) h1, seqT (sg.trans w.w.ex) h2, List.getElem?_eq_getElem (by omega), List.getElem?_eq_getElem (by omega)⟩
  stop := fun M G H sg w _ => ⟨vs, us, seqT (sg.trans w.w.ex) h1, seqT (sg.trans w.w.ex) h2, by
    have z : (zipD xs ys).length = min xs.length ys.length := by unfold zipD; simp
    rw [enu_len, z, dps_len h3, dps_len h4]; omega⟩
  yld := fun i M G H x H' hi sg w _ ⟨P, q, u, y, e1, hn, hn2, e2, hu, hy⟩ => by
    subst e1 e2
    have z : (zipD xs ys).length = min xs.length ys.length := by unfold zipD; simp
    rw [enu_len, z] at hi
    have g1 : xs[i]? = some xs[i] := List.getElem?_eq_getElem (by omega)
    have g2 : ys[i]? = some ys[i] := List.getElem?_eq_getElem (by omega)
    obtain ⟨v, z1, z2⟩ := dps_get h3 g1
    obtain ⟨v', z3, z4⟩ := dps_get h4 g2
    have e3 := hu vs (seqT (sg.trans w.w.ex) h1)
    rw [z1] at e3
    cases e3
    have e4 := hy us (seqT (sg.trans w.w.ex) h2)
    rw [z3] at e4
    cases e4
    obtain ⟨gA, w2⟩ := w.new hn (.tup [u, y])
    obtain ⟨gB, w3⟩ := w2.new hn2 (.tup [.int (i : Nat), .ref q])
    have gz : (zipD xs ys)[i]? = some (.tuple [xs[i], ys[i]]) := by
      have := zipD_get g1 g2
      unfold dats at this
      rw [List.getElem?_map] at this
      obtain ⟨d, d1, d2⟩ := Option.map_eq_some_iff.mp this
      cases d2
      exact d1
    have pr : Dp K (upd G q (.tup [u, y])) (.ref q) (.tuple [xs[i], ys[i]]) := Dp.tup (SqT.of upd_same) (.cons (dpUp (sg.trans gA) _ z2) (.cons (dpUp (sg.trans gA) _ z4) .nil))
    exact ⟨_, _, enu_get gz, gA.trans gB, w3, Dp.tup (SqT.of upd_same) (.cons (.int _) (.cons (dpUp gB _ pr) .nil))⟩
end
section
variable {g : Gi} {U : Wps}
theorem pi_enu {X : Cx} {T : Tb} {W : WX} {ds : List Sv} {M : Ms} {E : Er} {a : Expr} {p pos tpos : Pos} {elts : List Expr} {kk : Nat} {Q : PoI} (hg : Gl X "enumerate") (hm : X.mg "enumerate" = none) (hs : notStar a = true) (h : PE X a (tE X.K T W ds M (fun v M1 => seqW v fun xs => Q (enuS xs) (fun _ => True) M1) E)) :
    PI X (.Tuple elts kk tpos) (.Call (.Name "enumerate" p) [a] [] pos) (tI X.K T W ds M Q E) :=
  pi_mono (pi_enuT hg hm (pa_cons h pa_nil (star_one hs)) (by rw [star_one hs]; rfl)) fun σ H R ⟨G, w, s, k, er⟩ => ⟨G, w, s, fun v M' x G1 H1 hi sg w1 hx => by
    have hi : seqW v (fun xs => Q (enuS xs) (fun _ => True) M') := hi
    unfold seqW at hi
    split at hi
    · obtain ⟨p, vs, rfl, h1, h2⟩ := vk_lst hx
      exact ⟨p, vs, rfl, .inl ⟨w1.w.ex.seq h1, k _ _ _ _ _ _ hi sg w1 (src_enuL h1 h2)⟩⟩
    · obtain ⟨p, vs, rfl, h1, h2⟩ := vk_tup hx
      exact ⟨p, vs, rfl, .inr ⟨seqT w1.w.ex h1, k _ _ _ _ _ _ hi sg w1 (src_enuT h1 h2)⟩⟩
    · exact hi.elim, er⟩
theorem tup2_ok {K : PySem.W.Frag} {G : Hp} {x y : V} {v u : Sv} {P : List D → List D → Prop} (h : tup2W v u P) (hx : Vk K G x v) (hy : Vk K G y u) : ∃ a b vs us xs ys, x = .ref a ∧ y = .ref b ∧ SqT K G a vs ∧ SqT K G b us ∧ DpAll K G vs xs ∧ DpAll K G us ys ∧ P xs ys := by
  unfold tup2W at h
  split at h
  · obtain ⟨p, vs, e1, h1, h2⟩ := vk_tup hx
    obtain ⟨p', us, e2, h3, h4⟩ := vk_tup hy
    exact ⟨p, p', vs, us, _, _, e1, e2, h1, h3, h2, h4, h⟩
  · exact h.elim
theorem pi_zipW {X : Cx} {T : Tb} {W : WX} {ds : List Sv} {M : Ms} {E : Er} {a b : Expr} {p pos tpos : Pos} {elts : List Expr} {kk : Nat} {Q : PoI} {P : Sv → Ms → Prop} (hg : Gl X "zip") (hm : X.mg "zip" = none) (hs : notStar a = true) (hs2 : notStar b = true) (h : PE X a (tE X.K T W ds M P E))
    (h2 : ∀ v M1, P v M1 → PE X b (tE X.K T W ds M1 (fun u M2 => tup2W v u fun xs ys => Q (dats (zipD xs ys)) (fun _ => True) M2) E)) :
    PI X (.Tuple elts kk tpos) (.Call (.Name "zip" p) [a, b] [] pos) (tI X.K T W ds M Q E) :=
  pi_mono (RZ.pi_zipA hg hm (pa_cons h (pa_cons (pe_sec (Qf := fun v u M2 => tup2W v u fun xs ys => Q (dats (zipD xs ys)) (fun _ => True) M2) h2) pa_nil (star_one hs2)) (star_one hs)) (star_one hs) (by rw [star_one hs2]; rfl)) fun σ H R ⟨G, w, s, k, er⟩ => ⟨G, w, s, fun v M1 x G1 H1 hv sg w1 hx => ⟨(v, M1), hv, G1, w1, s.up sg, fun u M2 y G2 H2 hu sg2 w2 hy => by
    obtain ⟨a, b, vs, us, xs, ys, rfl, rfl, q1, q2, q3, q4, hq⟩ := tup2_ok hu (hx.up sg2) hy
    exact ⟨a, b, vs, us, rfl, .inr ⟨seqT w2.w.ex q1, seqT w2.w.ex q2, k _ _ _ _ _ _ hq (sg.trans sg2) w2 (src_zip q1 q2 q3 q4)⟩⟩, er.up sg⟩, er⟩
theorem pi_czW {X : Cx} {T : Tb} {W : WX} {ds : List Sv} {M : Ms} {E : Er} {a b : Expr} {p p2 pos pos2 tpos : Pos} {elts : List Expr} {kk : Nat} {Q : PoI} {P : Sv → Ms → Prop} (hge : Gl X "enumerate") (hme : X.mg "enumerate" = none) (hg : Gl X "zip") (hm : X.mg "zip" = none) (hs : notStar a = true) (hs2 : notStar b = true) (h : PE X a (tE X.K T W ds M P E))
    (h2 : ∀ v M1, P v M1 → PE X b (tE X.K T W ds M1 (fun u M2 => tup2W v u fun xs ys => Q (enuS (zipD xs ys)) (fun _ => True) M2) E)) :
    PI X (.Tuple elts kk tpos) (.Call (.Name "enumerate" p) [.Call (.Name "zip" p2) [a, b] [] pos2] [] pos) (tI X.K T W ds M Q E) :=
  pi_mono (pi_cz hge hme hg hm (pa_cons h (pa_cons (pe_sec (Qf := fun v u M2 => tup2W v u fun xs ys => Q (enuS (zipD xs ys)) (fun _ => True) M2) h2) pa_nil (star_one hs2)) (star_one hs)) (star_one hs) (by rw [star_one hs2]; rfl)) fun σ H R ⟨G, w, s, k, er⟩ => ⟨G, w, s, fun v M1 x G1 H1 hv sg w1 hx => ⟨(v, M1), hv, G1, w1, s.up sg, fun u M2 y G2 H2 hu sg2 w2 hy => by
    obtain ⟨a, b, vs, us, xs, ys, rfl, rfl, q1, q2, q3, q4, hq⟩ := tup2_ok hu (hx.up sg2) hy
    exact ⟨a, b, vs, us, rfl, seqT w2.w.ex q1, seqT w2.w.ex q2, k _ _ _ _ _ _ hq (sg.trans sg2) w2 (src_cz q1 q2 q3 q4)⟩, er.up sg⟩, er⟩
theorem zipA_ok {g : Gi} {S : Sc} {a b c : Expr} (h : zipA g S a = some (b, c)) : ∃ p pos, a = .Call (.Name "zip" p) [b, c] [] pos ∧ globB S "zip" = true ∧ g.bi "zip" = true ∧ notStar b = true ∧ notStar c = true := by
  unfold zipA at h
  split at h
  · split at h
    · rename_i hc
      simp only [Bool.and_eq_true] at hc
      have ex := eq_of_beq hc.1.1.1.1
      subst ex
      cases h
      exact ⟨_, _, rfl, hc.1.1.1.2, hc.1.1.2, hc.1.2, hc.2⟩
    · cases h
  · cases h
theorem stepI_ok (hU : WOk g U) {S : Sc} {X : Cx} {W : WX} {tg e : Expr} {ds : List Sv} {M : Ms} {Q : PoI} {Er' : Er} (o : Xo g S X W) (h : (stepW g U).I S tg e ds M Q Er') : PI X tg e (tI X.K g.T W ds M Q Er') := by
  unfold stepW at h
  dsimp only at h
  split at h
  · rename_i x ps a ps2
    split at h
    · rename_i hx
      split at h
      · rename_i hc
        simp only [Bool.and_eq_true] at hc
        have ex := eq_of_beq hx
        subst ex
        exact pi_r1 (o.gl hc.1.2).1 (o.ok.bi _ hc.2) hc.1.1 (hU.E o h)
      · exact h.elim
    · split at h
      · rename_i hx
        split at h
        · rename_i hc
          simp only [Bool.and_eq_true] at hc
          have ex := eq_of_beq hx
          subst ex
          cases tg with
          | Tuple elts kk tpos =>
            split at h
            · rename_i b c hz
              obtain ⟨p, pos, rfl, z1, z2, z3, z4⟩ := zipA_ok hz
              exact pi_czW (o.gl hc.1.1.2).1 (o.ok.bi _ hc.1.2) (o.gl z1).1 (o.ok.bi _ z2) z3 z4 (hU.E o h) fun v M1 h1 => hU.E o h1
            · exact pi_enu (o.gl hc.1.1.2).1 (o.ok.bi _ hc.1.2) hc.1.1.1 (hU.E o h)
          | _ => cases hc.2
        · exact h.elim
      · exact pi_val (hU.E o h)
  · rename_i x ps a b ps2
    split at h
    · rename_i hx
      split at h
      · rename_i hc
        simp only [Bool.and_eq_true] at hc
        have ex := eq_of_beq hx
        subst ex
        exact pi_r2 (o.gl hc.1.2).1 (o.ok.bi _ hc.2) hc.1.1.1 hc.1.1.2 (hU.E o h) fun v M1 h1 => hU.E o h1
      · exact h.elim
    · split at h
      · rename_i hx
        split at h
        · rename_i hc
          simp only [Bool.and_eq_true] at hc
          have ex := eq_of_beq hx
          subst ex
          cases tg with
          | Tuple elts kk tpos => exact pi_zipW (o.gl hc.1.1.2).1 (o.ok.bi _ hc.1.2) hc.1.1.1.1 hc.1.1.1.2 (hU.E o h) fun v M1 h1 => hU.E o h1
          | _ => cases hc.2
        · exact h.elim
      · exact pi_val (hU.E o h)
  · exact pi_val (hU.E o h)
theorem wps_ok (g : Gi) : ∀ n, WOk g (wps g n)
  | 0 => ⟨fun _ h => h.elim, fun _ h => h.elim, fun _ h => h.elim⟩
  | n + 1 => ⟨fun o h => stepE_ok (wps_ok g n) o h, fun o h => stepT_ok (wps_ok g n) o h, fun o h => stepI_ok (wps_ok g n) o h⟩
end
end Cal
/-! WpO -/
namespace Cal
open PySem PySem.Spec PyProof.Rows L2 LamX
/-! ### statements are as read -/
structure KOk (K : PySem.W.Frag) (T : Tb) (W : WX) (G : Hp) (k : Kt) (D : Ends) : Prop where
  nx : ∀ ds' M' σ' G' H', k.nx ds' M' → Same G G' → Wt K T M' G' H' → Sl K G' σ' ds' → D.nx σ' H'
  rt : ∀ r M' v G' H', k.rt r M' → Same G G' → Wt K T M' G' H' → Vk K G' v r → D.rt v H'
  bk : ∀ ds' M' σ' G' H', k.bk ds' M' → Same G G' → Wt K T M' G' H' → Sl K G' σ' ds' → D.bk σ' H'
  ct : ∀ ds' M' σ' G' H', k.ct ds' M' → Same G G' → Wt K T M' G' H' → Sl K G' σ' ds' → D.ct σ' H'
  er : erE K T G k.er W
theorem KOk.up {K : PySem.W.Frag} {T : Tb} {W : WX} {G G' : Hp} {k : Kt} {D : Ends} (h : KOk K T W G k D) (e : Same G G') : KOk K T W G' k D :=
  ⟨fun a b c d f g s => h.nx a b c d f g (e.trans s), fun a b c d f g s => h.rt a b c d f g (e.trans s), fun a b c d f g s => h.bk a b c d f g (e.trans s), fun a b c d f g s => h.ct a b c d f g (e.trans s), h.er.up e⟩
def tS (K : PySem.W.Frag) (T : Tb) (W : WX) (ds : List Sv) (M : Ms) (k : Kt) : TS := fun D σ H => ∃ G, Wt K T M G H ∧ Sl K G σ ds ∧ KOk K T W G k D
theorem wq_ok (g : Gi) : WOk g (wq g) := ⟨fun o h => stepE_ok (wps_ok g 39) o h, fun o h => stepT_ok (wps_ok g 39) o h, fun o h => stepI_ok (wps_ok g 39) o h⟩
structure Xs (g : Gi) (S : Sc) (X : Cx) (W : WX) : Prop where
  o : Xo g S X W
  ps : PassesOwn (model X.prog X.w) X.A X.env X.xe
section
variable {g : Gi} {S : Sc} {X : Cx} {W : WX} {T : Tb} {ds : List Sv} {M : Ms} {k : Kt} {pos : Pos}
theorem wpSs_ok {f : StF} (hf : ∀ st ds M nx rt bk ct er, f st ds M nx rt bk ct er → PS X st (tS X.K T W ds M ⟨nx, rt, bk, ct, er⟩)) : ∀ {ss : List Stmt} {ds : List Sv} {M : Ms} {k : Kt}, wpSs f ss ds M k.nx k.rt k.bk k.ct k.er → PSs X ss (tS X.K T W ds M k)
  | [], ds, M, k, h => pss_mono pss_nil fun D σ H ⟨G, w, s, q⟩ => q.nx ds M σ G H h (Same.refl _) w s
  | st :: ss, ds, M, k, h => by
    refine pss_mono (pss_cons (hf st ds M _ _ _ _ _ h) (pss_ex (ι := List Sv × Ms) (p := fun z => wpSs f ss z.1 z.2 k.nx k.rt k.bk k.ct k.er) (t := fun z => tS X.K T W z.1 z.2 k) fun z hz => wpSs_ok hf hz)) fun D σ H ⟨G, w, s, q⟩ => ?_
    exact ⟨G, w, s, fun ds1 M1 σ1 G1 H1 h1 sg w1 s1 => ⟨(ds1, M1), h1, G1, w1, s1, q.up sg⟩, q.rt, q.bk, q.ct, q.er⟩
abbrev uGs (K : PySem.W.Frag) (T : Tb) (S : Sc) (tg : Expr) : TG := fun v σ H q => ∃ z : Sv × List Sv × (List Sv → Prop), wpG S 9 tg z.1 z.2.1 z.2.2 ∧ tGx K T z.1 z.2.1 z.2.2 (tgSl S 9 tg) v σ H q
theorem pg_u (o : Xn S X) (tg : Expr) : PG X tg (uGs X.K T S tg) := pg_ex (ι := Sv × List Sv × (List Sv → Prop)) (p := fun z => wpG S 9 tg z.1 z.2.1 z.2.2) (t := fun z => tGx X.K T z.1 z.2.1 z.2.2 (tgSl S 9 tg)) fun z hz => wpG_ok o 9 tg _ _ _ hz
abbrev uSs (K : PySem.W.Frag) (T : Tb) (W : WX) (f : StF) (body : List Stmt) : TS := fun D σ H => ∃ z : List Sv × Ms × Kt, wpSs f body z.1 z.2.1 z.2.2.nx z.2.2.rt z.2.2.bk z.2.2.ct z.2.2.er ∧ tS K T W z.1 z.2.1 z.2.2 D σ H
theorem pss_u {f : StF} (hf : ∀ st ds M nx rt bk ct er, f st ds M nx rt bk ct er → PS X st (tS X.K T W ds M ⟨nx, rt, bk, ct, er⟩)) (body : List Stmt) : PSs X body (uSs X.K T W f body) := pss_ex (ι := List Sv × Ms × Kt) (p := fun z => wpSs f body z.1 z.2.1 z.2.2.nx z.2.2.rt z.2.2.bk z.2.2.ct z.2.2.er) (t := fun z => tS X.K T W z.1 z.2.1 z.2.2) fun z hz => wpSs_ok hf hz
theorem for_ok {nx : Nx} {rt : PoE} {bk ct : Nx} {er : Er} (x : Xs g S X W) {f : StF} (hf : ∀ st ds M nx rt bk ct er, f st ds M nx rt bk ct er → PS X st (tS X.K g.T W ds M ⟨nx, rt, bk, ct, er⟩)) {tg it : Expr} {body : List Stmt} (h1 : notSet it = true)
    (h : (wq g).I S tg it ds M (fun rs Kp M1 => ∃ Inv : Nat → List Sv → Ms → Prop, Inv 0 ds M1 ∧ (∀ i ds M, i ≤ rs.length → Inv i ds M → Kp M) ∧
          (∀ i r ds M, rs[i]? = some r → Inv i ds M → wpG S 9 tg r ds fun ds' => wpSs f body ds' M (Inv (i + 1)) rt nx (Inv (i + 1)) er) ∧ (∀ ds M, Inv rs.length ds M → nx ds M)) er) :
    PS X (.For tg it body [] pos) (tS X.K g.T W ds M ⟨nx, rt, bk, ct, er⟩) := by
  refine ps_mono (ps_for x.ps x.o.calm ((wq_ok g).I x.o h) (pg_u (T := g.T) x.o.n tg) (pss_u hf body) (fun y => by cases it <;> first | rfl | cases h1)) fun D σ H ⟨G, w, s, q⟩ => ?_
  refine ⟨G, w, s, fun rs Kp M1 G1 H1 J hl sg w1 src => ?_, q.er⟩
  obtain ⟨Inv, h0, hk, hstep, hend⟩ := hl
  refine ⟨fun i m σ H => m = rs.length - i ∧ i ≤ rs.length ∧ ∃ ds M Gi, Inv i ds M ∧ Same G1 Gi ∧ Wt X.K g.T M Gi H ∧ Sl X.K Gi σ ds, ⟨rs.length, by simp, Nat.zero_le _, ds, M1, G1, h0, Same.refl _, w1, s.up sg⟩, ?_⟩
  rintro i m σi Hi ⟨rfl, hi, dsi, Mi, Gi, hinv, sgi, wi, si⟩
  have hkp := hk i dsi Mi hi hinv
  by_cases hlt : i < rs.length
  · refine .inr ⟨src.go i _ Gi Hi hlt sgi wi hkp, fun σ' H' => ∃ ds M Gi, Inv (i + 1) ds M ∧ Same G1 Gi ∧ Wt X.K g.T M Gi H' ∧ Sl X.K Gi σ' ds, fun σ' H' ⟨ds', M', G', z1, z2, z3, z4⟩ => ⟨rs.length - (i + 1), by omega, rfl, by omega, ds', M', G', z1, z2, z3, z4⟩, fun v H' hy => ?_⟩
    obtain ⟨G', r, hr, sg', w', hx⟩ := src.yld i _ Gi Hi v H' hlt sgi wi hkp hy
    refine ⟨(r, dsi, _), hstep i r dsi Mi hr hinv, Mi, G', w', si.up sg', hx, fun ds2 σ2 hq s2 chg => ⟨(ds2, Mi, ⟨Inv (i + 1), rt, nx, Inv (i + 1), er⟩), hq, G', w', s2, ?_⟩⟩
    have sga := sgi.trans sg'
    exact ⟨fun ds' M' σ' G2 H2 z sg2 w2 s2 => ⟨ds', M', G2, z, sga.trans sg2, w2, s2⟩, fun a b c d e z sg2 => q.rt a b c d e z (sg.trans (sga.trans sg2)), fun a b c d e z sg2 => q.nx a b c d e z (sg.trans (sga.trans sg2)), fun ds' M' σ' G2 H2 z sg2 w2 s2 => ⟨ds', M', G2, z, sga.trans sg2, w2, s2⟩, q.er.up (sg.trans sga)⟩
  · have e : i = rs.length := by omega
    subst e
    exact .inl ⟨src.stop _ Gi Hi sgi wi hkp, q.nx dsi Mi σi Gi Hi (hend dsi Mi hinv) (sg.trans sgi) wi si⟩
theorem while_ok {nx : Nx} {rt : PoE} {bk ct : Nx} {er : Er} (x : Xs g S X W) {f : StF} (hf : ∀ st ds M nx rt bk ct er, f st ds M nx rt bk ct er → PS X st (tS X.K g.T W ds M ⟨nx, rt, bk, ct, er⟩)) {c : Expr} {body : List Stmt}
    (h : ∃ Inv : Nat → List Sv → Ms → Prop, (∃ m, Inv m ds M) ∧ ∀ m ds M, Inv m ds M → (wq g).T S c ds M (fun t M1 => brP t (wpSs f body ds M1 (fun ds M => ∃ m', m' < m ∧ Inv m' ds M) rt nx (fun ds M => ∃ m', m' < m ∧ Inv m' ds M) er) (nx ds M1)) er) :
    PS X (.While c body [] pos) (tS X.K g.T W ds M ⟨nx, rt, bk, ct, er⟩) := by
  obtain ⟨Inv, ⟨m0, h0⟩, hstep⟩ := h
  refine ps_mono (ps_while (tc := fun σ H q => ∃ z : Nat × List Sv × Ms, Inv z.1 z.2.1 z.2.2 ∧ tT X.K g.T W z.2.1 z.2.2 (fun t M1 => brP t (wpSs f body z.2.1 M1 (fun ds M => ∃ m', m' < z.1 ∧ Inv m' ds M) rt nx (fun ds M => ∃ m', m' < z.1 ∧ Inv m' ds M) er) (nx z.2.1 M1)) er σ H q) x.ps
    (pt_ex (ι := Nat × List Sv × Ms) (p := fun z => Inv z.1 z.2.1 z.2.2) (t := fun z => tT X.K g.T W z.2.1 z.2.2 (fun t M1 => brP t (wpSs f body z.2.1 M1 (fun ds M => ∃ m', m' < z.1 ∧ Inv m' ds M) rt nx (fun ds M => ∃ m', m' < z.1 ∧ Inv m' ds M) er) (nx z.2.1 M1)) er) fun z hz => (wq_ok g).T x.o (hstep z.1 z.2.1 z.2.2 hz)) (pss_u hf body)) fun D σ H ⟨G, w, s, q⟩ => ?_
  refine ⟨fun m σ H => ∃ ds M Gi, Inv m ds M ∧ Same G Gi ∧ Wt X.K g.T M Gi H ∧ Sl X.K Gi σ ds, ⟨m0, ds, M, G, h0, Same.refl _, w, s⟩, ?_⟩
  rintro m σi Hi ⟨dsi, Mi, Gi, hinv, sgi, wi, si⟩
  refine ⟨(m, dsi, Mi), hinv, Gi, wi, si, fun b M1 G1 H1 hb sg1 w1 => ?_, q.er.up sgi⟩
  cases b with
  | true =>
    refine iteT ⟨fun σ' H' => ∃ m', m' < m ∧ ∃ ds M Gi, Inv m' ds M ∧ Same G Gi ∧ Wt X.K g.T M Gi H' ∧ Sl X.K Gi σ' ds, fun σ' H' z => z, (dsi, M1, ⟨fun ds M => ∃ m', m' < m ∧ Inv m' ds M, rt, nx, fun ds M => ∃ m', m' < m ∧ Inv m' ds M, er⟩), hb, G1, w1, si.up sg1, ?_⟩
    have sga := sgi.trans sg1
    exact ⟨fun ds' M' σ' G2 H2 ⟨m', lt, z⟩ sg2 w2 s2 => ⟨m', lt, ds', M', G2, z, sga.trans sg2, w2, s2⟩, fun a b c d e z sg2 => q.rt a b c d e z (sga.trans sg2), fun a b c d e z sg2 => q.nx a b c d e z (sga.trans sg2), fun ds' M' σ' G2 H2 ⟨m', lt, z⟩ sg2 w2 s2 => ⟨m', lt, ds', M', G2, z, sga.trans sg2, w2, s2⟩, q.er.up sga⟩
  | false => exact iteF (q.nx dsi M1 σi G1 H1 hb (sgi.trans sg1) w1 (si.up sg1))
end
end Cal
/-! WpP -/
namespace Cal
open PySem PySem.Spec PyProof.Rows L2 LamX
theorem env_eta {X : Cx} {S : Sc} (h : X.env.scope = S.sc) : X.env = { X.env with scope := S.sc } := by rw [← h]
theorem nc_set {e : Expr} {t : Option Expr} {n : Nat} {env : Env} (h : notCmpr e = true) : swapsWith e t n env = pure false := by
  cases e <;> first | rfl | cases h
theorem notv {a b : Expr} {es : List Expr} {k : Nat} {p : Pos} {env : Env} {ts : List Expr} (h : isTupV b = false) : swappedStores [.Tuple ts k p] b env = pure none := by
  cases b <;> first | rfl | cases h
theorem sub_none {a b e : Expr} {p : Pos} {env : Env} : swappedStores [.Subscript a b p] e env = pure none := by
  cases e <;> rfl
section
variable {g : Gi} {S : Sc} {X : Cx} {W : WX} {ds : List Sv} {M : Ms} {nx : Nx} {rt : PoE} {bk ct : Nx} {er : Er} {pos : Pos}
theorem setLc_ok {U : Wps} (hU : WOk g U) (o : Xo g S X W) {i : Nat} {x : Str} {px sp p : Pos} {elt tg it : Expr} {ifs : List Expr} {scope : Scope} (hi : slotL S x = some i) (hl : S.sc.names.lookup x = some .local) (hsw : swapsWith (.ListComp elt [⟨tg, it, ifs, 0⟩] scope p) (some (.Name x px)) sp.line X.env = pure true)
    (h1 : notSet it = true) (h2 : blkC S.N S.sc scope (ownS S scope) = true) (h3 : subB (tgSl (inS S scope) 9 tg) ((ownS S scope).map (·.2)) = true) (h : U.I S tg it ds M (lcP U (inS S scope) tg elt ifs (wipeD ds ((ownS S scope).map (·.2))) (fun r M1 => setK ds i r fun ds1 => nx ds1 M1)) er) :
    PS X (.Assign [.Name x px] (.ListComp elt [⟨tg, it, ifs, 0⟩] scope p) sp) (tS X.K g.T W ds M ⟨nx, rt, bk, ct, er⟩) := by
  refine ps_mono (ps_setLc (own := ownS S scope) o.calm o.nd (o.at (slotL_ok hi).1) (by rw [o.sc]; exact hl) hsw (hU.I o h) (blkOk_by (by rw [o.N, o.sc]; exact h2))
    (g := uG X.K g.T (inS S scope) tg) (tt := uT X.K g.T U (inS S scope) ifs) (te := uE X.K g.T U (inS S scope) elt)
    (fun s H C cl fp => pg_ex (ι := Sv × List Sv × (List Sv → Prop)) (p := fun z => wpG (inS S scope) 9 tg z.1 z.2.1 z.2.2) (t := fun z => tGx X.K g.T z.1 z.2.1 z.2.2 (tgSl (inS S scope) 9 tg)) fun z hz => wpG_ok (o.inner scope s H C cl fp).n 9 tg _ _ _ hz)
    (fun s H C cl fp => pts_ex (ι := List Sv × Ms × PoT) (p := fun z => wpIfs (fun e M Q => U.T (inS S scope) e z.1 M Q noE) ifs z.2.1 z.2.2) (t := fun z => tT X.K g.T W0 z.1 z.2.1 z.2.2 noE) fun z hz => wpIfs_ok (Z := X.blk s H scope (compEnvC scope cl C X.env) fp) (fun e M Q he => hU.T (o.inner scope s H C cl fp) he) hz)
    (fun s H C cl fp => pe_ex (ι := List Sv × Ms × PoE) (p := fun z => U.E (inS S scope) elt z.1 z.2.1 z.2.2 noE) (t := fun z => tE X.K g.T W0 z.1 z.2.1 z.2.2 noE) fun z hz => hU.E (o.inner scope s H C cl fp) hz)
    (fun y => by cases it <;> first | rfl | cases h1)) fun D σ H ⟨G, w, s, q⟩ => lc_run (Q := fun r M1 => setK ds i r fun ds1 => nx ds1 M1) h3 ⟨G, w, s, fun r M1 v G1 H1 hn sg w1 hv => q.nx _ _ _ _ _ (Eq.mp (setK_eq ds i r fun ds1 => nx ds1 M1) hn) sg w1 ((s.up sg).set i hv), q.er⟩
theorem lc_parts {U : Wps} {elt : Expr} {gens : List Comprehension} {scope : Scope} {p : Pos} {Q : PoE} {Er' : Er} (h : (stepW g U).E S (.ListComp elt gens scope p) ds M Q Er') : ∃ tg it ifs, gens = [⟨tg, it, ifs, 0⟩] ∧ notSet it = true ∧ blkC S.N S.sc scope (ownS S scope) = true ∧ subB (tgSl (inS S scope) 9 tg) ((ownS S scope).map (·.2)) = true ∧
    U.I S tg it ds M (lcP U (inS S scope) tg elt ifs (wipeD ds ((ownS S scope).map (·.2))) Q) Er' := by
  match gens, h with
  | [], h => exact False.elim h
  | [⟨tg, it, ifs, .ofNat (n + 1)⟩], h => exact False.elim h
  | [⟨tg, it, ifs, .negSucc n⟩], h => exact False.elim h
  | ⟨_, _, _, .ofNat 0⟩ :: _ :: _, h => exact False.elim h
  | ⟨_, _, _, .ofNat (n + 1)⟩ :: _ :: _, h => exact False.elim h
  | ⟨_, _, _, .negSucc n⟩ :: _ :: _, h => exact False.elim h
  | [⟨tg, it, ifs, .ofNat 0⟩], h =>
    have h' : (match notSet it && blkC S.N S.sc scope (ownS S scope) && subB (tgSl (inS S scope) 9 tg) ((ownS S scope).map (·.2)) with
      | false => False
      | true => U.I S tg it ds M (lcP U (inS S scope) tg elt ifs (wipeD ds ((ownS S scope).map (·.2))) Q) Er') := h
    cases hb : (notSet it && blkC S.N S.sc scope (ownS S scope) && subB (tgSl (inS S scope) 9 tg) ((ownS S scope).map (·.2))) with
    | false => rw [hb] at h'; exact h'.elim
    | true =>
      rw [hb] at h'
      simp only [Bool.and_eq_true] at hb
      exact ⟨tg, it, ifs, rfl, hb.1.1, hb.1.2, hb.2, h'⟩
theorem asgN_ok {U : Wps} (hU : WOk g U) (o : Xo g S X W) {i : Nat} {x : Str} {px sp : Pos} {e : Expr} (hi : slotL S x = some i) (h : (stepW g U).E S e ds M (fun r M1 => setK ds i r fun ds1 => nx ds1 M1) er) : PS X (.Assign [.Name x px] e sp) (tS X.K g.T W ds M ⟨nx, rt, bk, ct, er⟩) := by
  obtain ⟨h1, h2, h3⟩ := slotL_ok hi
  have he := stepE_ok hU o h
  have plain : swapsWith e (some (.Name x px)) sp.line X.env = pure false → PS X (.Assign [.Name x px] e sp) (tS X.K g.T W ds M ⟨nx, rt, bk, ct, er⟩) := fun hs =>
    ps_mono (ps_set (i := i) o.nd (o.at h1) (o.loc h2) he hs (o.hf h3)) fun D σ H ⟨G, w, s, q⟩ => ⟨G, w, s, fun r M1 v G1 H1 hn sg w1 hv => q.nx _ _ _ _ _ (Eq.mp (setK_eq ds i r fun ds1 => nx ds1 M1) hn) sg w1 ((s.up sg).set i hv), q.er⟩
  cases hc : notCmpr e with
  | true => exact plain (nc_set hc)
  | false =>
    cases e with
    | ListComp elt gens scope p =>
      have key : swapsWith (.ListComp elt gens scope p) (some (.Name x px)) sp.line X.env = pure (X.env.blockKind == .function && X.env.kindOf x == some .local && px.line == p.line && !(scope.names.any fun (n, k) => n == x && (k == .local || k == .cell))) := rfl
      cases hb : (X.env.blockKind == .function && X.env.kindOf x == some .local && px.line == p.line && !(scope.names.any fun (n, k) => n == x && (k == .local || k == .cell))) with
      | false => exact plain (key.trans (by rw [hb]))
      | true =>
        rw [hb] at key
        simp only [Bool.and_eq_true, beq_iff_eq] at hb
        have hl : S.sc.names.lookup x = some .local := by rw [← o.sc]; exact hb.1.1.2
        obtain ⟨tg, it, ifs, rfl, a1, a2, a3, a4⟩ := lc_parts h
        exact setLc_ok hU o hi hl key a1 a2 a3 a4
    | SetComp => exact False.elim h
    | DictComp => exact False.elim h
    | _ => cases hc
end
end Cal
/-! WpQ -/
namespace Cal
open PySem PySem.Spec PyProof.Rows L2 LamX
section
variable {g : Gi} {S : Sc} {X : Cx} {W : WX} {ds : List Sv} {M : Ms} {nx : Nx} {rt : PoE} {bk ct : Nx} {er : Er} {pos : Pos}
theorem asg_map {t : Expr} {env : Env} (h : notStar t = true) : (assignEach [t] env).map (·.2) = [assign t env] := by rw [asg_one h]; rfl
theorem nc_sole {t e : Expr} {n : Nat} {env : Env} (h : notCmpr e = true) : swapsWithSole [t] e n env = pure false := nc_set (t := some t) (n := n) (env := env) h
theorem asgT_ok {U : Wps} (hU : WOk g U) (o : Xo g S X W) {ts : List Expr} {k2 : Nat} {p2 sp : Pos} {e : Expr} (hc : notCmpr e = true) (hw : swappedStores [.Tuple ts k2 p2] e X.env = pure none) (h : U.E S e ds M (fun r M1 => wpG S 9 (.Tuple ts k2 p2) r ds fun ds1 => nx ds1 M1) er) : PS X (.Assign [.Tuple ts k2 p2] e sp) (tS X.K g.T W ds M ⟨nx, rt, bk, ct, er⟩) := by
  refine ps_mono (ps_asg (hU.E o h) (pg_u (T := g.T) o.n _) (nc_sole hc) hw (asg_map rfl)) fun D σ H ⟨G, w, s, q⟩ => ⟨G, w, s, fun r M1 v G1 H1 hg sg w1 hv => ?_, q.er⟩
  exact ⟨(r, ds, _), hg, M1, G1, w1, s.up sg, hv, fun ds1 σ1 hn s1 _ => q.nx _ _ _ _ _ hn sg w1 s1⟩
theorem asgP_ok {U : Wps} (hU : WOk g U) (o : Xo g S X W) {x y : Str} {px py : Pos} {a b : Expr} {i j : Nat} {k2 k3 : Nat} {p2 p3 sp : Pos} (hi : slotL S x = some i) (hj : slotL S y = some j) (hij : i ≠ j) (ha : notStar a = true) (hb : notStar b = true) (hx : S.sc.names.lookup x = some .local) (hy : S.sc.names.lookup y = some .local)
    (hw : swappedStores [.Tuple [.Name x px, .Name y py] k2 p2] (.Tuple [a, b] k3 p3) X.env = pure (some [x, y])) (h : U.E S a ds M (fun va M1 => U.E S b ds M1 (fun vb M2 => setK ds i va fun ds1 => setK ds1 j vb fun ds2 => nx ds2 M2) er) er) :
    PS X (.Assign [.Tuple [.Name x px, .Name y py] k2 p2] (.Tuple [a, b] k3 p3) sp) (tS X.K g.T W ds M ⟨nx, rt, bk, ct, er⟩) := by
  refine ps_mono (ps_par o.calm o.nd (o.at (slotL_ok hi).1) (o.at (slotL_ok hj).1) hij (by rw [o.sc]; exact hx) (by rw [o.sc]; exact hy) (pa_cons (hU.E o h) (pa_cons (pe_sec (P := fun va M1 => U.E S b ds M1 (fun vb M2 => setK ds i va fun ds1 => setK ds1 j vb fun ds2 => nx ds2 M2) er) (Qf := fun va vb M2 => setK ds i va fun ds1 => setK ds1 j vb fun ds2 => nx ds2 M2) fun va M1 h1 => hU.E o h1) pa_nil (star_one hb)) (star_one ha)) hw (nc_sole rfl)) fun D σ H ⟨G, w, s, q⟩ => ?_
  refine ⟨G, w, s, fun va M1 v G1 H1 h1 sg w1 hv => ⟨(va, M1), h1, G1, w1, s.up sg, fun vb M2 u G2 H2 hn sg2 w2 hu => ⟨v, u, rfl, q.nx _ _ _ _ _ (by have hn : setK ds i va (fun ds1 => setK ds1 j vb fun ds2 => nx ds2 M2) := hn; rw [setK_eq, setK_eq] at hn; exact hn) (sg.trans sg2) w2 (((s.up (sg.trans sg2)).set i (hv.up sg2)).set j hu)⟩, q.er.up sg⟩, q.er⟩
theorem sub_asg {a b : Expr} {p : Pos} {env : Env} (h : notSlice b = true) : ∀ v, assign (.Subscript a b p) env v = (do
      let ov ← holding [v] (eval a env)
      let iv ← holding [v, ov] (eval b env)
      standAt p
      holding [v, ov, iv] (setItem ov iv v)
      release [v, ov, iv] []) := by
  cases b <;> first | exact fun _ => rfl | cases h
theorem asgS_ok {U : Wps} (hU : WOk g U) (o : Xo g S X W) {a b e : Expr} {p sp : Pos} (hc : notCmpr e = true) (hb : notSlice b = true)
    (h : U.E S e ds M (fun r M1 => U.E S a ds M1 (fun va M2 => U.E S b ds M2 (fun vb M3 => setW va vb r ds M3 nx) er) er) er) : PS X (.Assign [.Subscript a b p] e sp) (tS X.K g.T W ds M ⟨nx, rt, bk, ct, er⟩) := by
  refine ps_mono (ps_asg (hU.E o h) (pg_sub (to := fun σ H q => ∃ z : Sv × Ms, U.E S a ds z.2 (fun va M2 => U.E S b ds M2 (fun vb M3 => setW va vb z.1 ds M3 nx) er) er ∧ tE X.K g.T W ds z.2 (fun va M2 => U.E S b ds M2 (fun vb M3 => setW va vb z.1 ds M3 nx) er) er σ H q)
      (ti := fun σ H q => ∃ z : Sv × Sv × Ms, U.E S b ds z.2.2 (fun vb M3 => setW z.2.1 vb z.1 ds M3 nx) er ∧ tE X.K g.T W ds z.2.2 (fun vb M3 => setW z.2.1 vb z.1 ds M3 nx) er σ H q)
      (pe_ex (ι := Sv × Ms) (p := fun z => U.E S a ds z.2 _ er) (t := fun z => tE X.K g.T W ds z.2 _ er) fun z hz => hU.E o hz)
      (pe_ex (ι := Sv × Sv × Ms) (p := fun z => U.E S b ds z.2.2 _ er) (t := fun z => tE X.K g.T W ds z.2.2 _ er) fun z hz => hU.E o hz) set_list (sub_asg hb)) (nc_sole hc) sub_none (asg_map rfl)) fun D σ H ⟨G, w, s, q⟩ => ?_
  refine ⟨G, w, s, fun r M1 v G1 H1 h1 sg w1 hv => ⟨(r, M1), h1, G1, w1, s.up sg, fun va M2 x G2 H2 h2 sg2 w2 hx => ⟨(r, va, M2), h2, G2, w2, s.up (sg.trans sg2), fun vb M3 y G3 H3 h3 sg3 w3 hy => ?_, q.er.up (sg.trans sg2)⟩, q.er.up sg⟩, q.er⟩
  have sga := sg.trans (sg2.trans sg3)
  have h3' : setW va vb r ds M3 nx := h3
  unfold setW at h3'
  split at h3'
  · obtain ⟨i, e1, h4⟩ := intW_ok h3' hy
    obtain ⟨A, rs, C, vs, e2, ⟨j, hj, hn⟩, z1, z2, z3⟩ := atM_lst h4 w3
    have hx' : x = .ref _ := hx
    subst hx' e1 e2
    exact ⟨_, vs, i, j, rfl, rfl, z1, by rw [z2.len]; exact hj, q.nx _ _ _ _ _ hn sga (w3.mput (m' := .lst _) (vks_set (hv.up (sg2.trans sg3)) j z2)) (s.up sga)⟩
  · exact h3'.elim
theorem aug_ok {U : Wps} (hU : WOk g U) (o : Xo g S X W) {x : Str} {px sp : Pos} {e : Expr} {i : Nat} {a : Int} (hi : slotL S x = some i) (hd : ds[i]? = some (I a)) (h : U.E S e ds M (fun r M1 => augW r fun b => setK ds i (I (a + b)) fun ds1 => nx ds1 M1) er) : PS X (.AugAssign (.Name x px) .Add e sp) (tS X.K g.T W ds M ⟨nx, rt, bk, ct, er⟩) := by
  obtain ⟨h1, h2, h3⟩ := slotL_ok hi
  refine ps_mono (ps_aug (i := i) o.nd (o.at h1) (o.loc h2) (hU.E o h) ip_add (o.hf h3)) fun D σ H ⟨G, w, s, q⟩ => ?_
  obtain ⟨v, e1, e2⟩ := s.val hd (by intro z; cases z)
  refine ⟨v, e1, G, w, s, fun r M1 y G1 H1 hn sg w1 hy => ?_, q.er⟩
  have hn' : augW r (fun b => setK ds i (I (a + b)) fun ds1 => nx ds1 M1) := hn
  unfold augW at hn'
  split at hn'
  · exact ⟨a, _, vk_int e2, vk_int hy, q.nx _ _ _ _ _ (by rw [setK_eq] at hn'; exact hn') sg w1 ((s.up sg).set i (r := I _) (Dp.int _))⟩
  · exact hn'.elim
theorem raise_ok (o : Xo g S X W) {x m : Str} {j : Nat} {p1 p2 p3 p4 : Pos} {c : Addr} (hg : globB S x = true) (he : g.ex x = some c) (h : er c M) : PS X (.Raise (some (.Call (.Name x p1) [.Constant (.str m) j p2] [] p3)) none p4) (tS X.K g.T W ds M ⟨nx, rt, bk, ct, er⟩) := by
  obtain ⟨g1, g2⟩ := o.gl hg
  obtain ⟨e1, e2, xB⟩ := o.ok.ex x c he
  subst e1
  obtain ⟨x1, x2, x3, x4⟩ := He.exc_ok xB
  exact ps_mono (ps_raise o.calm o.tk (pmk_own PySem.F.excBase_ValueError x1 e2 x2 (raises_own x3 x4) g1 g2)) fun D σ H ⟨G, w, s, q⟩ => q.er _ M G H σ h (Same.refl _) w
theorem if_ok {U : Wps} (hU : WOk g U) (o : Xo g S X W) {f : StF} (hf : ∀ st ds M nx rt bk ct er, f st ds M nx rt bk ct er → PS X st (tS X.K g.T W ds M ⟨nx, rt, bk, ct, er⟩)) {c : Expr} {a b : List Stmt} {sp : Pos} (h : U.T S c ds M (fun t M1 => brP t (wpSs f a ds M1 nx rt bk ct er) (wpSs f b ds M1 nx rt bk ct er)) er) : PS X (.If c a b sp) (tS X.K g.T W ds M ⟨nx, rt, bk, ct, er⟩) := by
  refine ps_mono (ps_if (hU.T o h) (pss_ex (ι := Ms) (p := fun M1 => wpSs f a ds M1 nx rt bk ct er) (t := fun M1 => tS X.K g.T W ds M1 ⟨nx, rt, bk, ct, er⟩) fun M1 h1 => wpSs_ok hf h1) (pss_ex (ι := Ms) (p := fun M1 => wpSs f b ds M1 nx rt bk ct er) (t := fun M1 => tS X.K g.T W ds M1 ⟨nx, rt, bk, ct, er⟩) fun M1 h1 => wpSs_ok hf h1)) fun D σ H ⟨G, w, s, q⟩ => ⟨G, w, s, fun t M1 G1 H1 h1 sg w1 => ?_, q.er⟩
  cases t with
  | true => exact iteT ⟨M1, h1, G1, w1, s.up sg, q.up sg⟩
  | false => exact iteF ⟨M1, h1, G1, w1, s.up sg, q.up sg⟩
theorem stepS_ok (x : Xs g S X W) {f : StF} (hf : ∀ st ds M nx rt bk ct er, f st ds M nx rt bk ct er → PS X st (tS X.K g.T W ds M ⟨nx, rt, bk, ct, er⟩)) (st : Stmt) (ds : List Sv) (M : Ms) (nx : Nx) (rt : PoE) (bk ct : Nx) (er : Er) (h : stepS g S f st ds M nx rt bk ct er) : PS X st (tS X.K g.T W ds M ⟨nx, rt, bk, ct, er⟩) := by
  have o := x.o
  have hU := wq_ok g
  unfold stepS at h
  split at h
  · exact ps_mono ps_pass fun D σ H ⟨G, w, s, q⟩ => q.nx _ _ _ _ _ h (Same.refl _) w s
  · exact ps_mono ps_break fun D σ H ⟨G, w, s, q⟩ => q.bk _ _ _ _ _ h (Same.refl _) w s
  · exact ps_mono ps_continue fun D σ H ⟨G, w, s, q⟩ => q.ct _ _ _ _ _ h (Same.refl _) w s
  · exact ps_mono (ps_ret (hU.E o h)) fun D σ H ⟨G, w, s, q⟩ => ⟨G, w, s, fun r M1 v G1 H1 hr sg w1 hv => q.rt _ _ _ _ _ hr sg w1 hv, q.er⟩
  · exact ps_mono ps_retN fun D σ H ⟨G, w, s, q⟩ => q.rt (.dat .none) M _ G H h (Same.refl _) w Dp.non
  · split at h
    · rename_i hc
      exact ps_mono (ps_expr (hU.E o h) (nc_set hc)) fun D σ H ⟨G, w, s, q⟩ => ⟨G, w, s, fun r M1 v G1 H1 hn sg w1 hv => q.nx _ _ _ _ _ hn sg w1 (s.up sg), q.er⟩
    · exact h.elim
  · exact if_ok hU o hf h
  · split at h
    · rename_i i hi
      have hU2 := wps_ok g 39
      unfold wq at h
      generalize wps g 39 = U2 at h hU2
      exact asgN_ok hU2 o hi h
    · exact h.elim
  · split at h
    · exact h.elim
    · rename_i hc
      split at h
      · rename_i ht
        exact asgT_ok hU o hc (notv (es := []) (a := .Constant .none 0 ⟨0, 0, 0, 0⟩) ht) h
      · split at h
        · split at h
          · exact asgT_ok hU o hc (by rw [env_eta o.sc]; exact h.1 X.env) h.2
          · split at h
            · split at h
              · rename_i i j hi hj
                split at h
                · rename_i hcond
                  simp only [Bool.and_eq_true, Bool.not_eq_true', decide_eq_false_iff_not, beq_iff_eq] at hcond
                  exact asgP_ok hU o hi hj hcond.1.1.1.1 hcond.1.1.1.2 hcond.1.1.2 hcond.1.2 hcond.2 (by rw [env_eta o.sc]; exact h.1 X.env) h.2
                · exact h.elim
              · exact h.elim
            · exact h.elim
          · exact h.elim
        · exact h.elim
  · split at h
    · rename_i hc
      simp only [Bool.and_eq_true] at hc
      exact asgS_ok hU o hc.1.1 hc.1.2 h
    · exact h.elim
  · split at h
    · rename_i i hi
      obtain ⟨r, e1, e2, h⟩ := findI h
      split at h
      · exact aug_ok hU o hi e1 h
      · exact h.elim
    · exact h.elim
  · split at h
    · rename_i hs
      exact for_ok x hf hs h
    · exact h.elim
  · exact while_ok x hf h
  · split at h
    · rename_i hg
      split at h
      · rename_i c hc
        exact raise_ok o hg hc h
      · exact h.elim
    · exact h.elim
  · exact h.elim
theorem wpS_ok (x : Xs g S X W) : ∀ (n : Nat) (st : Stmt) (ds : List Sv) (M : Ms) (nx : Nx) (rt : PoE) (bk ct : Nx) (er : Er), wpS g S n st ds M nx rt bk ct er → PS X st (tS X.K g.T W ds M ⟨nx, rt, bk, ct, er⟩)
  | 0, st, ds, M, nx, rt, bk, ct, er, h => False.elim h
  | n + 1, st, ds, M, nx, rt, bk, ct, er, h => stepS_ok x (wpS_ok x n) st ds M nx rt bk ct er h
end
/-! ### a def -/
section
variable {P : Program} {w : World} {K : PySem.W.Frag} {mg : Str → Option Value} {base : Heap}
/-- a def's body is as it promises -/
def Does (g : Gi) (S : Sc) (body : List Stmt) (s : Sig) : Prop := ∀ rs M Q E, rs.length = s.n → s.T rs M Q E → wpB g S body (startD S.N.length rs) M Q E
theorem spP_len {K : PySem.W.Frag} {T : Tb} {s : Sig} (vs : List V) (H : Hp) (Q : VK) (E : XK) (h : spP K T s vs H Q E) : vs.length = s.n := by
  obtain ⟨_, _, _, _, _, h, _⟩ := h
  exact h
theorem does_ok {g : Gi} {x : Str} {params : Arguments} {body : List Stmt} {scope : Scope} {dvs0 dvs : List V} {f : Addr} {fd : FuncData} {N ps : List Str} {us : List Value} {s : Sig} (ok : GiOk g P w K mg base) (FD : FunD K x x params body scope dvs0 [] f fd) (Sf : FnScope N ps scope)
    (hm : mg x = some (.ref f)) (hb : Binds K fd ps us) (hv : Vals dvs us) (hd : ∀ G, Vks K G dvs s.dr) (hn : ps.length = s.n) (hbk : scope.kind = .function) (hdo : Does g ⟨N, scope, fun _ => true, false, false⟩ body s) : FnP P w K mg base g.T (g.k + 1) x s := by
  refine ⟨f, fd, ps, us, dvs, ?_, hm, FD.kp, hb, hv, hd⟩
  refine FD.ok Sf (fun vs H Q E h => (spP_len vs H Q E h).trans hn.symm) fun cdv A outer s' H vs Q E hr h => ?_
  obtain ⟨G, rs, M, Qp, Ep, hl, w0, hvs, hT, hok, her⟩ := h
  have hl2 : rs.length = s.n := hvs.len.symm.trans hl
  have o : Xo g ⟨N, scope, fun _ => true, false, false⟩ (Bx P w K mg base N x scope f cdv A outer s' H E) (wE E) := ⟨ok, rfl, rfl, fun _ _ => rfl, Sf.nd, rfl, hr, takesB, fun z => (nomatch z), fun z => (nomatch z)⟩
  have hw := wpSs_ok (k := ⟨fun _ M1 => Qp (.dat .none) M1, Qp, fun _ _ => False, fun _ _ => False, Ep⟩) (wpS_ok ⟨o, passB⟩ 40) (hdo rs M Qp Ep hl2 hT)
  exact ⟨_, hw, G, w0, Sl.start hvs, fun ds' M' σ' G' H' h sg w' s' => hok (.dat .none) M' .non G' H' h sg w' Dp.non, hok, fun _ _ _ _ _ h => h.elim, fun _ _ _ _ _ h => h.elim, fun c M' G' H' σ' he sg w' => her c M' G' H' he sg w'⟩
end
end Cal
/-! BwA -/
/-! parts are rational numbers -/
namespace BW
open PySem PySem.Spec PyProof.Rows L2 Cal
abbrev pq (q : Rat) : D := .tuple [.int q.num, .int (q.den : Int)]
abbrev dq (q : Rat) : Sv := .dat (pq q)
def Bt (n : Nat) (q : Rat) : Prop := q.num.natAbs < 2 ^ n ∧ q.den < 2 ^ n
def big : Nat := 4400
abbrev Fit (q : Rat) : Prop := Bt big q
def gcdI (a b : Int) : Int := ((Nat.gcd a.natAbs b.natAbs : Nat) : Int)
theorem gcdI_pos {t l : Int} (h : l ≠ 0) : 0 < gcdI t l := by
  unfold gcdI
  have : 0 < Nat.gcd t.natAbs l.natAbs := Nat.gcd_pos_of_pos_right _ (by omega)
  omega
theorem gcdI_le {t l : Int} (h : l ≠ 0) : gcdI t l ≤ l.natAbs := by
  unfold gcdI
  have : Nat.gcd t.natAbs l.natAbs ≤ l.natAbs := Nat.gcd_le_right _ (by omega)
  omega
theorem gcdI_dvd (t l : Int) : gcdI t l ∣ t ∧ gcdI t l ∣ l := by
  unfold gcdI
  exact ⟨Int.ofNat_dvd_left.mpr (Nat.gcd_dvd_left _ _), Int.ofNat_dvd_left.mpr (Nat.gcd_dvd_right _ _)⟩
theorem int_gcd (t l : Int) : (l.gcd t : Int) = gcdI t l := by
  unfold gcdI Int.gcd
  rw [Nat.gcd_comm]
/-- what part gives -/
theorem divInt_one (t : Int) : (Rat.divInt t 1).num = t ∧ (Rat.divInt t 1).den = 1 := by
  rw [Rat.num_divInt, Rat.den_divInt]
  simp
theorem divInt_pos {t l : Int} (h : 0 < l) : (Rat.divInt t l).num = t.fdiv (gcdI t l) ∧ ((Rat.divInt t l).den : Int) = l.fdiv (gcdI t l) := by
  have g := gcdI_pos (t := t) (l := l) (by omega)
  rw [Rat.num_divInt, Rat.den_divInt, if_neg (by omega), Int.sign_eq_one_of_pos h, Int.one_mul, Int.fdiv_eq_ediv_of_nonneg _ (by omega), Int.fdiv_eq_ediv_of_nonneg _ (by omega), ← int_gcd]
  refine ⟨rfl, ?_⟩
  rw [Int.natCast_ediv, Int.natAbs_of_nonneg (by omega)]
theorem divInt_neg {t l : Int} (h : l < 0) : (Rat.divInt t l).num = t.fdiv (-gcdI t l) ∧ ((Rat.divInt t l).den : Int) = l.fdiv (-gcdI t l) := by
  have g := gcdI_pos (t := t) (l := l) (by omega)
  obtain ⟨⟨a, ha⟩, ⟨b, hb⟩⟩ := gcdI_dvd t l
  obtain ⟨m, em⟩ : ∃ m, m = gcdI t l := ⟨_, rfl⟩
  rw [Rat.num_divInt, Rat.den_divInt, if_neg (by omega), int_gcd, Int.sign_eq_neg_one_of_neg h]
  have e1 : t.fdiv (-gcdI t l) = -a := by
    rw [← em] at ha g ⊢
    have : t = (-m) * (-a) := by rw [ha]; grind
    rw [this, Int.mul_fdiv_cancel_left _ (by omega)]
  have e2 : l.fdiv (-gcdI t l) = -b := by
    rw [← em] at hb g ⊢
    have : l = (-m) * (-b) := by rw [hb]; grind
    rw [this, Int.mul_fdiv_cancel_left _ (by omega)]
  rw [e1, e2]
  have hg : (l.gcd t : Int) = gcdI t l := int_gcd t l
  constructor
  · rw [← em] at ha g ⊢
    have : -1 * t = m * (-a) := by rw [ha]; grind
    rw [this, Int.mul_ediv_cancel_left _ (by omega)]
  · rw [Int.natCast_ediv, hg]
    rw [← em] at hb g ⊢
    have : ((l.natAbs : Nat) : Int) = m * (-b) := by
      have : ((l.natAbs : Nat) : Int) = -l := by omega
      rw [this]
      grind
    rw [this, Int.mul_ediv_cancel_left _ (by omega)]
theorem den_ne (q : Rat) : (q.den : Int) ≠ 0 := by have := q.den_pos; omega
theorem eq_add (a b : Rat) : Rat.divInt (a.num * b.den + b.num * a.den) (a.den * b.den) = a + b := by
  rw [← Rat.divInt_add_divInt _ _ (den_ne a) (den_ne b), Rat.num_divInt_den, Rat.num_divInt_den]
theorem eq_sub (a b : Rat) : Rat.divInt (a.num * b.den - b.num * a.den) (a.den * b.den) = a - b := by
  rw [← Rat.divInt_sub_divInt _ _ (den_ne a) (den_ne b), Rat.num_divInt_den, Rat.num_divInt_den]
theorem eq_mul (a b : Rat) : Rat.divInt (a.num * b.num) (a.den * b.den) = a * b := by
  rw [← Rat.divInt_mul_divInt, Rat.num_divInt_den, Rat.num_divInt_den]
theorem eq_div (a b : Rat) : Rat.divInt (a.num * b.den) (a.den * b.num) = a / b := by
  rw [Rat.divInt_eq_div]
  have ha : a = (a.num : Rat) / (a.den : Rat) := by
    have := Rat.num_divInt_den a
    rw [Rat.divInt_eq_div] at this
    exact this.symm
  have hb : b = (b.num : Rat) / (b.den : Rat) := by
    have := Rat.num_divInt_den b
    rw [Rat.divInt_eq_div] at this
    exact this.symm
  have h1 : (a.den : Rat) ≠ 0 := by
    have := a.den_pos
    intro h
    have h2 : ((a.den : Nat) : Rat) = ((0 : Nat) : Rat) := h
    have := Rat.natCast_inj.mp h2
    omega
  have h2 : (b.den : Rat) ≠ 0 := by
    have := b.den_pos
    intro h
    have h2 : ((b.den : Nat) : Rat) = ((0 : Nat) : Rat) := h
    have := Rat.natCast_inj.mp h2
    omega
  rw [Rat.intCast_mul, Rat.intCast_mul]
  conv => rhs; rw [ha, hb]
  simp only [Rat.intCast_natCast]
  by_cases h3 : (b.num : Rat) = 0
  · have z : ∀ x : Rat, x / 0 = 0 := fun x => by rw [Rat.div_def, Rat.inv_zero, Rat.mul_zero]
    rw [h3, Rat.mul_zero, z, Rat.div_def 0, Rat.zero_mul, z]
  · grind
/-! ### sizes -/
theorem Bt.mono {n m : Nat} {q : Rat} (h : Bt n q) (l : n ≤ m) : Bt m q := ⟨Nat.lt_of_lt_of_le h.1 (Nat.pow_le_pow_right (by decide) l), Nat.lt_of_lt_of_le h.2 (Nat.pow_le_pow_right (by decide) l)⟩
theorem divInt_le {t l : Int} (h : l ≠ 0) : (Rat.divInt t l).num.natAbs ≤ t.natAbs ∧ (Rat.divInt t l).den ≤ l.natAbs := by
  rw [Rat.num_divInt, Rat.den_divInt, if_neg h]
  refine ⟨?_, Nat.div_le_self _ _⟩
  refine Nat.le_trans (Int.natAbs_ediv_le_natAbs _ _) ?_
  rw [Int.natAbs_mul]
  have : l.sign.natAbs ≤ 1 := by
    rw [Int.natAbs_sign]
    split <;> omega
  exact Nat.le_trans (Nat.mul_le_mul_right _ this) (by omega)
theorem bt_div {n : Nat} {t l : Int} (h : l ≠ 0) (h1 : t.natAbs < 2 ^ n) (h2 : l.natAbs < 2 ^ n) : Bt n (Rat.divInt t l) := ⟨Nat.lt_of_le_of_lt (divInt_le h).1 h1, Nat.lt_of_le_of_lt (divInt_le h).2 h2⟩
theorem mul_lt2 {a b n m : Nat} (h1 : a < 2 ^ n) (h2 : b < 2 ^ m) : a * b < 2 ^ (n + m) := by
  rw [Nat.pow_add]
  exact Nat.mul_lt_mul'' h1 h2
theorem mulI_lt {a b : Int} {n m : Nat} (h1 : a.natAbs < 2 ^ n) (h2 : b.natAbs < 2 ^ m) : (a * b).natAbs < 2 ^ (n + m) := by
  rw [Int.natAbs_mul]
  exact mul_lt2 h1 h2
theorem addI_lt {a b : Int} {n : Nat} (h1 : a.natAbs < 2 ^ n) (h2 : b.natAbs < 2 ^ n) : (a + b).natAbs < 2 ^ (n + 1) := by
  have := Int.natAbs_add_le a b
  rw [Nat.pow_succ]
  omega
theorem subI_lt {a b : Int} {n : Nat} (h1 : a.natAbs < 2 ^ n) (h2 : b.natAbs < 2 ^ n) : (a - b).natAbs < 2 ^ (n + 1) := by
  have := Int.natAbs_sub_le a b
  rw [Nat.pow_succ]
  omega
theorem Bt.d {n : Nat} {q : Rat} (h : Bt n q) : ((q.den : Int)).natAbs < 2 ^ n := h.2
theorem mul_ne {i j : Int} (h : i ≠ 0) (k : j ≠ 0) : i * j ≠ 0 := fun z => by
  rcases Int.mul_eq_zero.mp z with e | e
  · exact h e
  · exact k e
theorem Bt.add {n m : Nat} {a b : Rat} (ha : Bt n a) (hb : Bt m b) : Bt (n + m + 1) (a + b) := by
  rw [← eq_add]
  exact bt_div (mul_ne (den_ne a) (den_ne b)) (addI_lt (mulI_lt ha.1 hb.d) (by rw [Nat.add_comm n m]; exact mulI_lt hb.1 ha.d)) (Nat.lt_of_lt_of_le (mulI_lt ha.d hb.d) (Nat.pow_le_pow_right (by decide) (by omega)))
theorem Bt.sub {n m : Nat} {a b : Rat} (ha : Bt n a) (hb : Bt m b) : Bt (n + m + 1) (a - b) := by
  rw [← eq_sub]
  exact bt_div (mul_ne (den_ne a) (den_ne b)) (subI_lt (mulI_lt ha.1 hb.d) (by rw [Nat.add_comm n m]; exact mulI_lt hb.1 ha.d)) (Nat.lt_of_lt_of_le (mulI_lt ha.d hb.d) (Nat.pow_le_pow_right (by decide) (by omega)))
theorem Bt.mul {n m : Nat} {a b : Rat} (ha : Bt n a) (hb : Bt m b) : Bt (n + m) (a * b) := by
  rw [← eq_mul]
  exact bt_div (mul_ne (den_ne a) (den_ne b)) (mulI_lt ha.1 hb.1) (mulI_lt ha.d hb.d)
theorem num_ne {b : Rat} (h : b ≠ 0) : b.num ≠ 0 := fun z => h (Rat.num_eq_zero.mp z)
theorem Bt.div {n m : Nat} {a b : Rat} (ha : Bt n a) (hb : Bt m b) : Bt (n + m) (a / b) := by
  by_cases h : b = 0
  · subst h
    rw [Rat.div_def, Rat.inv_zero, Rat.mul_zero]
    exact ⟨by simp; exact Nat.two_pow_pos _, by
      have : 1 < 2 ^ n := Nat.lt_of_le_of_lt a.den_pos ha.2
      have h2 := Nat.two_pow_pos m
      rw [Nat.pow_add]
      show (0 : Rat).den < _
      simp
      exact Nat.lt_of_lt_of_le this (Nat.le_mul_of_pos_right _ h2)⟩
  rw [← eq_div]
  exact bt_div (mul_ne (den_ne a) (num_ne h)) (mulI_lt ha.1 hb.d) (mulI_lt ha.d hb.1)
theorem log_of {a n : Nat} (h : a < 2 ^ n) (h0 : 0 < n) : a.log2 < n := PySem.Flt.log2_lt_of h0 h
theorem mulP_of {a b : Int} {n m : Nat} (h1 : a.natAbs < 2 ^ n) (h2 : b.natAbs < 2 ^ m) (l : n + m ≤ 900000) : mulP a b := .inr (by
  have x1 : a.natAbs.log2 < n + 1 := log_of (Nat.lt_of_lt_of_le h1 (Nat.pow_le_pow_right (by decide) (Nat.le_succ n))) (Nat.succ_pos _)
  have x2 : b.natAbs.log2 < m + 1 := log_of (Nat.lt_of_lt_of_le h2 (Nat.pow_le_pow_right (by decide) (Nat.le_succ m))) (Nat.succ_pos _)
  unfold CMulW
  omega)
end BW
/-! T16B -/
namespace BW
open PySem PySem.Spec PyProof.Rows L2 Cal
/-! ### what the defs of parts promise -/
def sShared : Sig := ⟨2, [], fun rs M Q E => ∃ a b : Int, rs = [I a, I b] ∧ Q (I (gcdI a b)) M, fun hQ hE ⟨a, b, e, q⟩ => ⟨a, b, e, hQ _ _ q⟩⟩
def partT (bp : Addr) (rs : List Sv) (M : Ms) (Q : PoE) (E : Er) : Prop := ∃ t l : Int, rs = [I t, I l] ∧ ((l = 0 ∧ E bp M) ∨ (l ≠ 0 ∧ l.natAbs < 2 ^ 8900 ∧ Q (dq (Rat.divInt t l)) M))
theorem partT_mono {bp : Addr} {rs : List Sv} {M : Ms} {Q Q' : PoE} {E E' : Er} (hQ : ∀ r M', Q r M' → Q' r M') (hE : ∀ c M', E c M' → E' c M') : partT bp rs M Q E → partT bp rs M Q' E' := fun ⟨t, l, e, h⟩ => ⟨t, l, e, h.imp (fun ⟨a, b⟩ => ⟨a, hE _ _ b⟩) fun ⟨a, b, c⟩ => ⟨a, b, hQ _ _ c⟩⟩
def sPart (bp : Addr) : Sig := ⟨2, [], partT bp, partT_mono⟩
def sPart1 (bp : Addr) : Sig := ⟨2, [I 1], partT bp, partT_mono⟩
/-- two parts in, one out -/
def s2 (f : Rat → Rat → Rat) : Sig := ⟨2, [], fun rs M Q E => ∃ a b : Rat, rs = [dq a, dq b] ∧ Fit a ∧ Fit b ∧ Q (dq (f a b)) M, fun hQ hE ⟨a, b, e, h1, h2, q⟩ => ⟨a, b, e, h1, h2, hQ _ _ q⟩⟩
def sPlus : Sig := s2 (· + ·)
def sMinus : Sig := s2 (· - ·)
/-- a part as it was written, small or not -/
def RawB (n : Nat) (d : D) (b : Rat) : Prop := ∃ t l : Int, d = .tuple [.int t, .int l] ∧ l ≠ 0 ∧ b = Rat.divInt t l ∧ t.natAbs < 2 ^ n ∧ l.natAbs < 2 ^ n
theorem raw_pq {n : Nat} {b : Rat} (h : Bt n b) : RawB n (pq b) b := ⟨b.num, b.den, rfl, den_ne b, (Rat.num_divInt_den b).symm, h.1, h.d⟩
theorem RawB.bt {n : Nat} {d : D} {b : Rat} (h : RawB n d b) : Bt n b := by
  obtain ⟨t, l, _, h1, rfl, h2, h3⟩ := h
  exact bt_div h1 h2 h3
theorem RawB.mono {n m : Nat} {d : D} {b : Rat} (h : RawB n d b) (l : n ≤ m) : RawB m d b := by
  obtain ⟨t, l', h0, h1, h4, h2, h3⟩ := h
  exact ⟨t, l', h0, h1, h4, Nat.lt_of_lt_of_le h2 (Nat.pow_le_pow_right (by decide) l), Nat.lt_of_lt_of_le h3 (Nat.pow_le_pow_right (by decide) l)⟩
def sTimes : Sig := ⟨2, [], fun rs M Q E => ∃ (a b : Rat) (d : D), rs = [dq a, .dat d] ∧ RawB big d b ∧ Fit a ∧ Q (dq (a * b)) M, fun hQ hE ⟨a, b, d, e, h1, h2, q⟩ => ⟨a, b, d, e, h1, h2, hQ _ _ q⟩⟩
def sOver (bp : Addr) : Sig := ⟨2, [], fun rs M Q E => ∃ a b : Rat, rs = [dq a, dq b] ∧ Fit a ∧ Fit b ∧ ((b = 0 ∧ E bp M) ∨ (b ≠ 0 ∧ Q (dq (a / b)) M)), fun hQ hE ⟨a, b, e, h1, h2, h⟩ => ⟨a, b, e, h1, h2, h.imp (fun ⟨a, b⟩ => ⟨a, hE _ _ b⟩) fun ⟨a, c⟩ => ⟨a, hQ _ _ c⟩⟩⟩
def sLess : Sig := ⟨2, [], fun rs M Q E => ∃ a b : Rat, rs = [dq a, dq b] ∧ Fit a ∧ Fit b ∧ Q (B (decide (a < b))) M, fun hQ hE ⟨a, b, e, h1, h2, q⟩ => ⟨a, b, e, h1, h2, hQ _ _ q⟩⟩
def sgn (q : Int) : Int := if 0 < q then 1 else if q < 0 then -1 else 0
def sSign : Sig := ⟨1, [], fun rs M Q E => ∃ a b : Int, rs = [.dat (.tuple [.int a, .int b])] ∧ Q (I (sgn a)) M, fun hQ hE ⟨a, b, e, q⟩ => ⟨a, b, e, hQ _ _ q⟩⟩
def absQ (q : Rat) : Rat := if q < 0 then -q else q
def sSize : Sig := ⟨1, [], fun rs M Q E => ∃ a : Rat, rs = [dq a] ∧ Q (dq (absQ a)) M, fun hQ hE ⟨a, e, q⟩ => ⟨a, e, hQ _ _ q⟩⟩
def sumQ (qs : List Rat) : Rat := qs.foldl (· + ·) 0
def sTotal : Sig := ⟨1, [], fun rs M Q E => ∃ qs : List Rat, (rs = [.dat (.list (qs.map pq))] ∨ rs = [.dat (.tuple (qs.map pq))]) ∧ (∃ n, (∀ q ∈ qs, Bt n q) ∧ 1 + qs.length * (n + 1) ≤ big) ∧ Q (dq (sumQ qs)) M, fun hQ hE ⟨a, e, h, q⟩ => ⟨a, e, h, hQ _ _ q⟩⟩
def sLesser : Sig := s2 fun a b => if b < a then b else a
def sGreater : Sig := s2 fun a b => if a < b then b else a
/-- all that is known of parts -/
def tParts (bp : Addr) : List ((Str × Nat) × Sig) := [(("shared", 2), sShared), (("part", 2), sPart bp), (("part", 1), sPart1 bp), (("plus", 2), sPlus), (("minus", 2), sMinus), (("times", 2), sTimes), (("over", 2), sOver bp), (("is_less", 2), sLess),
  (("sign_of", 1), sSign), (("size_of", 1), sSize), (("total", 1), sTotal), (("lesser", 2), sLesser), (("greater", 2), sGreater)]
def biL : List Str := ["abs", "any", "enumerate", "int", "len", "list", "range", "sorted", "tuple", "zip"]
def gvL : List (Str × Sv) := [("NOUGHT", dq 0), ("ONE", dq 1)]
def esL : List (Str × Str) := [("BadPart", "part"), ("BadPoint", "point"), ("BadRing", "ring"), ("BadMap", "map"), ("BadPaper", "paper"), ("BadSize", "size"), ("BadText", "text"), ("BadStore", "store"), ("NoSuch", "no such")]
def exF (ea : Str → Addr) (x : Str) : Option Addr := match errs.contains x with
  | true => some (ea x)
  | false => none
def gi (T : Tb) (k : Nat) (ea : Str → Addr) (t : List ((Str × Nat) × Sig)) : Gi := ⟨T, k, fun x n => t.lookup (x, n), fun x => gvL.lookup x, fun x => biL.contains x, fun x => x == ("gcd" : Str), ea, exF ea, esL.map fun p => (ea p.1, p.2), ""⟩
abbrev SS (N : List Str) (st : Stmt) : Sc := ⟨N, defScope st, fun _ => true, false, false⟩
section
variable {T : Tb} {k : Nat} {ea : Str → Addr}
abbrev gP0 (T : Tb) (k : Nat) (ea : Str → Addr) : Gi := gi T k ea []
abbrev gP1 (T : Tb) (k : Nat) (ea : Str → Addr) : Gi := gi T k ea [(("shared", 2), sShared)]
abbrev gP2 (T : Tb) (k : Nat) (ea : Str → Addr) : Gi := gi T k ea [(("part", 2), sPart (ea "BadPart")), (("part", 1), sPart1 (ea "BadPart"))]
abbrev gP3 (T : Tb) (k : Nat) (ea : Str → Addr) : Gi := gi T k ea [(("is_less", 2), sLess)]
abbrev gP4 (T : Tb) (k : Nat) (ea : Str → Addr) : Gi := gi T k ea [(("plus", 2), sPlus)]
theorem eq_int {a b : Int} : eqB false (.int a) (.int b) = decide (a = b) := by
  unfold eqB
  by_cases h : a = b <;> simp [PyData.eqv, h]
theorem ne_int {a b : Int} : eqB true (.int a) (.int b) = !decide (a = b) := by
  unfold eqB
  by_cases h : a = b <;> simp [PyData.eqv, h]
theorem lt89 {a b : Rat} (ha : Fit a) (hb : Fit b) : ((a.den : Int) * (b.den : Int)).natAbs < 2 ^ 8900 := Nat.lt_of_lt_of_le (mulI_lt ha.d hb.d) (Nat.pow_le_pow_right (by decide) (by decide))
theorem fdiv_ok {l g : Int} (h : l ≠ 0) (hb : l.natAbs < 2 ^ 8900) (h1 : 0 < g) (h2 : g ≤ l.natAbs) : fdivP g ∧ fdivP (-g) := by
  have hl : g.natAbs < 2 ^ 8900 := Nat.lt_of_le_of_lt (by omega) hb
  have hl2 : (-g).natAbs < 2 ^ 8900 := by rw [Int.natAbs_neg]; exact hl
  exact ⟨⟨by omega, Nat.lt_of_lt_of_le (log_of hl (by decide)) (by decide)⟩, by omega, Nat.lt_of_lt_of_le (log_of hl2 (by decide)) (by decide)⟩
theorem do_shared : Does (gP0 T k ea) (SS ["one", "other"] s_shared) (defBody s_shared) sShared := by
  rintro rs M Q E _ ⟨a, b, rfl, q⟩
  exact q
theorem do_part_body (t l : Int) (M : Ms) (Q : PoE) (E : Er) (h : (l = 0 ∧ E (ea "BadPart") M) ∨ (l ≠ 0 ∧ l.natAbs < 2 ^ 8900 ∧ Q (dq (Rat.divInt t l)) M)) : wpB (gP1 T k ea) (SS ["top", "low", "many"] s_part) (defBody s_part) [I t, I l, .no] M Q E := by
  refine ⟨rfl, rfl, brS (fun h1 => ?_) fun h1 => ?_⟩
  · rw [eq_int] at h1
    have e := of_decide_eq_true h1
    subst e
    rcases h with ⟨h, _⟩ | ⟨_, _, q⟩
    · exact absurd h (by decide)
    · obtain ⟨z1, z2⟩ := divInt_one t
      unfold dq pq at q
      rw [z1, z2] at q
      exact q
  · refine ⟨rfl, rfl, brS (fun h2 => ?_) fun h2 => ?_⟩
    · rw [eq_int] at h2
      have e := of_decide_eq_true h2
      rcases h with ⟨h, q⟩ | ⟨h, _⟩
      · exact q
      · exact absurd e h
    · rw [eq_int] at h2
      have e := of_decide_eq_false h2
      rcases h with ⟨h, _⟩ | ⟨h0, hb, q⟩
      · exact absurd h e
      have g1 := gcdI_pos (t := t) h0
      have g2 := gcdI_le (t := t) h0
      obtain ⟨f1, f2⟩ := fdiv_ok h0 hb g1 g2
      refine ⟨rfl, _, _, rfl, brS (fun h3 => ?_) fun h3 => ?_⟩
      · obtain ⟨z1, z2⟩ := divInt_neg (t := t) (of_decide_eq_true h3)
        unfold dq pq at q
        rw [z1, z2] at q
        exact ⟨f2, f2, q⟩
      · have h4 := of_decide_eq_false h3
        obtain ⟨z1, z2⟩ := divInt_pos (t := t) (l := l) (by omega)
        unfold dq pq at q
        rw [z1, z2] at q
        exact ⟨f1, f1, q⟩
theorem do_part : Does (gP1 T k ea) (SS ["top", "low", "many"] s_part) (defBody s_part) (sPart (ea "BadPart")) := by
  rintro rs M Q E _ ⟨t, l, rfl, h⟩
  exact do_part_body t l M Q E h
theorem do_plus : Does (gP2 T k ea) (SS ["one", "other"] s_plus) (defBody s_plus) sPlus := by
  rintro rs M Q E _ ⟨a, b, rfl, ha, hb, q⟩
  exact ⟨_, rfl, _, rfl, mulP_of ha.1 hb.d (by decide), _, rfl, _, rfl, mulP_of hb.1 ha.d (by decide), _, rfl, _, rfl, mulP_of ha.d hb.d (by decide), rfl, _, _, rfl, .inr ⟨mul_ne (den_ne a) (den_ne b), lt89 ha hb, by rw [eq_add]; exact q⟩⟩
theorem do_minus : Does (gP2 T k ea) (SS ["one", "other"] s_minus) (defBody s_minus) sMinus := by
  rintro rs M Q E _ ⟨a, b, rfl, ha, hb, q⟩
  exact ⟨_, rfl, _, rfl, mulP_of ha.1 hb.d (by decide), _, rfl, _, rfl, mulP_of hb.1 ha.d (by decide), _, rfl, _, rfl, mulP_of ha.d hb.d (by decide), rfl, _, _, rfl, .inr ⟨mul_ne (den_ne a) (den_ne b), lt89 ha hb, by rw [eq_sub]; exact q⟩⟩
theorem do_times : Does (gP2 T k ea) (SS ["one", "other"] s_times) (defBody s_times) sTimes := by
  rintro rs M Q E _ ⟨a, b, _, rfl, ⟨t, l, rfl, hl, rfl, ht, hb⟩, ha, q⟩
  have e : Rat.divInt (a.num * t) (a.den * l) = a * Rat.divInt t l := by rw [← Rat.divInt_mul_divInt, Rat.num_divInt_den]
  exact ⟨_, rfl, _, rfl, mulP_of ha.1 ht (by decide), _, rfl, _, rfl, mulP_of ha.d hb (by decide), rfl, _, _, rfl, .inr ⟨mul_ne (den_ne a) hl, Nat.lt_of_lt_of_le (mulI_lt ha.d hb) (Nat.pow_le_pow_right (by decide) (by decide)), by rw [e]; exact q⟩⟩
theorem do_over : Does (gP2 T k ea) (SS ["one", "other"] s_over) (defBody s_over) (sOver (ea "BadPart")) := by
  rintro rs M Q E _ ⟨a, b, rfl, ha, hb, h⟩
  refine ⟨_, rfl, _, rfl, mulP_of ha.1 hb.d (by decide), _, rfl, _, rfl, mulP_of ha.d hb.1 (by decide), rfl, _, _, rfl, h.imp (fun ⟨h0, q⟩ => ⟨by rw [h0]; simp, q⟩) fun ⟨h0, q⟩ => ⟨mul_ne (den_ne a) (num_ne h0), Nat.lt_of_lt_of_le (mulI_lt ha.d hb.1) (Nat.pow_le_pow_right (by decide) (by decide)), by rw [eq_div]; exact q⟩⟩
theorem less_iff (a b : Rat) : decide (a.num * b.den < b.num * a.den) = decide (a < b) := by
  by_cases h : a < b
  · rw [decide_eq_true h, decide_eq_true (Rat.lt_iff a b |>.mp h)]
  · rw [decide_eq_false h, decide_eq_false fun z => h (Rat.lt_iff a b |>.mpr z)]
theorem do_is_less : Does (gP0 T k ea) (SS ["one", "other"] s_is_less) (defBody s_is_less) sLess := by
  rintro rs M Q E _ ⟨a, b, rfl, ha, hb, q⟩
  rw [← less_iff] at q
  exact ⟨_, rfl, _, rfl, mulP_of ha.1 hb.d (by decide), _, rfl, _, rfl, mulP_of hb.1 ha.d (by decide), q⟩
theorem do_sign_of : Does (gP0 T k ea) (SS ["one"] s_sign_of) (defBody s_sign_of) sSign := by
  rintro rs M Q E _ ⟨a, b, rfl, q⟩
  unfold sgn at q
  refine ⟨_, rfl, brS (fun h => ?_) fun h => ?_⟩
  · rw [if_pos (of_decide_eq_true h)] at q
    exact q
  · rw [if_neg (of_decide_eq_false h)] at q
    refine ⟨_, rfl, brS (fun h => ?_) fun h => ?_⟩
    · rw [if_pos (of_decide_eq_true h)] at q
      exact q
    · rw [if_neg (of_decide_eq_false h)] at q
      exact q
theorem num_lt0 {a : Rat} : a.num < 0 ↔ a < 0 := by
  rw [Rat.lt_iff]
  simp
theorem abs_num (a : Rat) : (absQ a).num = absI a.num ∧ (absQ a).den = a.den := by
  unfold absQ absI
  by_cases h : a < 0
  · rw [if_pos h, if_pos (num_lt0.mpr h)]
    exact ⟨Rat.neg_num a, Rat.neg_den a⟩
  · rw [if_neg h, if_neg fun z => h (num_lt0.mp z)]
    exact ⟨rfl, rfl⟩
theorem do_size_of : Does (gP0 T k ea) (SS ["one"] s_size_of) (defBody s_size_of) sSize := by
  rintro rs M Q E _ ⟨a, rfl, q⟩
  obtain ⟨z1, z2⟩ := abs_num a
  unfold dq pq at q
  rw [z1, z2] at q
  exact ⟨_, rfl, _, rfl, q⟩
theorem do_lesser : Does (gP3 T k ea) (SS ["one", "other"] s_lesser) (defBody s_lesser) sLesser := by
  rintro rs M Q E _ ⟨a, b, rfl, ha, hb, q⟩
  have q : Q (dq (if b < a then b else a)) M := q
  refine ⟨rfl, _, _, rfl, hb, ha, brS (fun h => ?_) fun h => ?_⟩
  · rw [if_pos (of_decide_eq_true h)] at q
    exact q
  · rw [if_neg (of_decide_eq_false h)] at q
    exact q
theorem do_greater : Does (gP3 T k ea) (SS ["one", "other"] s_greater) (defBody s_greater) sGreater := by
  rintro rs M Q E _ ⟨a, b, rfl, ha, hb, q⟩
  have q : Q (dq (if a < b then b else a)) M := q
  refine ⟨rfl, _, _, rfl, ha, hb, brS (fun h => ?_) fun h => ?_⟩
  · rw [if_pos (of_decide_eq_true h)] at q
    exact q
  · rw [if_neg (of_decide_eq_false h)] at q
    exact q
theorem dats_at {α : Type} {f : α → D} {xs : List α} {i : Nat} {r : Sv} (h : (dats (xs.map f))[i]? = some r) : ∃ x, xs[i]? = some x ∧ r = .dat (f x) := by
  unfold dats at h
  rw [List.map_map, List.getElem?_map] at h
  obtain ⟨x, h1, h2⟩ := Option.map_eq_some_iff.mp h
  exact ⟨x, h1, h2.symm⟩
theorem sum_step {qs : List Rat} {i : Nat} {q : Rat} (h : qs[i]? = some q) : sumQ (qs.take (i + 1)) = sumQ (qs.take i) + q := by
  unfold sumQ
  rw [List.take_add_one, h]
  simp [List.foldl_append]
theorem bt0 : Bt 1 0 := ⟨by decide, by decide⟩
theorem sum_bt {qs : List Rat} {n : Nat} (h : ∀ q ∈ qs, Bt n q) : Bt (1 + qs.length * (n + 1)) (sumQ qs) := by
  have key : ∀ (l : List Rat) (m : Nat) (z : Rat), Bt m z → (∀ q ∈ l, Bt n q) → Bt (m + l.length * (n + 1)) (l.foldl (· + ·) z) := by
    intro l
    induction l with
    | nil => intro m z hz _; exact hz.mono (by simp)
    | cons a l ih =>
      intro m z hz hl
      have := ih (m + n + 1) (z + a) (hz.add (hl a (by simp))) fun q hq => hl q (by simp [hq])
      refine this.mono ?_
      rw [List.length_cons, Nat.add_mul]
      omega
  exact key qs 1 0 bt0 h
theorem sum_fit {qs : List Rat} {n : Nat} (hl : 1 + qs.length * (n + 1) ≤ big) (h : ∀ q ∈ qs, Bt n q) (i : Nat) : Fit (sumQ (qs.take i)) := by
  refine (sum_bt (qs := qs.take i) fun q hq => h q (List.mem_of_mem_take hq)).mono ?_
  have : (qs.take i).length ≤ qs.length := by rw [List.length_take]; omega
  have h2 : (qs.take i).length * (n + 1) ≤ qs.length * (n + 1) := Nat.mul_le_mul_right _ this
  omega
theorem one_fit {qs : List Rat} {n : Nat} (hl : 1 + qs.length * (n + 1) ≤ big) (h : ∀ q ∈ qs, Bt n q) {q : Rat} (hq : q ∈ qs) : Fit q := by
  refine (h q hq).mono ?_
  have : 1 ≤ qs.length := List.length_pos_iff.mpr (List.ne_nil_of_mem hq)
  have h2 : 1 * (n + 1) ≤ qs.length * (n + 1) := Nat.mul_le_mul_right _ this
  omega
theorem do_total : Does (gP4 T k ea) (SS ["parts", "found", "one"] s_total) (defBody s_total) sTotal := by
  rintro rs M Q E _ ⟨qs, e, ⟨n, hb, hl⟩, q⟩
  rcases e with rfl | rfl
  all_goals
    refine ⟨fun i ds M' => M' = M ∧ ∃ a z, ds = [a, dq (sumQ (qs.take i)), z], ⟨rfl, _, _, rfl⟩, fun _ _ _ _ _ => trivial, ?_, ?_⟩
    · rintro i r ds M' hr ⟨rfl, a, z, rfl⟩
      obtain ⟨x, hx, rfl⟩ := dats_at hr
      exact ⟨rfl, _, _, rfl, sum_fit hl hb i, one_fit hl hb (List.mem_of_getElem? hx), rfl, _, _, by rw [sum_step hx]⟩
    · rintro ds M' ⟨rfl, a, z, rfl⟩
      rw [dats_len, List.length_map, List.take_length]
      exact q
end
end BW
/-! T16C -/
namespace BW
open PySem PySem.Spec PyProof.Rows L2 Cal
/-! ### points -/
abbrev Pq := Rat × Rat
abbrev po (p : Pq) : D := .tuple [pq p.1, pq p.2]
abbrev dp (p : Pq) : Sv := .dat (po p)
structure BtP (n : Nat) (p : Pq) : Prop where
  x : Bt n p.1
  y : Bt n p.2
theorem BtP.mono {n m : Nat} {p : Pq} (h : BtP n p) (l : n ≤ m) : BtP m p := ⟨h.x.mono l, h.y.mono l⟩
def subP (a b : Pq) : Pq := (b.1 - a.1, b.2 - a.2)
def crossQ (u v : Pq) : Rat := u.1 * v.2 - u.2 * v.1
def sgnQ (q : Rat) : Int := if 0 < q then 1 else if q < 0 then -1 else 0
def turnQ (a b c : Pq) : Rat := crossQ (subP a b) (subP a c)
def sideQ (a b c : Pq) : Int := sgnQ (turnQ a b c)
def aheadQ (a b : Pq) : Bool := decide (a.1 < b.1) || (!decide (b.1 < a.1) && decide (a.2 < b.2))
def loQ (a b : Rat) : Rat := if b < a then b else a
def hiQ (a b : Rat) : Rat := if a < b then b else a
def spansQ (a b c d : Rat) : Bool := !decide (hiQ a b < loQ c d) && !decide (hiQ c d < loQ a b)
def mayQ (a b c d : Pq) : Bool := spansQ a.1 b.1 c.1 d.1 && spansQ a.2 b.2 c.2 d.2
def betwQ (a b c : Pq) : Bool := decide (sideQ a b c = 0) && mayQ a b c c
def wayQ (a b : Pq) (s : Rat) : Pq := (a.1 + (b.1 - a.1) * s, a.2 + (b.2 - a.2) * s)
theorem Bt.lo {n : Nat} {a b : Rat} (ha : Bt n a) (hb : Bt n b) : Bt n (loQ a b) := by unfold loQ; split <;> assumption
theorem Bt.hi {n : Nat} {a b : Rat} (ha : Bt n a) (hb : Bt n b) : Bt n (hiQ a b) := by unfold hiQ; split <;> assumption
theorem divInt_1 (x : Int) : Rat.divInt x 1 = (x : Rat) := Rat.ext (by rw [(divInt_one x).1, Rat.num_intCast]) (by rw [(divInt_one x).2, Rat.den_intCast])
/-! what they promise -/
def sPoint : Sig := ⟨2, [], fun rs M Q E => ∃ x y : Int, rs = [I x, I y] ∧ Q (dp ((x : Rat), (y : Rat))) M, fun hQ hE ⟨a, b, e, q⟩ => ⟨a, b, e, hQ _ _ q⟩⟩
def sCheckP : Sig := ⟨1, [], fun rs M Q E => ∃ p : Pq, rs = [dp p] ∧ BtP big p ∧ Q (dp p) M, fun hQ hE ⟨a, e, b, q⟩ => ⟨a, e, b, hQ _ _ q⟩⟩
def sApart : Sig := ⟨2, [], fun rs M Q E => ∃ a b : Pq, rs = [dp a, dp b] ∧ BtP big a ∧ BtP big b ∧ Q (dp (subP a b)) M, fun hQ hE ⟨a, b, e, h1, h2, q⟩ => ⟨a, b, e, h1, h2, hQ _ _ q⟩⟩
def sCross : Sig := ⟨2, [], fun rs M Q E => ∃ a b : Pq, rs = [dp a, dp b] ∧ BtP 1000 a ∧ BtP 1000 b ∧ Q (dq (crossQ a b)) M, fun hQ hE ⟨a, b, e, h1, h2, q⟩ => ⟨a, b, e, h1, h2, hQ _ _ q⟩⟩
def sSide : Sig := ⟨3, [], fun rs M Q E => ∃ a b c : Pq, rs = [dp a, dp b, dp c] ∧ BtP 1000 a ∧ BtP 1000 b ∧ BtP 1000 c ∧ Q (I (sideQ a b c)) M, fun hQ hE ⟨a, b, c, e, h1, h2, h3, q⟩ => ⟨a, b, c, e, h1, h2, h3, hQ _ _ q⟩⟩
def sAhead : Sig := ⟨2, [], fun rs M Q E => ∃ a b : Pq, rs = [dp a, dp b] ∧ BtP big a ∧ BtP big b ∧ Q (B (aheadQ a b)) M, fun hQ hE ⟨a, b, e, h1, h2, q⟩ => ⟨a, b, e, h1, h2, hQ _ _ q⟩⟩
def sSpans : Sig := ⟨4, [], fun rs M Q E => ∃ a b c d : Rat, rs = [dq a, dq b, dq c, dq d] ∧ Fit a ∧ Fit b ∧ Fit c ∧ Fit d ∧ Q (B (spansQ a b c d)) M, fun hQ hE ⟨a, b, c, d, e, h1, h2, h3, h4, q⟩ => ⟨a, b, c, d, e, h1, h2, h3, h4, hQ _ _ q⟩⟩
abbrev st (a b : Pq) : D := .tuple [po a, po b]
abbrev ds2 (a b : Pq) : Sv := .dat (st a b)
def sMay : Sig := ⟨2, [], fun rs M Q E => ∃ a b c d : Pq, rs = [ds2 a b, ds2 c d] ∧ BtP big a ∧ BtP big b ∧ BtP big c ∧ BtP big d ∧ ∀ t : Bool, t = mayQ a b c d → Q (B t) M, fun hQ hE ⟨a, b, c, d, e, h1, h2, h3, h4, q⟩ => ⟨a, b, c, d, e, h1, h2, h3, h4, fun t e => hQ _ _ (q t e)⟩⟩
def sBetw : Sig := ⟨3, [], fun rs M Q E => ∃ a b c : Pq, rs = [dp a, dp b, dp c] ∧ BtP 1000 a ∧ BtP 1000 b ∧ BtP 1000 c ∧ Q (B (betwQ a b c)) M, fun hQ hE ⟨a, b, c, e, h1, h2, h3, q⟩ => ⟨a, b, c, e, h1, h2, h3, hQ _ _ q⟩⟩
def sWay : Sig := ⟨3, [], fun rs M Q E => ∃ (a b : Pq) (s : Rat) (d : D), rs = [dp a, dp b, .dat d] ∧ BtP 500 a ∧ BtP 500 b ∧ RawB 2000 d s ∧ Q (dp (wayQ a b s)) M, fun hQ hE ⟨a, b, s, d, e, h1, h2, h3, q⟩ => ⟨a, b, s, d, e, h1, h2, h3, hQ _ _ q⟩⟩
def tPoints : List ((Str × Nat) × Sig) := [(("point", 2), sPoint), (("apart", 2), sApart), (("side", 3), sSide), (("spans_meet", 4), sSpans), (("may_meet", 2), sMay), (("between", 3), sBetw), (("on_way", 3), sWay)]
section
variable {T : Tb} {k : Nat} {ea : Str → Addr}
def tPa : List ((Str × Nat) × Sig) := [(("point", 2), sPoint), (("apart", 2), sApart), (("side", 3), sSide), (("spans_meet", 4), sSpans)]
abbrev gQ0 (T : Tb) (k : Nat) (ea : Str → Addr) : Gi := gi T k ea (tParts (ea "BadPart"))
abbrev gQ1 (T : Tb) (k : Nat) (ea : Str → Addr) : Gi := gi T k ea (tPa ++ tParts (ea "BadPart"))
abbrev gQ2 (T : Tb) (k : Nat) (ea : Str → Addr) : Gi := gi T k ea ((("may_meet", 2), sMay) :: (tPa ++ tParts (ea "BadPart")))
theorem lt89' {q : Rat} (h : Fit q) : ((q.den : Int)).natAbs < 2 ^ 8900 := Nat.lt_of_lt_of_le h.d (Nat.pow_le_pow_right (by decide) (by decide))
theorem do_point : Does (gQ0 T k ea) (SS ["x", "y"] s_point) (defBody s_point) sPoint := by
  rintro rs M Q E _ ⟨x, y, rfl, q⟩
  rw [← divInt_1, ← divInt_1] at q
  exact ⟨rfl, _, _, rfl, .inr ⟨by decide, by decide, rfl, _, _, rfl, .inr ⟨by decide, by decide, q⟩⟩⟩
theorem do_apart : Does (gQ0 T k ea) (SS ["one", "other"] s_apart) (defBody s_apart) sApart := by
  rintro rs M Q E _ ⟨a, b, rfl, ha, hb, q⟩
  exact ⟨_, rfl, _, rfl, rfl, _, _, rfl, hb.x, ha.x, _, rfl, _, rfl, rfl, _, _, rfl, hb.y, ha.y, q⟩
theorem do_spans : Does (gQ0 T k ea) (SS ["one", "other", "first", "second"] s_spans_meet) (defBody s_spans_meet) sSpans := by
  rintro rs M Q E _ ⟨a, b, c, d, rfl, ha, hb, hc, hd, q⟩
  unfold spansQ at q
  refine ⟨rfl, _, _, rfl, ha, hb, rfl, _, _, rfl, hc, hd, rfl, _, _, rfl, ha.hi hb, hc.lo hd, brS (fun h => ?_) fun h => ?_⟩
  · have h' : decide (hiQ a b < loQ c d) = true := h
    rw [h'] at q
    exact q
  · have h' : decide (hiQ a b < loQ c d) = false := h
    rw [h'] at q
    exact ⟨rfl, _, _, rfl, hc, hd, rfl, _, _, rfl, ha, hb, rfl, _, _, rfl, hc.hi hd, ha.lo hb, q⟩
theorem do_may : Does (gQ1 T k ea) (SS ["one", "other"] s_may_meet) (defBody s_may_meet) sMay := by
  rintro rs M Q E _ ⟨a, b, c, d, rfl, ha, hb, hc, hd, q⟩
  replace q := q _ rfl
  unfold mayQ at q
  refine ⟨_, rfl, _, rfl, _, rfl, _, rfl, _, rfl, _, rfl, _, rfl, _, rfl, rfl, _, _, _, _, rfl, ha.x, hb.x, hc.x, hd.x, brS (fun h => ?_) fun h => ?_⟩
  · have h' : spansQ a.1 b.1 c.1 d.1 = false := by simpa using h
    rw [h'] at q
    exact q
  · have h' : spansQ a.1 b.1 c.1 d.1 = true := by simpa using h
    rw [h'] at q
    exact ⟨_, rfl, _, rfl, _, rfl, _, rfl, _, rfl, _, rfl, _, rfl, _, rfl, rfl, _, _, _, _, rfl, ha.y, hb.y, hc.y, hd.y, q⟩
set_option smartUnfolding false in
theorem do_on_way : Does (gQ1 T k ea) (SS ["one", "other", "share", "x", "y"] s_on_way) (defBody s_on_way) sWay := by
  rintro rs M Q E _ ⟨a, b, s, d, rfl, ha, hb, hs, q⟩
  have a' := ha.mono (show 500 ≤ big by decide)
  have b' := hb.mono (show 500 ≤ big by decide)
  have s' : RawB big d s := hs.mono (by decide)
  have dx := hb.x.sub ha.x
  have dy := hb.y.sub ha.y
  exact ⟨rfl, _, _, rfl, a', b', _, rfl, rfl, _, _, _, rfl, s', dx.mono (by decide), rfl, _, _, rfl, a'.x, (dx.mul hs.bt).mono (by decide), _, rfl, rfl, _, _, _, rfl, s', dy.mono (by decide), rfl, _, _, rfl, a'.y, (dy.mul hs.bt).mono (by decide), q⟩
/-! side: by whole numbers -/
def sLow (a b c : Pq) : Int := a.1.den * a.2.den * b.1.den * b.2.den * c.1.den * c.2.den
def sOne (a b c : Pq) : Int := (b.1.num * a.1.den - a.1.num * b.1.den) * (c.2.num * a.2.den - a.2.num * c.2.den)
def sTwo (a b c : Pq) : Int := (b.2.num * a.2.den - a.2.num * b.2.den) * (c.1.num * a.1.den - a.1.num * c.1.den)
def sTurn (a b c : Pq) : Int := (sOne a b c * b.2.den * c.1.den - sTwo a b c * b.1.den * c.2.den) * sLow a b c
theorem num_eq (q : Rat) : (q.num : Rat) = q * (q.den : Rat) := by
  have h := Rat.num_divInt_den q
  rw [Rat.divInt_eq_div] at h
  have h1 : (q.den : Rat) ≠ 0 := by
    have := q.den_pos
    intro h
    have h2 : ((q.den : Nat) : Rat) = ((0 : Nat) : Rat) := h
    have := Rat.natCast_inj.mp h2
    omega
  have h3 : ((q.den : Int) : Rat) = (q.den : Rat) := Rat.intCast_natCast _
  rw [h3] at h
  grind
theorem turn_eq (a b c : Pq) : (sTurn a b c : Rat) = turnQ a b c * ((sLow a b c : Rat) * (sLow a b c : Rat)) := by
  unfold sTurn sOne sTwo sLow turnQ crossQ subP
  simp only [Rat.intCast_mul, Rat.intCast_sub, Rat.intCast_natCast, num_eq]
  grind
theorem low_pos (a b c : Pq) : 0 < sLow a b c := by
  unfold sLow
  have := a.1.den_pos
  have := a.2.den_pos
  have := b.1.den_pos
  have := b.2.den_pos
  have := c.1.den_pos
  have := c.2.den_pos
  exact Int.mul_pos (Int.mul_pos (Int.mul_pos (Int.mul_pos (Int.mul_pos (by omega) (by omega)) (by omega)) (by omega)) (by omega)) (by omega)
theorem cast_pos {n : Int} : (0 : Rat) < (n : Rat) ↔ 0 < n := by
  rw [show (0 : Rat) = ((0 : Int) : Rat) from rfl]
  exact Rat.intCast_lt_intCast
theorem cast_neg {n : Int} : (n : Rat) < 0 ↔ n < 0 := by
  rw [show (0 : Rat) = ((0 : Int) : Rat) from rfl]
  exact Rat.intCast_lt_intCast
theorem sgn_turn (a b c : Pq) : sgn (sTurn a b c) = sideQ a b c := by
  have h := turn_eq a b c
  have hl : (0 : Rat) < (sLow a b c : Rat) := cast_pos.mpr (low_pos a b c)
  have hl2 : (0 : Rat) < (sLow a b c : Rat) * (sLow a b c : Rat) := Rat.mul_pos hl hl
  unfold sgn sideQ sgnQ
  have e1 : 0 < sTurn a b c ↔ 0 < turnQ a b c := by
    rw [← cast_pos, h]
    constructor
    · intro z
      rcases (show turnQ a b c ≤ 0 ∨ 0 ≤ turnQ a b c from Rat.le_total) with y | y
      · have := Rat.mul_le_mul_of_nonneg_right y (Rat.le_of_lt hl2)
        grind
      · rcases Rat.le_iff_lt_or_eq.mp y with y | y
        · exact y
        · rw [← y, Rat.zero_mul] at z
          grind
    · intro z
      exact Rat.mul_pos z hl2
  have e2 : sTurn a b c < 0 ↔ turnQ a b c < 0 := by
    rw [← cast_neg, h]
    constructor
    · intro z
      rcases (show 0 ≤ turnQ a b c ∨ turnQ a b c ≤ 0 from Rat.le_total) with y | y
      · have := Rat.mul_le_mul_of_nonneg_right y (Rat.le_of_lt hl2)
        grind
      · rcases Rat.le_iff_lt_or_eq.mp y with y | y
        · exact y
        · rw [y, Rat.zero_mul] at z
          grind
    · intro z
      have := Rat.mul_lt_mul_of_pos_right z hl2
      grind
  by_cases p1 : 0 < sTurn a b c
  · rw [if_pos p1, if_pos (e1.mp p1)]
  · rw [if_neg p1, if_neg fun z => p1 (e1.mpr z)]
    by_cases p2 : sTurn a b c < 0
    · rw [if_pos p2, if_pos (e2.mp p2)]
    · rw [if_neg p2, if_neg fun z => p2 (e2.mpr z)]
abbrev nSide : List Str := ["start", "end", "spot", "x", "x_low", "y", "y_low", "end_x", "end_x_low", "end_y", "end_y_low", "spot_x", "spot_x_low", "spot_y", "spot_y_low", "low", "one", "other", "turn"]
theorem pw (n : Nat) {a : Nat} (h : a < 2 ^ n) {m : Nat} (l : n ≤ m) : a < 2 ^ m := Nat.lt_of_lt_of_le h (Nat.pow_le_pow_right (by decide) l)
set_option smartUnfolding false in
theorem do_side : Does (gQ0 T k ea) (SS nSide s_side) (defBody s_side) sSide := by
  rintro rs M Q E _ ⟨a, b, c, rfl, ha, hb, hc, q⟩
  rw [← sgn_turn] at q
  have l1 := ha.x.d
  have l2 := ha.y.d
  have l3 := hb.x.d
  have l4 := hb.y.d
  have l5 := hc.x.d
  have l6 := hc.y.d
  have d1 := subI_lt (mulI_lt hb.x.1 l1) (mulI_lt ha.x.1 l3)
  have d2 := subI_lt (mulI_lt hc.y.1 l2) (mulI_lt ha.y.1 l6)
  have d3 := subI_lt (mulI_lt hb.y.1 l2) (mulI_lt ha.y.1 l4)
  have d4 := subI_lt (mulI_lt hc.x.1 l1) (mulI_lt ha.x.1 l5)
  have m2 := mulI_lt l1 l2
  have m3 := mulI_lt m2 l3
  have m4 := mulI_lt m3 l4
  have m5 := mulI_lt m4 l5
  have m6 := mulI_lt m5 l6
  have o1 := mulI_lt d1 d2
  have o2 := mulI_lt d3 d4
  have t1 := mulI_lt (mulI_lt o1 l4) l5
  have t2 := mulI_lt (mulI_lt o2 l3) l6
  have tt := subI_lt t1 t2
  refine ⟨mulP_of l1 l2 (by decide), mulP_of m2 l3 (by decide), mulP_of m3 l4 (by decide), mulP_of m4 l5 (by decide), mulP_of m5 l6 (by decide), rfl, rfl, brS (fun h => ?_) fun h => ?_⟩
  · rw [eq_int] at h
    have z := of_decide_eq_true h
    have z2 := low_pos a b c
    unfold sLow at z2
    omega
  · exact ⟨mulP_of hb.x.1 l1 (by decide), mulP_of ha.x.1 l3 (by decide), mulP_of hc.y.1 l2 (by decide), mulP_of ha.y.1 l6 (by decide), mulP_of d1 d2 (by decide),
      mulP_of hb.y.1 l2 (by decide), mulP_of ha.y.1 l4 (by decide), mulP_of hc.x.1 l1 (by decide), mulP_of ha.x.1 l5 (by decide), mulP_of d3 d4 (by decide),
      mulP_of o1 l4 (by decide), mulP_of (mulI_lt o1 l4) l5 (by decide), mulP_of o2 l3 (by decide), mulP_of (mulI_lt o2 l3) l6 (by decide), mulP_of tt m6 (by decide), rfl, _, _, rfl, q⟩
theorem do_between : Does (gQ2 T k ea) (SS ["start", "end", "spot"] s_between) (defBody s_between) sBetw := by
  rintro rs M Q E _ ⟨a, b, c, rfl, ha, hb, hc, q⟩
  have a' := ha.mono (show 1000 ≤ big by decide)
  have b' := hb.mono (show 1000 ≤ big by decide)
  have c' := hc.mono (show 1000 ≤ big by decide)
  unfold betwQ at q
  refine ⟨rfl, _, _, _, rfl, ha, hb, hc, rfl, rfl, brS (fun h => ?_) fun h => ?_⟩
  · rw [eq_int] at h
    rw [h] at q
    exact ⟨rfl, _, _, _, _, rfl, a', b', c', c', fun t e => by rw [e]; exact q⟩
  · rw [eq_int] at h
    rw [h] at q
    exact q
/-! squares, strides -/
def squareQ (a b : Pq) : Rat := (b.1 - a.1) * (b.1 - a.1) + (b.2 - a.2) * (b.2 - a.2)
def strideQ (a b : Pq) : Rat := absQ (b.1 - a.1) + absQ (b.2 - a.2)
def sSquare : Sig := ⟨2, [], fun rs M Q E => ∃ a b : Pq, rs = [dp a, dp b] ∧ BtP 500 a ∧ BtP 500 b ∧ Q (dq (squareQ a b)) M, fun hQ hE ⟨a, b, e, h1, h2, q⟩ => ⟨a, b, e, h1, h2, hQ _ _ q⟩⟩
def sStride : Sig := ⟨2, [], fun rs M Q E => ∃ a b : Pq, rs = [dp a, dp b] ∧ BtP 500 a ∧ BtP 500 b ∧ Q (dq (strideQ a b)) M, fun hQ hE ⟨a, b, e, h1, h2, q⟩ => ⟨a, b, e, h1, h2, hQ _ _ q⟩⟩
def tPoints2 : List ((Str × Nat) × Sig) := [(("square", 2), sSquare), (("stride", 2), sStride)]
theorem Bt.abs {n : Nat} {a : Rat} (h : Bt n a) : Bt n (absQ a) := by
  obtain ⟨z1, z2⟩ := abs_num a
  refine ⟨?_, by rw [z2]; exact h.2⟩
  rw [z1]
  have := h.1
  unfold absI
  split <;> omega
set_option smartUnfolding false in
theorem do_square : Does (gQ1 T k ea) (SS ["one", "other", "x", "y"] s_square) (defBody s_square) sSquare := by
  rintro rs M Q E _ ⟨a, b, rfl, ha, hb, q⟩
  have dx := hb.x.sub ha.x
  have dy := hb.y.sub ha.y
  exact ⟨rfl, _, _, rfl, ha.mono (by decide), hb.mono (by decide), rfl, _, _, _, rfl, raw_pq (dx.mono (by decide)), dx.mono (by decide), rfl, _, _, _, rfl, raw_pq (dy.mono (by decide)), dy.mono (by decide), rfl, _, _, rfl, (dx.mul dx).mono (by decide), (dy.mul dy).mono (by decide), q⟩
set_option smartUnfolding false in
theorem do_stride : Does (gQ1 T k ea) (SS ["one", "other", "x", "y"] s_stride) (defBody s_stride) sStride := by
  rintro rs M Q E _ ⟨a, b, rfl, ha, hb, q⟩
  have dx := hb.x.sub ha.x
  have dy := hb.y.sub ha.y
  exact ⟨rfl, _, _, rfl, ha.mono (by decide), hb.mono (by decide), rfl, _, rfl, rfl, _, rfl, rfl, _, _, rfl, dx.abs.mono (by decide), dy.abs.mono (by decide), q⟩
end
theorem pq_inj {a b : Rat} : PyData.eqv (pq a) (pq b) = decide (a = b) := by
  by_cases h : a = b
  · subst h
    simp [PyData.eqv, PyData.eqvAll]
  · have : ¬ (a.num = b.num ∧ (a.den : Int) = (b.den : Int)) := fun z => h (Rat.ext z.1 (by exact_mod_cast z.2))
    simp [PyData.eqv, PyData.eqvAll, h]
    intro z y
    exact this ⟨z, by exact_mod_cast y⟩
theorem po_eqv {a b : Pq} : PyData.eqv (po a) (po b) = decide (a = b) := by
  have e : PyData.eqv (po a) (po b) = (PyData.eqv (pq a.1) (pq b.1) && PyData.eqv (pq a.2) (pq b.2)) := by
    simp [PyData.eqv, PyData.eqvAll]
  rw [e, pq_inj, pq_inj]
  by_cases h : a = b
  · subst h
    simp
  · have : ¬ (a.1 = b.1 ∧ a.2 = b.2) := fun z => h (Prod.ext z.1 z.2)
    simp [h]
    intro z y
    exact this ⟨z, y⟩
theorem eq_po {a b : Pq} : eqB false (po a) (po b) = decide (a = b) := po_eqv
theorem ne_po {a b : Pq} : eqB true (po a) (po b) = !decide (a = b) := by
  show (!PyData.eqv (po a) (po b)) = _
  rw [po_eqv]
end BW
/-! T16D -/
/-! tracks: what they are made of -/
namespace BW
open PySem PySem.Spec PyProof.Rows L2 Cal
theorem cut_lo (xs : List D) {c : Nat} (h : c ≤ xs.length) : Cal.cutD xs none (some (c : Int)) = xs.take c := by
  unfold Cal.cutD
  rw [HT.sIx_none, HT.sIx_nat, Nat.min_eq_left h]
  simp
theorem cut_hi (xs : List D) {c : Nat} (h : c ≤ xs.length) : Cal.cutD xs (some (c : Int)) none = xs.drop c := by
  unfold Cal.cutD
  rw [HT.sIx_none, HT.sIx_nat, Nat.min_eq_left h]
  apply List.take_of_length_le
  rw [List.length_drop]
  exact Nat.le_refl _
theorem cut1 (xs : List D) : Cal.cutD xs (some 1) none = xs.drop 1 := by
  cases xs with
  | nil => rfl
  | cons x xs => exact cut_hi (x :: xs) (c := 1) (by simp)
/-- steps of a row, one behind the other -/
def prs (ps : List Pq) : List (Pq × Pq) := ps.zip (ps.drop 1)
theorem prs_len (ps : List Pq) : (prs ps).length = ps.length - 1 := by
  unfold prs
  rw [List.length_zip, List.length_drop]
  omega
theorem prs_at {ps : List Pq} {i : Nat} {p : Pq × Pq} (h : (prs ps)[i]? = some p) : ps[i]? = some p.1 ∧ ps[i + 1]? = some p.2 := by
  unfold prs at h
  have := List.getElem?_zip_eq_some.mp h
  rw [List.getElem?_drop] at this
  exact ⟨this.1, by rw [Nat.add_comm]; exact this.2⟩
theorem prs_mk {ps : List Pq} {i : Nat} {a b : Pq} (h1 : ps[i]? = some a) (h2 : ps[i + 1]? = some b) : (prs ps)[i]? = some (a, b) := by
  unfold prs
  refine List.getElem?_zip_eq_some.mpr ⟨h1, ?_⟩
  rw [List.getElem?_drop, Nat.add_comm]
  exact h2
theorem zipD_prs (ps : List Pq) : zipD (ps.map po) (Cal.cutD (ps.map po) (some 1) none) = (prs ps).map fun p => st p.1 p.2 := by
  rw [cut1]
  apply List.ext_getElem?
  intro i
  rw [List.getElem?_map]
  by_cases h : i < (prs ps).length
  · have hp : (prs ps)[i]? = some (prs ps)[i] := List.getElem?_eq_getElem h
    obtain ⟨h1, h2⟩ := prs_at hp
    rw [hp]
    have z := zipD_get (xs := ps.map po) (ys := (ps.map po).drop 1) (i := i) (x := po (prs ps)[i].1) (y := po (prs ps)[i].2) (by rw [List.getElem?_map, h1]; rfl) (by rw [List.getElem?_drop, List.getElem?_map, Nat.add_comm, h2]; rfl)
    unfold dats at z
    rw [List.getElem?_map] at z
    obtain ⟨d, d1, d2⟩ := Option.map_eq_some_iff.mp z
    cases d2
    exact d1
  · have hp : (prs ps)[i]? = none := List.getElem?_eq_none (by omega)
    rw [hp]
    refine List.getElem?_eq_none ?_
    have z := zipD_len (xs := ps.map po) (ys := (ps.map po).drop 1)
    unfold dats at z
    rw [List.length_map] at z
    rw [z, List.length_drop, List.length_map]
    rw [prs_len] at h
    omega
theorem takeP {α : Type} {ts : List α} {i : Nat} {t : α} (h : ts[i]? = some t) : ts.take (i + 1) = ts.take i ++ [t] := by
  rw [List.take_add_one, h]
  rfl
/-- the steps of a row, as the program draws them -/
abbrev zps (ps : List Pq) : List D := zipD (ps.map po) (Cal.cutD (ps.map po) (some 1) none)
theorem zps_len (ps : List Pq) : (dats (zps ps)).length = ps.length - 1 := by
  unfold zps
  rw [zipD_prs, dats_len, List.length_map, prs_len]
theorem zps_at {ps : List Pq} {i : Nat} {r : Sv} (h : (dats (zps ps))[i]? = some r) : ∃ p, (prs ps)[i]? = some p ∧ r = ds2 p.1 p.2 := by
  unfold zps at h
  rw [zipD_prs] at h
  exact dats_at h
theorem enu_zps_len (ps : List Pq) : (enuS (zps ps)).length = ps.length - 1 := by
  rw [enu_len]
  have := zps_len ps
  rwa [dats_len] at this
theorem enu_zps_at {ps : List Pq} {i : Nat} {r : Sv} (h : (enuS (zps ps))[i]? = some r) : ∃ p, (prs ps)[i]? = some p ∧ r = .dat (.tuple [.int (i : Nat), st p.1 p.2]) := by
  unfold zps at h
  rw [zipD_prs] at h
  have hi : i < (enuS ((prs ps).map fun p => st p.1 p.2)).length := (List.getElem?_eq_some_iff.mp h).1
  rw [enu_len, List.length_map] at hi
  have hp : (prs ps)[i]? = some (prs ps)[i] := List.getElem?_eq_getElem hi
  have z := enu_get (xs := (prs ps).map fun p => st p.1 p.2) (k := i) (d := st (prs ps)[i].1 (prs ps)[i].2) (by rw [List.getElem?_map, hp]; rfl)
  rw [z] at h
  cases h
  exact ⟨_, hp, rfl⟩
abbrev rL (ps : List Pq) : Sv := .dat (.list (ps.map po))
abbrev rT (ps : List Pq) : Sv := .dat (.tuple (ps.map po))
def TrackOk (ps : List Pq) : Prop := 2 ≤ ps.length ∧ ∀ p ∈ prs ps, p.1 ≠ p.2
instance (ps : List Pq) : Decidable (TrackOk ps) := by unfold TrackOk; infer_instance
structure RowOk (ps : List Pq) : Prop where
  len : ps.length ≤ 100
  bt : ∀ p ∈ ps, BtP 3 p
def sTrack (bp : Addr) : Sig := ⟨1, [], fun rs M Q E => ∃ ps : List Pq, (rs = [rL ps] ∨ rs = [rT ps]) ∧ ps.length ≤ 100 ∧ (TrackOk ps → Q (rT ps) M) ∧ (¬TrackOk ps → E bp M), fun hQ hE ⟨ps, e, h1, h2, h3⟩ => ⟨ps, e, h1, fun z => hQ _ _ (h2 z), fun z => hE _ _ (h3 z)⟩⟩
section
variable {T : Tb} {k : Nat} {ea : Str → Addr}
abbrev gT0 (T : Tb) (k : Nat) (ea : Str → Addr) : Gi := gi T k ea (tPoints2 ++ (tPoints ++ tParts (ea "BadPart")))
def sameB (ps : List (Pq × Pq)) : List Bool := ps.map fun p => decide (p.1 = p.2)
theorem track_any {ps : List Pq} (h : 2 ≤ ps.length) : TrackOk ps ↔ (sameB (prs ps)).any id = false := by
  unfold TrackOk sameB
  simp only [h, true_and, List.any_map, List.any_eq_false, Function.comp_apply, id, decide_eq_true_eq]
theorem same_step {ps : List (Pq × Pq)} {i : Nat} {p : Pq × Pq} (h : ps[i]? = some p) : dats ((sameB (ps.take i)).map .bool) ++ [B (decide (p.1 = p.2))] = dats ((sameB (ps.take (i + 1))).map .bool) := by
  unfold dats sameB
  rw [takeP h]
  simp
set_option smartUnfolding false in
theorem do_check_track : Does (gT0 T k ea) (SS ["row", "found", "one", "other"] s_check_track) (defBody s_check_track) (sTrack (ea "BadPoint")) := by
  rintro rs M Q E _ ⟨ps, e, hl, hQ, hE⟩
  rcases e with rfl | rfl
  all_goals
    have hn := zps_len ps
    refine brS (fun h => ?_) fun h => ?_
    · rw [decide_eq_true_iff, List.length_map] at h
      exact hE fun z => by have := z.1; omega
    · rw [decide_eq_false_iff_not, List.length_map] at h
      have h2 : 2 ≤ ps.length := by omega
      refine ⟨by rw [hn]; omega, fun i acc M' => M' = M ∧ acc = dats ((sameB ((prs ps).take i)).map .bool), ⟨rfl, rfl⟩, ?_, ?_, ?_⟩
      · rintro i acc M' hi ⟨rfl, rfl⟩
        refine ⟨trivial, ?_⟩
        unfold sameB
        rw [dats_len, List.length_map, List.length_map, List.length_take]
        exact Nat.min_le_left _ _
      · rintro Dl i r acc M' hr ⟨rfl, rfl⟩
        obtain ⟨p, h1, rfl⟩ := zps_at hr
        refine ⟨M', rfl, rfl, rfl, M', rfl, rfl, ?_⟩
        rw [eq_po]
        exact same_step h1
      · rintro acc M' ⟨rfl, rfl⟩
        rw [hn, ← prs_len, List.take_length]
        refine ⟨by unfold sameB; rw [dats_len, List.length_map, List.length_map, prs_len]; omega, .inl ⟨(sameB (prs ps)).map .bool, rfl, sameB (prs ps), rfl, brS (fun z => ?_) fun z => ?_⟩⟩
        · exact hE fun q => by rw [(track_any h2).mp q] at z; cases z
        · exact hQ ((track_any h2).mpr z)
end
end BW
/-! T16E -/
/-! the nearest point of a step; lengths of rows -/
namespace BW
open PySem PySem.Spec PyProof.Rows L2 Cal
def dotQ (u v : Pq) : Rat := u.1 * v.1 + u.2 * v.2
def shareQ (a b p : Pq) : Rat := dotQ (subP a p) (subP a b) / dotQ (subP a b) (subP a b)
def clampQ (s : Rat) : Rat := if 1 < (if s < 0 then 0 else s) then 1 else (if s < 0 then 0 else s)
def stepQ (a b p : Pq) : Pq := wayQ a b (clampQ (shareQ a b p))
theorem sq_nonneg (x : Rat) : 0 ≤ x * x := by
  rcases (Rat.le_total : x ≤ 0 ∨ 0 ≤ x) with h | h
  · have := Rat.mul_nonneg (show (0 : Rat) ≤ -x by grind) (show (0 : Rat) ≤ -x by grind)
    grind
  · exact Rat.mul_nonneg h h
theorem sq_zero {x : Rat} (h : x * x = 0) : x = 0 := by
  rcases Rat.mul_eq_zero.mp h with h | h <;> exact h
theorem dot_ne {a b : Pq} (h : a ≠ b) : dotQ (subP a b) (subP a b) ≠ 0 := fun z => h (by
  unfold dotQ subP at z
  dsimp only at z
  have h1 := sq_nonneg (b.1 - a.1)
  have h2 := sq_nonneg (b.2 - a.2)
  have e1 : (b.1 - a.1) * (b.1 - a.1) = 0 := by grind
  have e2 : (b.2 - a.2) * (b.2 - a.2) = 0 := by grind
  have e3 := sq_zero e1
  have e4 := sq_zero e2
  exact Prod.ext (by grind) (by grind))
theorem bt1 : Bt 1 1 := ⟨by decide, by decide⟩
theorem Bt.clamp {n : Nat} {s : Rat} (h : Bt n s) (h1 : 1 ≤ n) : Bt n (clampQ s) := by
  unfold clampQ
  have z : Bt n (if s < 0 then 0 else s) := by split <;> first | exact bt0.mono h1 | exact h
  generalize (if s < 0 then 0 else s) = g at z
  split
  · exact bt1.mono h1
  · exact z
theorem share_bt {n m : Nat} {a b p : Pq} (ha : BtP n a) (hb : BtP n b) (hp : BtP m p) : Bt (2 * (n + m + 1) + 2 * (2 * n + 1) + 1 + (4 * (2 * n + 1) + 1)) (shareQ a b p) := by
  have dx := hb.x.sub ha.x
  have dy := hb.y.sub ha.y
  have px := hp.x.sub ha.x
  have py := hp.y.sub ha.y
  exact (((px.mul dx).add (py.mul dy)).div ((dx.mul dx).add (dy.mul dy))).mono (by omega)
theorem way_bt {n m : Nat} {a b : Pq} {s : Rat} (ha : BtP n a) (hb : BtP n b) (hs : Bt m s) : BtP (n + (2 * n + 1 + m) + 1) (wayQ a b s) := by
  have dx := hb.x.sub ha.x
  have dy := hb.y.sub ha.y
  exact ⟨(ha.x.add (dx.mul hs)).mono (by omega), (ha.y.add (dy.mul hs)).mono (by omega)⟩
theorem step_bt {m : Nat} {a b p : Pq} (ha : BtP 3 a) (hb : BtP 3 b) (hp : BtP m p) : BtP (2 * m + 63) (stepQ a b p) := (way_bt ha hb ((share_bt ha hb hp).clamp (by omega))).mono (by omega)
def sStep : Sig := ⟨3, [], fun rs M Q E => ∃ a b p : Pq, rs = [dp a, dp b, dp p] ∧ BtP 3 a ∧ BtP 3 b ∧ BtP 160 p ∧ a ≠ b ∧ Q (dp (stepQ a b p)) M, fun hQ hE ⟨a, b, p, e, h1, h2, h3, h4, q⟩ => ⟨a, b, p, e, h1, h2, h3, h4, hQ _ _ q⟩⟩
def tStep : List ((Str × Nat) × Sig) := [(("on_step", 3), sStep)]
section
variable {T : Tb} {k : Nat} {ea : Str → Addr}
set_option smartUnfolding false in
theorem do_on_step : Does (gT0 T k ea) (SS ["start", "end", "spot", "x", "y", "aside", "up", "share"] s_on_step) (defBody s_on_step) sStep := by
  rintro rs M Q E _ ⟨a, b, p, rfl, ha, hb, hp, ne, q⟩
  have dx := hb.x.sub ha.x
  have dy := hb.y.sub ha.y
  have px := hp.x.sub ha.x
  have py := hp.y.sub ha.y
  have t1 := px.mul dx
  have t2 := py.mul dy
  have t3 := dx.mul dx
  have t4 := dy.mul dy
  have u1 := t1.add t2
  have u2 := t3.add t4
  have sb : Bt 400 (shareQ a b p) := (share_bt ha hb hp).mono (by decide)
  have cb : Bt 400 (clampQ (shareQ a b p)) := sb.clamp (by decide)
  have gb : Bt 400 (if shareQ a b p < 0 then 0 else shareQ a b p) := by split <;> first | exact bt0.mono (by decide) | exact sb
  refine ⟨rfl, _, _, rfl, ha.mono (by decide), hb.mono (by decide), rfl, _, _, rfl, ha.mono (by decide), hp.mono (by decide),
    rfl, _, _, _, rfl, raw_pq (dx.mono (by decide)), px.mono (by decide), rfl, _, _, _, rfl, raw_pq (dy.mono (by decide)), py.mono (by decide), rfl, _, _, rfl, t1.mono (by decide), t2.mono (by decide),
    rfl, _, _, _, rfl, raw_pq (dx.mono (by decide)), dx.mono (by decide), rfl, _, _, _, rfl, raw_pq (dy.mono (by decide)), dy.mono (by decide), rfl, _, _, rfl, t3.mono (by decide), t4.mono (by decide),
    rfl, _, _, rfl, u1.mono (by decide), u2.mono (by decide), .inr ⟨dot_ne ne, ?_⟩⟩
  exact ⟨rfl, shareQ a b p, 0, rfl, sb.mono (by decide), bt0.mono (by decide), rfl, _, 1, rfl, gb.mono (by decide), bt1.mono (by decide), rfl, a, b, clampQ (shareQ a b p), _, rfl, ha.mono (by decide), hb.mono (by decide), raw_pq (cb.mono (by decide)), q⟩
/-! far_from -/
def farQ (a b p : Pq) : Rat := if a = b then squareQ a p else squareQ (stepQ a b p) p
def sFar : Sig := ⟨3, [], fun rs M Q E => ∃ a b p : Pq, rs = [dp a, dp b, dp p] ∧ BtP 3 a ∧ BtP 3 b ∧ BtP 160 p ∧ Q (dq (farQ a b p)) M, fun hQ hE ⟨a, b, p, e, h1, h2, h3, q⟩ => ⟨a, b, p, e, h1, h2, h3, hQ _ _ q⟩⟩
abbrev gT1 (T : Tb) (k : Nat) (ea : Str → Addr) : Gi := gi T k ea (tStep ++ (tPoints2 ++ (tPoints ++ tParts (ea "BadPart"))))
theorem do_far_from : Does (gT1 T k ea) (SS ["start", "end", "spot"] s_far_from) (defBody s_far_from) sFar := by
  rintro rs M Q E _ ⟨a, b, p, rfl, ha, hb, hp, q⟩
  unfold farQ at q
  refine ⟨rfl, rfl, brS (fun h => ?_) fun h => ?_⟩
  · rw [eq_po] at h
    rw [if_pos (of_decide_eq_true h)] at q
    exact ⟨rfl, _, _, rfl, ha.mono (by decide), hp.mono (by decide), q⟩
  · rw [eq_po] at h
    have ne := of_decide_eq_false h
    rw [if_neg ne] at q
    exact ⟨rfl, _, _, _, rfl, ha, hb, hp, ne, rfl, _, _, rfl, (step_bt ha hb hp).mono (by decide), hp.mono (by decide), q⟩
/-! lengths -/
def strides (ps : List Pq) : List Rat := (prs ps).map fun p => strideQ p.1 p.2
def lenQ (ps : List Pq) : Rat := sumQ (strides ps)
def sLen : Sig := ⟨1, [], fun rs M Q E => ∃ ps : List Pq, rs = [rT ps] ∧ ps.length ≤ 100 ∧ (∀ p ∈ ps, BtP 3 p) ∧ Q (dq (lenQ ps)) M, fun hQ hE ⟨ps, e, h1, h2, q⟩ => ⟨ps, e, h1, h2, hQ _ _ q⟩⟩
def sWhole : Sig := ⟨1, [], fun rs M Q E => ∃ ps : List Pq, (rs = [rL ps] ∨ rs = [rT ps]) ∧ ps.length ≤ 100 ∧ (∀ p ∈ ps, BtP 3 p) ∧ TrackOk ps ∧ Q (dq (lenQ ps)) M, fun hQ hE ⟨ps, e, h1, h2, h3, q⟩ => ⟨ps, e, h1, h2, h3, hQ _ _ q⟩⟩
theorem stride_bt {n m : Nat} {a b : Pq} (ha : BtP n a) (hb : BtP m b) : Bt (2 * (m + n + 1) + 1) (strideQ a b) := by
  have dx := hb.x.sub ha.x
  have dy := hb.y.sub ha.y
  exact (dx.abs.add dy.abs).mono (by omega)
theorem prs_mem {ps : List Pq} {p : Pq × Pq} (h : p ∈ prs ps) : p.1 ∈ ps ∧ p.2 ∈ ps := by
  unfold prs at h
  have := List.of_mem_zip h
  exact ⟨this.1, List.mem_of_mem_drop this.2⟩
theorem strides_bt {ps : List Pq} (h : ∀ p ∈ ps, BtP 3 p) : ∀ q ∈ strides ps, Bt 15 q := by
  intro q hq
  obtain ⟨p, hp, rfl⟩ := List.mem_map.mp hq
  have := prs_mem hp
  exact (stride_bt (h _ this.1) (h _ this.2)).mono (by decide)
theorem strides_len (ps : List Pq) : (strides ps).length = ps.length - 1 := by
  unfold strides
  rw [List.length_map, prs_len]
theorem strides_at {ps : List Pq} {i : Nat} {p : Pq × Pq} (h : (prs ps)[i]? = some p) : (strides ps)[i]? = some (strideQ p.1 p.2) := by
  unfold strides
  rw [List.getElem?_map, h]
  rfl
set_option smartUnfolding false in
theorem do_length_of : Does (gT0 T k ea) (SS ["row", "found", "start", "end"] s_length_of) (defBody s_length_of) sLen := by
  rintro rs M Q E _ ⟨ps, rfl, hl, hb, q⟩
  have hn := zps_len ps
  have sl := strides_len ps
  have sb := strides_bt hb
  have big0 : 1 + (strides ps).length * (15 + 1) ≤ big := by rw [sl]; unfold big; omega
  refine ⟨fun i ds M' => M' = M ∧ ∃ a z y, ds = [a, dq (sumQ ((strides ps).take i)), z, y], ⟨rfl, _, _, _, rfl⟩, fun _ _ _ _ _ => trivial, ?_, ?_⟩
  · rintro i r ds M' hr ⟨rfl, a, z, y, rfl⟩
    obtain ⟨p, hp, rfl⟩ := zps_at hr
    have hs := strides_at hp
    have hm := prs_mem (List.mem_of_getElem? hp)
    exact ⟨rfl, _, _, rfl, (hb _ hm.1).mono (by decide), (hb _ hm.2).mono (by decide), rfl, _, _, rfl, sum_fit big0 sb i, (sb _ (List.mem_of_getElem? hs)).mono (by decide), rfl, _, _, _, by rw [sum_step hs]⟩
  · rintro ds M' ⟨rfl, a, z, y, rfl⟩
    rw [hn, ← sl, List.take_length]
    exact q
def tLen (bp : Addr) : List ((Str × Nat) × Sig) := [(("length_of", 1), sLen), (("check_track", 1), sTrack bp)]
abbrev gT2 (T : Tb) (k : Nat) (ea : Str → Addr) : Gi := gi T k ea (tLen (ea "BadPoint") ++ (tStep ++ (tPoints2 ++ (tPoints ++ tParts (ea "BadPart")))))
theorem do_whole_way : Does (gT2 T k ea) (SS ["row"] s_whole_way) (defBody s_whole_way) sWhole := by
  rintro rs M Q E _ ⟨ps, e, hl, hb, ok, q⟩
  rcases e with rfl | rfl
  · exact ⟨rfl, ps, .inl rfl, hl, fun _ => ⟨rfl, ps, rfl, hl, hb, q⟩, fun z => absurd ok z⟩
  · exact ⟨rfl, ps, .inr rfl, hl, fun _ => ⟨rfl, ps, rfl, hl, hb, q⟩, fun z => absurd ok z⟩
end
end BW
/-! T16F -/
/-! the nearest point of a track; places by length -/
namespace BW
open PySem PySem.Spec PyProof.Rows L2 Cal
def distQ (t : Pq × Pq) (p : Pq) : Rat := squareQ (stepQ t.1 t.2 p) p
/-- what is nearest among the first n steps -/
def NearTo (ps : List Pq) (p : Pq) (n : Nat) (f : Rat) (k : Nat) (h : Pq) : Prop := k < n ∧ ∃ s, (prs ps)[k]? = some s ∧ h = stepQ s.1 s.2 p ∧ f = distQ s p ∧ (∀ j t, j < n → (prs ps)[j]? = some t → f ≤ distQ t p) ∧ ∀ j t, j < k → (prs ps)[j]? = some t → f < distQ t p
def sNearest : Sig := ⟨2, [], fun rs M Q E => ∃ (ps : List Pq) (p : Pq), (rs = [rL ps, dp p] ∨ rs = [rT ps, dp p]) ∧ ps.length ≤ 100 ∧ (∀ p ∈ ps, BtP 3 p) ∧ BtP 160 p ∧ TrackOk ps ∧ ∀ f k h, NearTo ps p (ps.length - 1) f k h → Q (.dat (.tuple [pq f, .int (k : Nat), po h])) M,
  fun hQ hE ⟨ps, p, e, h1, h2, h3, h4, q⟩ => ⟨ps, p, e, h1, h2, h3, h4, fun f k h z => hQ _ _ (q f k h z)⟩⟩
theorem square_bt {n m : Nat} {a b : Pq} (ha : BtP n a) (hb : BtP m b) : Bt (4 * (m + n + 1) + 1) (squareQ a b) := by
  have dx := hb.x.sub ha.x
  have dy := hb.y.sub ha.y
  exact ((dx.mul dx).add (dy.mul dy)).mono (by omega)
theorem dist_fit {t : Pq × Pq} {p : Pq} (h1 : BtP 3 t.1) (h2 : BtP 3 t.2) (hp : BtP 160 p) : Fit (distQ t p) := (square_bt (step_bt h1 h2 hp) hp).mono (by decide)
theorem near_first {ps : List Pq} {p : Pq} {s : Pq × Pq} (h : (prs ps)[0]? = some s) : NearTo ps p 1 (distQ s p) 0 (stepQ s.1 s.2 p) := by
  refine ⟨by omega, s, h, rfl, rfl, fun j t hj ht => ?_, fun j t hj => absurd hj (Nat.not_lt_zero j)⟩
  obtain rfl : j = 0 := by omega
  rw [h] at ht
  cases ht
  exact Rat.le_refl
theorem near_more {ps : List Pq} {p : Pq} {i : Nat} {s : Pq × Pq} {f : Rat} {k : Nat} {h : Pq} (hs : (prs ps)[i]? = some s) (z : NearTo ps p i f k h) (lt : distQ s p < f) : NearTo ps p (i + 1) (distQ s p) i (stepQ s.1 s.2 p) := by
  obtain ⟨hk, s0, _, _, _, h1, _⟩ := z
  refine ⟨by omega, s, hs, rfl, rfl, fun j t hj ht => ?_, fun j t hj ht => ?_⟩
  · by_cases e : j = i
    · subst e
      rw [hs] at ht
      cases ht
      exact Rat.le_refl
    · have := h1 j t (by omega) ht
      grind
  · have := h1 j t hj ht
    grind
theorem near_same {ps : List Pq} {p : Pq} {i : Nat} {s : Pq × Pq} {f : Rat} {k : Nat} {h : Pq} (hs : (prs ps)[i]? = some s) (z : NearTo ps p i f k h) (lt : ¬ distQ s p < f) : NearTo ps p (i + 1) f k h := by
  obtain ⟨hk, s0, h0, e1, e2, h1, h2⟩ := z
  refine ⟨by omega, s0, h0, e1, e2, fun j t hj ht => ?_, h2⟩
  by_cases e : j = i
  · subst e
    rw [hs] at ht
    cases ht
    exact Rat.not_lt.mp lt
  · exact h1 j t (by omega) ht
theorem ok_ne {ps : List Pq} (ok : TrackOk ps) {i : Nat} {s : Pq × Pq} (h : (prs ps)[i]? = some s) : s.1 ≠ s.2 := ok.2 s (List.mem_of_getElem? h)
section
variable {T : Tb} {k : Nat} {ea : Str → Addr}
abbrev SN : Sc := SS ["row", "spot", "found", "best", "place", "start", "end", "here", "far"] s_nearest_on
set_option smartUnfolding false in
theorem do_nearest_on : Does (gT2 T k ea) SN (defBody s_nearest_on) sNearest := by
  rintro rs M Q E _ ⟨ps, p, e, hl, hb, hp, ok, q⟩
  have hn := enu_zps_len ps
  have h2 := ok.1
  rcases e with rfl | rfl
  all_goals
    refine ⟨rfl, ps, by first | exact .inl rfl | exact .inr rfl, hl, fun _ => ?_, fun z => absurd ok z⟩
    refine ⟨fun i ds M' => M' = M ∧ ∃ r0 best a b c d e, ds = [r0, dp p, rT ps, best, a, b, c, d, e] ∧ ((i = 0 ∧ best = .dat .none) ∨ ∃ f k h, best = .dat (.tuple [pq f, .int (k : Nat), po h]) ∧ Fit f ∧ NearTo ps p i f k h), ⟨rfl, _, _, _, _, _, _, _, rfl, .inl ⟨rfl, rfl⟩⟩, fun _ _ _ _ _ => trivial, ?_, ?_⟩
    · rintro i r ds M' hr ⟨rfl, r0, best, a, b, c, d, e, rfl, hbest⟩
      obtain ⟨s, hs, rfl⟩ := enu_zps_at hr
      have hm := prs_mem (List.mem_of_getElem? hs)
      have b1 := hb _ hm.1
      have b2 := hb _ hm.2
      have fd := dist_fit b1 b2 hp
      refine ⟨rfl, _, _, _, rfl, b1, b2, hp, ok_ne ok hs, rfl, _, _, rfl, (step_bt b1 b2 hp).mono (by decide), hp.mono (by decide), ?_⟩
      rcases hbest with ⟨rfl, rfl⟩ | ⟨f, k, h, rfl, hf, hz⟩
      · exact ⟨rfl, _, _, _, _, _, _, _, rfl, .inr ⟨_, _, _, rfl, fd, near_first hs⟩⟩
      · refine ⟨_, rfl, rfl, _, _, rfl, fd, hf, brS (fun z => ?_) fun z => ?_⟩
        · exact ⟨rfl, _, _, _, _, _, _, _, rfl, .inr ⟨_, _, _, rfl, fd, near_more hs hz (of_decide_eq_true z)⟩⟩
        · exact ⟨rfl, _, _, _, _, _, _, _, rfl, .inr ⟨_, _, _, rfl, hf, near_same hs hz (of_decide_eq_false z)⟩⟩
    · rintro ds M' ⟨rfl, r0, best, a, b, c, d, e, rfl, hbest⟩
      rw [hn] at hbest
      rcases hbest with ⟨z, _⟩ | ⟨f, k, h, rfl, hf, hz⟩
      · omega
      · exact q f k h hz
/-! at_length -/
def atQ : List Pq → Rat → Pq
  | a :: b :: r, left => if strideQ a b < left then atQ (b :: r) (left - strideQ a b) else wayQ a b (left / strideQ a b)
  | [a], _ => a
  | [], _ => (0, 0)
theorem atQ2 (a b : Pq) (r : List Pq) (left : Rat) : atQ (a :: b :: r) left = if strideQ a b < left then atQ (b :: r) (left - strideQ a b) else wayQ a b (left / strideQ a b) := by rw [atQ]
theorem atQ1 (a : Pq) (left : Rat) : atQ [a] left = a := by rw [atQ]
theorem at_neg {xs : List D} {k : Nat} {d : D} (h0 : 0 < k) (h : k ≤ xs.length) (hd : xs[xs.length - k]? = some d) : atI xs (-(k : Int)) = some d := by
  unfold atI ixN
  rw [if_neg (by omega), if_pos (by omega)]
  have : (-(k : Int) + (xs.length : Int)).toNat = xs.length - k := by omega
  show xs[(-(k : Int) + (xs.length : Int)).toNat]? = some d
  rw [this]
  exact hd
theorem at_nat {xs : List D} {k : Nat} {d : D} (hd : xs[k]? = some d) : atI xs (k : Int) = some d := by
  have hk := (List.getElem?_eq_some_iff.mp hd).1
  unfold atI ixN
  rw [if_pos (by omega), if_pos (by omega)]
  show xs[((k : Int)).toNat]? = some d
  rw [Int.toNat_natCast]
  exact hd
def sAt (bs : Addr) : Sig := ⟨2, [], fun rs M Q E => ∃ (ps : List Pq) (far : Rat), (rs = [rL ps, dq far] ∨ rs = [rT ps, dq far]) ∧ ps.length ≤ 20 ∧ (∀ p ∈ ps, BtP 3 p) ∧ Bt 100 far ∧ TrackOk ps ∧ (far < 0 → E bs M) ∧ (0 ≤ far → Q (dp (atQ ps far)) M),
  fun hQ hE ⟨ps, far, e, h1, h2, h3, h4, h5, h6⟩ => ⟨ps, far, e, h1, h2, h3, h4, fun z => hE _ _ (h5 z), fun z => hQ _ _ (h6 z)⟩⟩
theorem drop_prs {ps : List Pq} {i : Nat} {s : Pq × Pq} (h : (prs ps)[i]? = some s) : ∃ r, ps.drop i = s.1 :: s.2 :: r ∧ ps.drop (i + 1) = s.2 :: r := by
  obtain ⟨h1, h2⟩ := prs_at h
  have l1 := (List.getElem?_eq_some_iff.mp h1).1
  have l2 := (List.getElem?_eq_some_iff.mp h2).1
  have e1 : ps.drop i = ps[i] :: ps.drop (i + 1) := List.drop_eq_getElem_cons l1
  have e2 : ps.drop (i + 1) = ps[i + 1] :: ps.drop (i + 1 + 1) := List.drop_eq_getElem_cons l2
  have v1 : ps[i] = s.1 := by rw [List.getElem?_eq_getElem l1] at h1; exact Option.some.inj h1
  have v2 : ps[i + 1] = s.2 := by rw [List.getElem?_eq_getElem l2] at h2; exact Option.some.inj h2
  exact ⟨_, by rw [e1, v1, e2, v2], by rw [e2, v2]⟩
theorem absQ_nonneg (x : Rat) : 0 ≤ absQ x := by
  unfold absQ
  split <;> grind
theorem absQ_zero {x : Rat} (h : absQ x = 0) : x = 0 := by
  unfold absQ at h
  split at h <;> grind
theorem stride_pos {a b : Pq} (h : a ≠ b) : 0 < strideQ a b := by
  unfold strideQ
  have h1 := absQ_nonneg (b.1 - a.1)
  have h2 := absQ_nonneg (b.2 - a.2)
  rcases (Rat.le_iff_lt_or_eq.mp h1) with z | z
  · grind
  · rcases (Rat.le_iff_lt_or_eq.mp h2) with y | y
    · grind
    · exact absurd (Prod.ext (by have := absQ_zero z.symm; grind) (by have := absQ_zero y.symm; grind)) h
theorem num_nonneg {a : Rat} : ¬ a.num < 0 ↔ ¬ a < 0 := not_congr num_lt0
def tNear : List ((Str × Nat) × Sig) := [(("nearest_on", 2), sNearest)]
set_option smartUnfolding false in
theorem do_at_length : Does (gT2 T k ea) (SS ["row", "far", "found", "left", "start", "end", "long"] s_at_length) (defBody s_at_length) (sAt (ea "BadSize")) := by
  rintro rs M Q E _ ⟨ps, far, e, hl, hb, hf, ok, hE, hQ⟩
  have hn := zps_len ps
  have h2 := ok.1
  rcases e with rfl | rfl
  all_goals
    refine ⟨_, rfl, brS (fun z => hE (num_lt0.mp (of_decide_eq_true z))) fun z => ?_⟩
    have f0 : 0 ≤ far := Rat.not_lt.mp fun y => of_decide_eq_false z (num_lt0.mpr y)
    replace hQ := hQ f0
    refine ⟨rfl, ps, by first | exact .inl rfl | exact .inr rfl, by omega, fun _ => ?_, fun z => absurd ok z⟩
    refine ⟨fun i ds M' => M' = M ∧ i ≤ ps.length - 1 ∧ ∃ r0 r1 left a b c, ds = [r0, r1, rT ps, dq left, a, b, c] ∧ Bt (100 + i * 16) left ∧ 0 ≤ left ∧ atQ ps far = atQ (ps.drop i) left, ⟨rfl, Nat.zero_le _, _, _, _, _, _, _, rfl, hf.mono (by omega), f0, by rw [List.drop_zero]⟩, fun _ _ _ _ _ => trivial, ?_, ?_⟩
    · rintro i r ds M' hr ⟨rfl, hi, r0, r1, left, a, b, c, rfl, hbl, hl0, hat⟩
      obtain ⟨s, hs, rfl⟩ := zps_at hr
      have hm := prs_mem (List.mem_of_getElem? hs)
      have b1 := hb _ hm.1
      have b2 := hb _ hm.2
      have ne := ok_ne ok hs
      have hsp := stride_pos ne
      have sb : Bt 15 (strideQ s.1 s.2) := (stride_bt b1 b2).mono (by decide)
      have lb : Bt 420 left := hbl.mono (by omega)
      have hi2 : i < ps.length - 1 := by have := (List.getElem?_eq_some_iff.mp hs).1; rw [prs_len] at this; exact this
      obtain ⟨rr, d1, d2⟩ := drop_prs hs
      rw [d1, atQ2] at hat
      refine ⟨rfl, _, _, rfl, b1.mono (by decide), b2.mono (by decide), rfl, _, _, rfl, sb.mono (by decide), lb.mono (by decide), brS (fun z => ?_) fun z => ?_⟩
      · have z2 : ¬ strideQ s.1 s.2 < left := by simpa using z
        rw [if_neg z2] at hat
        rw [hat] at hQ
        exact ⟨rfl, _, _, rfl, lb.mono (by decide), sb.mono (by decide), .inr ⟨fun w => (by rw [w] at hsp; exact absurd hsp (by decide)), rfl, _, _, _, _, rfl, b1.mono (by decide), b2.mono (by decide), raw_pq ((lb.div sb).mono (by decide)), hQ⟩⟩
      · have z2 : strideQ s.1 s.2 < left := by simpa using z
        rw [if_pos z2, ← d2] at hat
        exact ⟨rfl, _, _, rfl, lb.mono (by decide), sb.mono (by decide), rfl, by omega, _, _, _, _, _, _, rfl, (hbl.sub sb).mono (by omega), by grind, hat⟩
    · rintro ds M' ⟨rfl, hi, r0, r1, left, a, b, c, rfl, hbl, hl0, hat⟩
      rw [hn] at hat
      have hlast : ps[ps.length - 1]? = some ps[ps.length - 1] := List.getElem?_eq_getElem (by omega)
      have hd : ps.drop (ps.length - 1) = [ps[ps.length - 1]] := by
        rw [List.drop_eq_getElem_cons (by omega), List.drop_eq_nil_of_le (by omega)]
      rw [hd, atQ1] at hat
      rw [hat] at hQ
      exact ⟨_, at_neg (k := 1) (by decide) (by rw [List.length_map]; omega) (by rw [List.length_map, List.getElem?_map, hlast]; rfl), hQ⟩
end
end BW
/-! T16G -/
/-! lengths of places; fewer points -/
namespace BW
open PySem PySem.Spec PyProof.Rows L2 Cal
def sLenAt : Sig := ⟨2, [], fun rs M Q E => ∃ (ps : List Pq) (p : Pq), (rs = [rL ps, dp p] ∨ rs = [rT ps, dp p]) ∧ ps.length ≤ 20 ∧ (∀ p ∈ ps, BtP 3 p) ∧ BtP 160 p ∧ TrackOk ps ∧ ∀ f k h s, NearTo ps p (ps.length - 1) f k h → (prs ps)[k]? = some s → Q (dq (lenQ (ps.take (k + 1)) + strideQ s.1 h)) M,
  fun hQ hE ⟨ps, p, e, h1, h2, h3, h4, q⟩ => ⟨ps, p, e, h1, h2, h3, h4, fun f k h s z y => hQ _ _ (q f k h s z y)⟩⟩
theorem len_bt {ps : List Pq} (h : ∀ p ∈ ps, BtP 3 p) : Bt (1 + (ps.length - 1) * 16) (lenQ ps) := by
  have := sum_bt (strides_bt h)
  rw [strides_len] at this
  exact this
section
variable {T : Tb} {k : Nat} {ea : Str → Addr}
abbrev gT3 (T : Tb) (k : Nat) (ea : Str → Addr) : Gi := gi T k ea (tNear ++ (tLen (ea "BadPoint") ++ (tStep ++ (tPoints2 ++ (tPoints ++ tParts (ea "BadPart"))))))
set_option smartUnfolding false in
theorem do_length_at : Does (gT3 T k ea) (SS ["row", "spot", "found", "_", "place", "here"] s_length_at) (defBody s_length_at) sLenAt := by
  rintro rs M Q E _ ⟨ps, p, e, hl, hb, hp, ok, q⟩
  have h2 := ok.1
  have key : ∀ f k h, NearTo ps p (ps.length - 1) f k h → ∃ s, (prs ps)[k]? = some s ∧ atI (ps.map po) (k : Int) = some (po s.1) ∧ BtP 3 s.1 ∧ BtP 383 h ∧ Cal.cutD (ps.map po) none (some ((k : Int) + 1)) = (ps.take (k + 1)).map po ∧ (∀ p ∈ ps.take (k + 1), BtP 3 p) ∧ Bt 400 (lenQ (ps.take (k + 1))) := fun f k h z => by
    obtain ⟨hk, s, hs, rfl, _⟩ := z
    have h1 := (prs_at hs).1
    have hm := prs_mem (List.mem_of_getElem? hs)
    have tb : ∀ p ∈ ps.take (k + 1), BtP 3 p := fun p hp => hb p (List.mem_of_mem_take hp)
    refine ⟨s, hs, at_nat (by rw [List.getElem?_map, h1]; rfl), hb _ hm.1, (step_bt (hb _ hm.1) (hb _ hm.2) hp).mono (by decide), ?_, tb, (len_bt tb).mono ?_⟩
    · rw [List.map_take]
      exact cut_lo _ (c := k + 1) (by rw [List.length_map]; omega)
    · rw [List.length_take]
      have : min (k + 1) ps.length ≤ 20 := by omega
      omega
  rcases e with rfl | rfl
  all_goals
    refine ⟨rfl, ps, by first | exact .inl rfl | exact .inr rfl, by omega, fun _ => ?_, fun z => absurd ok z⟩
    refine ⟨rfl, ps, p, .inr rfl, by omega, hb, hp, ok, fun f k h z => ?_⟩
    obtain ⟨s, hs, ha, b1, b2, ec, tb, lb⟩ := key f k h z
    refine ⟨rfl, ps.take (k + 1), congrArg (fun z => [Sv.dat (.tuple z)]) ec, by rw [List.length_take]; omega, tb, _, ha, rfl, _, _, rfl, b1.mono (by decide), b2.mono (by decide), rfl, _, _, rfl, lb.mono (by decide), (stride_bt b1 b2).mono (by decide), q f k h s z hs⟩
/-! furthest_off -/
def atP (ps : List Pq) (i : Nat) : Pq := ps.getD i (0, 0)
def offQ (ps : List Pq) (l h p : Nat) : Rat := farQ (atP ps l) (atP ps h) (atP ps p)
def optD : Option Nat → D
  | none => .none
  | some i => .int (i : Nat)
def OffOk (ps : List Pq) (l h n : Nat) (m : Rat) : Option Nat → Prop
  | none => ∀ p, l < p → p < n → offQ ps l h p ≤ m
  | some p => l < p ∧ p < n ∧ m < offQ ps l h p
def sOff : Sig := ⟨4, [], fun rs M Q E => ∃ (ps : List Pq) (l h : Nat) (m : Rat), rs = [rT ps, I l, I h, dq m] ∧ ps.length ≤ 100 ∧ (∀ p ∈ ps, BtP 3 p) ∧ l < h ∧ h < ps.length ∧ Fit m ∧ ∀ o, OffOk ps l h h m o → Q (.dat (optD o)) M,
  fun hQ hE ⟨ps, l, h, m, e, h1, h2, h3, h4, h5, q⟩ => ⟨ps, l, h, m, e, h1, h2, h3, h4, h5, fun o z => hQ _ _ (q o z)⟩⟩
theorem at_atP {ps : List Pq} {i : Nat} (h : i < ps.length) : atI (ps.map po) (i : Int) = some (po (atP ps i)) := at_nat (by
  unfold atP
  rw [List.getElem?_map, List.getD_eq_getElem?_getD, List.getElem?_eq_getElem h]
  rfl)
theorem atP_bt {ps : List Pq} {i : Nat} (hb : ∀ p ∈ ps, BtP 3 p) (h : i < ps.length) : BtP 3 (atP ps i) := by
  unfold atP
  rw [List.getD_eq_getElem?_getD, List.getElem?_eq_getElem h]
  exact hb _ (List.getElem_mem h)
theorem rng_at {i : Int} {n j : Nat} {r : Sv} (h : (rngS i n)[j]? = some r) : j < n ∧ r = I (i + (j : Nat)) := by
  unfold rngS at h
  rw [List.getElem?_map] at h
  obtain ⟨a, h1, h2⟩ := Option.map_eq_some_iff.mp h
  have hj := (List.getElem?_eq_some_iff.mp h1).1
  rw [List.length_range] at hj
  rw [List.getElem?_range hj] at h1
  cases h1
  exact ⟨hj, h2.symm⟩
theorem rng_len {i : Int} {n : Nat} : (rngS i n).length = n := by unfold rngS; rw [List.length_map, List.length_range]
theorem far_bt {n m : Nat} {a b p : Pq} (ha : BtP 3 a) (hb : BtP 3 b) (hp : BtP 3 p) : Bt 1000 (farQ a b p) := by
  unfold farQ
  split
  · exact (square_bt ha hp).mono (by decide)
  · exact (square_bt (step_bt ha hb hp) hp).mono (by decide)
def tFar : List ((Str × Nat) × Sig) := [(("far_from", 3), sFar)]
abbrev gT4 (T : Tb) (k : Nat) (ea : Str → Addr) : Gi := gi T k ea (tFar ++ (tNear ++ (tLen (ea "BadPoint") ++ (tStep ++ (tPoints2 ++ (tPoints ++ tParts (ea "BadPart")))))))
set_option smartUnfolding false in
theorem do_furthest_off : Does (gT4 T k ea) (SS ["row", "low", "high", "most", "best", "limit", "place", "far"] s_furthest_off) (defBody s_furthest_off) sOff := by
  rintro rs M Q E _ ⟨ps, l, h, m, rfl, hl, hb, hlh, hh, hm, q⟩
  have en : ((h : Int) - ((l : Int) + 1)).toNat = h - (l + 1) := by omega
  refine ⟨⟨by omega, by omega⟩, ⟨by omega, by omega⟩, fun i ds M' => M' = M ∧ ∃ (o : Option Nat) (lim : Rat) (a b : Sv), ds = [rT ps, I l, I h, dq m, .dat (optD o), dq lim, a, b] ∧ Fit lim ∧ OffOk ps l h (l + 1 + i) m o ∧ (match o with | none => lim = m | some p => m < lim ∧ p < l + 1 + i), ⟨rfl, none, m, _, _, rfl, hm, fun p h1 h2 => by omega, rfl⟩, fun _ _ _ _ _ => trivial, ?_, ?_⟩
  · rintro i r ds M' hr ⟨rfl, o, lim, a, b, rfl, hlim, ho, hx⟩
    obtain ⟨hi, rfl⟩ := rng_at hr
    rw [en] at hi
    have hp : l + 1 + i < ps.length := by omega
    have ei : ((l : Int) + 1 + ((i : Nat) : Int)) = ((l + 1 + i : Nat) : Int) := by omega
    have b1 := atP_bt hb (show l < ps.length by omega)
    have b2 := atP_bt hb hh
    have b3 := atP_bt hb hp
    have fb : Fit (offQ ps l h (l + 1 + i)) := (far_bt (n := 0) (m := 0) b1 b2 b3).mono (by decide)
    refine ⟨_, at_atP (by omega), _, at_atP hh, _, by rw [ei]; exact at_atP hp, rfl, _, _, _, rfl, b1, b2, b3.mono (by decide), rfl, _, _, rfl, hlim, fb, brS (fun z => ?_) fun z => ?_⟩
    · have z2 : lim < offQ ps l h (l + 1 + i) := of_decide_eq_true z
      have hm2 : m < offQ ps l h (l + 1 + i) := by
        cases o with
        | none => rw [← show lim = m from hx]; exact z2
        | some p => have := hx.1; grind
      refine ⟨fun _ => rfl, rfl, some (l + 1 + i), _, _, _, by rw [ei]; rfl, fb, ⟨by omega, by omega, hm2⟩, hm2, by omega⟩
    · have z2 : ¬ lim < offQ ps l h (l + 1 + i) := of_decide_eq_false z
      refine ⟨rfl, o, lim, _, _, rfl, hlim, ?_, ?_⟩
      · cases o with
        | none =>
          intro p h1 h2
          by_cases e : p = l + 1 + i
          · rw [e, ← show lim = m from hx]
            exact Rat.not_lt.mp z2
          · exact ho p h1 (by omega)
        | some p => exact ⟨ho.1, by have := ho.2.1; omega, ho.2.2⟩
      · cases o with
        | none => exact hx
        | some p => exact ⟨hx.1, by have := hx.2; omega⟩
  · rintro ds M' ⟨rfl, o, lim, a, b, rfl, hlim, ho, hx⟩
    refine q o ?_
    rw [rng_len, en] at ho
    have : l + 1 + (h - (l + 1)) = h := by omega
    rw [this] at ho
    exact ho
end
end BW
/-! T16H -/
/-! fewer points: which places stay -/
namespace BW
open PySem PySem.Spec PyProof.Rows L2 Cal
def Adj (ks : List Nat) (a b : Nat) : Prop := a ∈ ks ∧ b ∈ ks ∧ a < b ∧ ∀ c ∈ ks, ¬ (a < c ∧ c < b)
def AllFar (ps : List Pq) (m : Rat) : Prop := ∀ a b p, a < ps.length → b < ps.length → p < ps.length → offQ ps a b p ≤ m
structure FewInv (ps : List Pq) (m : Rat) (ks : List Nat) (ws : List (Nat × Nat)) : Prop where
  nd : ks.Nodup
  lt : ∀ k ∈ ks, k < ps.length
  z : 0 ∈ ks
  e : ps.length - 1 ∈ ks
  wn : ws.Nodup
  wa : ∀ w ∈ ws, Adj ks w.1 w.2
  all : ∀ a b, Adj ks a b → (a, b) ∈ ws ∨ ∀ p, a < p → p < b → offQ ps a b p ≤ m
  far : AllFar ps m → ks = [0, ps.length - 1]
theorem few_start {ps : List Pq} {m : Rat} (h : 2 ≤ ps.length) : FewInv ps m [0, ps.length - 1] [(0, ps.length - 1)] where
  nd := by simp; omega
  lt := fun k hk => by
    rcases (show k = 0 ∨ k = ps.length - 1 by simpa using hk) with e | e <;> omega
  z := by simp
  e := by simp
  wn := by simp
  wa := fun w hw => by
    obtain rfl : w = (0, ps.length - 1) := by simpa using hw
    refine ⟨by simp, by simp, by omega, fun c hc => ?_⟩
    rcases (show c = 0 ∨ c = ps.length - 1 by simpa using hc) with e | e <;> subst e <;> omega
  all := fun a b hab => by
    obtain ⟨ha, hb, lt, _⟩ := hab
    rcases (show a = 0 ∨ a = ps.length - 1 by simpa using ha) with e | e <;> rcases (show b = 0 ∨ b = ps.length - 1 by simpa using hb) with e2 | e2 <;> subst e e2
    · omega
    · exact .inl (by simp)
    · omega
    · omega
  far := fun _ => rfl
theorem few_none {ps : List Pq} {m : Rat} {ks : List Nat} {ws : List (Nat × Nat)} {l h : Nat} (z : FewInv ps m ks (ws ++ [(l, h)])) (o : ∀ p, l < p → p < h → offQ ps l h p ≤ m) : FewInv ps m ks ws where
  nd := z.nd
  lt := z.lt
  z := z.z
  e := z.e
  wn := (List.nodup_append.mp z.wn).1
  wa := fun w hw => z.wa w (List.mem_append_left _ hw)
  all := fun a b hab => by
    rcases z.all a b hab with q | q
    · rcases List.mem_append.mp q with q | q
      · exact .inl q
      · obtain ⟨rfl, rfl⟩ : a = l ∧ b = h := by simpa using q
        exact .inr o
    · exact .inr q
  far := z.far
theorem few_some {ps : List Pq} {m : Rat} {ks : List Nat} {ws : List (Nat × Nat)} {l h q : Nat} (z : FewInv ps m ks (ws ++ [(l, h)])) (h1 : l < q) (h2 : q < h) (h3 : m < offQ ps l h q) : FewInv ps m (ks ++ [q]) (ws ++ [(l, q), (q, h)]) := by
  obtain ⟨al, ah, lh, ab⟩ := z.wa (l, h) (by simp)
  have al : l ∈ ks := al
  have ah : h ∈ ks := ah
  have ab : ∀ c ∈ ks, ¬ (l < c ∧ c < h) := ab
  have hq : q ∉ ks := fun hq => ab q hq ⟨h1, h2⟩
  have hn : h < ps.length := z.lt h ah
  obtain ⟨wn1, wn2, wn3⟩ := List.nodup_append.mp z.wn
  have wlh : ∀ w ∈ ws, w ≠ (l, h) := fun w hw e => wn3 w hw (l, h) (by simp) e
  have wk : ∀ w ∈ ws, Adj ks w.1 w.2 := fun w hw => z.wa w (List.mem_append_left _ hw)
  have old : ∀ a b, Adj (ks ++ [q]) a b → a ∈ ks → b ∈ ks → Adj ks a b := fun a b hab h4 h5 => ⟨h4, h5, hab.2.2.1, fun c hc => hab.2.2.2 c (List.mem_append_left _ hc)⟩
  refine ⟨?_, ?_, List.mem_append_left _ z.z, List.mem_append_left _ z.e, ?_, ?_, ?_, ?_⟩
  · rw [List.nodup_append]
    exact ⟨z.nd, by simp, fun a ha b hb e => hq (by
      obtain rfl : b = q := by simpa using hb
      exact e ▸ ha)⟩
  · intro c hc
    rcases List.mem_append.mp hc with hc | hc
    · exact z.lt c hc
    · obtain rfl : c = q := by simpa using hc
      omega
  · rw [List.nodup_append]
    refine ⟨wn1, by simp; omega, fun w hw u hu e => ?_⟩
    have := wk w hw
    subst e
    rcases (show w = (l, q) ∨ w = (q, h) by simpa using hu) with e | e <;> subst e
    · exact hq this.2.1
    · exact hq this.1
  · intro w hw
    rcases List.mem_append.mp hw with hw2 | hw2
    · have k1 := wk w hw2
      have k5 := wlh w hw2
      refine ⟨List.mem_append_left _ k1.1, List.mem_append_left _ k1.2.1, k1.2.2.1, fun c hc => ?_⟩
      rcases List.mem_append.mp hc with hc | hc
      · exact k1.2.2.2 c hc
      · obtain rfl : c = q := by simpa using hc
        intro hb
        apply k5
        have e1 := k1.2.2.2 l al
        have e2 := k1.2.2.2 h ah
        have e3 := ab w.1 k1.1
        have e4 := ab w.2 k1.2.1
        exact Prod.ext (by show w.1 = l; omega) (by show w.2 = h; omega)
    · rcases (show w = (l, q) ∨ w = (q, h) by simpa using hw2) with e | e <;> subst e
      · refine ⟨List.mem_append_left _ al, by simp, h1, fun c hc => ?_⟩
        rcases List.mem_append.mp hc with hc | hc
        · have := ab c hc
          show ¬ (l < c ∧ c < q)
          omega
        · obtain rfl : c = q := by simpa using hc
          show ¬ (l < c ∧ c < c)
          omega
      · refine ⟨by simp, List.mem_append_left _ ah, h2, fun c hc => ?_⟩
        rcases List.mem_append.mp hc with hc | hc
        · have := ab c hc
          show ¬ (q < c ∧ c < h)
          omega
        · obtain rfl : c = q := by simpa using hc
          show ¬ (c < c ∧ c < h)
          omega
  · intro a b hab
    have k4 := hab.2.2.1
    have eq1 := hab.2.2.2 q (by simp)
    have el := hab.2.2.2 l (List.mem_append_left _ al)
    have eh := hab.2.2.2 h (List.mem_append_left _ ah)
    rcases List.mem_append.mp hab.1 with ha | ha
    · rcases List.mem_append.mp hab.2.1 with hb | hb
      · rcases z.all a b (old a b hab ha hb) with y | y
        · rcases List.mem_append.mp y with y | y
          · exact .inl (List.mem_append_left _ y)
          · obtain ⟨rfl, rfl⟩ : a = l ∧ b = h := by simpa using y
            exact absurd ⟨h1, h2⟩ eq1
        · exact .inr y
      · obtain rfl : b = q := by simpa using hb
        have := ab a ha
        obtain rfl : a = l := by omega
        exact .inl (by simp)
    · obtain rfl : a = q := by simpa using ha
      rcases List.mem_append.mp hab.2.1 with hb | hb
      · have := ab b hb
        obtain rfl : b = h := by omega
        exact .inl (by simp)
      · obtain rfl : b = a := by simpa using hb
        omega
  · intro hf
    have := hf l h q (z.lt l al) hn (by omega)
    exact absurd h3 (by grind)
theorem nodup_lt : ∀ (n : Nat) (ks : List Nat), ks.Nodup → (∀ k ∈ ks, k < n) → ks.length ≤ n
  | 0, [], _, _ => Nat.le_refl _
  | 0, k :: ks, _, h => absurd (h k List.mem_cons_self) (Nat.not_lt_zero k)
  | n + 1, ks, hn, h => by
    have h1 := nodup_lt n (ks.erase n) (hn.erase n) fun k hk => by
      have := (hn.mem_erase_iff (a := k) (b := n)).mp hk
      have := h k this.2
      omega
    rw [List.length_erase] at h1
    split at h1 <;> omega
theorem few_le {ps : List Pq} {m : Rat} {ks : List Nat} {ws : List (Nat × Nat)} (z : FewInv ps m ks ws) : ks.length ≤ ps.length := nodup_lt _ _ z.nd z.lt
/-- a place between two on end -/
theorem gap_of : ∀ {xs : List Nat} {p : Nat}, xs.Pairwise (· < ·) → (∃ a ∈ xs, a < p) → (∃ b ∈ xs, p < b) → p ∉ xs → ∃ j a b, xs[j]? = some a ∧ xs[j + 1]? = some b ∧ a < p ∧ p < b
  | [], p, _, ⟨a, ha, _⟩, _, _ => absurd ha (by simp)
  | [x], p, _, ⟨a, ha, h1⟩, ⟨b, hb, h2⟩, _ => by
    rw [List.mem_singleton] at ha hb
    omega
  | x :: y :: r, p, hs, ha, hb, hp => by
    have hx := (List.pairwise_cons.mp hs).1
    have hs2 := (List.pairwise_cons.mp hs).2
    by_cases hxp : x < p
    · by_cases hyp : p < y
      · exact ⟨0, x, y, rfl, rfl, hxp, hyp⟩
      · have hy : y < p := by
          have : p ≠ y := fun e => hp (by simp [e])
          omega
        obtain ⟨j, a, b, e1, e2, h1, h2⟩ := gap_of hs2 ⟨y, by simp, hy⟩ (by
          obtain ⟨b, hb, h2⟩ := hb
          rcases List.mem_cons.mp hb with e | hb
          · omega
          · exact ⟨b, hb, h2⟩) (fun h => hp (List.mem_cons_of_mem _ h))
        exact ⟨j + 1, a, b, e1, e2, h1, h2⟩
    · obtain ⟨a, ha, h1⟩ := ha
      rcases List.mem_cons.mp ha with e | ha
      · omega
      · have := hx a ha
        omega
structure FewOk (ps : List Pq) (m : Rat) (ms : List Nat) : Prop where
  up : ms.Pairwise (· < ·)
  lt : ∀ k ∈ ms, k < ps.length
  z : 0 ∈ ms
  e : ps.length - 1 ∈ ms
  cov : ∀ p, p < ps.length → p ∈ ms ∨ ∃ j a b, ms[j]? = some a ∧ ms[j + 1]? = some b ∧ offQ ps a b p ≤ m
  far : AllFar ps m → ms = [0, ps.length - 1]
theorem few_end {ps : List Pq} {m : Rat} {ks ms : List Nat} (z : FewInv ps m ks []) (hp : ms.Perm ks) (hs : ms.Pairwise (· ≤ ·)) (h2 : 2 ≤ ps.length) : FewOk ps m ms := by
  have nd : ms.Nodup := hp.nodup_iff.mpr z.nd
  have up : ms.Pairwise (· < ·) := by
    have := hs.and (List.nodup_iff_pairwise_ne.mp nd)
    exact this.imp fun {a b} h => by have h1 := h.1; have h2 := h.2; omega
  refine ⟨up, fun k hk => z.lt k (hp.mem_iff.mp hk), hp.mem_iff.mpr z.z, hp.mem_iff.mpr z.e, fun p hpn => ?_, fun hf => ?_⟩
  · by_cases hm : p ∈ ms
    · exact .inl hm
    · have p0 : 0 < p := by
        have : p ≠ 0 := fun e => hm (e ▸ hp.mem_iff.mpr z.z)
        omega
      have p1 : p < ps.length - 1 := by
        have : p ≠ ps.length - 1 := fun e => hm (e ▸ hp.mem_iff.mpr z.e)
        omega
      obtain ⟨j, a, b, e1, e2, k1, k2⟩ := gap_of up ⟨0, hp.mem_iff.mpr z.z, p0⟩ ⟨_, hp.mem_iff.mpr z.e, p1⟩ hm
      have hj := (List.getElem?_eq_some_iff.mp e1)
      have hj1 := (List.getElem?_eq_some_iff.mp e2)
      obtain ⟨l1, v1⟩ := hj
      obtain ⟨l2, v2⟩ := hj1
      have mono := List.pairwise_iff_getElem.mp up
      have ad : Adj ks a b := by
        refine ⟨hp.mem_iff.mp (v1 ▸ List.getElem_mem l1), hp.mem_iff.mp (v2 ▸ List.getElem_mem l2), by omega, fun c hc hb => ?_⟩
        obtain ⟨i, li, vi⟩ := List.getElem_of_mem (hp.mem_iff.mpr hc)
        rcases Nat.lt_trichotomy i j with q | q | q
        · have := mono i j li l1 q
          omega
        · subst q
          omega
        · by_cases q2 : i = j + 1
          · subst q2
            omega
          · have := mono (j + 1) i l2 li (by omega)
            omega
      rcases z.all a b ad with q | q
      · cases q
      · exact .inr ⟨j, a, b, e1, e2, q p k1 k2⟩
  · have e := z.far hf
    subst e
    match ms, hp, up with
    | [a, b], hp, up =>
      have h3 := hp.mem_iff (a := a)
      have h4 := hp.mem_iff (a := b)
      simp at h3 h4
      have h5 : a < b := by simpa using up
      have : a = 0 := by omega
      have : b = ps.length - 1 := by omega
      subst_vars
      rfl
    | [], hp, _ => have := hp.length_eq; simp at this
    | [_], hp, _ => have := hp.length_eq; simp at this
    | _ :: _ :: _ :: _, hp, _ => have := hp.length_eq; simp at this
end BW
/-! WpR -/
namespace Cal
open PySem PySem.Spec PyProof.Rows L2 LamX
/-- at a def's end: what changed is forgotten, or handed back as known from now on -/
theorem Wt.perm {K : PySem.W.Frag} {T : Tb} {M M' : Ms} {G H : Hp} (w : Wt K T M G H) (p : M.Perm M') : Wt K T M' G H :=
  ⟨⟨w.w.ex, fun q hq => w.w.mu q (p.mem_iff.mpr hq), (p.map _).nodup_iff.mp w.w.nd, w.w.nt⟩, w.t⟩
inductive Shr (Q : PoE) : Sv → Ms → Prop
  | ok {r : Sv} {M : Ms} : Q r M → Shr Q r M
  | perm {r : Sv} {M M' : Ms} : M.Perm M' → Shr Q r M' → Shr Q r M
  | drop {r : Sv} {A C : Ms} {p : Addr × MO} : Shr Q r (A ++ C) → Shr Q r (A ++ p :: C)
  | frz {l : Addr} {A C : Ms} {xs : List D} : Shr Q (.dat (.list xs)) (A ++ C) → Shr Q (.raw (.ref l)) (A ++ (l, .lst (dats xs)) :: C)
theorem Shr.drop0 {Q : PoE} {r : Sv} {C : Ms} {p : Addr × MO} (h : Shr Q r C) : Shr Q r (p :: C) := Shr.drop (A := []) h
theorem Shr.frz0 {Q : PoE} {l : Addr} {C : Ms} {xs : List D} (h : Shr Q (.dat (.list xs)) C) : Shr Q (.raw (.ref l)) ((l, .lst (dats xs)) :: C) := Shr.frz (A := []) h
theorem shr_ok {K : PySem.W.Frag} {T : Tb} {G : Hp} {Q : PoE} {q : VK} (ok : okE K T G Q q) : okE K T G (Shr Q) q := by
  intro r M' v G' H' h
  induction h generalizing v G' H' with
  | ok h => exact fun sg w hv => ok _ _ v G' H' h sg w hv
  | perm p h ih => exact fun sg w hv => ih v G' H' sg (w.perm p) hv
  | drop h ih => exact fun sg w hv => ih v G' H' sg w.drop hv
  | frz h ih =>
    intro sg w hv
    have hv' : v = .ref _ := hv
    subst hv'
    obtain ⟨vs, h1, h2, h3⟩ := w.lst
    obtain ⟨g2, w2⟩ := w.freeze h1
    exact ih _ _ _ (sg.trans g2) w2 (Dp.lst (SqL.of upd_same) (dpsUp g2 _ (vks_dats h2)))
section
variable {P : Program} {w : World} {K : PySem.W.Frag} {mg : Str → Option Value} {base : Heap}
def DoesS (g : Gi) (S : Sc) (body : List Stmt) (s : Sig) : Prop := ∀ rs M Q E, rs.length = s.n → s.T rs M Q E → wpB g S body (startD S.N.length rs) M (Shr Q) E
theorem doesS_ok {g : Gi} {x : Str} {params : Arguments} {body : List Stmt} {scope : Scope} {dvs0 dvs : List V} {f : Addr} {fd : FuncData} {N ps : List Str} {us : List Value} {s : Sig} (ok : GiOk g P w K mg base) (FD : FunD K x x params body scope dvs0 [] f fd) (Sf : FnScope N ps scope)
    (hm : mg x = some (.ref f)) (hb : Binds K fd ps us) (hv : Vals dvs us) (hd : ∀ G, Vks K G dvs s.dr) (hn : ps.length = s.n) (hdo : DoesS g ⟨N, scope, fun _ => true, false, false⟩ body s) : FnP P w K mg base g.T (g.k + 1) x s := by
  refine ⟨f, fd, ps, us, dvs, ?_, hm, FD.kp, hb, hv, hd⟩
  refine FD.ok Sf (fun vs H Q E h => (spP_len vs H Q E h).trans hn.symm) fun cdv A outer s' H vs Q E hr h => ?_
  obtain ⟨G, rs, M, Qp, Ep, hl, w0, hvs, hT, hok, her⟩ := h
  have hl2 : rs.length = s.n := hvs.len.symm.trans hl
  have o : Xo g ⟨N, scope, fun _ => true, false, false⟩ (Bx P w K mg base N x scope f cdv A outer s' H E) (wE E) := ⟨ok, rfl, rfl, fun _ _ => rfl, Sf.nd, rfl, hr, takesB, fun z => (nomatch z), fun z => (nomatch z)⟩
  have hw := wpSs_ok (k := ⟨fun _ M1 => Shr Qp (.dat .none) M1, Shr Qp, fun _ _ => False, fun _ _ => False, Ep⟩) (wpS_ok ⟨o, passB⟩ 40) (hdo rs M Qp Ep hl2 hT)
  have hok2 := shr_ok hok
  exact ⟨_, hw, G, w0, Sl.start hvs, fun ds' M' σ' G' H' h sg w' s' => hok2 (.dat .none) M' .non G' H' h sg w' Dp.non, hok2, fun _ _ _ _ _ h => h.elim, fun _ _ _ _ _ h => h.elim, fun c M' G' H' σ' he sg w' => her c M' G' H' he sg w'⟩
/-- .. for a def that makes lambdas, or calls what a lambda got -/
theorem doesL_ok {g : Gi} {x : Str} {params : Arguments} {body : List Stmt} {scope : Scope} {f Pt : Addr} {fd : FuncData} {N ps : List Str} {s : Sig} (ok : GiOk g P w K mg base) (FD : FunD K x x params body scope [] [] f fd) (Sf : FnScope N ps scope)
    (hm : mg x = some (.ref f)) (hb : Binds K fd ps []) (hn : ps.length = s.n) (hdr : s.dr = []) (hf : He.fAd K (x, none) = f) (TB : TabB base mg (He.codeOf K (x, none)) Pt) (hmT : (Pt, g.lq) ∈ g.T) (hu : ∀ p ∈ g.T, p.1 = Pt → p.2 = g.lq)
    (hq : ∀ (n a : Addr) (v : Value), (envOfC x scope n a v).qual ++ "<lambda>" = g.lq) (tk : ToldK g K mg) (hdo : DoesS g ⟨N, scope, fun _ => true, true, true⟩ body s) : FnP P w K mg base g.T (g.k + 3) x s := by
  refine ⟨f, fd, ps, [], [], ?_, hm, FD.kp, hb, .nil, fun G => by rw [hdr]; exact .nil⟩
  obtain ⟨oc, od, dV, kV, doc, pm, an, cdv, ct, osl, rfl, lk, hcd, _, _⟩ := FD.ex
  obtain ⟨c, rfl⟩ := He.codeIn_ref hcd
  have ec : He.codeOf K (x, none) = c := He.codeOf_eq (by rw [hf]; exact lk) rfl
  rw [ec] at TB
  refine fn_of lk hcd Sf (fun vs H Q E h => (spP_len vs H Q E h).trans hn.symm) fun A outer s' H vs Q E hr h => ?_
  obtain ⟨G, rs, M, Qp, Ep, hl, w0, hvs, hT, hok, her⟩ := h
  have hl2 : rs.length = s.n := hvs.len.symm.trans hl
  have o : Xo g ⟨N, scope, fun _ => true, true, true⟩ (Bx P w K mg base N x scope f (.ref c) A outer s' H E) (wE E) := ⟨ok, rfl, rfl, fun _ _ => rfl, Sf.nd, rfl, hr.mono (by omega), takesB, fun _ => ⟨⟨c, Pt, TB, rfl, hmT, hu⟩, hq _ _ _⟩, fun _ => ⟨tk, hq _ _ _, hr⟩⟩
  have hw := wpSs_ok (k := ⟨fun _ M1 => Shr Qp (.dat .none) M1, Shr Qp, fun _ _ => False, fun _ _ => False, Ep⟩) (wpS_ok ⟨o, passB⟩ 40) (hdo rs M Qp Ep hl2 hT)
  have hok2 := shr_ok hok
  exact ⟨_, hw, G, w0, Sl.start hvs, fun ds' M' σ' G' H' h sg w' s' => hok2 (.dat .none) M' .non G' H' h sg w' Dp.non, hok2, fun _ _ _ _ _ h => h.elim, fun _ _ _ _ _ h => h.elim, fun c M' G' H' σ' he sg w' => her c M' G' H' he sg w'⟩
end
end Cal
/-! T16I -/
/-! fewer, evenly -/
namespace BW
open PySem PySem.Spec PyProof.Rows L2 Cal
theorem shape_all {xs : List D} {n : Nat} (h : ∀ x ∈ xs, x.canLay0 = true ∧ x.depth ≤ n) : PyData.canLayAll0 xs = true ∧ PyData.depthAll xs ≤ n := by
  induction xs with
  | nil => exact ⟨rfl, Nat.zero_le _⟩
  | cons x xs ih =>
    obtain ⟨h1, h2⟩ := ih fun y hy => h y (List.mem_cons_of_mem _ hy)
    obtain ⟨h3, h4⟩ := h x List.mem_cons_self
    refine ⟨?_, ?_⟩
    · show (PyData.canLay0 x && PyData.canLayAll0 xs) = true
      rw [h3, h1]
      rfl
    · show max (PyData.depth x) (PyData.depthAll xs) ≤ n
      exact Nat.max_le.mpr ⟨h4, h2⟩
theorem shaped_of {xs : List D} {n : Nat} (hn : n < 64) (h : ∀ x ∈ xs, x.canLay0 = true ∧ x.depth ≤ n) : SeqAt.shaped (.list xs) = true ∧ SeqAt.shaped (.tuple xs) = true := by
  obtain ⟨h1, h2⟩ := shape_all h
  have h3 : decide (PyData.depthAll xs + 1 ≤ 64) = true := decide_eq_true (by omega)
  refine ⟨?_, ?_⟩
  · show (PyData.canLayAll0 xs && decide (PyData.depthAll xs + 1 ≤ 64)) = true
    rw [h1, h3]
    rfl
  · show (PyData.canLayAll0 xs && decide (PyData.depthAll xs + 1 ≤ 64)) = true
    rw [h1, h3]
    rfl
theorem po_shape (p : Pq) : (po p).canLay0 = true ∧ (po p).depth ≤ 2 := ⟨rfl, by show max (max 0 (max 0 0) + 1) (max (max 0 (max 0 0) + 1) 0) + 1 ≤ 2; decide⟩
theorem shaped_ps (ps : List Pq) : SeqAt.shaped (.list (ps.map po)) = true ∧ SeqAt.shaped (.tuple (ps.map po)) = true := shaped_of (n := 2) (by decide) fun x hx => by
  obtain ⟨p, _, rfl⟩ := List.mem_map.mp hx
  exact po_shape p
abbrev pr2 (w : Nat × Nat) : D := .tuple [.int (w.1 : Nat), .int (w.2 : Nat)]
theorem shaped_ws (ws : List (Nat × Nat)) : SeqAt.shaped (.list (ws.map pr2)) = true := (shaped_of (n := 1) (by decide) fun x hx => by
  obtain ⟨p, _, rfl⟩ := List.mem_map.mp hx
  exact ⟨rfl, by show max 0 (max 0 0) + 1 ≤ 1; decide⟩).1
theorem ne_nil {xs : List D} : eqB true (.list xs) (.list []) = !xs.isEmpty := by
  cases xs <;> simp [eqB, PyData.eqv, PyData.eqvAll]
theorem perm_ex {α β : Type} {f : α → β} : ∀ {xs : List α} {ys : List β}, ys.Perm (xs.map f) → ∃ zs : List α, zs.Perm xs ∧ ys = zs.map f
  | [], ys, h => ⟨[], .nil, List.Perm.eq_nil h⟩
  | x :: xs, ys, h => by
    have hm : f x ∈ ys := h.mem_iff.mpr List.mem_cons_self
    obtain ⟨l1, l2, rfl⟩ := List.append_of_mem hm
    have h2 : (l1 ++ l2).Perm (xs.map f) := List.Perm.cons_inv (List.perm_middle.symm.trans h)
    obtain ⟨zs, h3, h4⟩ := perm_ex h2
    obtain ⟨z1, z2, rfl, rfl, rfl⟩ := List.append_eq_map_iff.mp h4
    exact ⟨z1 ++ x :: z2, List.perm_middle.trans (h3.cons x), by rw [List.map_append, List.map_cons]⟩
abbrev ni (k : Nat) : D := .int ((k : Nat) : Int)
def sFewer : Sig := ⟨2, [], fun rs M Q E => ∃ (ps : List Pq) (m : Rat), (rs = [rL ps, dq m] ∨ rs = [rT ps, dq m]) ∧ ps.length ≤ 20 ∧ (∀ p ∈ ps, BtP 3 p) ∧ Fit m ∧ TrackOk ps ∧ ∀ ms, FewOk ps m ms → Q (rT (ms.map (atP ps))) M,
  fun hQ hE ⟨ps, m, e, h1, h2, h3, h4, q⟩ => ⟨ps, m, e, h1, h2, h3, h4, fun ms z => hQ _ _ (q ms z)⟩⟩
theorem last_of {α : Type} {ws : List α} (h : ws ≠ []) : ∃ vs x, ws = vs ++ [x] := ⟨ws.dropLast, ws.getLast h, (List.dropLast_concat_getLast h).symm⟩
section
variable {T : Tb} {k : Nat} {ea : Str → Addr}
def tOff : List ((Str × Nat) × Sig) := [(("furthest_off", 4), sOff)]
abbrev gT5 (T : Tb) (k : Nat) (ea : Str → Addr) : Gi := gi T k ea (tOff ++ (tFar ++ (tNear ++ (tLen (ea "BadPoint") ++ (tStep ++ (tPoints2 ++ (tPoints ++ tParts (ea "BadPart"))))))))
abbrev SF : Sc := SS ["row", "most", "found", "kept", "waiting", "low", "high", "place"] s_fewer
theorem dats_snoc {α : Type} (f : α → D) (xs : List α) (x : α) : dats (xs.map f) ++ [.dat (f x)] = dats ((xs ++ [x]).map f) := by unfold dats; rw [List.map_append, List.map_append]; rfl
theorem dats_drop {α : Type} (f : α → D) (xs : List α) (x : α) : (dats ((xs ++ [x]).map f)).dropLast = dats (xs.map f) := by rw [← dats_snoc, List.dropLast_concat]
theorem dats_lastI {α : Type} (f : α → D) (xs : List α) (x : α) : (dats ((xs ++ [x]).map f))[(dats ((xs ++ [x]).map f)).length - 1]? = some (.dat (f x)) := by
  rw [← dats_snoc, List.length_append]
  simp
set_option smartUnfolding false in
theorem do_fewer : DoesS (gT5 T k ea) SF (defBody s_fewer) sFewer := by
  rintro rs M Q E _ ⟨ps, m, e, hl, hb, hm, ok, q⟩
  have h2 := ok.1
  rcases e with rfl | rfl
  all_goals
    refine ⟨rfl, ps, by first | exact .inl rfl | exact .inr rfl, by omega, fun _ => ?_, fun z => absurd ok z⟩
    refine .inr fun kp => .inr fun w => ?_
    have en : ((ps.map po).length : Int) - 1 = ((ps.length - 1 : Nat) : Int) := by rw [List.length_map]; omega
    refine ⟨fun n ds M' => ∃ (ks : List Nat) (ws : List (Nat × Nat)) (r0 a b c : Sv), ds = [r0, dq m, rT ps, .raw (.ref kp), .raw (.ref w), a, b, c] ∧ M' = (w, .lst (dats (ws.map pr2))) :: (kp, .lst (dats (ks.map ni))) :: M ∧ FewInv ps m ks ws ∧ n = 3 * (ps.length - ks.length) + ws.length ∧ ws.length ≤ ks.length, ⟨_, [0, ps.length - 1], [(0, ps.length - 1)], _, _, _, _, rfl, by rw [en]; rfl, few_start h2, rfl, by simp⟩, ?_⟩
    rintro n ds M' ⟨ks, ws, r0, a, b, c, rfl, rfl, fi, rfl, hwk⟩
    have kl := few_le fi
    refine Or.inl ⟨[], _, _, rfl, _, rfl, shaped_ws ws, rfl, brS (fun z => ?_) fun z => ?_⟩
    · rw [ne_nil] at z
      have hw : ws ≠ [] := fun e => by rw [e] at z; cases z
      obtain ⟨vs, ⟨l, h⟩, rfl⟩ := last_of hw
      obtain ⟨al, ah, lh, ab⟩ := fi.wa (l, h) (by simp)
      have hn : h < ps.length := fi.lt h ah
      refine ⟨⟨[], _, _, rfl, trivial⟩, [], _, _, rfl, .dat (pr2 (l, h)), dats_lastI pr2 vs (l, h), ?_⟩
      refine ⟨rfl, ps, l, h, m, rfl, by omega, hb, lh, hn, hm, fun o ho => ?_⟩
      cases o with
      | none =>
        refine ⟨_, ?_, ks, vs, _, _, _, _, rfl, by rw [dats_drop]; rfl, few_none fi ho, rfl, ?_⟩
        · rw [List.length_append]; simp
        · rw [List.length_append] at hwk; simp at hwk; omega
      | some p =>
        obtain ⟨o1, o2, o3⟩ := ho
        have f2 := few_some fi o1 o2 o3
        have kl2 := few_le f2
        rw [List.length_append] at kl2 hwk
        have kl3 : ks.length + 1 ≤ ps.length := kl2
        have hwk2 : vs.length + 1 ≤ ks.length := hwk
        refine ⟨⟨[_], _, _, rfl, trivial⟩, [_], _, _, rfl, by rw [dats_len, List.length_map]; omega, ⟨[], _, _, rfl, trivial⟩, [], _, _, rfl, by rw [dats_drop, dats_len, List.length_map]; omega, ⟨[], _, _, rfl, trivial⟩, [], _, _, rfl, by rw [dats_drop, List.length_append, dats_len, List.length_map]; simp; omega, ?_⟩
        refine ⟨_, ?_, ks ++ [p], vs ++ [(l, p), (p, h)], _, _, _, _, rfl, ?_, f2, rfl, ?_⟩
        · simp only [List.length_append, List.length_cons, List.length_nil]; omega
        · rw [dats_drop]
          have e1 := dats_snoc pr2 vs (l, p)
          have e2 := dats_snoc pr2 (vs ++ [(l, p)]) (p, h)
          have e3 := dats_snoc ni ks p
          rw [List.append_assoc] at e2
          show (w, MO.lst (dats (vs.map pr2) ++ [.dat (pr2 (l, p))] ++ [.dat (pr2 (p, h))])) :: (kp, MO.lst (dats (ks.map ni) ++ [.dat (ni p)])) :: M = _
          rw [e1, e2, e3]
          rfl
        · simp only [List.length_append, List.length_cons, List.length_nil]; omega
    · rw [ne_nil] at z
      have hw : ws = [] := by simpa using z
      subst hw
      refine ⟨[_], _, _, rfl, ks.map fun i => ((i : Nat) : Int), by unfold dats; rw [List.map_map, List.map_map, List.map_map]; rfl, fun ms hp hs => ?_⟩
      obtain ⟨js, hj, rfl⟩ := perm_ex hp
      have jl := hj.length_eq
      have fo := few_end fi hj (by rw [List.pairwise_map] at hs; exact hs.imp fun {a b} h => by omega) h2
      have dl : (dats ((js.map fun i => ((i : Nat) : Int)).map PyData.int)).length = js.length := by rw [dats_len, List.length_map, List.length_map]
      refine ⟨by rw [dl]; omega, .inl ⟨(js.map fun i => ((i : Nat) : Int)).map PyData.int, rfl, ?_⟩⟩
      refine ⟨by rw [dl]; omega, fun i acc M' => M' = _ ∧ acc = dats (((js.take i).map (atP ps)).map po), ⟨rfl, rfl⟩, ?_, ?_, ?_⟩
      · rintro i acc M' hi ⟨rfl, rfl⟩
        refine ⟨trivial, ?_⟩
        rw [dats_len, List.length_map, List.length_map, List.length_take]
        exact Nat.min_le_left _ _
      · rintro Dl i r acc M' hr ⟨rfl, rfl⟩
        rw [List.map_map] at hr
        obtain ⟨j, h1, rfl⟩ := dats_at hr
        have jn : j < ps.length := fo.lt j (List.mem_of_getElem? h1)
        refine ⟨_, rfl, _, at_atP jn, _, rfl, rfl, ?_⟩
        rw [takeP h1, List.map_append, List.map_append]
        unfold dats
        rw [List.map_append]
        rfl
      · rintro acc M' ⟨rfl, rfl⟩
        rw [dl, List.take_length]
        exact ⟨by rw [dats_len, List.length_map, List.length_map]; omega, .inl ⟨(js.map (atP ps)).map po, rfl, .drop0 (.drop0 (.ok (q js fo)))⟩⟩
end
end BW
/-! T16J -/
/-! evenly; the law's own helpers -/
namespace BW
open PySem PySem.Spec PyProof.Rows L2 Cal
def evenQ (ps : List Pq) (many i : Nat) : Pq := atQ ps (lenQ ps * Rat.divInt (i : Nat) ((many : Int) - 1))
def sEven (bs : Addr) : Sig := ⟨2, [], fun rs M Q E => ∃ (ps : List Pq) (many : Nat), rs = [rL ps, I many] ∧ ps.length ≤ 5 ∧ many ≤ 10 ∧ (∀ p ∈ ps, BtP 3 p) ∧ TrackOk ps ∧ (many < 2 → E bs M) ∧ (2 ≤ many → Q (rT ((List.range many).map (evenQ ps many))) M),
  fun hQ hE ⟨ps, m, e, h1, h2, h3, h4, q1, q2⟩ => ⟨ps, m, e, h1, h2, h3, h4, fun z => hE _ _ (q1 z), fun z => hQ _ _ (q2 z)⟩⟩
theorem len_nonneg (ps : List Pq) : 0 ≤ lenQ ps := by
  have key : ∀ (l : List Rat) (z : Rat), 0 ≤ z → (∀ q ∈ l, 0 ≤ q) → 0 ≤ l.foldl (· + ·) z := by
    intro l
    induction l with
    | nil => intro z hz _; exact hz
    | cons a l ih =>
      intro z hz hl
      have := hl a (by simp)
      exact ih (z + a) (by grind) fun q hq => hl q (by simp [hq])
  refine key _ 0 (by decide) fun q hq => ?_
  obtain ⟨p, _, rfl⟩ := List.mem_map.mp hq
  unfold strideQ
  have h1 := absQ_nonneg (p.2.1 - p.1.1)
  have h2 := absQ_nonneg (p.2.2 - p.1.2)
  grind
theorem small_bits {n : Nat} (h : n ≤ 10) : ((n : Nat) : Int).natAbs < 2 ^ 4 := by
  rw [Int.natAbs_natCast]
  exact Nat.lt_of_le_of_lt h (by decide)
theorem even_share {i many : Nat} (h2 : 2 ≤ many) (h : many ≤ 10) (hi : i < many) : RawB 4 (.tuple [.int (i : Nat), .int ((many : Int) - 1)]) (Rat.divInt (i : Nat) ((many : Int) - 1)) ∧ 0 ≤ Rat.divInt (i : Nat) ((many : Int) - 1) := by
  have e : ((many : Int) - 1) = ((many - 1 : Nat) : Int) := by omega
  refine ⟨⟨_, _, rfl, by omega, rfl, small_bits (by omega), by rw [e]; exact small_bits (by omega)⟩, ?_⟩
  rw [Rat.divInt_nonneg_iff_of_pos_right (by omega)]
  omega
section
variable {T : Tb} {k : Nat} {ea : Str → Addr}
def tAt (bs : Addr) : List ((Str × Nat) × Sig) := [(("at_length", 2), sAt bs), (("whole_way", 1), sWhole)]
abbrev gT6 (T : Tb) (k : Nat) (ea : Str → Addr) : Gi := gi T k ea (tAt (ea "BadSize") ++ (tOff ++ (tFar ++ (tNear ++ (tLen (ea "BadPoint") ++ (tStep ++ (tPoints2 ++ (tPoints ++ tParts (ea "BadPart")))))))))
set_option smartUnfolding false in
theorem do_evenly : Does (gT6 T k ea) (SS ["row", "many", "whole", "place"] s_evenly) (defBody s_evenly) (sEven (ea "BadSize")) := by
  rintro rs M Q E _ ⟨ps, many, rfl, hl, hm, hb, ok, hE, hQ⟩
  have h2 := ok.1
  have wb : Bt 65 (lenQ ps) := (len_bt hb).mono (by omega)
  refine brS (fun z => hE (by have := of_decide_eq_true z; omega)) fun z => ?_
  have m2 : 2 ≤ many := by have := of_decide_eq_false z; omega
  replace hQ := hQ m2
  refine ⟨rfl, ps, .inl rfl, by omega, hb, ok, ?_⟩
  refine ⟨⟨by omega, by omega⟩, by rw [rng_len]; omega, fun i acc M' => M' = M ∧ acc = dats (((List.range i).map (evenQ ps many)).map po), ⟨rfl, rfl⟩, ?_, ?_, ?_⟩
  · rintro i acc M' hi ⟨rfl, rfl⟩
    exact ⟨trivial, by rw [dats_len, List.length_map, List.length_map, List.length_range]; exact Nat.le_refl _⟩
  · rintro Dl i r acc M' hr ⟨rfl, rfl⟩
    obtain ⟨hi, rfl⟩ := rng_at hr
    have hi2 : i < many := by omega
    obtain ⟨sh, s0⟩ := even_share m2 hm hi2
    have e0 : (0 : Int) + ((i : Nat) : Int) = ((i : Nat) : Int) := by omega
    rw [e0]
    refine ⟨_, rfl, rfl, _, _, _, rfl, sh.mono (by decide), wb.mono (by decide), rfl, ps, _, .inl rfl, by omega, hb, (wb.mul sh.bt).mono (by decide), ok, fun w => absurd w (Rat.not_lt.mpr (Rat.mul_nonneg (len_nonneg ps) s0)), fun _ => ⟨_, rfl, rfl, ?_⟩⟩
    rw [List.range_succ, List.map_append, List.map_append]
    unfold dats
    rw [List.map_append]
    rfl
  · rintro acc M' ⟨rfl, rfl⟩
    rw [rng_len]
    have en : ((many : Int)).toNat = many := by omega
    rw [en]
    exact ⟨by rw [dats_len, List.length_map, List.length_map, List.length_range]; omega, .inl ⟨_, rfl, hQ⟩⟩
/-! dice -/
abbrev di (a b c : Int) : MO := .lst [I a, I b, I c]
def sDice : Sig := ⟨1, [], fun rs M Q E => ∃ (c : Int) (A C : Ms), rs = [I c] ∧ M = A ++ C ∧ ∀ l a b d, Q (.raw (.ref l)) (A ++ (l, di a b d) :: C), fun hQ hE ⟨c, A, C, e, h1, q⟩ => ⟨c, A, C, e, h1, fun l a b d => hQ _ _ (q l a b d)⟩⟩
def sRoll : Sig := ⟨2, [], fun rs M Q E => ∃ (l : Addr) (A C : Ms) (a b d m : Int), rs = [.raw (.ref l), I m] ∧ 0 < m ∧ m ≤ 100 ∧ M = A ++ (l, di a b d) :: C ∧ ∀ r a' b' d', 0 ≤ r → r < m → Q (I r) (A ++ (l, di a' b' d') :: C),
  fun hQ hE ⟨l, A, C, a, b, d, m, e, h1, h2, h3, q⟩ => ⟨l, A, C, a, b, d, m, e, h1, h2, h3, fun r a' b' d' z y => hQ _ _ (q r a' b' d' z y)⟩⟩
abbrev gL0 (T : Tb) (k : Nat) (ea : Str → Addr) : Gi := gi T k ea []
theorem do_dice : DoesS (gL0 T k ea) (SS ["cell"] s__law_dice) (defBody s__law_dice) sDice := by
  rintro rs M Q E _ ⟨c, A, C, rfl, rfl, q⟩
  have fin : ∀ a b d l, Shr Q (.raw (.ref l)) ((l, di a b d) :: (A ++ C)) := fun a b d l => .perm List.perm_middle.symm (.ok (q l a b d))
  refine brS (fun z => brS (fun z => .inr (fin _ _ _)) fun z => ?_) fun z => ?_
  · exact ⟨by decide, ⟨by decide, by decide, by decide⟩, .inr (fin _ _ _)⟩
  · exact ⟨by decide, ⟨by decide, by decide, by decide⟩, .inr (fin _ _ _)⟩
theorem do_roll : DoesS (gL0 T k ea) (SS ["dice", "many", "found"] s__law_roll) (defBody s__law_roll) sRoll := by
  rintro rs M Q E _ ⟨l, A, C, a, b, d, m, rfl, h0, h1, rfl, q⟩
  have fd : fdivP m := ⟨by omega, by
    have : m.natAbs < 2 ^ 7 := by omega
    exact Nat.lt_of_lt_of_le (log_of this (by decide)) (by decide)⟩
  have fin : ∀ r a' b' d', 0 ≤ r → r < m → Shr Q (I r) (A ++ (l, di a' b' d') :: C) := fun r a' b' d' z y => .ok (q r a' b' d' z y)
  have p0 : ∀ x : Int, 0 ≤ x % m := fun x => Int.emod_nonneg _ (by omega)
  have p1 : ∀ x : Int, x % m < m := fun x => Int.emod_lt_of_pos _ h0
  refine ⟨A, _, C, rfl, _, rfl, rfl, rfl, brS (fun z => ?_) fun z => ⟨A, _, C, rfl, _, rfl, rfl, rfl, brS (fun z2 => ⟨A, _, C, rfl, _, rfl, brS (fun z3 => ?_) fun z3 => ?_⟩) fun z2 => ?_⟩⟩
  · exact ⟨A, _, C, rfl, _, rfl, h0, A, _, C, rfl, _, rfl, fd, A, _, C, rfl, 0, rfl, fin _ _ _ _ (p0 _) (p1 _)⟩
  · exact ⟨A, _, C, rfl, _, rfl, h0, A, _, C, rfl, _, rfl, fd, A, _, C, rfl, 0, rfl, fin _ _ _ _ (p0 _) (p1 _)⟩
  all_goals
    exact ⟨A, _, C, rfl, 2, rfl, A, _, C, rfl, _, rfl, .inl (.inr ⟨by decide, by decide⟩), A, _, C, rfl, _, rfl, .inl (.inr ⟨by decide, by decide⟩), by decide, A, _, C, rfl, 0, rfl,
      A, _, C, rfl, _, rfl, A, _, C, rfl, 1, rfl, A, _, C, rfl, _, rfl, ⟨by decide, by decide⟩, A, _, C, rfl, _, rfl, h0, fin _ _ _ _ (p0 _) (p1 _)⟩
/-! the rounds of a script: one -/
def sRounds : Sig := ⟨2, [], fun rs M Q E => ∃ ns : List Int, rs = [.dat (.list (ns.map .int)), I 1] ∧ ∀ o l a b d, Q (.raw (.ref o)) ((o, .lst [.raw (.ref l)]) :: (l, di a b d) :: M), fun hQ hE ⟨ns, e, q⟩ => ⟨ns, e, fun o l a b d => hQ _ _ (q o l a b d)⟩⟩
def sSpot : Sig := ⟨2, [], fun rs M Q E => ∃ (l : Addr) (A C : Ms) (a b d m : Int), rs = [.raw (.ref l), I m] ∧ 0 < m ∧ m ≤ 100 ∧ M = A ++ (l, di a b d) :: C ∧ ∀ (x y : Int) a' b' d', 0 ≤ x → x < m → 0 ≤ y → y < m → Q (dp ((x : Rat), (y : Rat))) (A ++ (l, di a' b' d') :: C),
  fun hQ hE ⟨l, A, C, a, b, d, m, e, h1, h2, h3, q⟩ => ⟨l, A, C, a, b, d, m, e, h1, h2, h3, fun x y a' b' d' z1 z2 z3 z4 => hQ _ _ (q x y a' b' d' z1 z2 z3 z4)⟩⟩
def tLaw : List ((Str × Nat) × Sig) := [(("_law_dice", 1), sDice), (("_law_roll", 2), sRoll), (("point", 2), sPoint)]
abbrev gL1 (T : Tb) (k : Nat) (ea : Str → Addr) : Gi := gi T k ea tLaw
theorem do_spot : Does (gL1 T k ea) (SS ["dice", "most"] s__law_spot) (defBody s__law_spot) sSpot := by
  rintro rs M Q E _ ⟨l, A, C, a, b, d, m, rfl, h0, h1, rfl, q⟩
  exact ⟨rfl, l, A, C, a, b, d, m, rfl, h0, h1, rfl, fun x a1 b1 d1 x0 x1 => ⟨rfl, l, A, C, a1, b1, d1, m, rfl, h0, h1, rfl, fun y a2 b2 d2 y0 y1 => ⟨rfl, x, y, rfl, q x y a2 b2 d2 x0 x1 y0 y1⟩⟩⟩
theorem cut_1 (ns : List Int) : Cal.cutD (ns.map PyData.int) none (some 1) = (ns.take 1).map .int := by
  cases ns with
  | nil => rfl
  | cons n ns =>
    rw [List.map_take]
    exact cut_lo _ (c := 1) (by simp)
theorem eq_nil {xs : List D} : eqB false (.list xs) (.list []) = xs.isEmpty := by
  cases xs <;> simp [eqB, PyData.eqv, PyData.eqvAll]
theorem shaped_one (ns : List Int) : SeqAt.shaped (.list (ns.map .int)) = true := (shaped_of (n := 0) (by decide) fun x hx => by
  obtain ⟨p, _, rfl⟩ := List.mem_map.mp hx
  exact ⟨rfl, Nat.le_refl _⟩).1
set_option smartUnfolding false in
theorem do_rounds : Does (gL1 T k ea) (SS ["script", "most", "cells", "cell"] s__law_rounds) (defBody s__law_rounds) sRounds := by
  rintro rs M Q E _ ⟨ns, rfl, q⟩
  have ec := cut_1 ns
  refine Or.inl ⟨by rw [ec]; exact shaped_one _, rfl, brS (fun z => .inl ?_) fun z => ?_⟩
  · refine ⟨Nat.le_of_ble_eq_true rfl, fun i acc M' => (i = 0 ∧ acc = [] ∧ M' = M) ∨ (i = 1 ∧ ∃ l a b d, acc = [.raw (.ref l)] ∧ M' = (l, di a b d) :: M), .inl ⟨rfl, rfl, rfl⟩, ?_, ?_, ?_⟩
    · rintro i acc M' hi (⟨rfl, rfl, rfl⟩ | ⟨rfl, l, a, b, d, rfl, rfl⟩)
      · exact ⟨trivial, Nat.le_refl _⟩
      · exact ⟨trivial, Nat.le_refl _⟩
    · rintro Dl i r acc M' hr (⟨rfl, rfl, rfl⟩ | ⟨rfl, l, a, b, d, rfl, rfl⟩)
      · cases hr
        exact ⟨_, rfl, rfl, 0, [(Dl, .lst [])], M', rfl, rfl, fun l a b d => ⟨_, rfl, .inr ⟨rfl, l, a, b, d, rfl, rfl⟩⟩⟩
      · cases hr
    · rintro acc M' (⟨h, _⟩ | ⟨_, l, a, b, d, rfl, rfl⟩)
      · cases h
      · exact ⟨Nat.le_of_ble_eq_true rfl, .inr fun o => q o l a b d⟩
  · rw [eq_nil, ec] at z
    obtain ⟨n, en⟩ : ∃ n, (ns.take 1).map PyData.int = [.int n] := by
      cases ns with
      | nil => cases z
      | cons n ns => exact ⟨n, rfl⟩
    rw [en] at ec
    have hl : (dats (Cal.cutD (ns.map PyData.int) none (some 1))).length = 1 := by rw [ec]; rfl
    have hat : ∀ i r, (dats (Cal.cutD (ns.map PyData.int) none (some 1)))[i]? = some r → i = 0 ∧ r = I n := fun i r h => by
      rw [ec] at h
      match i, h with
      | 0, h => cases h; exact ⟨rfl, rfl⟩
    refine ⟨by rw [hl]; decide, fun i acc M' => (i = 0 ∧ acc = [] ∧ M' = M) ∨ (i = 1 ∧ ∃ l a b d, acc = [.raw (.ref l)] ∧ M' = (l, di a b d) :: M), .inl ⟨rfl, rfl, rfl⟩, ?_, ?_, ?_⟩
    · rintro i acc M' hi (⟨rfl, rfl, rfl⟩ | ⟨rfl, l, a, b, d, rfl, rfl⟩)
      · exact ⟨trivial, Nat.le_refl _⟩
      · exact ⟨trivial, Nat.le_refl _⟩
    · rintro Dl i r acc M' hr (⟨rfl, rfl, rfl⟩ | ⟨rfl, l, a, b, d, rfl, rfl⟩)
      · obtain ⟨_, rfl⟩ := hat _ _ hr
        exact ⟨_, rfl, rfl, n, [(Dl, .lst [])], M', rfl, rfl, fun l a b d => ⟨_, rfl, .inr ⟨rfl, l, a, b, d, rfl, rfl⟩⟩⟩
      · have := (hat _ _ hr).1
        omega
    · rintro acc M' (⟨h, _⟩ | ⟨_, l, a, b, d, rfl, rfl⟩)
      · rw [hl] at h; cases h
      · exact ⟨Nat.le_of_ble_eq_true rfl, .inr fun o => q o l a b d⟩
end
end BW
/-! T16K -/
/-! the law's nearest; the closed deeds -/
namespace BW
open PySem PySem.Spec PyProof.Rows L2 Cal
def sLnear : Sig := ⟨2, [], fun rs M Q E => ∃ (ps : List Pq) (p : Pq), rs = [rT ps, dp p] ∧ 2 ≤ ps.length ∧ ps.length ≤ 100 ∧ (∀ p ∈ ps, BtP 3 p) ∧ BtP 3 p ∧ ∀ f, Fit f → (∀ (j : Nat) (t : Pq × Pq), (prs ps)[j]? = some t → f ≤ farQ t.1 t.2 p) → Q (dq f) M,
  fun hQ hE ⟨ps, p, e, h1, h2, h3, h4, q⟩ => ⟨ps, p, e, h1, h2, h3, h4, fun f z y => hQ _ _ (q f z y)⟩⟩
theorem at_row {ps : List Pq} {i : Nat} {p : Pq} (h : ps[i]? = some p) : atI (ps.map po) (i : Int) = some (po p) := at_nat (by rw [List.getElem?_map, h]; rfl)
theorem prs_of {ps : List Pq} {i : Nat} (h : i < ps.length - 1) : ∃ s, (prs ps)[i]? = some s ∧ ps[i]? = some s.1 ∧ ps[i + 1]? = some s.2 ∧ s.1 ∈ ps ∧ s.2 ∈ ps := by
  have hi : i < (prs ps).length := by rw [prs_len]; exact h
  have e : (prs ps)[i]? = some (prs ps)[i] := List.getElem?_eq_getElem hi
  have h2 := prs_at e
  have h3 := prs_mem (List.mem_of_getElem? e)
  exact ⟨_, e, h2.1, h2.2, h3.1, h3.2⟩
theorem far_fit {a b p : Pq} (ha : BtP 3 a) (hb : BtP 3 b) (hp : BtP 3 p) : Fit (farQ a b p) := (far_bt (n := 0) (m := 0) ha hb hp).mono (by decide)
section
variable {T : Tb} {k : Nat} {ea : Str → Addr}
set_option smartUnfolding false in
theorem do_lnear : Does (gT1 T k ea) (SS ["row", "spot", "best", "k", "here"] s__law_nearest) (defBody s__law_nearest) sLnear := by
  rintro rs M Q E _ ⟨ps, p, rfl, h2, hl, hb, hp, q⟩
  have en : (((ps.map po).length : Int) - 1).toNat = ps.length - 1 := by rw [List.length_map]; omega
  refine ⟨⟨by rw [List.length_map]; omega, by rw [List.length_map]; omega⟩, fun i ds M' => M' = M ∧ ∃ best a b, ds = [rT ps, dp p, best, a, b] ∧ ((i = 0 ∧ best = .dat .none) ∨ ∃ f, best = dq f ∧ Fit f ∧ ∀ (j : Nat) (t : Pq × Pq), j < i → (prs ps)[j]? = some t → f ≤ farQ t.1 t.2 p), ⟨rfl, _, _, _, rfl, .inl ⟨rfl, rfl⟩⟩, fun _ _ _ _ _ => trivial, ?_, ?_⟩
  · rintro i r ds M' hr ⟨rfl, best, a, b, rfl, hbest⟩
    obtain ⟨hi, rfl⟩ := rng_at hr
    rw [en] at hi
    obtain ⟨s, hs, e1, e2, m1, m2⟩ := prs_of hi
    have ei : (0 : Int) + ((i : Nat) : Int) = ((i : Nat) : Int) := by omega
    have ei2 : (0 : Int) + ((i : Nat) : Int) + 1 = ((i + 1 : Nat) : Int) := by omega
    have b1 := hb _ m1
    have b2 := hb _ m2
    have ff := far_fit b1 b2 hp
    have a1 : atI (ps.map po) (0 + ((i : Nat) : Int)) = some (po s.1) := by rw [ei]; exact at_row e1
    have a2 : atI (ps.map po) (0 + ((i : Nat) : Int) + 1) = some (po s.2) := by rw [ei2]; exact at_row e2
    have fin : ∀ (best : Sv) (v : Rat) (kv : Sv), v = farQ s.1 s.2 p → ((i = 0 ∧ best = .dat .none) ∨ ∃ f, best = dq f ∧ Fit f ∧ ∀ (j : Nat) (t : Pq × Pq), j < i → (prs ps)[j]? = some t → f ≤ farQ t.1 t.2 p) → (best = .dat .none ∧ (∀ (j : Nat) (t : Pq × Pq), j < i + 1 → (prs ps)[j]? = some t → v ≤ farQ t.1 t.2 p)) ∨ ∃ f, best = dq f ∧ Fit f ∧ (v < f → ∀ (j : Nat) (t : Pq × Pq), j < i + 1 → (prs ps)[j]? = some t → v ≤ farQ t.1 t.2 p) ∧ (¬ v < f → ∀ (j : Nat) (t : Pq × Pq), j < i + 1 → (prs ps)[j]? = some t → f ≤ farQ t.1 t.2 p) := by
      rintro best v kv rfl (⟨rfl, rfl⟩ | ⟨f, rfl, hf, hz⟩)
      · refine .inl ⟨rfl, fun j t hj ht => ?_⟩
        obtain rfl : j = 0 := by omega
        rw [hs] at ht
        cases ht
        exact Rat.le_refl
      · refine .inr ⟨f, rfl, hf, fun lt j t hj ht => ?_, fun nlt j t hj ht => ?_⟩
        · by_cases e : j = i
          · subst e; rw [hs] at ht; cases ht; exact Rat.le_refl
          · have := hz j t (by omega) ht; grind
        · by_cases e : j = i
          · subst e; rw [hs] at ht; cases ht; exact Rat.not_lt.mp nlt
          · exact hz j t (by omega) ht
    refine ⟨_, a1, _, a2, rfl, rfl, brS (fun z => ?_) fun z => ?_⟩
    · rw [eq_po] at z
      have ez := of_decide_eq_true z
      have ef : squareQ s.1 p = farQ s.1 s.2 p := by unfold farQ; rw [if_pos ez]
      refine ⟨_, a1, rfl, _, _, rfl, b1.mono (by decide), hp.mono (by decide), ?_⟩
      rcases fin best _ (.dat .none) ef hbest with ⟨rfl, hz⟩ | ⟨f, rfl, hf, hz1, hz2⟩
      · exact ⟨rfl, _, _, _, rfl, .inr ⟨_, rfl, ef ▸ ff, hz⟩⟩
      · exact ⟨rfl, _, _, rfl, ef ▸ ff, hf, brS (fun w => ⟨rfl, _, _, _, rfl, .inr ⟨_, rfl, ef ▸ ff, hz1 (of_decide_eq_true w)⟩⟩) fun w => ⟨rfl, _, _, _, rfl, .inr ⟨_, rfl, hf, hz2 (of_decide_eq_false w)⟩⟩⟩
    · rw [eq_po] at z
      have ez := of_decide_eq_false z
      have ef : squareQ (stepQ s.1 s.2 p) p = farQ s.1 s.2 p := by unfold farQ; rw [if_neg ez]
      refine ⟨_, a1, _, a2, rfl, _, _, _, rfl, b1, b2, hp.mono (by decide), ez, rfl, _, _, rfl, (step_bt b1 b2 hp).mono (by decide), hp.mono (by decide), ?_⟩
      rcases fin best _ (.dat .none) ef hbest with ⟨rfl, hz⟩ | ⟨f, rfl, hf, hz1, hz2⟩
      · exact ⟨rfl, _, _, _, rfl, .inr ⟨_, rfl, ef ▸ ff, hz⟩⟩
      · exact ⟨rfl, _, _, rfl, ef ▸ ff, hf, brS (fun w => ⟨rfl, _, _, _, rfl, .inr ⟨_, rfl, ef ▸ ff, hz1 (of_decide_eq_true w)⟩⟩) fun w => ⟨rfl, _, _, _, rfl, .inr ⟨_, rfl, hf, hz2 (of_decide_eq_false w)⟩⟩⟩
  · rintro ds M' ⟨rfl, best, a, b, rfl, hbest⟩
    rw [rng_len, en] at hbest
    rcases hbest with ⟨z, _⟩ | ⟨f, rfl, hf, hz⟩
    · omega
    · refine q f hf fun j t ht => hz j t ?_ ht
      have := (List.getElem?_eq_some_iff.mp ht).1
      rw [prs_len] at this
      exact this
end
end BW
/-! T16L -/
/-! the closed deeds -/
namespace BW
open PySem PySem.Spec PyProof.Rows L2 Cal LamX
def sCases : Sig := ⟨0, [], fun rs M Q E => rs = [] ∧ Lsts M ∧ ∀ M', Q (B true) M', fun hQ hE ⟨e, h, q⟩ => ⟨e, h, fun M' => hQ _ _ (q M')⟩⟩
def tTop (ea : Str → Addr) : List ((Str × Nat) × Sig) := [(("_law_rounds", 2), sRounds), (("_law_spot", 2), sSpot), (("_law_roll", 2), sRoll), (("_law_nearest", 2), sLnear), (("_law_cases1", 0), sCases), (("fewer", 2), sFewer), (("evenly", 2), sEven (ea "BadSize")), (("length_at", 2), sLenAt)]
def tMid (ea : Str → Addr) : List ((Str × Nat) × Sig) := tAt (ea "BadSize") ++ (tFar ++ (tNear ++ (tLen (ea "BadPoint") ++ (tStep ++ (tPoints2 ++ (tPoints ++ tParts (ea "BadPart")))))))
def tC (ea : Str → Addr) : List ((Str × Nat) × Sig) := (("evenly", 2), sEven (ea "BadSize")) :: tMid ea
abbrev qCases : Str := "_law_cases1.<locals>.<lambda>"
abbrev gC (T : Tb) (k : Nat) (ea : Str → Addr) : Gi := { gi T k ea (tC ea) with lq := qCases }
abbrev SCs : Sc := ⟨["wrong", "pair"], defScope s__law_cases1, fun _ => true, true, true⟩
theorem es_mem {ea : Str → Addr} {x y : Str} (h : (x, y) ∈ esL) : (ea x, y) ∈ esL.map fun p => (ea p.1, p.2) := List.mem_map_of_mem (f := fun p : Str × Str => (ea p.1, p.2)) h
theorem four {α : Type} {r0 r1 r2 r3 : α} {p : Nat → α → Prop} (h0 : p 0 r0) (h1 : p 1 r1) (h2 : p 2 r2) (h3 : p 3 r3) : ∀ (i : Nat) (r : α), [r0, r1, r2, r3][i]? = some r → p i r := by
  intro i r h
  match i, h with
  | 0, h => rw [← Option.some.inj h]; exact h0
  | 1, h => rw [← Option.some.inj h]; exact h1
  | 2, h => rw [← Option.some.inj h]; exact h2
  | 3, h => rw [← Option.some.inj h]; exact h3
theorem bt_small (x : Int) (h : x.natAbs < 8) : Bt 3 (x : Rat) := ⟨by rw [Rat.num_intCast]; exact h, by rw [Rat.den_intCast]; decide⟩
theorem sh_point : SeqAt.shaped (.str "point") = true := by decide +kernel
theorem sh_size : SeqAt.shaped (.str "size") = true := by decide +kernel
theorem nq_point : eqB true (.str "point") (.str "point") = false := by decide +kernel
theorem nq_size : eqB true (.str "size") (.str "size") = false := by decide +kernel
theorem two_bt : ∀ p ∈ [((((0 : Int) : Rat), ((0 : Int) : Rat)) : Pq), (((1 : Int) : Rat), ((0 : Int) : Rat))], BtP 3 p := by
  intro p hp
  rcases (show p = _ ∨ p = _ by simpa using hp) with e | e <;> rw [e] <;> exact ⟨⟨by decide, by decide⟩, ⟨by decide, by decide⟩⟩
theorem boolI {b : Bool} {P : Bool → Prop} (h : P b) : boolW (B b) P := h
theorem minus_end : eqB false (pq ((1 : Rat) - 1)) (.tuple [.int 0, .int 1]) = true := by decide +kernel
section
variable {T : Tb} {k : Nat} {ea : Str → Addr}
set_option smartUnfolding false in
theorem do_cases : DoesS (gC T k ea) SCs (defBody s__law_cases1) sCases := by
  rintro rs M Q E _ ⟨rfl, hM, q⟩
  refine ⟨hM, fun _ => rfl, fun _ => rfl, by decide, hM, fun _ => rfl, fun _ => rfl, by decide, hM, fun _ => rfl, fun _ => rfl, by decide, hM, fun _ => rfl, fun _ => rfl, by decide, .inr fun l => ?_⟩
  refine ⟨[], _, _, rfl, Nat.le_of_ble_eq_true rfl, fun i acc M' => acc = [] ∧ M' = (l, .lst _) :: M, ⟨rfl, rfl⟩, ?_, ?_, ?_⟩
  · rintro i acc M' hi ⟨rfl, rfl⟩
    exact ⟨⟨[], _, rfl⟩, Nat.zero_le _⟩
  · intro Dl i r acc M' hr hinv
    obtain ⟨rfl, rfl⟩ := hinv
    revert i r
    refine four (p := fun i r => _) ?_ ?_ ?_ ?_
    · refine ⟨_, _, rfl, .inl ⟨rfl, _, rfl, rfl, rfl, fun _ => rfl, fun _ _ _ => rfl, rfl, 0, 0, rfl, .inl ⟨rfl, [((0 : Int), (0 : Int))], .inl rfl, by decide, fun ok => absurd ok.1 (by decide), fun _ => ⟨"point", es_mem (by decide), _, _, rfl, .inr ⟨rfl, sh_point, sh_point, _, rfl, brF nq_point ⟨rfl, rfl⟩⟩⟩⟩⟩⟩
    · refine ⟨_, _, rfl, .inl ⟨rfl, _, rfl, rfl, rfl, fun _ => rfl, fun _ _ _ => rfl, rfl, 0, 0, rfl, rfl, 0, 0, rfl, rfl, 1, 0, rfl, .inl ⟨rfl, [((0 : Int), (0 : Int)), ((0 : Int), (0 : Int)), ((1 : Int), (0 : Int))], .inl rfl, by decide, fun ok => absurd rfl (ok.2 _ List.mem_cons_self), fun _ => ⟨"point", es_mem (by decide), _, _, rfl, .inr ⟨rfl, sh_point, sh_point, _, rfl, brF nq_point ⟨rfl, rfl⟩⟩⟩⟩⟩⟩
    · refine ⟨_, _, rfl, .inl ⟨rfl, _, rfl, rfl, rfl, fun _ => rfl, fun _ _ _ => rfl, rfl, 0, 0, rfl, rfl, 1, 0, rfl, .inl ⟨rfl, [((0 : Int), (0 : Int)), ((1 : Int), (0 : Int))], (-1 : Rat), .inl rfl, by decide, ?_, ⟨by decide, by decide⟩, by decide, fun _ => ⟨"size", es_mem (by decide), _, _, rfl, .inr ⟨rfl, sh_size, sh_size, _, rfl, brF nq_size ⟨rfl, rfl⟩⟩⟩, fun h => absurd h (by decide)⟩⟩⟩
      exact two_bt
    · refine ⟨_, _, rfl, .inl ⟨rfl, _, rfl, rfl, rfl, fun _ => rfl, fun _ _ _ => rfl, rfl, 0, 0, rfl, rfl, 1, 0, rfl, .inl ⟨rfl, [((0 : Int), (0 : Int)), ((1 : Int), (0 : Int))], 1, rfl, by decide, by decide, ?_, by decide, fun _ => ⟨"size", es_mem (by decide), _, _, rfl, .inr ⟨rfl, sh_size, sh_size, _, rfl, brF nq_size ⟨rfl, rfl⟩⟩⟩, fun h => absurd h (by decide)⟩⟩⟩
      exact two_bt
  · rintro acc M' ⟨rfl, rfl⟩
    refine ⟨Nat.zero_le _, .inl ⟨[], rfl, .inl ⟨rfl, rfl, ?_⟩⟩⟩
    refine boolI ?_
    refine brS (fun h => ?_) fun h => absurd h (by decide +kernel)
    refine ⟨rfl, 1, 1, rfl, bt1.mono (by decide), bt1.mono (by decide), rfl, rfl, ?_⟩
    refine .ok ?_
    have e : ∀ M', Q (B (eqB false (pq ((1 : Rat) - 1)) (.tuple [.int 0, .int 1]))) M' := by rw [minus_end]; exact q
    exact e _
end
end BW
/-! T16M -/
/-! the mathematics of tracks -/
namespace BW
open PySem PySem.Spec PyProof.Rows L2 Cal
theorem mul_nn {a b : Rat} (ha : 0 ≤ a) (hb : 0 ≤ b) : 0 ≤ a * b := Rat.mul_nonneg ha hb
theorem clamp_range (s : Rat) : 0 ≤ clampQ s ∧ clampQ s ≤ 1 := by
  unfold clampQ
  by_cases h : s < 0
  · simp only [h, if_true]
    by_cases h2 : (1 : Rat) < 0
    · exact absurd h2 (by decide)
    · simp only [h2, if_false]; exact ⟨by decide, by decide⟩
  · simp only [h, if_false]
    by_cases h2 : 1 < s
    · simp only [h2, if_true]; exact ⟨by decide, by decide⟩
    · simp only [h2, if_false]; exact ⟨Rat.not_lt.mp h, Rat.not_lt.mp h2⟩
theorem clamp_mid {s : Rat} (h0 : 0 ≤ s) (h1 : s ≤ 1) : clampQ s = s := by
  unfold clampQ
  have h : ¬ s < 0 := Rat.not_lt.mpr h0
  have h2 : ¬ 1 < s := Rat.not_lt.mpr h1
  simp only [h, h2, if_false]
theorem clamp_best (s u : Rat) (h0 : 0 ≤ u) (h1 : u ≤ 1) : 0 ≤ (u - clampQ s) * (u + clampQ s - 2 * s) := by
  unfold clampQ
  by_cases h : s < 0
  · simp only [h, if_true]
    have h2 : ¬ (1 : Rat) < 0 := by decide
    simp only [h2, if_false]
    exact mul_nn (by grind) (by grind)
  · simp only [h, if_false]
    by_cases h2 : 1 < s
    · simp only [h2, if_true]
      have := mul_nn (show 0 ≤ 1 - u by grind) (show 0 ≤ 2 * s - u - 1 by grind)
      grind
    · simp only [h2, if_false]
      have := sq_nonneg (u - s)
      grind
theorem dot_pos {a b : Pq} (h : a ≠ b) : 0 < dotQ (subP a b) (subP a b) := by
  have h1 := dot_ne h
  have h2 : 0 ≤ dotQ (subP a b) (subP a b) := by
    unfold dotQ
    have e1 := sq_nonneg (subP a b).1
    have e2 := sq_nonneg (subP a b).2
    grind
  grind
theorem share_mul {a b p : Pq} (h : a ≠ b) : shareQ a b p * dotQ (subP a b) (subP a b) = dotQ (subP a p) (subP a b) := by
  have := dot_ne h
  unfold shareQ
  grind
theorem way_diff {a b p : Pq} (h : a ≠ b) (u c : Rat) : squareQ (wayQ a b u) p - squareQ (wayQ a b c) p = dotQ (subP a b) (subP a b) * ((u - c) * (u + c - 2 * shareQ a b p)) := by
  have e := share_mul (p := p) h
  have e2 : dotQ (subP a b) (subP a b) * ((u - c) * (u + c - 2 * shareQ a b p)) = (u - c) * ((u + c) * dotQ (subP a b) (subP a b) - 2 * (shareQ a b p * dotQ (subP a b) (subP a b))) := by grind
  rw [e2, e]
  unfold squareQ wayQ dotQ subP
  dsimp only
  grind
/-- no point of a step is nearer -/
theorem dist_best {a b p : Pq} (h : a ≠ b) {u : Rat} (h0 : 0 ≤ u) (h1 : u ≤ 1) : distQ (a, b) p ≤ squareQ (wayQ a b u) p := by
  have e := way_diff (p := p) h u (clampQ (shareQ a b p))
  have e2 := clamp_best (shareQ a b p) u h0 h1
  have e3 := mul_nn (Rat.le_of_lt (dot_pos h)) e2
  unfold distQ stepQ
  dsimp only
  grind
theorem square_nn (a b : Pq) : 0 ≤ squareQ a b := by
  unfold squareQ
  have e1 := sq_nonneg (b.1 - a.1)
  have e2 := sq_nonneg (b.2 - a.2)
  grind
theorem square_zero {a b : Pq} (h : squareQ a b = 0) : a = b := by
  unfold squareQ at h
  have e1 := sq_nonneg (b.1 - a.1)
  have e2 := sq_nonneg (b.2 - a.2)
  have z1 := sq_zero (show (b.1 - a.1) * (b.1 - a.1) = 0 by grind)
  have z2 := sq_zero (show (b.2 - a.2) * (b.2 - a.2) = 0 by grind)
  exact Prod.ext (by grind) (by grind)
theorem square_self (a : Pq) : squareQ a a = 0 := by unfold squareQ; grind
/-! between -/
theorem lohi (a b t : Rat) (h0 : 0 ≤ t) (h1 : t ≤ 1) : loQ a b ≤ a + (b - a) * t ∧ a + (b - a) * t ≤ hiQ a b := by
  unfold loQ hiQ
  rcases (Rat.le_total : a ≤ b ∨ b ≤ a) with h | h
  · have e1 := mul_nn (show 0 ≤ b - a by grind) h0
    have e2 := mul_nn (show 0 ≤ b - a by grind) (show 0 ≤ 1 - t by grind)
    constructor
    · split <;> grind
    · split <;> grind
  · have e1 := mul_nn (show 0 ≤ a - b by grind) h0
    have e2 := mul_nn (show 0 ≤ a - b by grind) (show 0 ≤ 1 - t by grind)
    constructor
    · split <;> grind
    · split <;> grind
theorem lo_self (q : Rat) : loQ q q = q := by unfold loQ; split <;> rfl
theorem hi_self (q : Rat) : hiQ q q = q := by unfold hiQ; split <;> rfl
theorem betw_way {a b : Pq} {t : Rat} (h0 : 0 ≤ t) (h1 : t ≤ 1) : betwQ a b (wayQ a b t) = true := by
  have e : turnQ a b (wayQ a b t) = 0 := by
    unfold turnQ crossQ subP wayQ
    dsimp only
    grind
  have x := lohi a.1 b.1 t h0 h1
  have y := lohi a.2 b.2 t h0 h1
  unfold betwQ sideQ sgnQ mayQ spansQ
  rw [e, lo_self, lo_self, hi_self, hi_self]
  have n1 : ¬ hiQ a.1 b.1 < (wayQ a b t).1 := Rat.not_lt.mpr x.2
  have n2 : ¬ (wayQ a b t).1 < loQ a.1 b.1 := Rat.not_lt.mpr x.1
  have n3 : ¬ hiQ a.2 b.2 < (wayQ a b t).2 := Rat.not_lt.mpr y.2
  have n4 : ¬ (wayQ a b t).2 < loQ a.2 b.2 := Rat.not_lt.mpr y.1
  simp [n1, n2, n3, n4]
theorem betw_step (a b p : Pq) : betwQ a b (stepQ a b p) = true := betw_way (clamp_range _).1 (clamp_range _).2
theorem in_box {a b q : Rat} (h1 : ¬ hiQ a b < q) (h2 : ¬ q < loQ a b) : 0 ≤ (q - a) * (b - a) ∧ (q - a) * (b - a) ≤ (b - a) * (b - a) := by
  unfold hiQ at h1
  unfold loQ at h2
  rcases (Rat.le_total : a ≤ b ∨ b ≤ a) with h | h
  · have k1 : a ≤ q := by split at h2 <;> grind
    have k2 : q ≤ b := by split at h1 <;> grind
    have e1 := mul_nn (show 0 ≤ q - a by grind) (show 0 ≤ b - a by grind)
    have e2 := mul_nn (show 0 ≤ b - q by grind) (show 0 ≤ b - a by grind)
    exact ⟨e1, by grind⟩
  · have k1 : q ≤ a := by split at h1 <;> grind
    have k2 : b ≤ q := by split at h2 <;> grind
    have e1 := mul_nn (show 0 ≤ a - q by grind) (show 0 ≤ a - b by grind)
    have e2 := mul_nn (show 0 ≤ q - b by grind) (show 0 ≤ a - b by grind)
    exact ⟨by grind, by grind⟩
/-- a point on a step is at a share of it -/
theorem betw_share {a b q : Pq} (h : a ≠ b) (hb : betwQ a b q = true) : 0 ≤ shareQ a b q ∧ shareQ a b q ≤ 1 ∧ q = wayQ a b (shareQ a b q) := by
  unfold betwQ mayQ spansQ at hb
  rw [lo_self, lo_self, hi_self, hi_self] at hb
  simp only [Bool.and_eq_true, decide_eq_true_eq, Bool.not_eq_true', decide_eq_false_iff_not] at hb
  obtain ⟨hs, ⟨h1, h2⟩, h3, h4⟩ := hb
  have t0 : turnQ a b q = 0 := by
    unfold sideQ sgnQ at hs
    by_cases p1 : 0 < turnQ a b q
    · rw [if_pos p1] at hs; exact absurd hs (by decide)
    · rw [if_neg p1] at hs
      by_cases p2 : turnQ a b q < 0
      · rw [if_pos p2] at hs; exact absurd hs (by decide)
      · grind
  have x := in_box h1 h2
  have y := in_box h3 h4
  have D := dot_pos h
  have e := share_mul (p := q) h
  have d0 : 0 ≤ dotQ (subP a q) (subP a b) := by unfold dotQ subP; dsimp only; grind
  have d1 : dotQ (subP a q) (subP a b) ≤ dotQ (subP a b) (subP a b) := by unfold dotQ subP; dsimp only; grind
  have s0 : 0 ≤ shareQ a b q := by
    rcases (Rat.le_total : 0 ≤ shareQ a b q ∨ shareQ a b q ≤ 0) with z | z
    · exact z
    · rcases Rat.le_iff_lt_or_eq.mp z with z | z
      · have := Rat.mul_pos (show 0 < -shareQ a b q by grind) D
        grind
      · grind
  have s1 : shareQ a b q ≤ 1 := by
    rcases (Rat.le_total : shareQ a b q ≤ 1 ∨ 1 ≤ shareQ a b q) with z | z
    · exact z
    · rcases Rat.le_iff_lt_or_eq.mp z with z | z
      · have := Rat.mul_pos (show 0 < shareQ a b q - 1 by grind) D
        grind
      · grind
  refine ⟨s0, s1, ?_⟩
  have k1 : dotQ (subP a b) (subP a b) * (q.1 - a.1 - (b.1 - a.1) * shareQ a b q) = 0 := by
    have : dotQ (subP a b) (subP a b) * (q.1 - a.1 - (b.1 - a.1) * shareQ a b q) = dotQ (subP a b) (subP a b) * (q.1 - a.1) - (b.1 - a.1) * (shareQ a b q * dotQ (subP a b) (subP a b)) := by grind
    rw [this, e]
    unfold turnQ crossQ subP at t0
    unfold dotQ subP
    dsimp only at t0 ⊢
    grind
  have k2 : dotQ (subP a b) (subP a b) * (q.2 - a.2 - (b.2 - a.2) * shareQ a b q) = 0 := by
    have : dotQ (subP a b) (subP a b) * (q.2 - a.2 - (b.2 - a.2) * shareQ a b q) = dotQ (subP a b) (subP a b) * (q.2 - a.2) - (b.2 - a.2) * (shareQ a b q * dotQ (subP a b) (subP a b)) := by grind
    rw [this, e]
    unfold turnQ crossQ subP at t0
    unfold dotQ subP
    dsimp only at t0 ⊢
    grind
  have n := dot_ne h
  have j1 := (Rat.mul_eq_zero.mp k1).resolve_left n
  have j2 := (Rat.mul_eq_zero.mp k2).resolve_left n
  unfold wayQ
  exact Prod.ext (by dsimp only; grind) (by dsimp only; grind)
theorem betw_zero {a b q : Pq} (h : a ≠ b) : betwQ a b q = true ↔ distQ (a, b) q = 0 := by
  constructor
  · intro hb
    obtain ⟨s0, s1, e⟩ := betw_share h hb
    unfold distQ stepQ
    dsimp only
    rw [clamp_mid s0 s1, ← e]
    exact square_self q
  · intro hd
    have e := square_zero hd
    have := betw_step a b q
    rw [show stepQ a b q = q from e] at this
    exact this
theorem step_on {a b q : Pq} (h : a ≠ b) (hb : betwQ a b q = true) : stepQ a b q = q := square_zero ((betw_zero h).mp hb)
end BW
/-! T16N -/
/-! lengths along tracks -/
namespace BW
open PySem PySem.Spec PyProof.Rows L2 Cal
theorem foldl_add : ∀ (l : List Rat) (z : Rat), l.foldl (· + ·) z = z + l.foldl (· + ·) 0
  | [], z => by simp; grind
  | a :: l, z => by
    rw [List.foldl_cons, List.foldl_cons, foldl_add l (z + a), foldl_add l (0 + a)]
    grind
theorem sum_cons (a : Rat) (l : List Rat) : sumQ (a :: l) = a + sumQ l := by
  unfold sumQ
  rw [List.foldl_cons, foldl_add]
  grind
theorem sum_app (l m : List Rat) : sumQ (l ++ m) = sumQ l + sumQ m := by
  unfold sumQ
  rw [List.foldl_append, foldl_add m]
theorem sum_one (a : Rat) : sumQ [a] = a := by rw [sum_cons]; unfold sumQ; simp; grind
theorem prs_cons (a b : Pq) (r : List Pq) : prs (a :: b :: r) = (a, b) :: prs (b :: r) := rfl
theorem strides_cons (a b : Pq) (r : List Pq) : strides (a :: b :: r) = strideQ a b :: strides (b :: r) := rfl
theorem len_cons (a b : Pq) (r : List Pq) : lenQ (a :: b :: r) = strideQ a b + lenQ (b :: r) := by
  unfold lenQ
  rw [strides_cons, sum_cons]
theorem len_one (a : Pq) : lenQ [a] = 0 := rfl
abbrev NE (ps : List Pq) : Prop := ∀ p ∈ prs ps, p.1 ≠ p.2
theorem ne_tail {a b : Pq} {r : List Pq} (h : NE (a :: b :: r)) : NE (b :: r) := fun p hp => h p (by rw [prs_cons]; exact List.mem_cons_of_mem _ hp)
theorem ne_head {a b : Pq} {r : List Pq} (h : NE (a :: b :: r)) : a ≠ b := h (a, b) (by rw [prs_cons]; exact List.mem_cons_self)
theorem way_one (a b : Pq) : wayQ a b 1 = b := by unfold wayQ; exact Prod.ext (by dsimp only; grind) (by dsimp only; grind)
theorem way_zero (a b : Pq) : wayQ a b 0 = a := by unfold wayQ; exact Prod.ext (by dsimp only; grind) (by dsimp only; grind)
theorem div_self' {x : Rat} (h : 0 < x) : x / x = 1 := by
  have : x ≠ 0 := by grind
  grind
/-- past the end: the end -/
theorem at_end : ∀ (ps : List Pq) (left : Rat), NE ps → lenQ ps ≤ left → ∀ p, ps.getLast? = some p → atQ ps left = p
  | [], _, _, _, p, h => by cases h
  | [a], left, _, _, p, h => by rw [atQ1]; cases h; rfl
  | [a, b], left, ne, hl, p, h => by
    have hp := stride_pos (ne_head ne)
    rw [atQ2]
    rw [len_cons, len_one] at hl
    have e : p = b := by simpa using h.symm
    split
    · rw [atQ1, e]
    · have : left = strideQ a b := by grind
      rw [this, div_self' hp, way_one, e]
  | a :: b :: c :: r, left, ne, hl, p, h => by
    rw [atQ2]
    rw [len_cons] at hl
    have hp : 0 < lenQ (b :: c :: r) := by
      rw [len_cons]
      have := stride_pos (ne_head (ne_tail ne))
      have := len_nonneg (c :: r)
      grind
    rw [if_pos (by grind)]
    exact at_end (b :: c :: r) _ (ne_tail ne) (by grind) p (by rw [← h]; simp [List.getLast?_cons_cons])
theorem at_start {a b : Pq} {r : List Pq} (h : a ≠ b) : atQ (a :: b :: r) 0 = a := by
  have hp := stride_pos h
  rw [atQ2, if_neg (by grind), show (0 : Rat) / strideQ a b = 0 by grind, way_zero]
theorem abs_mul {x t : Rat} (h : 0 ≤ t) : absQ (x * t) = absQ x * t := by
  unfold absQ
  rcases Rat.le_iff_lt_or_eq.mp h with h2 | h2
  · by_cases hx : x < 0
    · have : x * t < 0 := by
        have := Rat.mul_pos (show 0 < -x by grind) h2
        grind
      rw [if_pos hx, if_pos this]
      grind
    · have : 0 ≤ x * t := mul_nn (Rat.not_lt.mp hx) h
      rw [if_neg hx, if_neg (Rat.not_lt.mpr this)]
  · rw [← h2]
    have e1 : x * 0 = 0 := by grind
    rw [e1]
    simp
theorem stride_way {a b : Pq} {t : Rat} (h : 0 ≤ t) : strideQ a (wayQ a b t) = strideQ a b * t := by
  unfold strideQ wayQ
  dsimp only
  have e1 : a.1 + (b.1 - a.1) * t - a.1 = (b.1 - a.1) * t := by grind
  have e2 : a.2 + (b.2 - a.2) * t - a.2 = (b.2 - a.2) * t := by grind
  rw [e1, e2, abs_mul h, abs_mul h]
  grind
/-- where a length leads -/
theorem at_mid : ∀ (ps : List Pq) (left : Rat), NE ps → 2 ≤ ps.length → 0 ≤ left → left ≤ lenQ ps → ∃ k s, (prs ps)[k]? = some s ∧ betwQ s.1 s.2 (atQ ps left) = true ∧ left = sumQ ((strides ps).take k) + strideQ s.1 (atQ ps left)
  | [], _, _, h, _, _ => by simp at h
  | [a], _, _, h, _, _ => by simp at h
  | a :: b :: r, left, ne, h2, h0, hl => by
    have hp := stride_pos (ne_head ne)
    rw [atQ2]
    by_cases hlt : strideQ a b < left
    · rw [if_pos hlt]
      cases r with
      | nil =>
        rw [len_cons, len_one] at hl
        grind
      | cons c r =>
        rw [len_cons] at hl
        obtain ⟨k, s, hs, hb, e⟩ := at_mid (b :: c :: r) (left - strideQ a b) (ne_tail ne) (by simp) (by grind) (by grind)
        refine ⟨k + 1, s, by rw [prs_cons]; exact hs, hb, ?_⟩
        rw [strides_cons, List.take_succ_cons, sum_cons]
        grind
    · rw [if_neg hlt]
      have t0 : 0 ≤ left / strideQ a b := by
        rw [Rat.div_def]
        exact mul_nn h0 (Rat.le_of_lt (Rat.inv_pos.mpr hp))
      have e1 : strideQ a b * (left / strideQ a b) = left := by
        have : strideQ a b ≠ 0 := by grind
        grind
      have t1 : left / strideQ a b ≤ 1 := by
        rcases (Rat.le_total : left / strideQ a b ≤ 1 ∨ 1 ≤ left / strideQ a b) with z | z
        · exact z
        · rcases Rat.le_iff_lt_or_eq.mp z with z | z
          · have := Rat.mul_pos hp (show 0 < left / strideQ a b - 1 by grind)
            grind
          · grind
      refine ⟨0, (a, b), rfl, betw_way t0 t1, ?_⟩
      dsimp only
      rw [stride_way t0, e1, List.take_zero]
      show left = 0 + left
      grind
theorem take_sum_le : ∀ (l : List Rat), (∀ q ∈ l, 0 ≤ q) → ∀ i j, i ≤ j → sumQ (l.take i) ≤ sumQ (l.take j)
  | [], _, i, j, _ => by rw [List.take_nil, List.take_nil]; exact Rat.le_refl
  | a :: l, h, 0, j, _ => by
    have : 0 ≤ sumQ ((a :: l).take j) := by
      have key : ∀ (m : List Rat), (∀ q ∈ m, 0 ≤ q) → 0 ≤ sumQ m := by
        intro m
        induction m with
        | nil => intro _; exact Rat.le_refl
        | cons x m ih =>
          intro hm
          rw [sum_cons]
          have := hm x (by simp)
          have := ih fun q hq => hm q (by simp [hq])
          grind
      exact key _ fun q hq => h q (List.mem_of_mem_take hq)
    exact this
  | a :: l, h, i + 1, j + 1, hij => by
    rw [List.take_succ_cons, List.take_succ_cons, sum_cons, sum_cons]
    have := take_sum_le l (fun q hq => h q (by simp [hq])) i j (by omega)
    grind
  | a :: l, h, i + 1, 0, hij => by omega
theorem strides_nn (ps : List Pq) : ∀ q ∈ strides ps, 0 ≤ q := by
  intro q hq
  obtain ⟨p, _, rfl⟩ := List.mem_map.mp hq
  unfold strideQ
  have h1 := absQ_nonneg (p.2.1 - p.1.1)
  have h2 := absQ_nonneg (p.2.2 - p.1.2)
  grind
theorem stride_nn (a b : Pq) : 0 ≤ strideQ a b := by
  unfold strideQ
  have h1 := absQ_nonneg (b.1 - a.1)
  have h2 := absQ_nonneg (b.2 - a.2)
  grind
/-- how far along a point is, told by a step that has it -/
def farK (ps : List Pq) (k : Nat) (s : Pq × Pq) (q : Pq) : Rat := sumQ ((strides ps).take k) + strideQ s.1 q
theorem farK_le {ps : List Pq} {k k' : Nat} {s s' : Pq × Pq} {q : Pq} (ne : NE ps) (hs : (prs ps)[k]? = some s) (hs' : (prs ps)[k']? = some s') (hb : betwQ s.1 s.2 q = true) (hk : k ≤ k') : farK ps k s q ≤ farK ps k' s' q := by
  by_cases e : k = k'
  · subst e
    rw [hs] at hs'
    cases hs'
    exact Rat.le_refl
  · obtain ⟨s0, s1, eq⟩ := betw_share (ne s (List.mem_of_getElem? hs)) hb
    have e1 : strideQ s.1 q ≤ strideQ s.1 s.2 := by
      rw [eq, stride_way s0]
      have := mul_nn (stride_nn s.1 s.2) (show 0 ≤ 1 - shareQ s.1 s.2 q by grind)
      grind
    have e2 := sum_step (strides_at hs)
    have e3 := take_sum_le _ (strides_nn ps) (k + 1) k' (by omega)
    have e4 := stride_nn s'.1 q
    unfold farK
    grind
theorem prs_take {ps : List Pq} {k : Nat} : (prs ps).take k = prs (ps.take (k + 1)) := by
  apply List.ext_getElem?
  intro i
  by_cases hi : i < k
  · rw [List.getElem?_take_of_lt hi]
    by_cases hl : i < ps.length - 1
    · have hl2 : i < (prs ps).length := by rw [prs_len]; exact hl
      have e : (prs ps)[i]? = some (prs ps)[i] := List.getElem?_eq_getElem hl2
      obtain ⟨h1, h2⟩ := prs_at e
      rw [e, prs_mk (a := (prs ps)[i].1) (b := (prs ps)[i].2)]
      · rw [List.getElem?_take_of_lt (by omega)]; exact h1
      · rw [List.getElem?_take_of_lt (by omega)]; exact h2
    · rw [List.getElem?_eq_none (by rw [prs_len]; omega), List.getElem?_eq_none (by rw [prs_len, List.length_take]; omega)]
  · rw [List.getElem?_eq_none (by rw [List.length_take]; omega), List.getElem?_eq_none (by rw [prs_len, List.length_take]; omega)]
theorem len_take {ps : List Pq} {k : Nat} : lenQ (ps.take (k + 1)) = sumQ ((strides ps).take k) := by
  unfold lenQ strides
  rw [← List.map_take, prs_take]
/-- what length_at tells of a point on the track -/
theorem near_on {ps : List Pq} {q : Pq} {f : Rat} {k : Nat} {h : Pq} {s0 : Pq × Pq} {k0 : Nat} (ne : NE ps) (hn : NearTo ps q (ps.length - 1) f k h) (h0 : (prs ps)[k0]? = some s0) (hb : betwQ s0.1 s0.2 q = true) :
    ∃ s, (prs ps)[k]? = some s ∧ h = q ∧ betwQ s.1 s.2 q = true ∧ ∀ j t, (prs ps)[j]? = some t → betwQ t.1 t.2 q = true → k ≤ j := by
  obtain ⟨hk, s, hs, rfl, rfl, h1, h2⟩ := hn
  have k0l : k0 < ps.length - 1 := by have := (List.getElem?_eq_some_iff.mp h0).1; rw [prs_len] at this; exact this
  have z0 := (betw_zero (ne s0 (List.mem_of_getElem? h0))).mp hb
  have z1 := h1 k0 s0 k0l h0
  have z2 : 0 ≤ distQ s q := square_nn _ _
  have z3 : distQ s q = 0 := by
    have : distQ s0 q = 0 := z0
    grind
  have nes := ne s (List.mem_of_getElem? hs)
  have b1 := (betw_zero nes).mpr z3
  refine ⟨s, hs, step_on nes b1, b1, fun j t ht hbt => ?_⟩
  rcases Nat.lt_or_ge j k with lt | ge
  · have y := h2 j t lt ht
    have y2 := (betw_zero (ne t (List.mem_of_getElem? ht))).mp hbt
    have y3 : distQ t q = 0 := y2
    grind
  · exact ge
/-! what is left out by fewer -/
theorem far_start (a b : Pq) : farQ a b a ≤ 0 := by
  unfold farQ
  split
  · rw [square_self]; exact Rat.le_refl
  · rename_i h
    have := dist_best (p := a) h (u := 0) (by decide) (by decide)
    rw [way_zero, square_self] at this
    exact this
theorem far_end (a b : Pq) : farQ a b b ≤ 0 := by
  unfold farQ
  split
  · rename_i h
    rw [h, square_self]; exact Rat.le_refl
  · rename_i h
    have := dist_best (p := b) h (u := 1) (by decide) (by decide)
    rw [way_one, square_self] at this
    exact this
theorem far_le_start (a b p : Pq) : farQ a b p ≤ squareQ a p := by
  unfold farQ
  split
  · exact Rat.le_refl
  · rename_i h
    have := dist_best (p := p) h (u := 0) (by decide) (by decide)
    rw [way_zero] at this
    exact this
end BW
/-! T16O -/
/-! the law: what it stands on; its last part -/
namespace BW
open PySem PySem.Spec PyProof.Rows L2 Cal LamX
abbrev qLaw : Str := "law.<locals>.<lambda>"
abbrev gLaw (T : Tb) (k : Nat) (ea : Str → Addr) : Gi := { gi T k ea (tTop ea ++ tMid ea) with lq := qLaw }
abbrev NL : List Str := ["script", "dice", "turn", "one", "spot", "far", "place", "here", "k", "step", "gaps", "whole", "some", "there", "spots", "ahead", "many", "most", "less", "left", "end", "row", "gap", "j", "other"]
abbrev SLw : Sc := ⟨NL, defScope s_law, fun _ => true, true, true⟩
def lawB : List Stmt := match defBody s_law with
  | .For _ _ b _ _ :: _ => b
  | _ => []
abbrev LD (sc di tu on sp fa pl he k st ga wh so th ss ah ma mo le lf en ro gp jj ot : Sv) : List Sv := [sc, di, tu, on, sp, fa, pl, he, k, st, ga, wh, so, th, ss, ah, ma, mo, le, lf, en, ro, gp, jj, ot]
abbrev Md (o l : Addr) (a b d : Int) : Ms := [(o, .lst [.raw (.ref l)]), (l, di a b d)]
structure GridP (p : Pq) : Prop where
  ex : ∃ x y : Int, 0 ≤ x ∧ x < 5 ∧ 0 ≤ y ∧ y < 5 ∧ p = ((x : Rat), (y : Rat))
structure RowF (ps : List Pq) : Prop where
  ok : TrackOk ps
  len : ps.length ≤ 5
  gr : ∀ p ∈ ps, GridP p
theorem GridP.bt {p : Pq} (h : GridP p) : BtP 3 p := by
  obtain ⟨x, y, x0, x1, y0, y1, rfl⟩ := h
  exact ⟨bt_small x (by omega), bt_small y (by omega)⟩
theorem RowF.bt {ps : List Pq} (h : RowF ps) : ∀ p ∈ ps, BtP 3 p := fun p hp => (h.gr p hp).bt
theorem RowF.first {ps : List Pq} (h : RowF ps) : ∃ a b r, ps = a :: b :: r ∧ a ≠ b := by
  have h2 := h.ok.1
  match ps, h2, h.ok with
  | a :: b :: r, _, ok => exact ⟨a, b, r, rfl, ok.2 (a, b) (by rw [prs_cons]; exact List.mem_cons_self)⟩
theorem ne_pq {x y : Rat} : eqB true (pq x) (pq y) = !decide (x = y) := by
  show (!PyData.eqv (pq x) (pq y)) = _
  rw [pq_inj]
theorem eq_pq {x y : Rat} : eqB false (pq x) (pq y) = decide (x = y) := pq_inj
section
variable {T : Tb} {k : Nat} {ea : Str → Addr} {o l : Addr} {nx bk : Nx} {rt : PoE} {er : Er}
set_option smartUnfolding false in
theorem seg23 {ps : List Pq} {p : Pq} (hr : RowF ps) (hp : BtP 3 p ∨ BtP 4 p) (hn : ∀ ds a b d, nx ds (Md o l a b d)) (sc tu on fa pl he k' st ga wh so th ss ah ma mo le lf en gp jj ot : Sv) (a b d : Int) :
    wpSs (wpS (gLaw T k ea) SLw 39) (lawB.drop 23) (LD sc (.raw (.ref l)) tu on (dp p) fa pl he k' st ga wh so th ss ah ma mo le lf en (rL ps) gp jj ot) (Md o l a b d) nx rt bk nx er := by
  obtain ⟨p0, p1, r, rfl, ne⟩ := hr.first
  have b0 := hr.bt p0 (by simp)
  have a0 : atI ((p0 :: p1 :: r).map po) 0 = some (po p0) := at_row (i := 0) rfl
  have hp : BtP 160 p := hp.elim (fun h => h.mono (by decide)) fun h => h.mono (by decide)
  refine ⟨rfl, l, [_], [], a, b, d, 5, rfl, by decide, by decide, rfl, fun x y a' b' d' x0 x1 y0 y1 => ?_⟩
  have gb : BtP 3 ((x : Rat), (y : Rat)) := (GridP.mk ⟨x, y, x0, x1, y0, y1, rfl⟩).bt
  generalize ((x : Rat), (y : Rat)) = e at gb
  refine ⟨po p0, a0, rfl, p0, e, p, rfl, b0, gb, hp, po p0, a0, rfl, rfl, brS (fun z => ?_) fun z => ?_⟩
  · rw [eq_po] at z
    have ez : e = p0 := of_decide_eq_true z
    refine ⟨po p0, a0, rfl, p0, p, rfl, b0.mono (by decide), hp.mono (by decide), rfl, rfl, brS (fun w => ?_) fun w => hn _ _ _ _⟩
    rw [ne_pq] at w
    have : farQ p0 e p = squareQ p0 p := by unfold farQ; rw [if_pos ez.symm]
    simp [this] at w
  · rw [eq_po] at z
    have ez : ¬ e = p0 := of_decide_eq_false z
    have ez2 : p0 ≠ e := fun q => ez q.symm
    refine ⟨po p0, a0, rfl, p0, e, p, rfl, b0, gb, hp, ez2, rfl, _, _, rfl, (step_bt b0 gb hp).mono (by decide), hp.mono (by decide), rfl, rfl, brS (fun w => ?_) fun w => hn _ _ _ _⟩
    rw [ne_pq] at w
    have : farQ p0 e p = squareQ (stepQ p0 e p) p := by unfold farQ; rw [if_neg ez2]
    simp [this] at w
end
end BW
/-! T16P -/
/-! the law's part of fewer points -/
namespace BW
open PySem PySem.Spec PyProof.Rows L2 Cal LamX
theorem eqv_ps : ∀ ps : List Pq, PyData.eqvAll (ps.map po) (ps.map po) = true
  | [] => rfl
  | p :: ps => by
    show (PyData.eqv (po p) (po p) && PyData.eqvAll (ps.map po) (ps.map po)) = true
    rw [po_eqv, eqv_ps ps]
    simp
theorem neT (ps : List Pq) : eqB true (.tuple (ps.map po)) (.tuple (ps.map po)) = false := by
  show (!PyData.eqvAll (ps.map po) (ps.map po)) = false
  rw [eqv_ps]
  rfl
theorem neL (ps : List Pq) : eqB true (.list (ps.map po)) (.list (ps.map po)) = false := by
  show (!PyData.eqvAll (ps.map po) (ps.map po)) = false
  rw [eqv_ps]
  rfl
theorem row_at {ps : List Pq} {i : Nat} (h : i < ps.length) : atI (ps.map po) (i : Int) = some (po (atP ps i)) := at_atP h
theorem row_last {ps : List Pq} (h : 0 < ps.length) : atI (ps.map po) (-1) = some (po (atP ps (ps.length - 1))) :=
  at_neg (k := 1) (by decide) (by rw [List.length_map]; omega) (by
    rw [List.length_map, List.getElem?_map]
    unfold atP
    rw [List.getD_eq_getElem?_getD, List.getElem?_eq_getElem (by omega)]
    rfl)
theorem few_head {ps : List Pq} {m : Rat} {ms : List Nat} (h : FewOk ps m ms) : ∃ r, ms = 0 :: r := by
  match ms, h.z, h.up with
  | x :: r, hz, up =>
    rcases List.mem_cons.mp hz with e | hz
    · exact ⟨r, by rw [← e]⟩
    · have := (List.pairwise_cons.mp up).1 0 hz
      omega
theorem few_last {ps : List Pq} {m : Rat} {ms : List Nat} (h : FewOk ps m ms) : ms[ms.length - 1]? = some (ps.length - 1) := by
  obtain ⟨i, hi, e⟩ := List.getElem_of_mem h.e
  have mono := List.pairwise_iff_getElem.mp h.up
  by_cases hl : i = ms.length - 1
  · subst hl
    rw [List.getElem?_eq_getElem hi, e]
  · have := mono i (ms.length - 1) hi (by omega) (by omega)
    have h2 := h.lt _ (List.getElem_mem (show ms.length - 1 < ms.length by omega))
    omega
theorem few_two {ps : List Pq} {m : Rat} {ms : List Nat} (h : FewOk ps m ms) (h2 : 2 ≤ ps.length) : 2 ≤ ms.length := by
  obtain ⟨r, rfl⟩ := few_head h
  have := few_last h
  cases r with
  | nil =>
    have e : (0 : Nat) = ps.length - 1 := by simpa using this
    omega
  | cons x r => simp
theorem few_small {ps : List Pq} {m : Rat} {ms : List Nat} (h : FewOk ps m ms) : ms.length ≤ ps.length := nodup_lt _ _ (h.up.imp fun {a b} h => Nat.ne_of_lt h) h.lt
/-- each point of the row is near to what is left -/
theorem few_near {ps : List Pq} {m : Rat} {ms : List Nat} (h : FewOk ps m ms) (h2 : 2 ≤ ps.length) (hm : 0 ≤ m) {i : Nat} (hi : i < ps.length) {f : Rat} (hf : ∀ (j : Nat) (t : Pq × Pq), (prs (ms.map (atP ps)))[j]? = some t → f ≤ farQ t.1 t.2 (atP ps i)) : f ≤ m := by
  have step : ∀ j a b, ms[j]? = some a → ms[j + 1]? = some b → f ≤ offQ ps a b i := fun j a b h1 h3 =>
    hf j (atP ps a, atP ps b) (prs_mk (by rw [List.getElem?_map, h1]; rfl) (by rw [List.getElem?_map, h3]; rfl))
  rcases h.cov i hi with hc | ⟨j, a, b, e1, e2, e3⟩
  · obtain ⟨j, hj, ej⟩ := List.getElem_of_mem hc
    have l2 := few_two h h2
    have ej2 : ms[j]? = some i := by rw [List.getElem?_eq_getElem hj, ej]
    by_cases hl : j + 1 < ms.length
    · have := step j i _ ej2 (List.getElem?_eq_getElem hl)
      have e := far_start (atP ps i) (atP ps ms[j + 1])
      unfold offQ at this
      grind
    · have hj1 : j - 1 + 1 = j := by omega
      have := step (j - 1) _ i (List.getElem?_eq_getElem (show j - 1 < ms.length by omega)) (by rw [hj1]; exact ej2)
      have e := far_end (atP ps ms[j - 1]) (atP ps i)
      unfold offQ at this
      grind
  · have := step j a b e1 e2
    grind
theorem atP_mem {ps : List Pq} {i : Nat} (h : i < ps.length) : atP ps i ∈ ps := by
  unfold atP
  rw [List.getD_eq_getElem?_getD, List.getElem?_eq_getElem h]
  exact List.getElem_mem h
theorem sq_le {x : Rat} (h1 : -4 ≤ x) (h2 : x ≤ 4) : x * x ≤ 16 := by
  have := mul_nn (show 0 ≤ 4 - x by grind) (show 0 ≤ 4 + x by grind)
  grind
theorem cast_le {a b : Int} (h : a ≤ b) : (a : Rat) ≤ (b : Rat) := Rat.intCast_le_intCast.mpr h
theorem grid_near {a p : Pq} (ha : GridP a) (hp : GridP p) : squareQ a p ≤ 99 := by
  obtain ⟨x, y, x0, x1, y0, y1, rfl⟩ := ha
  obtain ⟨u, v, u0, u1, v0, v1, rfl⟩ := hp
  unfold squareQ
  dsimp only
  have e1 : ((u : Rat) - (x : Rat)) = ((u - x : Int) : Rat) := (Rat.intCast_sub u x).symm
  have e2 : ((v : Rat) - (y : Rat)) = ((v - y : Int) : Rat) := (Rat.intCast_sub v y).symm
  rw [e1, e2]
  have k1 := cast_le (show -4 ≤ u - x by omega)
  have k2 := cast_le (show u - x ≤ 4 by omega)
  have k3 := cast_le (show -4 ≤ v - y by omega)
  have k4 := cast_le (show v - y ≤ 4 by omega)
  have c4 : ((4 : Int) : Rat) = 4 := rfl
  have c5 : ((-4 : Int) : Rat) = -4 := rfl
  rw [c4] at k2 k4
  rw [c5] at k1 k3
  have s1 := sq_le k1 k2
  have s2 := sq_le k3 k4
  grind
theorem RowF.far {ps : List Pq} (h : RowF ps) : AllFar ps 99 := fun a b p ha hb hp => by
  have e1 := far_le_start (atP ps a) (atP ps b) (atP ps p)
  have e2 := grid_near (h.gr _ (atP_mem ha)) (h.gr _ (atP_mem hp))
  unfold offQ
  grind
/-- one more of the row is gone through -/
theorem sub_step {ms : List Nat} {i c : Nat} (up : ms.Pairwise (· < ·)) (h : ∀ j x, ms[j]? = some x → x < i → j < c) : (∃ x, ms[c]? = some x ∧ x ≠ i ∧ ∀ j y, ms[j]? = some y → y < i + 1 → j < c) ∨ (∀ j y, ms[j]? = some y → y < i + 1 → j < c + 1) := by
  refine .inr fun j y hj hy => ?_
  by_cases e : y < i
  · have := h j y hj e
    omega
  · have ey : y = i := by omega
    subst ey
    have hjl := (List.getElem?_eq_some_iff.mp hj).1
    rcases Nat.lt_or_ge c j with lt | ge
    · have mono := List.pairwise_iff_getElem.mp up c j (by omega) hjl lt
      have v := (List.getElem?_eq_some_iff.mp hj).2
      have := h c ms[c] (List.getElem?_eq_getElem (by omega)) (by omega)
      omega
    · omega
theorem sub_skip {ms : List Nat} {i c : Nat} (up : ms.Pairwise (· < ·)) (h : ∀ j x, ms[j]? = some x → x < i → j < c) (hc : ∀ x, ms[c]? = some x → x ≠ i) : ∀ j y, ms[j]? = some y → y < i + 1 → j < c := by
  intro j y hj hy
  by_cases e : y < i
  · exact h j y hj e
  · have ey : y = i := by omega
    subst ey
    have hjl := (List.getElem?_eq_some_iff.mp hj).1
    rcases Nat.lt_trichotomy j c with lt | eq | gt
    · exact lt
    · subst eq
      exact absurd rfl (hc y hj)
    · have mono := List.pairwise_iff_getElem.mp up c j (by omega) hjl gt
      have v := (List.getElem?_eq_some_iff.mp hj).2
      have := h c ms[c] (List.getElem?_eq_getElem (by omega)) (by omega)
      omega
end BW
/-! T16Q -/
namespace BW
open PySem PySem.Spec PyProof.Rows L2 Cal LamX
theorem nilS {f : StF} {ds : List Sv} {M : Ms} {nx bk ct : Nx} {rt : PoE} {er : Er} (h : nx ds M) : wpSs f [] ds M nx rt bk ct er := h
section
variable {T : Tb} {k : Nat} {ea : Str → Addr} {o l : Addr} {nx bk : Nx} {rt : PoE} {er : Er}
theorem eqL_nil {xs : List D} : eqB true (.list xs) (.list []) = !xs.isEmpty := ne_nil
theorem seg22 {ps : List Pq} {p : Pq} {m : Rat} {ms : List Nat} (hr : RowF ps) (hp : BtP 3 p ∨ BtP 4 p) (hm : 0 ≤ m) (fm : Fit m) (fo : FewOk ps m ms) (hn : ∀ ds a b d, nx ds (Md o l a b d)) (sc tu on fa pl he k' st ga wh so th ss ah ma lf en gp jj ot : Sv) (a b d : Int) :
    wpSs (wpS (gLaw T k ea) SLw 39) (lawB.drop 22) (LD sc (.raw (.ref l)) tu on (dp p) fa pl he k' st ga wh so th ss ah ma (dq m) (rT (ms.map (atP ps))) lf en (rL ps) gp jj ot) (Md o l a b d) nx rt bk nx er := by
  have h2 := hr.ok.1
  have h5 := hr.len
  have ml := few_small fo
  have m2 := few_two fo h2
  have mb : ∀ q ∈ ms.map (atP ps), BtP 3 q := fun q hq => by
    obtain ⟨i, hi, rfl⟩ := List.mem_map.mp hq
    exact atP_bt hr.bt (fo.lt i hi)
  refine ⟨by rw [dats_len, List.length_map]; omega, fun i acc M' => acc = [] ∧ M' = Md o l a b d, ⟨rfl, rfl⟩, ?_, ?_, ?_⟩
  · rintro i acc M' hi ⟨rfl, rfl⟩
    exact ⟨trivial, Nat.zero_le _⟩
  · rintro Dl i r acc M' hr2 ⟨rfl, rfl⟩
    obtain ⟨q, hq, rfl⟩ := dats_at hr2
    have hi : i < ps.length := (List.getElem?_eq_some_iff.mp hq).1
    have eq1 : q = atP ps i := by
      unfold atP
      rw [List.getD_eq_getElem?_getD, hq]
      rfl
    have qb := hr.bt q (List.mem_of_getElem? hq)
    refine ⟨rfl, ms.map (atP ps), q, rfl, by rw [List.length_map]; exact m2, by rw [List.length_map]; omega, mb, qb, fun f ff hf => ?_⟩
    have key : f ≤ m := few_near fo h2 hm hi (by rw [← eq1]; exact hf)
    refine ⟨rfl, m, f, rfl, fm, ff, _, rfl, brS (fun w => ?_) fun w => ⟨rfl, rfl⟩⟩
    have := of_decide_eq_true w
    exact absurd this (Rat.not_lt.mpr key)
  · rintro acc M' ⟨rfl, rfl⟩
    refine ⟨Nat.zero_le _, .inl ⟨[], rfl, .inl ⟨rfl, rfl, ?_⟩⟩⟩
    refine brS (fun w => absurd w (by decide)) fun w => ?_
    refine ⟨rfl, ps, 99, .inl rfl, by omega, hr.bt, ⟨by decide, by decide⟩, hr.ok, fun ms2 fo2 => ?_⟩
    have e2 := fo2.far hr.far
    subst e2
    refine ⟨po (atP ps 0), row_at (i := 0) (by omega), po (atP ps (ps.length - 1)), row_last (by omega), (shaped_ps _).2, rfl, brS (fun w => ?_) fun w => ?_⟩
    · have := neT ([0, ps.length - 1].map (atP ps))
      rw [show eqB true (.tuple (([0, ps.length - 1].map (atP ps)).map po)) (.tuple [po (atP ps 0), po (atP ps (ps.length - 1))]) = false from this] at w
      cases w
    · refine nilS ?_
      exact seg23 hr hp hn _ _ _ _ _ _ _ _ _ _ _ _ _ _ _ _ _ _ _ _ _ _ _ _ _
end
end BW
/-! T16R -/
namespace BW
open PySem PySem.Spec PyProof.Rows L2 Cal LamX
theorem half_raw {r : Int} (h0 : 0 ≤ r) (h1 : r < 11) : Bt 4 (Rat.divInt r 2) ∧ 0 ≤ Rat.divInt r 2 := by
  refine ⟨bt_div (by decide) (by show r.natAbs < 16; omega) (by decide), ?_⟩
  rw [Rat.divInt_nonneg_iff_of_pos_right (by decide)]
  exact h0
theorem drop_map {ps : List Pq} {ms : List Nat} {c : Nat} : (((ms.map (atP ps)).drop c).map po).drop 1 = ((ms.map (atP ps)).drop (c + 1)).map po := by
  rw [← List.map_drop, List.drop_drop]
section
variable {T : Tb} {k : Nat} {ea : Str → Addr} {o l : Addr} {nx bk : Nx} {rt : PoE} {er : Er}
theorem seg16 {ps : List Pq} {p : Pq} (hr : RowF ps) (hp : BtP 3 p ∨ BtP 4 p) (hn : ∀ ds a b d, nx ds (Md o l a b d)) (sc tu on fa pl he k' st ga wh so th ss ah ma mo le lf en gp jj ot : Sv) (a b d : Int) :
    wpSs (wpS (gLaw T k ea) SLw 39) (lawB.drop 16) (LD sc (.raw (.ref l)) tu on (dp p) fa pl he k' st ga wh so th ss ah ma mo le lf en (rL ps) gp jj ot) (Md o l a b d) nx rt bk nx er := by
  have h2 := hr.ok.1
  have h5 := hr.len
  refine ⟨rfl, l, [_], [], a, b, d, 9, rfl, by decide, by decide, rfl, fun r a1 b1 d1 r0 r1 => ⟨rfl, r, 2, rfl, .inr ⟨by decide, by decide, ?_⟩⟩⟩
  obtain ⟨mb, m0⟩ := half_raw r0 (show r < 11 by omega)
  generalize Rat.divInt r 2 = m at mb m0
  have fm : Fit m := mb.mono (by decide)
  refine ⟨rfl, ps, m, .inl rfl, by omega, hr.bt, fm, hr.ok, fun ms fo => ?_⟩
  have ml := few_small fo
  have m2 := few_two fo h2
  obtain ⟨mr, em⟩ := few_head fo
  have mlast := few_last fo
  have e0 : (ms.map (atP ps))[0]? = some (atP ps 0) := by rw [em]; rfl
  have e1 : (ms.map (atP ps))[(ms.map (atP ps)).length - 1]? = some (atP ps (ps.length - 1)) := by rw [List.length_map, List.getElem?_map, mlast]; rfl
  have i0 : atI ((ms.map (atP ps)).map po) 0 = some (po (atP ps 0)) := at_row (i := 0) e0
  have i1 : atI ((ms.map (atP ps)).map po) (-1) = some (po (atP ps (ps.length - 1))) := at_neg (k := 1) (by decide) (by rw [List.length_map, List.length_map]; omega) (by
    rw [List.length_map, List.getElem?_map, e1]
    rfl)
  refine ⟨po (atP ps 0), i0, po (atP ps 0), row_at (i := 0) (by omega), rfl, rfl, brS (fun w => ?_) fun w => ⟨po (atP ps (ps.length - 1)), i1, po (atP ps (ps.length - 1)), row_last (by omega), rfl, rfl, brS (fun w => ?_) fun w => ?_⟩⟩
  · rw [ne_po] at w
    simp at w
  · rw [ne_po] at w
    simp at w
  refine nilS ?_
  refine ⟨by rw [dats_len, List.length_map, List.length_map]; omega, .inl ⟨(ms.map (atP ps)).map po, rfl, ?_⟩⟩
  refine ⟨fun i ds M' => M' = Md o l a1 b1 d1 ∧ ∃ (on lf : Sv) (c : Nat) (xs : List D), ds = LD sc (.raw (.ref l)) tu on (dp p) fa pl he k' st ga wh so th ss ah ma (dq m) (rT (ms.map (atP ps))) (.dat (.list xs)) en (rL ps) gp jj ot ∧ xs = ((ms.map (atP ps)).drop c).map po ∧ ∀ j x, ms[j]? = some x → x < i → j < c, ⟨rfl, on, lf, 0, (ms.map (atP ps)).map po, rfl, by rw [List.drop_zero], fun j x _ h => absurd h (Nat.not_lt_zero x)⟩, fun _ _ _ _ _ => trivial, ?_, ?_⟩
  · rintro i r ds M' hr2 ⟨rfl, on, lf, c, xs, rfl, ex, hc⟩
    obtain ⟨q, hq, rfl⟩ := dats_at hr2
    have hi : i < ps.length := (List.getElem?_eq_some_iff.mp hq).1
    have eq1 : q = atP ps i := by
      unfold atP
      rw [List.getD_eq_getElem?_getD, hq]
      rfl
    have sx : SeqAt.shaped (.list xs) = true := by rw [ex]; exact (shaped_ps _).1
    refine Or.inl ⟨sx, rfl, brS (fun w => ?_) fun w => ?_⟩
    · rw [eqL_nil] at w
      have cl : c < ms.length := by
        rcases Nat.lt_or_ge c ms.length with h | h
        · exact h
        · rw [ex, List.drop_eq_nil_of_le (by rw [List.length_map]; exact h)] at w
          cases w
      have hd : xs[0]? = some (po (atP ps ms[c])) := by
        rw [ex, List.getElem?_map, List.getElem?_drop, List.getElem?_map, Nat.add_zero, List.getElem?_eq_getElem cl]
        rfl
      refine ⟨po (atP ps ms[c]), at_nat (k := 0) hd, rfl, rfl, brS (fun w2 => ?_) fun w2 => ?_⟩
      · refine ⟨rfl, dp q, .dat .none, c + 1, Cal.cutD xs (some 1) none, rfl, by rw [cut1, ex, drop_map], ?_⟩
        rcases sub_step fo.up hc with ⟨x, hx, hne, hz⟩ | hz
        · exact fun j y h1 h3 => Nat.lt_succ_of_lt (hz j y h1 h3)
        · exact hz
      · refine ⟨rfl, dp q, .dat .none, c, xs, rfl, ex, sub_skip fo.up hc fun x hx e => ?_⟩
        rw [eq_po] at w2
        have hx2 : ms[c] = x := by
          rw [List.getElem?_eq_getElem cl] at hx
          exact Option.some.inj hx
        have := of_decide_eq_false w2
        exact this (by rw [eq1, hx2, e])
    · rw [eqL_nil] at w
      have cl : ms.length ≤ c := by
        rcases Nat.lt_or_ge c ms.length with h | h
        · exfalso
          have hd : xs[0]? = some (po (atP ps ms[c])) := by
            rw [ex, List.getElem?_map, List.getElem?_drop, List.getElem?_map, Nat.add_zero, List.getElem?_eq_getElem h]
            rfl
          cases xs with
          | nil => cases hd
          | cons x xs => cases w
        · exact h
      exact ⟨rfl, dp q, .dat .none, c, xs, rfl, ex, fun j y h1 _ => by have := (List.getElem?_eq_some_iff.mp h1).1; omega⟩
  · rintro ds M' ⟨rfl, on, lf, c, xs, rfl, ex, hc⟩
    have en2 : (dats (ps.map po)).length = ps.length := by rw [dats_len, List.length_map]
    rw [en2] at hc
    have cl : ms.length ≤ c := by
      rcases Nat.lt_or_ge c ms.length with h | h
      · have := hc c ms[c] (List.getElem?_eq_getElem h) (fo.lt _ (List.getElem_mem h))
        omega
      · exact h
    have xn : xs = [] := by rw [ex, List.drop_eq_nil_of_le (by rw [List.length_map]; exact cl)]; rfl
    subst xn
    refine Or.inl ⟨rfl, rfl, brS (fun w => absurd w (by decide)) fun w => ?_⟩
    refine nilS ?_
    exact seg22 hr hp m0 fm fo hn ..
end
end BW
/-! T16S -/
namespace BW
open PySem PySem.Spec PyProof.Rows L2 Cal LamX
section
variable {T : Tb} {k : Nat} {ea : Str → Addr} {o l : Addr} {nx bk : Nx} {rt : PoE} {er : Er}
theorem seg14 {ps : List Pq} {p : Pq} (hr : RowF ps) (hp : BtP 3 p ∨ BtP 4 p) (hn : ∀ ds a b d, nx ds (Md o l a b d)) (sc tu on fa pl he k' st ga so th ss ah ma mo le lf en gp jj ot : Sv) (a b d : Int) :
    wpSs (wpS (gLaw T k ea) SLw 39) (lawB.drop 14) (LD sc (.raw (.ref l)) tu on (dp p) fa pl he k' st ga (dq (lenQ ps)) so th ss ah ma mo le lf en (rL ps) gp jj ot) (Md o l a b d) nx rt bk nx er := by
  have h2 := hr.ok.1
  have h5 := hr.len
  have wb : Bt 65 (lenQ ps) := (len_bt hr.bt).mono (by omega)
  refine ⟨rfl, l, [_], [], a, b, d, 4, rfl, by decide, by decide, rfl, fun r a1 b1 d1 r0 r1 => ?_⟩
  obtain ⟨rn, rfl⟩ := Int.eq_ofNat_of_zero_le r0
  have eN : (((2 + rn : Nat) : Nat) : Int) = 2 + (rn : Int) := by omega
  have n10 : 2 + rn ≤ 10 := by omega
  refine ⟨rfl, ps, 2 + rn, by rw [eN]; rfl, h5, n10, hr.bt, hr.ok, fun z => absurd z (by omega), fun _ => ?_⟩
  refine ⟨by rw [dats_len, List.length_map, List.length_map, List.length_range]; omega, .inl ⟨((List.range (2 + rn)).map (evenQ ps (2 + rn))).map po, rfl, ?_⟩⟩
  refine ⟨⟨by omega, by omega⟩, by rw [rng_len]; omega, fun i acc M' => M' = Md o l a1 b1 d1 ∧ acc = dats (((List.range i).map (evenQ ps (2 + rn))).map po), ⟨rfl, rfl⟩, ?_, ?_, ?_⟩
  · rintro i acc M' hi ⟨rfl, rfl⟩
    exact ⟨trivial, by rw [dats_len, List.length_map, List.length_map, List.length_range]; exact Nat.le_refl _⟩
  · rintro Dl i r acc M' hr2 ⟨rfl, rfl⟩
    obtain ⟨hi, rfl⟩ := rng_at hr2
    have hi2 : i < 2 + rn := by omega
    obtain ⟨sh, s0⟩ := even_share (many := 2 + rn) (by omega) n10 hi2
    have ei : (0 : Int) + ((i : Nat) : Int) = ((i : Nat) : Int) := by omega
    have eL : (2 : Int) + (rn : Int) - 1 = ((2 + rn : Nat) : Int) - 1 := by omega
    have sb : Bt 4 (Rat.divInt (0 + ((i : Nat) : Int)) (2 + (rn : Int) - 1)) := by rw [ei, eL]; exact sh.bt
    have e2 : Rat.divInt (0 + ((i : Nat) : Int)) (2 + (rn : Int) - 1) = Rat.divInt (i : Nat) (((2 + rn : Nat) : Int) - 1) := by rw [ei, eL]
    refine ⟨_, rfl, rfl, 0 + ((i : Nat) : Int), 2 + (rn : Int) - 1, rfl, .inr ⟨by omega, by
      have : (2 + (rn : Int) - 1).natAbs < 2 ^ 4 := by show _ < 16; omega
      exact Nat.lt_of_lt_of_le this (Nat.pow_le_pow_right (by decide) (by decide)), rfl, lenQ ps, _, _, rfl, raw_pq (sb.mono (by decide)), wb.mono (by decide), rfl, ps, _, .inl rfl, by omega, hr.bt, (wb.mul sb).mono (by decide), hr.ok, fun w => absurd w (Rat.not_lt.mpr (by rw [e2]; exact Rat.mul_nonneg (len_nonneg ps) s0)), fun _ => ⟨_, rfl, rfl, ?_⟩⟩⟩
    rw [e2, List.range_succ, List.map_append, List.map_append]
    unfold dats
    rw [List.map_append]
    rfl
  · rintro acc M' ⟨rfl, rfl⟩
    rw [rng_len]
    have en : ((2 : Int) + (rn : Int)).toNat = 2 + rn := by omega
    rw [en]
    have ne := neL ((List.range (2 + rn)).map (evenQ ps (2 + rn)))
    have sh := (shaped_ps ((List.range (2 + rn)).map (evenQ ps (2 + rn)))).1
    have ll : (((List.range (2 + rn)).map (evenQ ps (2 + rn))).map po).length = 2 + rn := by rw [List.length_map, List.length_map, List.length_range]
    generalize ((List.range (2 + rn)).map (evenQ ps (2 + rn))).map po = xs at *
    refine ⟨by rw [dats_len]; omega, .inl ⟨xs, rfl, sh, sh, brS (fun w => ?_) fun w => ?_⟩⟩
    · rw [ne] at w
      cases w
    · refine nilS ?_
      exact seg16 hr hp hn ..
end
end BW
/-! T16T -/
namespace BW
open PySem PySem.Spec PyProof.Rows L2 Cal LamX
theorem eight_raw {r : Int} (h0 : 0 ≤ r) (h1 : r < 9) : Bt 4 (Rat.divInt r 8) ∧ 0 ≤ Rat.divInt r 8 ∧ Rat.divInt r 8 ≤ 1 := by
  refine ⟨bt_div (by decide) (by show r.natAbs < 16; omega) (by decide), ?_, ?_⟩
  · rw [Rat.divInt_nonneg_iff_of_pos_right (by decide)]
    exact h0
  · have : r = 0 ∨ r = 1 ∨ r = 2 ∨ r = 3 ∨ r = 4 ∨ r = 5 ∨ r = 6 ∨ r = 7 ∨ r = 8 := by omega
    rcases this with h | h | h | h | h | h | h | h | h <;> (rw [h]; decide +kernel)
abbrev hasB (ps : List Pq) (q : Pq) (k : Nat) : Bool := betwQ (atP ps k) (atP ps (k + 1)) q
abbrev nums (ks : List Nat) : List D := ks.map fun k => .int (k : Nat)
def spotsQ (ps : List Pq) (q : Pq) (n : Nat) : List Nat := (List.range n).filter (hasB ps q)
theorem spots_len (ps : List Pq) (q : Pq) (n : Nat) : (spotsQ ps q n).length ≤ n := by
  have := List.length_filter_le (hasB ps q) (List.range n)
  rw [List.length_range] at this
  exact this
theorem spots_in {ps : List Pq} {q : Pq} {i : Nat} (h : hasB ps q i = true) : spotsQ ps q (i + 1) = spotsQ ps q i ++ [i] := by
  unfold spotsQ
  rw [List.range_succ, List.filter_append, List.filter_cons, if_pos h]
  rfl
theorem spots_out {ps : List Pq} {q : Pq} {i : Nat} (h : ¬ hasB ps q i = true) : spotsQ ps q (i + 1) = spotsQ ps q i := by
  unfold spotsQ
  rw [List.range_succ, List.filter_append, List.filter_cons, if_neg h, List.filter_nil, List.append_nil]
theorem spots_mem {ps : List Pq} {q : Pq} {n j : Nat} : j ∈ spotsQ ps q n ↔ j < n ∧ hasB ps q j = true := by
  unfold spotsQ
  rw [List.mem_filter, List.mem_range]
theorem spots_has (ps : List Pq) (q : Pq) (n : Nat) : ∀ j ∈ spotsQ ps q n, j < n ∧ hasB ps q j = true := fun j h => spots_mem.mp h
def farN (ps : List Pq) (k : Nat) (q : Pq) : Rat := sumQ ((strides ps).take k) + strideQ (atP ps k) q
theorem atP_at {ps : List Pq} {i : Nat} (h : i < ps.length) : ps[i]? = some (atP ps i) := by
  unfold atP
  rw [List.getD_eq_getElem?_getD, List.getElem?_eq_getElem h]
  rfl
theorem stride_app {ps : List Pq} {i : Nat} (h : i + 1 < ps.length) : dats (((strides ps).take i).map pq) ++ [dq (strideQ (atP ps i) (atP ps (i + 1)))] = dats (((strides ps).take (i + 1)).map pq) := by
  have e := strides_at (prs_mk (atP_at (show i < ps.length by omega)) (atP_at h))
  rw [takeP e]
  unfold dats
  rw [List.map_append, List.map_append]
  rfl
theorem at_bt0 : ∀ (r : List Pq) (a b : Pq) (left : Rat) (n : Nat), (∀ p ∈ a :: b :: r, BtP 3 p) → Bt n left → BtP (n + 16 * r.length + 28) (atQ (a :: b :: r) left)
  | r, a, b, left, n, h, hl => by
    rw [atQ2]
    have ha := h a (by simp)
    have hb := h b (by simp)
    have sb : Bt 15 (strideQ a b) := (stride_bt ha hb).mono (by decide)
    split
    · cases r with
      | nil => rw [atQ1]; exact hb.mono (by omega)
      | cons c r =>
        refine (at_bt0 r b c (left - strideQ a b) (n + 16) (fun p hp => h p (List.mem_cons_of_mem _ hp)) ((hl.sub sb).mono (by omega))).mono ?_
        rw [List.length_cons]
        omega
    · exact (way_bt ha hb (hl.div sb)).mono (by omega)
theorem at_bt {ps : List Pq} {left : Rat} (h : ∀ p ∈ ps, BtP 3 p) (hl : Bt 70 left) (h5 : ps.length ≤ 5) : BtP 160 (atQ ps left) := by
  match ps, h, h5 with
  | [], _, _ => unfold atQ; exact ⟨⟨by decide, by decide⟩, ⟨by decide, by decide⟩⟩
  | [a], h, _ => rw [atQ1]; exact (h a (by simp)).mono (by decide)
  | a :: b :: r, h, h5 => exact (at_bt0 r a b left 70 h hl).mono (by rw [List.length_cons, List.length_cons] at h5; omega)
theorem far_fit2 {ps : List Pq} {q : Pq} {j : Nat} (hb : ∀ p ∈ ps, BtP 3 p) (qb : BtP 160 q) (h5 : ps.length ≤ 5) (hj : j < ps.length - 1) : Fit (farN ps j q) := by
  have h1 : ∀ z ∈ (strides ps).take j, Bt 15 z := fun z hz => strides_bt hb z (List.mem_of_mem_take hz)
  have h2 := sum_bt h1
  have h3 := stride_bt (atP_bt hb (show j < ps.length by omega)) qb
  exact (h2.add h3).mono (by rw [List.length_take, strides_len]; unfold big; omega)
theorem shaped_q (s : Rat) : SeqAt.shaped (pq s) = true := rfl
theorem shaped_fs {ks : List Nat} {f : Nat → Rat} : SeqAt.shaped (.list (ks.map fun k => pq (f k))) = true := (shaped_of (n := 1) (by decide) fun x hx => by
  obtain ⟨p, _, rfl⟩ := List.mem_map.mp hx
  exact ⟨rfl, by show max 0 (max 0 0) + 1 ≤ 1; decide⟩).1
def lessB (ps : List Pq) (q : Pq) (k j : Nat) : Bool := decide (farN ps j q < farN ps k q)
def minB (ps : List Pq) (ks : List Nat) (q : Pq) (k : Nat) : Bool := (ks.filter (lessB ps q k)).isEmpty
section
variable {T : Tb} {k : Nat} {ea : Str → Addr} {o l : Addr} {nx bk : Nx} {rt : PoE} {er : Er}
theorem seg13 {ps : List Pq} {p q : Pq} {s : Rat} {k0 : Nat} {t0 : Pq × Pq} {ks : List Nat} (hr : RowF ps) (hp : BtP 3 p ∨ BtP 4 p) (hn : ∀ ds a b d, nx ds (Md o l a b d)) (qb : BtP 160 q) (e0 : (prs ps)[k0]? = some t0) (bt0 : betwQ t0.1 t0.2 q = true) (es : s = sumQ ((strides ps).take k0) + strideQ t0.1 q) (kl : ks.length ≤ ps.length - 1) (kb : ∀ j ∈ ks, j < ps.length - 1 ∧ hasB ps q j = true) (kk : ∀ j, j < ps.length - 1 → hasB ps q j = true → j ∈ ks) (sc tu on fa pl he k' st ga ma mo le lf en gp jj ot : Sv) (a b d : Int) :
    wpSs (wpS (gLaw T k ea) SLw 39) (lawB.drop 13) (LD sc (.raw (.ref l)) tu on (dp p) fa pl he k' st ga (dq (lenQ ps)) (dq s) (dp q) (.dat (.list (nums ks))) (.dat (.list (ks.map fun k => pq (farN ps k q)))) ma mo le lf en (rL ps) gp jj ot) (Md o l a b d) nx rt bk nx er := by
  have h2 := hr.ok.1
  have h5 := hr.len
  have k0l : k0 < ps.length - 1 := by have := (List.getElem?_eq_some_iff.mp e0).1; rw [prs_len] at this; exact this
  have p0 := prs_at e0
  have t1 : atP ps k0 = t0.1 := Option.some.inj ((atP_at (by omega)).symm.trans p0.1)
  have t2 : atP ps (k0 + 1) = t0.2 := Option.some.inj ((atP_at (by omega)).symm.trans p0.2)
  have hk0 : k0 ∈ ks := kk k0 k0l (by show betwQ _ _ _ = true; rw [t1, t2]; exact bt0)
  have es2 : farN ps k0 q = s := by rw [es]; unfold farN; rw [t1]
  have fitN : ∀ j ∈ ks, Fit (farN ps j q) := fun j hj => far_fit2 hr.bt qb h5 (kb j hj).1
  refine ⟨shaped_q s, shaped_fs, brS (fun w => ?_) fun w => ?_⟩
  · have : ((ks.map fun k => pq (farN ps k q)).any fun z => PyData.eqv z (pq s)) = true := List.any_eq_true.mpr ⟨pq (farN ps k0 q), List.mem_map.mpr ⟨k0, hk0, rfl⟩, by rw [es2, pq_inj]; exact decide_eq_true rfl⟩
    have w2 : (!((ks.map fun k => pq (farN ps k q)).any fun z => PyData.eqv z (pq s))) = true := w
    rw [this] at w2
    cases w2
  · refine ⟨rfl, ps, q, .inl rfl, by omega, hr.bt, qb, hr.ok, fun f k2 h s2 z y => ?_⟩
    obtain ⟨s3, y3, eh, bt3, mini⟩ := near_on hr.ok.2 z e0 bt0
    have e23 : s2 = s3 := Option.some.inj (y.symm.trans y3)
    have k2l : k2 < ps.length - 1 := by have := (List.getElem?_eq_some_iff.mp y).1; rw [prs_len] at this; exact this
    have q0 := prs_at y
    have u1 : atP ps k2 = s2.1 := Option.some.inj ((atP_at (by omega)).symm.trans q0.1)
    have u2 : atP ps (k2 + 1) = s2.2 := Option.some.inj ((atP_at (by omega)).symm.trans q0.2)
    have hk2 : k2 ∈ ks := kk k2 k2l (by show betwQ _ _ _ = true; rw [u1, u2, e23]; exact bt3)
    have hv : lenQ (ps.take (k2 + 1)) + strideQ s2.1 h = farN ps k2 q := by rw [len_take, eh, ← u1]; rfl
    have least : ∀ j ∈ ks, farN ps k2 q ≤ farN ps j q := fun j hj => by
      obtain ⟨jl, jb⟩ := kb j hj
      have ej : (prs ps)[j]? = some (atP ps j, atP ps (j + 1)) := prs_mk (atP_at (by omega)) (atP_at (by omega))
      have := farK_le hr.ok.2 y ej (by rw [e23]; exact bt3) (mini j _ ej jb)
      unfold farK at this
      unfold farN
      rw [u1]
      exact this
    rw [hv]
    refine ⟨by rw [dats_len, List.length_map]; omega, fun i acc M' => M' = Md o l a b d ∧ acc = dats (((ks.take i).filter (minB ps ks q)).map fun k => pq (farN ps k q)), ⟨rfl, rfl⟩, ?_, ?_, ?_⟩
    · rintro i acc M' hi ⟨rfl, rfl⟩
      refine ⟨trivial, ?_⟩
      rw [dats_len, List.length_map]
      have := List.length_filter_le (minB ps ks q) (ks.take i)
      rw [List.length_take] at this
      omega
    · rintro Dl i r acc M' hr2 ⟨rfl, rfl⟩
      obtain ⟨j, hj, rfl⟩ := dats_at hr2
      have jm := List.mem_of_getElem? hj
      refine ⟨by rw [dats_len, List.length_map]; omega, fun i2 acc2 M2 => M2 = (Dl, MO.lst (dats (((ks.take i).filter (minB ps ks q)).map fun k => pq (farN ps k q)))) :: Md o l a b d ∧ acc2 = dats ((List.replicate ((ks.take i2).filter (lessB ps q j)).length (1 : Int)).map PyData.int), ⟨rfl, rfl⟩, ?_, ?_, ?_⟩
      · rintro i2 acc2 M2 hi2 ⟨rfl, rfl⟩
        refine ⟨trivial, ?_⟩
        rw [dats_len, List.length_map, List.length_replicate]
        have := List.length_filter_le (lessB ps q j) (ks.take i2)
        rw [List.length_take] at this
        omega
      · rintro D2 i2 r2 acc2 M2 hr3 ⟨rfl, rfl⟩
        obtain ⟨j2, hj2, rfl⟩ := dats_at hr3
        have jm2 := List.mem_of_getElem? hj2
        refine ⟨rfl, _, _, rfl, fitN _ jm2, fitN _ jm, _, rfl, brS (fun w2 => ?_) fun w2 => ?_⟩
        · refine ⟨_, rfl, rfl, ?_⟩
          rw [takeP hj2, List.filter_append, List.filter_cons, if_pos (show lessB ps q j j2 = true from w2), List.length_append]
          unfold dats
          rw [List.filter_nil, List.length_singleton, List.replicate_succ', List.map_append, List.map_append]
          rfl
        · refine ⟨rfl, ?_⟩
          rw [takeP hj2, List.filter_append, List.filter_cons, if_neg (show ¬ lessB ps q j j2 = true by rw [show lessB ps q j j2 = false from w2]; decide), List.filter_nil, List.append_nil]
      · rintro acc2 M2 ⟨rfl, rfl⟩
        have el : (dats (ks.map fun k => pq (farN ps k q))).length = ks.length := by rw [dats_len, List.length_map]
        rw [el, List.take_length]
        refine ⟨?_, .inl ⟨_, rfl, .inl ⟨shaped_one _, rfl, _, rfl, brS (fun w2 => ?_) fun w2 => ?_⟩⟩⟩
        · rw [dats_len, List.length_map, List.length_replicate]
          have := List.length_filter_le (lessB ps q j) ks
          omega
        · rw [eq_nil] at w2
          have wm : minB ps ks q j = true := by
            unfold minB
            generalize ks.filter (lessB ps q j) = zs at w2
            cases zs with
            | nil => rfl
            | cons a zs => cases w2
          refine ⟨_, rfl, rfl, ?_⟩
          rw [takeP hj, List.filter_append, List.filter_cons, if_pos wm]
          unfold dats
          rw [List.filter_nil, List.map_append, List.map_append]
          rfl
        · rw [eq_nil] at w2
          have wm : ¬ minB ps ks q j = true := by
            unfold minB
            generalize ks.filter (lessB ps q j) = zs at w2
            cases zs with
            | nil => cases w2
            | cons a zs => exact Bool.false_ne_true
          refine ⟨rfl, ?_⟩
          rw [takeP hj, List.filter_append, List.filter_cons, if_neg wm, List.filter_nil, List.append_nil]
    · rintro acc M' ⟨rfl, rfl⟩
      have el : (dats (ks.map fun k => pq (farN ps k q))).length = ks.length := by rw [dats_len, List.length_map]
      rw [el, List.take_length]
      have mem : k2 ∈ ks.filter (minB ps ks q) := List.mem_filter.mpr ⟨hk2, by
        unfold minB
        rw [List.isEmpty_iff, List.filter_eq_nil_iff]
        intro j hj hl
        exact absurd (of_decide_eq_true hl) (Rat.not_lt.mpr (least j hj))⟩
      have all : ∀ j ∈ ks.filter (minB ps ks q), farN ps j q = farN ps k2 q := fun j hj => by
        obtain ⟨h1, h3⟩ := List.mem_filter.mp hj
        unfold minB at h3
        rw [List.isEmpty_iff, List.filter_eq_nil_iff] at h3
        have h4 := h3 k2 hk2
        have h6 := least j h1
        have h7 : ¬ farN ps k2 q < farN ps j q := fun z => h4 (decide_eq_true z)
        grind
      have ml := List.length_filter_le (minB ps ks q) ks
      generalize ks.filter (minB ps ks q) = ms at mem all ml
      obtain ⟨j0, ms, rfl⟩ : ∃ j0 ms', ms = j0 :: ms' := by
        cases ms with
        | nil => cases mem
        | cons a ms => exact ⟨_, _, rfl⟩
      refine ⟨by rw [dats_len, List.length_map]; omega, .inl ⟨(j0 :: ms).map fun k => pq (farN ps k q), rfl, pq (farN ps j0 q), at_nat (k := 0) rfl, rfl, rfl, brS (fun w2 => ?_) fun w2 => ?_⟩⟩
      · rw [all j0 (by simp), ne_pq] at w2
        simp at w2
      · refine nilS ?_
        exact seg14 hr hp hn ..
end
end BW
/-! T16U -/
namespace BW
open PySem PySem.Spec PyProof.Rows L2 Cal LamX
theorem setU {x r : Sv} {xs : List Sv} {i : Nat} {k : List Sv → Prop} (h : setK xs i r fun ys => k (x :: ys)) : setK (x :: xs) (i + 1) r k := h
theorem setV {x r : Sv} {xs : List Sv} {k : List Sv → Prop} (h : k (r :: xs)) : setK (x :: xs) 0 r k := h
section
variable {T : Tb} {k : Nat} {ea : Str → Addr} {o l : Addr} {nx bk : Nx} {rt : PoE} {er : Er}
theorem seg9 {ps : List Pq} {p : Pq} (hr : RowF ps) (hp : BtP 3 p ∨ BtP 4 p) (hn : ∀ ds a b d, nx ds (Md o l a b d)) (sc tu on fa pl he k' st ga so th ss ah ma mo le lf en gp jj ot : Sv) (a b d : Int) :
    wpSs (wpS (gLaw T k ea) SLw 39) (lawB.drop 9) (LD sc (.raw (.ref l)) tu on (dp p) fa pl he k' st ga (dq (lenQ ps)) so th ss ah ma mo le lf en (rL ps) gp jj ot) (Md o l a b d) nx rt bk nx er := by
  have h2 := hr.ok.1
  have h5 := hr.len
  have wb : Bt 65 (lenQ ps) := (len_bt hr.bt).mono (by omega)
  refine ⟨rfl, l, [_], [], a, b, d, 9, rfl, by decide, by decide, rfl, fun r a1 b1 d1 r0 r1 => ⟨rfl, r, 8, rfl, .inr ⟨by decide, by decide, ?_⟩⟩⟩
  obtain ⟨mb, m0, m1⟩ := eight_raw r0 (show r < 9 by omega)
  generalize Rat.divInt r 8 = m at mb m0 m1
  have s0 : 0 ≤ lenQ ps * m := Rat.mul_nonneg (len_nonneg ps) m0
  have s1 : lenQ ps * m ≤ lenQ ps := by
    have := mul_nn (len_nonneg ps) (show 0 ≤ 1 - m by grind)
    grind
  have sb : Bt 70 (lenQ ps * m) := (wb.mul mb).mono (by decide)
  refine ⟨rfl, lenQ ps, m, _, rfl, raw_pq (mb.mono (by decide)), wb.mono (by decide), ?_⟩
  generalize lenQ ps * m = s at s0 s1 sb
  refine ⟨rfl, ps, s, .inl rfl, by omega, hr.bt, sb.mono (by decide), hr.ok, fun w => absurd w (Rat.not_lt.mpr s0), fun _ => ?_⟩
  have qb : BtP 160 (atQ ps s) := at_bt hr.bt sb h5
  obtain ⟨k0, t0, e0, bt0, es⟩ := at_mid ps s hr.ok.2 h2 s0 s1
  generalize atQ ps s = q at bt0 es qb
  have en : (((ps.map po).length : Int) - 1).toNat = ps.length - 1 := by rw [List.length_map]; omega
  refine ⟨⟨by rw [List.length_map]; omega, by rw [List.length_map]; omega⟩, by rw [rng_len, en]; omega, fun i acc M' => M' = Md o l a1 b1 d1 ∧ acc = dats (nums (spotsQ ps q i)), ⟨rfl, rfl⟩, ?_, ?_, ?_⟩
  · rintro i acc M' hi ⟨rfl, rfl⟩
    exact ⟨trivial, by rw [dats_len, List.length_map]; exact spots_len ..⟩
  · rintro Dl i r acc M' hr2 ⟨rfl, rfl⟩
    obtain ⟨hi, rfl⟩ := rng_at hr2
    rw [en] at hi
    have ei : (0 : Int) + ((i : Nat) : Int) = ((i : Nat) : Int) := by omega
    have ei2 : (0 : Int) + ((i : Nat) : Int) + 1 = ((i + 1 : Nat) : Int) := by omega
    have a1 : atI (ps.map po) (0 + ((i : Nat) : Int)) = some (po (atP ps i)) := by rw [ei]; exact row_at (by omega)
    have a2 : atI (ps.map po) (0 + ((i : Nat) : Int) + 1) = some (po (atP ps (i + 1))) := by rw [ei2]; exact row_at (by omega)
    refine ⟨_, a1, _, a2, rfl, _, _, _, rfl, (atP_bt hr.bt (by omega)).mono (by decide), (atP_bt hr.bt (by omega)).mono (by decide), qb.mono (by decide), boolI ⟨_, rfl, brS (fun w => ?_) fun w => ?_⟩⟩
    · refine ⟨_, rfl, rfl, ?_⟩
      rw [spots_in w, ei]
      unfold dats nums
      rw [List.map_append, List.map_append]
      rfl
    · refine ⟨rfl, ?_⟩
      rw [spots_out (show ¬ hasB ps q i = true by show ¬ betwQ _ _ _ = true; rw [w]; decide)]
  · rintro acc M' ⟨rfl, rfl⟩
    rw [rng_len, en]
    have kl := spots_len ps q (ps.length - 1)
    have kb := spots_has ps q (ps.length - 1)
    have kk : ∀ j, j < ps.length - 1 → hasB ps q j = true → j ∈ spotsQ ps q (ps.length - 1) := fun j h1 h3 => spots_mem.mpr ⟨h1, h3⟩
    generalize spotsQ ps q (ps.length - 1) = ks at kl kb kk
    refine ⟨by rw [dats_len, List.length_map]; omega, .inl ⟨nums ks, rfl, ?_⟩⟩
    refine ⟨by rw [dats_len, List.length_map]; omega, fun i acc M' => M' = Md o l a1 b1 d1 ∧ acc = dats ((ks.take i).map fun k => pq (farN ps k q)), ⟨rfl, rfl⟩, ?_, ?_, ?_⟩
    · rintro i acc M' hi ⟨rfl, rfl⟩
      exact ⟨trivial, by rw [dats_len, List.length_map, List.length_take]; rw [dats_len, List.length_map] at hi; omega⟩
    · rintro Dl i r acc M' hr2 ⟨rfl, rfl⟩
      obtain ⟨j, hj, rfl⟩ := dats_at hr2
      have hjm := kb j (List.mem_of_getElem? hj)
      refine ⟨_, rfl, ⟨by omega, by omega⟩, ?_⟩
      have ej : (((j : Nat) : Int)).toNat = j := by omega
      refine ⟨by rw [rng_len]; omega, fun i2 acc2 M2 => M2 = (Dl, MO.lst (dats ((ks.take i).map fun k => pq (farN ps k q)))) :: Md o l a1 b1 d1 ∧ acc2 = dats (((strides ps).take i2).map pq), ⟨rfl, rfl⟩, ?_, ?_, ?_⟩
      · rintro i2 acc2 M2 hi2 ⟨rfl, rfl⟩
        exact ⟨trivial, by rw [dats_len, List.length_map, List.length_take]; omega⟩
      · rintro D2 i2 r2 acc2 M2 hr3 ⟨rfl, rfl⟩
        obtain ⟨hi2, rfl⟩ := rng_at hr3
        rw [ej] at hi2
        have ei : (0 : Int) + ((i2 : Nat) : Int) = ((i2 : Nat) : Int) := by omega
        have ei2 : (0 : Int) + ((i2 : Nat) : Int) + 1 = ((i2 + 1 : Nat) : Int) := by omega
        have a1 : atI (ps.map po) (0 + ((i2 : Nat) : Int)) = some (po (atP ps i2)) := by rw [ei]; exact row_at (by omega)
        have a2 : atI (ps.map po) (0 + ((i2 : Nat) : Int) + 1) = some (po (atP ps (i2 + 1))) := by rw [ei2]; exact row_at (by omega)
        refine ⟨_, rfl, _, a1, _, a2, rfl, _, _, rfl, (atP_bt hr.bt (by omega)).mono (by decide), (atP_bt hr.bt (by omega)).mono (by decide), _, rfl, rfl, ?_⟩
        exact stride_app (by omega)
      · rintro acc2 M2 ⟨rfl, rfl⟩
        rw [rng_len, ej]
        refine ⟨by rw [dats_len, List.length_map, List.length_take]; omega, .inl ⟨((strides ps).take j).map pq, rfl, ?_⟩⟩
        refine ⟨_, row_at (by omega), rfl, _, _, rfl, (atP_bt hr.bt (by omega)).mono (by decide), qb.mono (by decide), ?_⟩
        have qx : ∀ z ∈ (strides ps).take j ++ [strideQ (atP ps j) q], Bt 329 z := fun z hz => by
          rcases List.mem_append.mp hz with hz | hz
          · exact (strides_bt hr.bt z (List.mem_of_mem_take hz)).mono (by decide)
          · rw [List.mem_singleton.mp hz]
            exact (stride_bt (atP_bt hr.bt (by omega)) qb).mono (by decide)
        refine .inl ⟨by rw [List.length_map, List.length_take]; show _ + 1 ≤ 1000; omega, rfl, _, .inl (by rw [List.map_append]; rfl), ⟨329, qx, by rw [List.length_append, List.length_take, List.length_singleton]; unfold big; omega⟩, _, rfl, rfl, ?_⟩
        rw [sum_app, sum_one, takeP hj]
        unfold dats
        rw [List.map_append, List.map_append]
        rfl
    · rintro acc M' ⟨rfl, rfl⟩
      have el : (dats (nums ks)).length = ks.length := by rw [dats_len, List.length_map]
      rw [el, List.take_length]
      refine ⟨by rw [dats_len, List.length_map]; omega, .inl ⟨ks.map fun k => pq (farN ps k q), rfl, ?_⟩⟩
      refine setU ?_
      refine setU ?_
      refine setU ?_
      refine setU ?_
      refine setU ?_
      refine setU ?_
      refine setU ?_
      refine setU ?_
      refine setU ?_
      refine setU ?_
      refine setU ?_
      refine setU ?_
      refine setU ?_
      refine setU ?_
      refine setU ?_
      refine setV ?_
      exact seg13 hr hp hn qb e0 bt0 es kl kb kk ..
end
end BW
/-! T16V -/
namespace BW
open PySem PySem.Spec PyProof.Rows L2 Cal LamX
section
variable {T : Tb} {k : Nat} {ea : Str → Addr} {o l : Addr} {nx bk : Nx} {rt : PoE} {er : Er}
theorem at_last {ps : List Pq} {left : Rat} (ok : TrackOk ps) (h : lenQ ps ≤ left) : atQ ps left = atP ps (ps.length - 1) := by
  have h2 := ok.1
  refine at_end ps left ok.2 h _ ?_
  rw [List.getLast?_eq_getElem?]
  exact atP_at (by omega)
theorem at_first {ps : List Pq} (ok : TrackOk ps) : atQ ps 0 = atP ps 0 := by
  match ps, ok with
  | [], ok => exact absurd ok.1 (by decide)
  | [a], ok => exact absurd ok.1 (by simp)
  | a :: b :: r, ok => rw [at_start (ne_head ok.2)]; rfl
theorem ne_po' {p q : Pq} (h : p = q) : eqB true (po p) (po q) = false := by rw [ne_po, h]; simp
theorem seg7 {ps : List Pq} {p : Pq} (hr : RowF ps) (hp : BtP 3 p ∨ BtP 4 p) (hn : ∀ ds a b d, nx ds (Md o l a b d)) (sc tu on fa pl he k' st ga wh so th ss ah ma mo le lf en gp jj ot : Sv) (a b d : Int) :
    wpSs (wpS (gLaw T k ea) SLw 39) (lawB.drop 7) (LD sc (.raw (.ref l)) tu on (dp p) fa pl he k' st ga wh so th ss ah ma mo le lf en (rL ps) gp jj ot) (Md o l a b d) nx rt bk nx er := by
  have h2 := hr.ok.1
  have h5 := hr.len
  have wb : Bt 65 (lenQ ps) := (len_bt hr.bt).mono (by omega)
  have en2 : (((ps.map po).length : Int) - 1).toNat = ps.length - 1 := by rw [List.length_map]; omega
  refine ⟨⟨by rw [List.length_map]; omega, by rw [List.length_map]; omega⟩, by rw [rng_len, en2]; omega, fun i acc M' => M' = Md o l a b d ∧ acc = dats (((strides ps).take i).map pq), ⟨rfl, rfl⟩, ?_, ?_, ?_⟩
  · rintro i acc M' hi ⟨rfl, rfl⟩
    exact ⟨trivial, by rw [dats_len, List.length_map, List.length_take]; omega⟩
  · rintro D2 i2 r2 acc2 M2 hr3 ⟨rfl, rfl⟩
    obtain ⟨hi2, rfl⟩ := rng_at hr3
    rw [en2] at hi2
    have ei : (0 : Int) + ((i2 : Nat) : Int) = ((i2 : Nat) : Int) := by omega
    have ei2 : (0 : Int) + ((i2 : Nat) : Int) + 1 = ((i2 + 1 : Nat) : Int) := by omega
    have a1 : atI (ps.map po) (0 + ((i2 : Nat) : Int)) = some (po (atP ps i2)) := by rw [ei]; exact row_at (by omega)
    have a2 : atI (ps.map po) (0 + ((i2 : Nat) : Int) + 1) = some (po (atP ps (i2 + 1))) := by rw [ei2]; exact row_at (by omega)
    refine ⟨_, rfl, _, a1, _, a2, rfl, _, _, rfl, (atP_bt hr.bt (by omega)).mono (by decide), (atP_bt hr.bt (by omega)).mono (by decide), _, rfl, rfl, ?_⟩
    exact stride_app (by omega)
  · rintro acc M' ⟨rfl, rfl⟩
    rw [rng_len, en2, ← strides_len, List.take_length]
    refine ⟨by rw [dats_len, List.length_map, strides_len]; omega, .inl ⟨_, rfl, rfl, strides ps, .inl rfl, ⟨15, strides_bt hr.bt, by rw [strides_len]; unfold big; omega⟩, ?_⟩⟩
    have hv : sumQ (strides ps) = lenQ ps := rfl
    rw [hv]
    refine ⟨rfl, ps, .inl rfl, by omega, hr.bt, hr.ok, rfl, rfl, brS (fun w => ?_) fun w => ?_⟩
    · rw [ne_pq] at w
      simp at w
    refine ⟨rfl, ps, 0, .inl rfl, by omega, hr.bt, bt0.mono (by decide), hr.ok, fun w2 => absurd w2 (by decide), fun _ => ⟨_, row_at (i := 0) (by omega), rfl, rfl, brS (fun w2 => ?_) fun w2 => ?_⟩⟩
    · rw [ne_po' (at_first hr.ok)] at w2
      cases w2
    refine ⟨rfl, ps, lenQ ps, .inl rfl, by omega, hr.bt, wb.mono (by decide), hr.ok, fun w3 => absurd w3 (Rat.not_lt.mpr (len_nonneg ps)), fun _ => ⟨_, row_last (by omega), rfl, rfl, brS (fun w3 => ?_) fun w3 => ?_⟩⟩
    · rw [ne_po' (at_last hr.ok Rat.le_refl)] at w3
      cases w3
    have l1 : lenQ ps ≤ lenQ ps + 1 := by grind
    refine ⟨rfl, lenQ ps, 1, rfl, wb.mono (by decide), bt1.mono (by decide), rfl, ps, lenQ ps + 1, .inl rfl, by omega, hr.bt, (wb.add bt1).mono (by decide), hr.ok, fun w4 => absurd w4 (Rat.not_lt.mpr (by have := len_nonneg ps; grind)), fun _ => ⟨_, row_last (by omega), rfl, rfl, brS (fun w4 => ?_) fun w4 => ?_⟩⟩
    · rw [ne_po' (at_last hr.ok l1)] at w4
      cases w4
    refine nilS ?_
    exact seg9 hr hp hn ..
end
end BW
/-! T16W -/
namespace BW
open PySem PySem.Spec PyProof.Rows L2 Cal LamX
section
variable {T : Tb} {k : Nat} {ea : Str → Addr} {o l : Addr} {nx bk : Nx} {rt : PoE} {er : Er}
theorem eight_step {i : Nat} (h : i < 9) : RawB 2000 (.tuple [.int ((0 : Int) + (i : Nat)), .int 8]) (Rat.divInt (i : Nat) 8) ∧ Bt 4 (Rat.divInt (i : Nat) 8) ∧ 0 ≤ Rat.divInt (i : Nat) 8 ∧ Rat.divInt (i : Nat) 8 ≤ 1 := by
  obtain ⟨h1, h2, h3⟩ := eight_raw (r := (i : Int)) (by omega) (by omega)
  have ei : (0 : Int) + (i : Nat) = (i : Nat) := by omega
  have k1 : ((i : Nat) : Int).natAbs < 2 ^ 4 := by show _ < 16; omega
  exact ⟨⟨_, _, rfl, by decide, by rw [ei], by rw [ei]; exact Nat.lt_of_lt_of_le k1 (Nat.pow_le_pow_right (by decide) (by decide)), Nat.lt_of_lt_of_le (show (8 : Int).natAbs < 2 ^ 4 by decide) (Nat.pow_le_pow_right (by decide) (by decide))⟩, h1, h2, h3⟩
theorem seg6 {ps : List Pq} {p : Pq} {f : Rat} {pn : Nat} {hh : Pq} (hr : RowF ps) (hp : BtP 3 p ∨ BtP 4 p) (hz : NearTo ps p (ps.length - 1) f pn hh) (hf : Fit f) (hn : ∀ ds a b d, nx ds (Md o l a b d)) (sc tu on he k' st ga wh so th ss ah ma mo le lf en gp jj ot : Sv) (a b d : Int) :
    wpSs (wpS (gLaw T k ea) SLw 39) (lawB.drop 6) (LD sc (.raw (.ref l)) tu on (dp p) (dq f) (I (pn : Nat)) he k' st ga wh so th ss ah ma mo le lf en (rL ps) gp jj ot) (Md o l a b d) nx rt bk nx er := by
  have h2 := hr.ok.1
  have h5 := hr.len
  have pb : BtP 4 p := hp.elim (fun h => h.mono (by decide)) id
  have en2 : (((ps.map po).length : Int) - 1).toNat = ps.length - 1 := by rw [List.length_map]; omega
  refine ⟨⟨by rw [List.length_map]; omega, by rw [List.length_map]; omega⟩, fun i ds M' => M' = Md o l a b d ∧ ∃ on k' st ga, ds = LD sc (.raw (.ref l)) tu on (dp p) (dq f) (I (pn : Nat)) he k' st ga wh so th ss ah ma mo le lf en (rL ps) gp jj ot, ⟨rfl, _, _, _, _, rfl⟩, fun _ _ _ _ _ => trivial, ?_, ?_⟩
  · rintro i r ds M' hr2 ⟨rfl, on, k', st, ga, rfl⟩
    obtain ⟨hi, rfl⟩ := rng_at hr2
    rw [en2] at hi
    have ei : (0 : Int) + ((i : Nat) : Int) = ((i : Nat) : Int) := by omega
    have ei2 : (0 : Int) + ((i : Nat) : Int) + 1 = ((i + 1 : Nat) : Int) := by omega
    have a1 : atI (ps.map po) (0 + ((i : Nat) : Int)) = some (po (atP ps i)) := by rw [ei]; exact row_at (by omega)
    have a2 : atI (ps.map po) (0 + ((i : Nat) : Int) + 1) = some (po (atP ps (i + 1))) := by rw [ei2]; exact row_at (by omega)
    have b1 : BtP 3 (atP ps i) := atP_bt hr.bt (by omega)
    have b2 : BtP 3 (atP ps (i + 1)) := atP_bt hr.bt (by omega)
    have hs : (prs ps)[i]? = some (atP ps i, atP ps (i + 1)) := prs_mk (atP_at (by omega)) (atP_at (by omega))
    have ne : atP ps i ≠ atP ps (i + 1) := ok_ne hr.ok hs
    obtain ⟨hk, s0, _, _, _, n1, n2⟩ := hz
    have m1 := n1 i _ hi hs
    have m2 := fun h => n2 i _ h hs
    generalize atP ps i = u at *
    generalize atP ps (i + 1) = v at *
    have best : ∀ j, j < 9 → distQ (u, v) p ≤ squareQ (wayQ u v (Rat.divInt (j : Nat) 8)) p := fun j hj => dist_best ne (eight_step hj).2.2.1 (eight_step hj).2.2.2
    have wbt : ∀ j, j < 9 → BtP 20 (wayQ u v (Rat.divInt (j : Nat) 8)) := fun j hj => (way_bt b1 b2 (eight_step hj).2.1).mono (by decide)
    have sfit : ∀ j, j < 9 → Fit (squareQ (wayQ u v (Rat.divInt (j : Nat) 8)) p) := fun j hj => (square_bt (wbt j hj) pb).mono (by decide)
    refine ⟨⟨by decide, by decide⟩, fun i2 ds M' => M' = Md o l a b d ∧ ∃ on st, ds = LD sc (.raw (.ref l)) tu on (dp p) (dq f) (I (pn : Nat)) he (I (0 + (i : Nat))) st ga wh so th ss ah ma mo le lf en (rL ps) gp jj ot, ⟨rfl, _, _, rfl⟩, fun _ _ _ _ _ => trivial, ?_, ?_⟩
    · rintro i2 r2 ds M' hr3 ⟨rfl, on, st, rfl⟩
      obtain ⟨hi2, rfl⟩ := rng_at hr3
      replace hi2 : i2 < 9 := hi2
      obtain ⟨w1, w2, _, _⟩ := eight_step hi2
      refine ⟨_, a1, _, a2, rfl, _, _, _, _, rfl, b1.mono (by decide), b2.mono (by decide), w1, rfl, _, _, rfl, (wbt i2 hi2).mono (by decide), pb.mono (by decide), rfl, _, _, rfl, sfit i2 hi2, hf, brS (fun z => ?_) fun z => brS (fun y => ?_) fun y => ?_⟩
      · have := best i2 hi2
        have := of_decide_eq_true z
        grind
      · refine ⟨rfl, _, _, rfl, (wbt i2 hi2).mono (by decide), pb.mono (by decide), rfl, rfl, brS (fun x => ?_) fun x => ?_⟩
        · rw [eq_pq] at x
          have x2 := of_decide_eq_true x
          have y2 : (0 : Int) + (i : Nat) < (pn : Nat) := of_decide_eq_true y
          have := m2 (by omega)
          have := best i2 hi2
          grind
        · exact ⟨rfl, _, _, rfl⟩
      · exact ⟨rfl, _, _, rfl⟩
    · rintro ds M' ⟨rfl, on, st, rfl⟩
      refine ⟨_, a1, _, a2, rfl, _, _, _, rfl, b1, b2, pb.mono (by decide), ne, ?_⟩
      have fb : Fit (distQ (u, v) p) := dist_fit b1 b2 (pb.mono (by decide))
      refine ⟨⟨by decide, by decide⟩, Nat.le_of_ble_eq_true rfl, fun i acc M' => M' = Md o l a b d ∧ acc = dats ((List.range i).map fun j => pq (squareQ (wayQ u v (Rat.divInt (j : Nat) 8)) p)), ⟨rfl, rfl⟩, ?_, ?_, ?_⟩
      · rintro i acc M' hi ⟨rfl, rfl⟩
        exact ⟨trivial, by rw [dats_len, List.length_map, List.length_range]; exact Nat.le_refl _⟩
      · rintro D2 i2 r2 acc2 M2 hr3 ⟨rfl, rfl⟩
        obtain ⟨hi2, rfl⟩ := rng_at hr3
        replace hi2 : i2 < 9 := hi2
        obtain ⟨w1, w2, _, _⟩ := eight_step hi2
        refine ⟨_, rfl, _, a1, _, a2, rfl, _, _, _, _, rfl, b1.mono (by decide), b2.mono (by decide), w1, rfl, _, _, rfl, (wbt i2 hi2).mono (by decide), pb.mono (by decide), _, rfl, rfl, ?_⟩
        rw [List.range_succ, List.map_append]
        unfold dats
        rw [List.map_append]
        rfl
      · rintro acc M' ⟨rfl, rfl⟩
        have e9 : (rngS 0 (9 : Int).toNat).length = 9 := rng_len
        refine ⟨by rw [dats_len, List.length_map, List.length_range]; decide, .inl ⟨(List.range 9).map fun j => pq (squareQ (wayQ u v (Rat.divInt (j : Nat) 8)) p), rfl, ?_⟩⟩
        refine ⟨by rw [dats_len, List.length_map, List.length_range]; decide, fun i acc M' => M' = Md o l a b d ∧ acc = [], ⟨rfl, rfl⟩, ?_, ?_, ?_⟩
        · rintro i acc M' hi ⟨rfl, rfl⟩
          exact ⟨trivial, Nat.zero_le _⟩
        · rintro D2 i2 r2 acc2 M2 hr3 ⟨rfl, rfl⟩
          obtain ⟨j, hj, rfl⟩ := dats_at hr3
          have j9 : j < 9 := List.mem_range.mp (List.mem_of_getElem? hj)
          refine ⟨rfl, _, _, rfl, (step_bt b1 b2 pb).mono (by decide), pb.mono (by decide), rfl, _, _, rfl, sfit j j9, fb, _, rfl, brS (fun z => ?_) fun z => ⟨rfl, rfl⟩⟩
          have := best j j9
          have := of_decide_eq_true z
          exact absurd this (Rat.not_lt.mpr (best j j9))
        · rintro acc M' ⟨rfl, rfl⟩
          refine ⟨Nat.zero_le _, .inl ⟨[], rfl, .inl ⟨rfl, rfl, ?_⟩⟩⟩
          refine brS (fun w => absurd w (by decide)) fun w => ?_
          refine ⟨_, a1, _, a2, rfl, _, _, _, rfl, b1.mono (by decide), b2.mono (by decide), (step_bt b1 b2 pb).mono (by decide), ?_⟩
          rw [betw_step]
          exact ⟨rfl, _, _, _, _, rfl⟩
  · rintro ds M' ⟨rfl, on, k', st, ga, rfl⟩
    exact seg7 hr hp hn ..
end
end BW
/-! T16X -/
namespace BW
open PySem PySem.Spec PyProof.Rows L2 Cal LamX
section
variable {T : Tb} {k : Nat} {ea : Str → Addr} {o l : Addr} {nx bk : Nx} {rt : PoE} {er : Er}
set_option smartUnfolding false in
theorem seg2a {ps : List Pq} (hg : ∀ p ∈ ps, GridP p) (h1 : 1 ≤ ps.length) (w2 : ps.length < 2) (hn : ∀ ds a b d, nx ds (Md o l a b d)) (sc tu on sp fa pl he k' st ga wh so th ss ah ma mo le lf en gp jj ot : Sv) (a b d : Int) :
    wpSs (wpS (gLaw T k ea) SLw 39) (lawB.drop 2) (LD sc (.raw (.ref l)) tu on sp fa pl he k' st ga wh so th ss ah ma mo le lf en (rL ps) gp jj ot) (Md o l a b d) nx rt bk nx er := by
  refine brS (fun w => ?_) fun w => absurd (of_decide_eq_false w) (by rw [List.length_map]; omega)
  refine ⟨lsts_cons (lsts_cons lsts_nil), fun _ => rfl, fun _ _ _ _ _ => rfl, rfl, ps, .inl rfl, by omega, fun ok => absurd ok.1 (by omega), fun _ => ⟨"point", es_mem (by decide), sh_point, sh_point, brF nq_point ?_⟩⟩
  exact hn _ _ _ _
theorem seg2b {ps : List Pq} (hg : ∀ p ∈ ps, GridP p) (h2 : 2 ≤ ps.length) (h5 : ps.length ≤ 5) (hne : NE ps) (hn : ∀ ds a b d, nx ds (Md o l a b d)) (sc tu on sp fa pl he k' st ga wh so th ss ah ma mo le lf en gp jj ot : Sv) (a b d : Int) :
    wpSs (wpS (gLaw T k ea) SLw 39) (lawB.drop 2) (LD sc (.raw (.ref l)) tu on sp fa pl he k' st ga wh so th ss ah ma mo le lf en (rL ps) gp jj ot) (Md o l a b d) nx rt bk nx er := by
  have hr : RowF ps := ⟨⟨h2, hne⟩, h5, hg⟩
  refine brS (fun w => absurd (of_decide_eq_true w) (by rw [List.length_map]; omega)) fun w => ?_
  refine nilS ?_
  refine ⟨rfl, l, [_], [], a, b, d, 11, rfl, by decide, by decide, rfl, fun r a1 b1 d1 r0 r1 => ⟨rfl, r, 2, rfl, .inr ⟨by decide, by decide, ?_⟩⟩⟩
  refine ⟨rfl, l, [_], [], a1, b1, d1, 11, rfl, by decide, by decide, rfl, fun r' a2 b2 d2 r0' r1' => ⟨rfl, r', 2, rfl, .inr ⟨by decide, by decide, ?_⟩⟩⟩
  obtain ⟨mx, _⟩ := half_raw r0 (show r < 11 by omega)
  obtain ⟨my, _⟩ := half_raw r0' (show r' < 11 by omega)
  generalize Rat.divInt r 2 = x at mx
  generalize Rat.divInt r' 2 = y at my
  have pb : BtP 4 (x, y) := ⟨mx, my⟩
  refine ⟨rfl, ps, (x, y), .inl rfl, by omega, hr.bt, pb.mono (by decide), hr.ok, fun f pn hh hz => ?_⟩
  obtain ⟨hk, s0, hs, eh, ef, n1, n2⟩ := id hz
  obtain ⟨e1, e2⟩ := prs_at hs
  have m1 := prs_mem (List.mem_of_getElem? hs)
  have b1 := hr.bt _ m1.1
  have b2 := hr.bt _ m1.2
  have hb : BtP 71 hh := by rw [eh]; exact step_bt b1 b2 pb
  have fb : Fit f := by rw [ef]; exact dist_fit b1 b2 (pb.mono (by decide))
  have a1 : atI (ps.map po) (pn : Int) = some (po s0.1) := at_row e1
  have a2 : atI (ps.map po) ((pn : Int) + 1) = some (po s0.2) := at_row (i := pn + 1) e2
  refine ⟨rfl, _, _, rfl, hb.mono (by decide), pb.mono (by decide), rfl, rfl, brS (fun w => ?_) fun w => ?_⟩
  · have : squareQ hh (x, y) = f := by rw [eh, ef]; rfl
    rw [ne_pq, this] at w
    simp at w
  refine ⟨_, a1, _, a2, rfl, _, _, _, rfl, b1.mono (by decide), b2.mono (by decide), hb.mono (by decide), ?_⟩
  have bw : betwQ s0.1 s0.2 hh = true := by rw [eh]; exact betw_step ..
  rw [bw]
  refine ⟨rfl, ps, .inl rfl, by omega, fun _ => ⟨(shaped_ps ps).2, (shaped_ps ps).2, brS (fun w2 => ?_) fun w2 => ?_⟩, fun z => absurd hr.ok z⟩
  · rw [neT] at w2
    cases w2
  · refine nilS ?_
    exact seg6 (p := (x, y)) hr (.inr pb) hz fb hn ..
theorem seg2 {ps : List Pq} (hg : ∀ p ∈ ps, GridP p) (h1 : 1 ≤ ps.length) (h5 : ps.length ≤ 5) (hne : NE ps) (hn : ∀ ds a b d, nx ds (Md o l a b d)) (sc tu on sp fa pl he k' st ga wh so th ss ah ma mo le lf en gp jj ot : Sv) (a b d : Int) :
    wpSs (wpS (gLaw T k ea) SLw 39) (lawB.drop 2) (LD sc (.raw (.ref l)) tu on sp fa pl he k' st ga wh so th ss ah ma mo le lf en (rL ps) gp jj ot) (Md o l a b d) nx rt bk nx er := by
  rcases Nat.lt_or_ge ps.length 2 with h | h
  · exact seg2a hg h1 h hn ..
  · exact seg2b hg h h5 hne hn ..
end
end BW
/-! T16Y -/
namespace BW
open PySem PySem.Spec PyProof.Rows L2 Cal LamX
section
variable {T : Tb} {k : Nat} {ea : Str → Addr} {o l : Addr} {nx bk : Nx} {rt : PoE} {er : Er}
theorem ne_app {ps : List Pq} {q : Pq} (h : NE ps) (hq : ps = [] ∨ atP ps (ps.length - 1) ≠ q) : NE (ps ++ [q]) := by
  intro p hp
  obtain ⟨i, hi, e⟩ := List.getElem_of_mem hp
  have e1 : (prs (ps ++ [q]))[i]? = some p := by rw [List.getElem?_eq_getElem hi, e]
  obtain ⟨h1, h2⟩ := prs_at e1
  rw [prs_len, List.length_append, List.length_singleton] at hi
  by_cases hl : i + 1 < ps.length
  · rw [List.getElem?_append_left (by omega)] at h1
    rw [List.getElem?_append_left hl] at h2
    exact h p (List.mem_of_getElem? (prs_mk h1 h2))
  · have ei : i + 1 = ps.length := by omega
    rw [List.getElem?_append_left (by omega)] at h1
    rw [ei, List.getElem?_append_right (Nat.le_refl _), Nat.sub_self] at h2
    have e2 : q = p.2 := Option.some.inj h2
    have e3 : atP ps (ps.length - 1) = p.1 := by
      have : ps.length - 1 = i := by omega
      rw [this]
      exact Option.some.inj ((atP_at (by omega)).symm.trans h1)
    rcases hq with hq | hq
    · rw [hq] at ei
      cases ei
    · rw [← e3, ← e2]
      exact hq
theorem seg0 (hn : ∀ ds a b d, nx ds (Md o l a b d)) (sc tu on sp fa pl he k' st ga wh so th ss ah ma mo le lf en ro gp jj ot : Sv) (a b d : Int) :
    wpSs (wpS (gLaw T k ea) SLw 39) (lawB.drop 0) (LD sc (.raw (.ref l)) tu on sp fa pl he k' st ga wh so th ss ah ma mo le lf en ro gp jj ot) (Md o l a b d) nx rt bk nx er := by
  refine ⟨rfl, l, [_], [], a, b, d, 5, rfl, by decide, by decide, rfl, fun x y a' b' d' x0 x1 y0 y1 => ?_⟩
  have g0 : GridP ((x : Rat), (y : Rat)) := ⟨x, y, x0, x1, y0, y1, rfl⟩
  generalize ((x : Rat), (y : Rat)) = e at g0
  refine .inl ?_
  refine ⟨rfl, l, [_], [], a', b', d', 4, rfl, by decide, by decide, rfl, fun r a1 b1 d1 r0 r1 => ?_⟩
  have e1 : ((1 : Int) + r).toNat = 1 + r.toNat := by omega
  refine ⟨⟨by omega, by omega⟩, fun i ds M' => ∃ a b d tu on ps, M' = Md o l a b d ∧ ds = LD sc (.raw (.ref l)) tu on sp fa pl he k' st ga wh so th ss ah ma mo le lf en (rL ps) gp jj ot ∧ (∀ p ∈ ps, GridP p) ∧ 1 ≤ ps.length ∧ ps.length ≤ 1 + i ∧ NE ps, ⟨a1, b1, d1, tu, on, [e], rfl, rfl, fun p hp => by rw [List.mem_singleton.mp hp]; exact g0, Nat.le_refl _, Nat.le_refl _, fun p hp => by cases hp⟩, fun _ _ _ _ _ => trivial, ?_, ?_⟩
  · rintro i r2 ds M' hr2 ⟨a, b, d, tu, on, ps, rfl, rfl, hg, h1, h5, hne⟩
    obtain ⟨hi, rfl⟩ := rng_at hr2
    refine ⟨rfl, l, [_], [], a, b, d, 5, rfl, by decide, by decide, rfl, fun x y a' b' d' x0 x1 y0 y1 => ?_⟩
    have g0 : GridP ((x : Rat), (y : Rat)) := ⟨x, y, x0, x1, y0, y1, rfl⟩
    generalize ((x : Rat), (y : Rat)) = e at g0
    have l6 : ps.length ≤ 5 := by omega
    refine ⟨_, row_last (by omega), rfl, rfl, brS (fun w => ?_) fun w => ?_⟩
    · rw [ne_po] at w
      have w2 : e ≠ atP ps (ps.length - 1) := by simpa using w
      have em : ps.map po ++ [po e] = (ps ++ [e]).map po := by rw [List.map_append]; rfl
      exact .inl ⟨by rw [List.length_map]; show _ + 1 ≤ 1000; omega, _, _, _, _, _, ps ++ [e], rfl, by rw [em], fun p hp => (List.mem_append.mp hp).elim (hg p) fun h => by rw [List.mem_singleton.mp h]; exact g0, by rw [List.length_append]; omega, by rw [List.length_append, List.length_singleton]; omega, ne_app hne (.inr fun h => w2 h.symm)⟩
    · exact .inl ⟨by rw [List.length_map]; show _ + 0 ≤ 1000; omega, _, _, _, _, _, ps, rfl, by rw [List.append_nil], hg, h1, by omega, hne⟩
  · rintro ds M' ⟨a, b, d, tu, on, ps, rfl, rfl, hg, h1, h5, hne⟩
    rw [rng_len] at h5
    exact seg2 hg h1 (by omega) hne hn ..
theorem setG {S : Sc} {n i : Nat} {x : Str} {p : Pos} {r : Sv} {ds : List Sv} {Q : List Sv → Prop} (h : slotL S x = some i) (hq : setK ds i r Q) : wpG S (n + 1) (.Name x p) r ds Q := by
  show (match slotL S x with | some i => setK ds i r Q | none => False)
  rw [h]
  exact hq
def sLaw : Sig := ⟨1, [], fun rs M Q E => ∃ ns : List Int, rs = [.dat (.list (ns.map .int))] ∧ M = [] ∧ ∀ M', Q (B true) M', fun hQ hE ⟨ns, e, h, q⟩ => ⟨ns, e, h, fun M' => hQ _ _ (q M')⟩⟩
theorem do_law : DoesS (gLaw T k ea) SLw (defBody s_law) sLaw := by
  rintro rs M Q E _ ⟨ns, rfl, rfl, q⟩
  refine ⟨rfl, ns, rfl, fun o l a b d => ?_⟩
  refine ⟨[], _, _, rfl, fun i ds M' => (i = 0 → ds = startD SLw.N.length [.dat (.list (ns.map .int))]) ∧ ∃ a b d, M' = Md o l a b d, ⟨fun _ => rfl, a, b, d, rfl⟩, ?_, ?_, ?_⟩
  · rintro i ds M' hi ⟨_, a, b, d, rfl⟩
    exact ⟨[], _, rfl⟩
  · rintro i r ds M' hr ⟨h0, a, b, d, rfl⟩
    match i, hr with
    | 0, hr =>
      cases hr
      have e0 : startD SLw.N.length [.dat (.list (ns.map .int))] = LD (.dat (.list (ns.map .int))) .no .no .no .no .no .no .no .no .no .no .no .no .no .no .no .no .no .no .no .no .no .no .no .no := rfl
      rw [h0 rfl, e0]
      refine setG (i := 1) rfl ?_
      refine setU ?_
      refine setV ?_
      refine seg0 (fun ds a b d => ?_) ..
      exact ⟨fun h => absurd h (by decide), a, b, d, rfl⟩
  · rintro ds M' ⟨_, a, b, d, rfl⟩
    exact ⟨rfl, rfl, lsts_cons (lsts_cons lsts_nil), fun M' => .ok (q M')⟩
end
end BW
/-! T16Z -/
namespace BW
open PySem PySem.Spec PyProof.Rows L2 Cal LamX
def es9 (K : PySem.W.Frag) : List (Addr × Str) := esL.map fun p => (He.ga K p.1, p.2)
theorem gives9 {X : Cx} {q : Str} {g : Addr} (hx : ∀ p ∈ es9 X.K, ∀ q ∈ es9 X.K, PySem.W.exmOne X.K (.ref p.1) (.ref q.1) = some (decide (p = q))) (hme : ∀ x ∈ errs, X.mg x = some (.ref (He.ga X.K x))) (cdg : Value) :
    GivesTo X ["what"] "_law_told" (defScope s__law_told) g cdg (defBody s__law_told) "what" q (TT9 X.K (es9 X.K)) :=
  told9_gives (es := es9 X.K) hx (fun s H => .cons ⟨rfl, by decide, .inl (hme "BadPart" (by decide))⟩ (fun a oe cls d pn _ _ => pss_one (ps_ret pe_str)) (.cons ⟨rfl, by decide, .inl (hme "BadPoint" (by decide))⟩ (fun a oe cls d pn _ _ => pss_one (ps_ret pe_str))
    (.cons ⟨rfl, by decide, .inl (hme "BadRing" (by decide))⟩ (fun a oe cls d pn _ _ => pss_one (ps_ret pe_str)) (.cons ⟨rfl, by decide, .inl (hme "BadMap" (by decide))⟩ (fun a oe cls d pn _ _ => pss_one (ps_ret pe_str))
    (.cons ⟨rfl, by decide, .inl (hme "BadPaper" (by decide))⟩ (fun a oe cls d pn _ _ => pss_one (ps_ret pe_str)) (.cons ⟨rfl, by decide, .inl (hme "BadSize" (by decide))⟩ (fun a oe cls d pn _ _ => pss_one (ps_ret pe_str))
    (.cons ⟨rfl, by decide, .inl (hme "BadText" (by decide))⟩ (fun a oe cls d pn _ _ => pss_one (ps_ret pe_str)) (.cons ⟨rfl, by decide, .inl (hme "BadStore" (by decide))⟩ (fun a oe cls d pn _ _ => pss_one (ps_ret pe_str))
    (.cons ⟨rfl, by decide, .inl (hme "NoSuch" (by decide))⟩ (fun a oe cls d pn _ _ => pss_one (ps_ret pe_str)) .nil))))))))) (fun f => rfl)
/-- a def and its name -/
structure Dn (K : PySem.W.Frag) (mg : Str → Option Value) (x : Str) (st : Stmt) (dvs : List V) : Prop where
  fd : ∃ fd, FunD K x x (defArgs st) (defBody st) (defScope st) dvs [] (He.ga K x) fd
  mg : mg x = some (.ref (He.ga K x))
/-- what the head tells -/
structure Hd (K : PySem.W.Frag) (mg : Str → Option Value) : Prop where
  bi : ∀ x ∈ biL, mg x = none
  gcd : mg "gcd" = some (.builtin "math.gcd")
  nought : mg "NOUGHT" = some (.ref (He.ga K "NOUGHT"))
  noughtT : He.tupB K "NOUGHT" [.int 0, .int 1] = true
  one : mg "ONE" = some (.ref (He.ga K "ONE"))
  oneT : He.tupB K "ONE" [.int 1, .int 1] = true
  me : ∀ x ∈ errs, mg x = some (.ref (He.ga K x))
  xp : ∀ x ∈ errs, (He.Fa.exc x).ok K = true
  xm : ∀ p ∈ es9 K, ∀ q ∈ es9 K, PySem.W.exmOne K (.ref p.1) (.ref q.1) = some (decide (p = q))
  d_shared : Dn K mg "shared" s_shared []
  d_part : Dn K mg "part" s_part [.int 1]
  d_plus : Dn K mg "plus" s_plus []
  d_minus : Dn K mg "minus" s_minus []
  d_times : Dn K mg "times" s_times []
  d_over : Dn K mg "over" s_over []
  d_is_less : Dn K mg "is_less" s_is_less []
  d_sign_of : Dn K mg "sign_of" s_sign_of []
  d_size_of : Dn K mg "size_of" s_size_of []
  d_total : Dn K mg "total" s_total []
  d_lesser : Dn K mg "lesser" s_lesser []
  d_greater : Dn K mg "greater" s_greater []
  d_point : Dn K mg "point" s_point []
  d_apart : Dn K mg "apart" s_apart []
  d_side : Dn K mg "side" s_side []
  d_spans_meet : Dn K mg "spans_meet" s_spans_meet []
  d_between : Dn K mg "between" s_between []
  d_on_way : Dn K mg "on_way" s_on_way []
  d_may_meet : Dn K mg "may_meet" s_may_meet []
  d_square : Dn K mg "square" s_square []
  d_stride : Dn K mg "stride" s_stride []
  d_check_track : Dn K mg "check_track" s_check_track []
  d_on_step : Dn K mg "on_step" s_on_step []
  d_nearest_on : Dn K mg "nearest_on" s_nearest_on []
  d_whole_way : Dn K mg "whole_way" s_whole_way []
  d_length_of : Dn K mg "length_of" s_length_of []
  d_at_length : Dn K mg "at_length" s_at_length []
  d_length_at : Dn K mg "length_at" s_length_at []
  d_fewer : Dn K mg "fewer" s_fewer []
  d_furthest_off : Dn K mg "furthest_off" s_furthest_off []
  d_far_from : Dn K mg "far_from" s_far_from []
  d_evenly : Dn K mg "evenly" s_evenly []
  d__law_dice : Dn K mg "_law_dice" s__law_dice []
  d__law_roll : Dn K mg "_law_roll" s__law_roll []
  d__law_rounds : Dn K mg "_law_rounds" s__law_rounds []
  d__law_told : Dn K mg "_law_told" s__law_told []
  d__law_spot : Dn K mg "_law_spot" s__law_spot []
  d__law_nearest : Dn K mg "_law_nearest" s__law_nearest []
  d__law_cases1 : Dn K mg "_law_cases1" s__law_cases1 []
  d_law : Dn K mg "law" s_law []
theorem lookup_mem {x : Str × Nat} {s : Sig} : ∀ {t : List ((Str × Nat) × Sig)}, t.lookup x = some s → (x, s) ∈ t
  | [], h => by cases h
  | (y, r) :: t, h => by
    rw [List.lookup_cons] at h
    split at h
    · rename_i e
      have e2 := eq_of_beq e
      have e3 := Option.some.inj h
      subst e2
      subst e3
      exact List.mem_cons_self
    · exact List.mem_cons_of_mem _ (lookup_mem h)
section
variable {w : World} {K : PySem.W.Frag} {mg : Str → Option Value} {base : Heap} {T : Tb}
abbrev Kn (w : World) (K : PySem.W.Frag) (mg : Str → Option Value) (base : Heap) (T : Tb) (k : Nat) (t : List ((Str × Nat) × Sig)) : Prop := ∀ p ∈ t, FnP prog w K mg base T k p.1.1 p.2 ∧ mg p.1.1 = some (.ref (He.ga K p.1.1))
theorem Kn.nil {k : Nat} : Kn w K mg base T k [] := fun p hp => by cases hp
theorem Kn.cons {k : Nat} {x : Str} {n : Nat} {s : Sig} {t : List ((Str × Nat) × Sig)} (h : FnP prog w K mg base T k x s) (hm : mg x = some (.ref (He.ga K x))) (r : Kn w K mg base T k t) : Kn w K mg base T k (((x, n), s) :: t) := fun p hp => by
  rcases List.mem_cons.mp hp with e | hp
  · rw [e]
    exact ⟨h, hm⟩
  · exact r p hp
theorem Kn.app {k : Nat} {t u : List ((Str × Nat) × Sig)} (h : Kn w K mg base T k t) (r : Kn w K mg base T k u) : Kn w K mg base T k (t ++ u) := fun p hp => (List.mem_append.mp hp).elim (h p) (r p)
theorem Kn.up {k k' : Nat} {t : List ((Str × Nat) × Sig)} (h : Kn w K mg base T k t) (l : k ≤ k') : Kn w K mg base T k' t := fun p hp => ⟨(h p hp).1.up l, (h p hp).2⟩
theorem gi_ok {k : Nat} {t : List ((Str × Nat) × Sig)} (h : Hd K mg) (hf : Kn w K mg base T k t) : GiOk (gi T k (He.ga K) t) prog w K mg base where
  sg := fun x n s e => (hf _ (lookup_mem e)).1
  fa := fun x n s e => (hf _ (lookup_mem e)).2
  gv := fun x r e => by
    have e : gvL.lookup x = some r := e
    unfold gvL at e
    rw [List.lookup_cons] at e
    split at e
    · rename_i e1
      have e2 := eq_of_beq e1
      have e3 := Option.some.inj e
      subst e2
      subst e3
      exact ⟨.ref (He.ga K "NOUGHT"), _, h.nought, rfl, fun G => Dp.tup (He.tupB_ok h.noughtT G) (.cons (.int _) (.cons (.int _) .nil))⟩
    · rw [List.lookup_cons] at e
      split at e
      · rename_i e1
        have e2 := eq_of_beq e1
        have e3 := Option.some.inj e
        subst e2
        subst e3
        exact ⟨.ref (He.ga K "ONE"), _, h.one, rfl, fun G => Dp.tup (He.tupB_ok h.oneT G) (.cons (.int _) (.cons (.int _) .nil))⟩
      · cases e
  bi := fun x e => h.bi x (List.contains_iff_mem.mp e)
  gc := fun x e => by
    have e2 : x = "gcd" := eq_of_beq e
    rw [e2]
    exact h.gcd
  ex := fun x c e => by
    have e : exF (He.ga K) x = some c := e
    unfold exF at e
    split at e
    · rename_i hc
      have hx := List.contains_iff_mem.mp hc
      cases e
      exact ⟨rfl, h.me x hx, h.xp x hx⟩
    · cases e
theorem gi_lq {g : Gi} {q : Str} (h : GiOk g prog w K mg base) : GiOk { g with lq := q } prog w K mg base := ⟨h.sg, h.fa, h.gv, h.bi, h.gc, h.ex⟩
theorem mk {g : Gi} {x : Str} {st : Stmt} {N ps : List Str} {s : Sig} (ok : GiOk g prog w K mg base) (d : Dn K mg x st []) (hdo : Does g (SS N st) (defBody st) s) (Sf : FnScope N ps (defScope st)) (hb : ∀ (kV doc pm : Value) (an : Option Addr) (cdv ct : Value) (us : List Value), us.length = ps.length → bindArgs (PySem.W.fnOf x x (defArgs st) (defBody st) (defScope st) .none kV doc pm an cdv ct) ⟨us, []⟩ = pure (ps.zip us))
    (hdr : s.dr = []) (hn : ps.length = s.n) (hbk : (defScope st).kind = .function) : FnP prog w K mg base g.T (g.k + 1) x s := by
  obtain ⟨⟨fd, F⟩, m⟩ := d
  exact does_ok ok F Sf m (F.bindsN hb) .nil (fun G => by rw [hdr]; exact .nil) hn hbk hdo
theorem mkS {g : Gi} {x : Str} {st : Stmt} {N ps : List Str} {s : Sig} (ok : GiOk g prog w K mg base) (d : Dn K mg x st []) (hdo : DoesS g (SS N st) (defBody st) s) (Sf : FnScope N ps (defScope st)) (hb : ∀ (kV doc pm : Value) (an : Option Addr) (cdv ct : Value) (us : List Value), us.length = ps.length → bindArgs (PySem.W.fnOf x x (defArgs st) (defBody st) (defScope st) .none kV doc pm an cdv ct) ⟨us, []⟩ = pure (ps.zip us))
    (hdr : s.dr = []) (hn : ps.length = s.n) : FnP prog w K mg base g.T (g.k + 1) x s := by
  obtain ⟨⟨fd, F⟩, m⟩ := d
  exact doesS_ok ok F Sf m (F.bindsN hb) .nil (fun G => by rw [hdr]; exact .nil) hn hdo
theorem part_b2 {f : Addr} {fd : FuncData} (FD : FunD K "part" "part" (defArgs s_part) (defBody s_part) (defScope s_part) [.int 1] [] f fd) : Binds K fd ["top", "low"] [] := by
  obtain ⟨ds, h1, h2⟩ := FD.binds1 (ps := ["top", "low"]) 2 1 (by simp) rfl (fun T kV doc pm an cdv ct us its hu hi => match us, its, hu, hi with | [_, _], [_], _, _ => ⟨_, rfl, rfl⟩)
  cases h1
  exact h2
theorem part_b1 {f : Addr} {fd : FuncData} (FD : FunD K "part" "part" (defArgs s_part) (defBody s_part) (defScope s_part) [.int 1] [] f fd) : ∃ us, Vals [.int 1] us ∧ Binds K fd ["top", "low"] us :=
  FD.binds1 (ps := ["top", "low"]) 1 0 (by simp) rfl (fun T kV doc pm an cdv ct us its hu hi => match us, its, hu, hi with | [_], [_], _, _ => ⟨_, rfl, rfl⟩)
theorem parts_ok (h : Hd K mg) : Kn w K mg base T 4 (tParts (He.ga K "BadPart")) := by
  have f_shared : FnP prog w K mg base T 1 "shared" sShared := mk (ps := ["one", "other"]) (gi_ok (k := 0) h .nil) h.d_shared do_shared ⟨rfl, rfl, rfl, by decide +kernel, rfl, by decide +kernel, by decide +kernel⟩ (fun _ _ _ _ _ _ us hl => match us, hl with | [_, _], _ => rfl) rfl rfl rfl
  have f_is_less : FnP prog w K mg base T 1 "is_less" sLess := mk (ps := ["one", "other"]) (gi_ok (k := 0) h .nil) h.d_is_less do_is_less ⟨rfl, rfl, rfl, by decide +kernel, rfl, by decide +kernel, by decide +kernel⟩ (fun _ _ _ _ _ _ us hl => match us, hl with | [_, _], _ => rfl) rfl rfl rfl
  have f_sign_of : FnP prog w K mg base T 1 "sign_of" sSign := mk (ps := ["one"]) (gi_ok (k := 0) h .nil) h.d_sign_of do_sign_of ⟨rfl, rfl, rfl, by decide +kernel, rfl, by decide +kernel, by decide +kernel⟩ (fun _ _ _ _ _ _ us hl => match us, hl with | [_], _ => rfl) rfl rfl rfl
  have f_size_of : FnP prog w K mg base T 1 "size_of" sSize := mk (ps := ["one"]) (gi_ok (k := 0) h .nil) h.d_size_of do_size_of ⟨rfl, rfl, rfl, by decide +kernel, rfl, by decide +kernel, by decide +kernel⟩ (fun _ _ _ _ _ _ us hl => match us, hl with | [_], _ => rfl) rfl rfl rfl
  obtain ⟨⟨fdp, FP⟩, mp⟩ := id h.d_part
  have gp := gi_ok (k := 1) h (Kn.cons (n := 2) f_shared h.d_shared.mg .nil)
  obtain ⟨us1, v1, b1⟩ := part_b1 FP
  have f_part : FnP prog w K mg base T 2 "part" (sPart (He.ga K "BadPart")) := does_ok gp FP ⟨rfl, rfl, rfl, by decide +kernel, rfl, by decide +kernel, by decide +kernel⟩ mp (part_b2 FP) .nil (fun _ => .nil) rfl rfl do_part
  have f_part1 : FnP prog w K mg base T 2 "part" (sPart1 (He.ga K "BadPart")) := does_ok gp FP ⟨rfl, rfl, rfl, by decide +kernel, rfl, by decide +kernel, by decide +kernel⟩ mp b1 v1 (fun G => .cons (.int 1) .nil) rfl rfl do_part
  have g2 := gi_ok (k := 2) h (Kn.cons (n := 2) f_part h.d_part.mg (Kn.cons (n := 1) f_part1 h.d_part.mg .nil))
  have g3 := gi_ok (k := 1) h (Kn.cons (n := 2) f_is_less h.d_is_less.mg .nil)
  have f_plus : FnP prog w K mg base T 3 "plus" sPlus := mk (ps := ["one", "other"]) (g2) h.d_plus do_plus ⟨rfl, rfl, rfl, by decide +kernel, rfl, by decide +kernel, by decide +kernel⟩ (fun _ _ _ _ _ _ us hl => match us, hl with | [_, _], _ => rfl) rfl rfl rfl
  have f_minus : FnP prog w K mg base T 3 "minus" sMinus := mk (ps := ["one", "other"]) (g2) h.d_minus do_minus ⟨rfl, rfl, rfl, by decide +kernel, rfl, by decide +kernel, by decide +kernel⟩ (fun _ _ _ _ _ _ us hl => match us, hl with | [_, _], _ => rfl) rfl rfl rfl
  have f_times : FnP prog w K mg base T 3 "times" sTimes := mk (ps := ["one", "other"]) (g2) h.d_times do_times ⟨rfl, rfl, rfl, by decide +kernel, rfl, by decide +kernel, by decide +kernel⟩ (fun _ _ _ _ _ _ us hl => match us, hl with | [_, _], _ => rfl) rfl rfl rfl
  have f_over : FnP prog w K mg base T 3 "over" (sOver (He.ga K "BadPart")) := mk (ps := ["one", "other"]) (g2) h.d_over do_over ⟨rfl, rfl, rfl, by decide +kernel, rfl, by decide +kernel, by decide +kernel⟩ (fun _ _ _ _ _ _ us hl => match us, hl with | [_, _], _ => rfl) rfl rfl rfl
  have f_lesser : FnP prog w K mg base T 2 "lesser" sLesser := mk (ps := ["one", "other"]) (g3) h.d_lesser do_lesser ⟨rfl, rfl, rfl, by decide +kernel, rfl, by decide +kernel, by decide +kernel⟩ (fun _ _ _ _ _ _ us hl => match us, hl with | [_, _], _ => rfl) rfl rfl rfl
  have f_greater : FnP prog w K mg base T 2 "greater" sGreater := mk (ps := ["one", "other"]) (g3) h.d_greater do_greater ⟨rfl, rfl, rfl, by decide +kernel, rfl, by decide +kernel, by decide +kernel⟩ (fun _ _ _ _ _ _ us hl => match us, hl with | [_, _], _ => rfl) rfl rfl rfl
  have g4 := gi_ok (k := 3) h (Kn.cons (n := 2) f_plus h.d_plus.mg .nil)
  have f_total : FnP prog w K mg base T 4 "total" sTotal := mk (ps := ["parts"]) (g4) h.d_total do_total ⟨rfl, rfl, rfl, by decide +kernel, rfl, by decide +kernel, by decide +kernel⟩ (fun _ _ _ _ _ _ us hl => match us, hl with | [_], _ => rfl) rfl rfl rfl
  exact .cons (f_shared.up (by decide)) h.d_shared.mg (.cons (f_part.up (by decide)) h.d_part.mg (.cons (f_part1.up (by decide)) h.d_part.mg (.cons (f_plus.up (by decide)) h.d_plus.mg (.cons (f_minus.up (by decide)) h.d_minus.mg (.cons (f_times.up (by decide)) h.d_times.mg (.cons (f_over.up (by decide)) h.d_over.mg (.cons (f_is_less.up (by decide)) h.d_is_less.mg (.cons (f_sign_of.up (by decide)) h.d_sign_of.mg (.cons (f_size_of.up (by decide)) h.d_size_of.mg (.cons (f_total.up (by decide)) h.d_total.mg (.cons (f_lesser.up (by decide)) h.d_lesser.mg (.cons (f_greater.up (by decide)) h.d_greater.mg (.nil)))))))))))))
theorem points_ok (h : Hd K mg) : Kn w K mg base T 7 (tPoints2 ++ (tPoints ++ tParts (He.ga K "BadPart"))) := by
  have pa := parts_ok (w := w) (base := base) (T := T) h
  have f_point : FnP prog w K mg base T 5 "point" sPoint := mk (ps := ["x", "y"]) (gi_ok h pa) h.d_point do_point ⟨rfl, rfl, rfl, by decide +kernel, rfl, by decide +kernel, by decide +kernel⟩ (fun _ _ _ _ _ _ us hl => match us, hl with | [_, _], _ => rfl) rfl rfl rfl
  have f_apart : FnP prog w K mg base T 5 "apart" sApart := mk (ps := ["one", "other"]) (gi_ok h pa) h.d_apart do_apart ⟨rfl, rfl, rfl, by decide +kernel, rfl, by decide +kernel, by decide +kernel⟩ (fun _ _ _ _ _ _ us hl => match us, hl with | [_, _], _ => rfl) rfl rfl rfl
  have f_side : FnP prog w K mg base T 5 "side" sSide := mk (ps := ["start", "end", "spot"]) (gi_ok h pa) h.d_side do_side ⟨rfl, rfl, rfl, by decide +kernel, rfl, by decide +kernel, by decide +kernel⟩ (fun _ _ _ _ _ _ us hl => match us, hl with | [_, _, _], _ => rfl) rfl rfl rfl
  have f_spans_meet : FnP prog w K mg base T 5 "spans_meet" sSpans := mk (ps := ["one", "other", "first", "second"]) (gi_ok h pa) h.d_spans_meet do_spans ⟨rfl, rfl, rfl, by decide +kernel, rfl, by decide +kernel, by decide +kernel⟩ (fun _ _ _ _ _ _ us hl => match us, hl with | [_, _, _, _], _ => rfl) rfl rfl rfl
  have pb : Kn w K mg base T 5 (tPa ++ tParts (He.ga K "BadPart")) := .app (Kn.cons (f_point.up (by decide)) h.d_point.mg (Kn.cons (f_apart.up (by decide)) h.d_apart.mg (Kn.cons (f_side.up (by decide)) h.d_side.mg (Kn.cons (f_spans_meet.up (by decide)) h.d_spans_meet.mg (.nil))))) (pa.up (by decide))
  have f_may_meet : FnP prog w K mg base T 6 "may_meet" sMay := mk (ps := ["one", "other"]) (gi_ok h pb) h.d_may_meet do_may ⟨rfl, rfl, rfl, by decide +kernel, rfl, by decide +kernel, by decide +kernel⟩ (fun _ _ _ _ _ _ us hl => match us, hl with | [_, _], _ => rfl) rfl rfl rfl
  have f_on_way : FnP prog w K mg base T 6 "on_way" sWay := mk (ps := ["one", "other", "share"]) (gi_ok h pb) h.d_on_way do_on_way ⟨rfl, rfl, rfl, by decide +kernel, rfl, by decide +kernel, by decide +kernel⟩ (fun _ _ _ _ _ _ us hl => match us, hl with | [_, _, _], _ => rfl) rfl rfl rfl
  have f_square : FnP prog w K mg base T 6 "square" sSquare := mk (ps := ["one", "other"]) (gi_ok h pb) h.d_square do_square ⟨rfl, rfl, rfl, by decide +kernel, rfl, by decide +kernel, by decide +kernel⟩ (fun _ _ _ _ _ _ us hl => match us, hl with | [_, _], _ => rfl) rfl rfl rfl
  have f_stride : FnP prog w K mg base T 6 "stride" sStride := mk (ps := ["one", "other"]) (gi_ok h pb) h.d_stride do_stride ⟨rfl, rfl, rfl, by decide +kernel, rfl, by decide +kernel, by decide +kernel⟩ (fun _ _ _ _ _ _ us hl => match us, hl with | [_, _], _ => rfl) rfl rfl rfl
  have pc : Kn w K mg base T 6 ((("may_meet", 2), sMay) :: (tPa ++ tParts (He.ga K "BadPart"))) := Kn.cons f_may_meet h.d_may_meet.mg (pb.up (by decide))
  have f_between : FnP prog w K mg base T 7 "between" sBetw := mk (ps := ["start", "end", "spot"]) (gi_ok h pc) h.d_between do_between ⟨rfl, rfl, rfl, by decide +kernel, rfl, by decide +kernel, by decide +kernel⟩ (fun _ _ _ _ _ _ us hl => match us, hl with | [_, _, _], _ => rfl) rfl rfl rfl
  exact .app (Kn.cons (f_square.up (by decide)) h.d_square.mg (Kn.cons (f_stride.up (by decide)) h.d_stride.mg (.nil))) (.app (Kn.cons (f_point.up (by decide)) h.d_point.mg (Kn.cons (f_apart.up (by decide)) h.d_apart.mg (Kn.cons (f_side.up (by decide)) h.d_side.mg (Kn.cons (f_spans_meet.up (by decide)) h.d_spans_meet.mg (Kn.cons (f_may_meet.up (by decide)) h.d_may_meet.mg (Kn.cons (f_between.up (by decide)) h.d_between.mg (Kn.cons (f_on_way.up (by decide)) h.d_on_way.mg (.nil)))))))) (pa.up (by decide)))
end
end BW
/-! U16A -/
namespace BW
open PySem PySem.Spec PyProof.Rows L2 Cal LamX
section
variable {w : World} {K : PySem.W.Frag} {mg : Str → Option Value} {base : Heap} {T : Tb}
abbrev tG (K : PySem.W.Frag) : List ((Str × Nat) × Sig) := tPoints2 ++ (tPoints ++ tParts (He.ga K "BadPart"))
structure Tr (w : World) (K : PySem.W.Frag) (mg : Str → Option Value) (base : Heap) (T : Tb) : Prop where
  cases : Kn w K mg base T 11 (tC (He.ga K))
  top : Kn w K mg base T 11 [(("_law_rounds", 2), sRounds), (("_law_spot", 2), sSpot), (("_law_roll", 2), sRoll), (("_law_nearest", 2), sLnear)]
  end_ : Kn w K mg base T 11 [(("fewer", 2), sFewer), (("evenly", 2), sEven (He.ga K "BadSize")), (("length_at", 2), sLenAt)]
  mid : Kn w K mg base T 11 (tMid (He.ga K))
theorem tracks_ok (h : Hd K mg) : Tr w K mg base T := by
  have p0 := points_ok (w := w) (base := base) (T := T) h
  have f_check_track : FnP prog w K mg base T 8 "check_track" (sTrack (He.ga K "BadPoint")) := mk (ps := ["row"]) (gi_ok h p0) h.d_check_track do_check_track ⟨rfl, rfl, rfl, by decide +kernel, rfl, by decide +kernel, by decide +kernel⟩ (fun _ _ _ _ _ _ us hl => match us, hl with | [_], _ => rfl) rfl rfl rfl
  have f_on_step : FnP prog w K mg base T 8 "on_step" sStep := mk (ps := ["start", "end", "spot"]) (gi_ok h p0) h.d_on_step do_on_step ⟨rfl, rfl, rfl, by decide +kernel, rfl, by decide +kernel, by decide +kernel⟩ (fun _ _ _ _ _ _ us hl => match us, hl with | [_, _, _], _ => rfl) rfl rfl rfl
  have f_length_of : FnP prog w K mg base T 8 "length_of" sLen := mk (ps := ["row"]) (gi_ok h p0) h.d_length_of do_length_of ⟨rfl, rfl, rfl, by decide +kernel, rfl, by decide +kernel, by decide +kernel⟩ (fun _ _ _ _ _ _ us hl => match us, hl with | [_], _ => rfl) rfl rfl rfl
  have p1 : Kn w K mg base T 8 (tStep ++ tG K) := .app (Kn.cons (f_on_step.up (by decide)) h.d_on_step.mg (.nil)) (p0.up (by decide))
  have f_far_from : FnP prog w K mg base T 9 "far_from" sFar := mk (ps := ["start", "end", "spot"]) (gi_ok h p1) h.d_far_from do_far_from ⟨rfl, rfl, rfl, by decide +kernel, rfl, by decide +kernel, by decide +kernel⟩ (fun _ _ _ _ _ _ us hl => match us, hl with | [_, _, _], _ => rfl) rfl rfl rfl
  have f__law_nearest : FnP prog w K mg base T 9 "_law_nearest" sLnear := mk (ps := ["row", "spot"]) (gi_ok h p1) h.d__law_nearest do_lnear ⟨rfl, rfl, rfl, by decide +kernel, rfl, by decide +kernel, by decide +kernel⟩ (fun _ _ _ _ _ _ us hl => match us, hl with | [_, _], _ => rfl) rfl rfl rfl
  have p2 : Kn w K mg base T 8 (tLen (He.ga K "BadPoint") ++ (tStep ++ tG K)) := .app (Kn.cons (f_length_of.up (by decide)) h.d_length_of.mg (Kn.cons (f_check_track.up (by decide)) h.d_check_track.mg (.nil))) (p1.up (by decide))
  have f_whole_way : FnP prog w K mg base T 9 "whole_way" sWhole := mk (ps := ["row"]) (gi_ok h p2) h.d_whole_way do_whole_way ⟨rfl, rfl, rfl, by decide +kernel, rfl, by decide +kernel, by decide +kernel⟩ (fun _ _ _ _ _ _ us hl => match us, hl with | [_], _ => rfl) rfl rfl rfl
  have f_nearest_on : FnP prog w K mg base T 9 "nearest_on" sNearest := mk (ps := ["row", "spot"]) (gi_ok h p2) h.d_nearest_on do_nearest_on ⟨rfl, rfl, rfl, by decide +kernel, rfl, by decide +kernel, by decide +kernel⟩ (fun _ _ _ _ _ _ us hl => match us, hl with | [_, _], _ => rfl) rfl rfl rfl
  have f_at_length : FnP prog w K mg base T 9 "at_length" (sAt (He.ga K "BadSize")) := mk (ps := ["row", "far"]) (gi_ok h p2) h.d_at_length do_at_length ⟨rfl, rfl, rfl, by decide +kernel, rfl, by decide +kernel, by decide +kernel⟩ (fun _ _ _ _ _ _ us hl => match us, hl with | [_, _], _ => rfl) rfl rfl rfl
  have p3 : Kn w K mg base T 9 (tNear ++ (tLen (He.ga K "BadPoint") ++ (tStep ++ tG K))) := .app (Kn.cons (f_nearest_on.up (by decide)) h.d_nearest_on.mg (.nil)) (p2.up (by decide))
  have f_length_at : FnP prog w K mg base T 10 "length_at" sLenAt := mk (ps := ["row", "spot"]) (gi_ok h p3) h.d_length_at do_length_at ⟨rfl, rfl, rfl, by decide +kernel, rfl, by decide +kernel, by decide +kernel⟩ (fun _ _ _ _ _ _ us hl => match us, hl with | [_, _], _ => rfl) rfl rfl rfl
  have p4 : Kn w K mg base T 9 (tFar ++ (tNear ++ (tLen (He.ga K "BadPoint") ++ (tStep ++ tG K)))) := .app (Kn.cons (f_far_from.up (by decide)) h.d_far_from.mg (.nil)) p3
  have f_furthest_off : FnP prog w K mg base T 10 "furthest_off" sOff := mk (ps := ["row", "low", "high", "most"]) (gi_ok h p4) h.d_furthest_off do_furthest_off ⟨rfl, rfl, rfl, by decide +kernel, rfl, by decide +kernel, by decide +kernel⟩ (fun _ _ _ _ _ _ us hl => match us, hl with | [_, _, _, _], _ => rfl) rfl rfl rfl
  have p5 : Kn w K mg base T 10 (tOff ++ (tFar ++ (tNear ++ (tLen (He.ga K "BadPoint") ++ (tStep ++ tG K))))) := .app (Kn.cons (f_furthest_off.up (by decide)) h.d_furthest_off.mg (.nil)) (p4.up (by decide))
  have f_fewer : FnP prog w K mg base T 11 "fewer" sFewer := mkS (ps := ["row", "most"]) (gi_ok h p5) h.d_fewer do_fewer ⟨rfl, rfl, rfl, by decide +kernel, rfl, by decide +kernel, by decide +kernel⟩ (fun _ _ _ _ _ _ us hl => match us, hl with | [_, _], _ => rfl) rfl rfl
  have pAt : Kn w K mg base T 10 (tAt (He.ga K "BadSize")) := Kn.cons (f_at_length.up (by decide)) h.d_at_length.mg (Kn.cons (f_whole_way.up (by decide)) h.d_whole_way.mg (.nil))
  have p6 : Kn w K mg base T 10 (tAt (He.ga K "BadSize") ++ (tOff ++ (tFar ++ (tNear ++ (tLen (He.ga K "BadPoint") ++ (tStep ++ tG K)))))) := .app pAt p5
  have f_evenly : FnP prog w K mg base T 11 "evenly" (sEven (He.ga K "BadSize")) := mk (ps := ["row", "many"]) (gi_ok h p6) h.d_evenly do_evenly ⟨rfl, rfl, rfl, by decide +kernel, rfl, by decide +kernel, by decide +kernel⟩ (fun _ _ _ _ _ _ us hl => match us, hl with | [_, _], _ => rfl) rfl rfl rfl
  have f__law_dice : FnP prog w K mg base T 1 "_law_dice" sDice := mkS (ps := ["cell"]) (gi_ok (k := 0) h .nil) h.d__law_dice do_dice ⟨rfl, rfl, rfl, by decide +kernel, rfl, by decide +kernel, by decide +kernel⟩ (fun _ _ _ _ _ _ us hl => match us, hl with | [_], _ => rfl) rfl rfl
  have f__law_roll : FnP prog w K mg base T 1 "_law_roll" sRoll := mkS (ps := ["dice", "many"]) (gi_ok (k := 0) h .nil) h.d__law_roll do_roll ⟨rfl, rfl, rfl, by decide +kernel, rfl, by decide +kernel, by decide +kernel⟩ (fun _ _ _ _ _ _ us hl => match us, hl with | [_, _], _ => rfl) rfl rfl
  have fp : FnP prog w K mg base T 7 "point" sPoint := (p0 (("point", 2), sPoint) (by unfold tPoints; simp)).1
  have q1 : Kn w K mg base T 7 tLaw := Kn.cons (f__law_dice.up (by decide)) h.d__law_dice.mg (Kn.cons (f__law_roll.up (by decide)) h.d__law_roll.mg (Kn.cons fp h.d_point.mg .nil))
  have f__law_spot : FnP prog w K mg base T 8 "_law_spot" sSpot := mk (ps := ["dice", "most"]) (gi_ok h q1) h.d__law_spot do_spot ⟨rfl, rfl, rfl, by decide +kernel, rfl, by decide +kernel, by decide +kernel⟩ (fun _ _ _ _ _ _ us hl => match us, hl with | [_, _], _ => rfl) rfl rfl rfl
  have f__law_rounds : FnP prog w K mg base T 8 "_law_rounds" sRounds := mk (ps := ["script", "most"]) (gi_ok h q1) h.d__law_rounds do_rounds ⟨rfl, rfl, rfl, by decide +kernel, rfl, by decide +kernel, by decide +kernel⟩ (fun _ _ _ _ _ _ us hl => match us, hl with | [_, _], _ => rfl) rfl rfl rfl
  have mid : Kn w K mg base T 11 (tMid (He.ga K)) := .app (pAt.up (by decide)) (p4.up (by decide))
  exact ⟨Kn.cons f_evenly h.d_evenly.mg mid, Kn.cons (f__law_rounds.up (by decide)) h.d__law_rounds.mg (Kn.cons (f__law_spot.up (by decide)) h.d__law_spot.mg (Kn.cons (f__law_roll.up (by decide)) h.d__law_roll.mg (Kn.cons (f__law_nearest.up (by decide)) h.d__law_nearest.mg (.nil)))), Kn.cons (f_fewer.up (by decide)) h.d_fewer.mg (Kn.cons (f_evenly.up (by decide)) h.d_evenly.mg (Kn.cons (f_length_at.up (by decide)) h.d_length_at.mg (.nil))), mid⟩
end
end BW
/-! U16B -/
namespace BW
open PySem PySem.Spec PyProof.Rows L2 Cal LamX
section
variable {P : Program} {w : World} {K : PySem.W.Frag} {mg : Str → Option Value} {base : Heap}
theorem fnL_ok {g : Gi} {x : Str} {params : Arguments} {body : List Stmt} {scope : Scope} {f Pt : Addr} {fd : FuncData} {N ps : List Str} {s : Sig} (ok : GiOk g P w K mg base) (FD : FunD K x x params body scope [] [] f fd) (Sf : FnScope N ps scope)
    (hn : ps.length = s.n) (hf : He.fAd K (x, none) = f) (TB : TabB base mg (He.codeOf K (x, none)) Pt) (hmT : (Pt, g.lq) ∈ g.T) (hu : ∀ p ∈ g.T, p.1 = Pt → p.2 = g.lq)
    (hq : ∀ (n a : Addr) (v : Value), (envOfC x scope n a v).qual ++ "<lambda>" = g.lq) (tk : ToldK g K mg) (hdo : DoesS g ⟨N, scope, fun _ => true, true, true⟩ body s) : FnOk P w K mg base (L2.CX P w) (g.k + 3) f fd ps (spP K g.T s) := by
  obtain ⟨oc, od, dV, kV, doc, pm, an, cdv, ct, osl, rfl, lk, hcd, _, _⟩ := FD.ex
  obtain ⟨c, rfl⟩ := He.codeIn_ref hcd
  have ec : He.codeOf K (x, none) = c := He.codeOf_eq (by rw [hf]; exact lk) rfl
  rw [ec] at TB
  refine fn_of lk hcd Sf (fun vs H Q E h => (spP_len vs H Q E h).trans hn.symm) fun A outer s' H vs Q E hr h => ?_
  obtain ⟨G, rs, M, Qp, Ep, hl, w0, hvs, hT, hok, her⟩ := h
  have hl2 : rs.length = s.n := hvs.len.symm.trans hl
  have o : Xo g ⟨N, scope, fun _ => true, true, true⟩ (Bx P w K mg base N x scope f (.ref c) A outer s' H E) (wE E) := ⟨ok, rfl, rfl, fun _ _ => rfl, Sf.nd, rfl, hr.mono (by omega), takesB, fun _ => ⟨⟨c, Pt, TB, rfl, hmT, hu⟩, hq _ _ _⟩, fun _ => ⟨tk, hq _ _ _, hr⟩⟩
  have hw := wpSs_ok (k := ⟨fun _ M1 => Shr Qp (.dat .none) M1, Shr Qp, fun _ _ => False, fun _ _ => False, Ep⟩) (wpS_ok ⟨o, passB⟩ 40) (hdo rs M Qp Ep hl2 hT)
  have hok2 := shr_ok hok
  exact ⟨_, hw, G, w0, Sl.start hvs, fun ds' M' σ' G' H' h sg w' s' => hok2 (.dat .none) M' .non G' H' h sg w' Dp.non, hok2, fun _ _ _ _ _ h => h.elim, fun _ _ _ _ _ h => h.elim, fun c M' G' H' σ' he sg w' => her c M' G' H' he sg w'⟩
end
section
variable {w : World} {K : PySem.W.Frag} {mg : Str → Option Value} {base : Heap}
abbrev Tt (K : PySem.W.Frag) : Tb := [((He.cT K ("_law_cases1", none)).2, qCases), ((He.cT K ("law", none)).2, qLaw)]
theorem told_of (h : Hd K mg) {g : Gi} (hes : g.es = es9 K) : ToldK g K mg := by
  obtain ⟨⟨fd, F⟩, m⟩ := h.d__law_told
  refine ⟨defArgs s__law_told, defBody s__law_told, defScope s__law_told, _, fd, F, m, ⟨rfl, rfl, rfl, by decide +kernel, rfl, by decide +kernel, by decide +kernel⟩, .inl rfl, (fun _ _ _ _ _ _ us hl => match us, hl with | [_], _ => rfl), fun X hK hm cdg => ?_⟩
  subst hK
  subst hm
  rw [hes]
  exact gives9 h.xm h.me cdg
theorem cases_fn (h : Hd K mg) (TB : TabB base mg (He.cT K ("_law_cases1", none)).1 (He.cT K ("_law_cases1", none)).2) (hne : (He.cT K ("_law_cases1", none)).2 ≠ (He.cT K ("law", none)).2) : FnP prog w K mg base (Tt K) 14 "_law_cases1" sCases := by
  obtain ⟨⟨fd, F⟩, m⟩ := id h.d__law_cases1
  have tr := tracks_ok (w := w) (base := base) (T := Tt K) h
  refine doesL_ok (g := gC (Tt K) 11 (He.ga K)) (Pt := (He.cT K ("_law_cases1", none)).2) (gi_lq (gi_ok h tr.cases)) F ⟨rfl, rfl, rfl, by decide +kernel, rfl, by decide +kernel, by decide +kernel⟩ m (F.bindsN (ps := []) (fun _ _ _ _ _ _ us hl => match us, hl with | [], _ => rfl)) rfl rfl rfl TB List.mem_cons_self (fun p hp e => ?_) (fun _ _ _ => rfl) (told_of h rfl) do_cases
  rcases List.mem_cons.mp hp with e2 | hp
  · rw [e2]
  · rcases List.mem_cons.mp hp with e2 | hp
    · rw [e2] at e
      exact absurd e.symm hne
    · exact absurd hp (by simp)
theorem top_ok (h : Hd K mg) (TB : TabB base mg (He.cT K ("_law_cases1", none)).1 (He.cT K ("_law_cases1", none)).2) (hne : (He.cT K ("_law_cases1", none)).2 ≠ (He.cT K ("law", none)).2) : Kn w K mg base (Tt K) 14 (tTop (He.ga K) ++ tMid (He.ga K)) := by
  have tr := tracks_ok (w := w) (base := base) (T := Tt K) h
  have c := cases_fn (w := w) h TB hne
  have t : Kn w K mg base (Tt K) 14 (tTop (He.ga K)) := .app (tr.top.up (by decide)) (.cons (n := 0) c h.d__law_cases1.mg (tr.end_.up (by decide)))
  exact .app t (tr.mid.up (by decide))
def spLaw (K : PySem.W.Frag) (T : Tb) : Sp := fun vs H Q _ => ∃ (a : Addr) (ns : List Int), vs = [.ref a] ∧ SqL K H a (ns.map V.int) ∧ Tabs T H ∧ ∀ H', Q (.bl true) H'
theorem vk_nums {K : PySem.W.Frag} {G : Hp} : ∀ ns : List Int, DpAll K G (ns.map V.int) (ns.map .int)
  | [] => .nil
  | n :: ns => .cons (.int n) (vk_nums ns)
theorem law_fn (h : Hd K mg) (TB : TabB base mg (He.cT K ("law", none)).1 (He.cT K ("law", none)).2) (TB2 : TabB base mg (He.cT K ("_law_cases1", none)).1 (He.cT K ("_law_cases1", none)).2) (hne : (He.cT K ("_law_cases1", none)).2 ≠ (He.cT K ("law", none)).2)
    {fd : FuncData} (F : FunD K "law" "law" (defArgs s_law) (defBody s_law) (defScope s_law) [] [] (He.ga K "law") fd) : FnOk prog w K mg base (L2.CX prog w) 17 (He.ga K "law") fd ["script"] (spLaw K (Tt K)) := by
  have hT := top_ok (w := w) h TB2 hne
  refine FnOk.imp (fnL_ok (g := gLaw (Tt K) 14 (He.ga K)) (N := NL) (s := sLaw) (Pt := (He.cT K ("law", none)).2) (gi_lq (gi_ok h hT)) F ⟨rfl, rfl, rfl, by decide +kernel, rfl, by decide +kernel, by decide +kernel⟩ rfl rfl TB (List.mem_cons_of_mem _ List.mem_cons_self) (fun p hp e => ?_) (fun _ _ _ => rfl) (told_of h rfl) do_law) fun vs H Q E hs => ?_
  · rcases List.mem_cons.mp hp with e2 | hp
    · rw [e2] at e
      exact absurd e hne
    · rcases List.mem_cons.mp hp with e2 | hp
      · rw [e2]
      · exact absurd hp (by simp)
  obtain ⟨a, ns, rfl, hS, t, q⟩ := hs
  have base0 : ∃ G, Wo K [] G H ∧ SqL K G a (ns.map V.int) := by
    rcases hS with hr0 | hk
    · have hnt : ∀ ps, H a ≠ some (.tbl ps) := fun ps e => by
        rcases hr0 with z | ⟨ob, z⟩
        · rw [z] at e
          cases e
        · rw [z] at e
          cases e
      refine ⟨fun b => if b = a then H a else none, ⟨fun b o e => ?_, fun p hp => absurd hp (by simp), List.nodup_nil, fun b ps e => ?_⟩, .inl ?_⟩
      · have e : (if b = a then H a else none) = some o := e
        split at e
        · rename_i hb
          rw [hb]
          exact e
        · cases e
      · have e : (if b = a then H a else none) = some (.tbl ps) := e
        split at e
        · exact hnt ps e
        · cases e
      · rcases hr0 with z | ⟨ob, z⟩
        · exact .inl ((if_pos rfl).trans z)
        · exact .inr ⟨ob, (if_pos rfl).trans z⟩
    · refine ⟨fun _ => none, ⟨fun b o e => ?_, fun p hp => absurd hp (by simp), List.nodup_nil, fun b ps e => ?_⟩, .inr hk⟩
      · cases (show (none : Option HO) = some o from e)
      · cases (show (none : Option HO) = some (.tbl ps) from e)
  obtain ⟨G, w0, hG⟩ := base0
  refine ⟨G, [.dat (.list (ns.map .int))], [], fun r _ => r = B true, fun _ _ => False, rfl, ⟨w0, t⟩, .cons (Dp.lst hG (vk_nums ns)) .nil, ⟨ns, rfl, rfl, fun _ => rfl⟩, fun r M' v G' H' hr sg w hv => ?_, fun _ _ _ _ he => he.elim⟩
  cases hr
  cases vk_bl hv
  exact q H'
end
end BW
/-! U16C -/
namespace BW
open PySem PySem.Spec PyProof.Rows L2 Cal LamX
theorem ex_ok {K : PySem.W.Frag} (h : ex K = true) : exmB K = true ∧ (He.cT K ("_law_cases1", none)).2 ≠ (He.cT K ("law", none)).2 ∧ He.tupB K "NOUGHT" [.int 0, .int 1] = true ∧ He.tupB K "ONE" [.int 1, .int 1] = true ∧ PySem.W.nsIn K mainGlobals "gcd" = some (some (.builtin "math.gcd")) := by
  unfold ex at h
  simp only [Bool.and_eq_true, decide_eq_true_eq] at h
  obtain ⟨⟨⟨⟨h1, h2⟩, h3⟩, h4⟩, h5⟩ := h
  exact ⟨h1, h2, h3, h4, He.eqO_ok h5⟩
theorem exm_of {K : PySem.W.Frag} (h : exmB K = true) {x y : Str} (hx : x ∈ errs) (hy : y ∈ errs) : PySem.W.exmOne K (.ref (He.ga K x)) (.ref (He.ga K y)) = some (decide (x = y)) :=
  He.exm_ok (List.all_eq_true.mp (List.all_eq_true.mp h x hx) y hy)
theorem esN_inj : ∀ p ∈ esL, ∀ q ∈ esL, (p.1 ∈ errs) ∧ (decide (p.1 = q.1) = decide (p.2 = q.2)) ∧ (decide (p.1 = q.1) = decide (p = q)) := by decide +kernel
theorem xm_of {K : PySem.W.Frag} (h : exmB K = true) : ∀ p ∈ es9 K, ∀ q ∈ es9 K, PySem.W.exmOne K (.ref p.1) (.ref q.1) = some (decide (p = q)) := by
  have e : es9 K = esL.map fun z => (He.ga K z.1, z.2) := rfl
  rw [e]
  intro p hp q hq
  obtain ⟨p', hp', rfl⟩ := List.mem_map.mp hp
  obtain ⟨q', hq', rfl⟩ := List.mem_map.mp hq
  have z := exm_of h (esN_inj p' hp' q' hq').1 (esN_inj q' hq' p' hp').1
  show PySem.W.exmOne K (.ref (He.ga K p'.1)) (.ref (He.ga K q'.1)) = _
  rw [z]
  have e2 := (esN_inj p' hp' q' hq').2.1
  by_cases hpq : p'.1 = q'.1
  · have h2 : p'.2 = q'.2 := by
      rw [decide_eq_true hpq] at e2
      exact of_decide_eq_true e2.symm
    rw [decide_eq_true hpq, decide_eq_true (by rw [hpq, h2])]
  · have h2 : ¬p'.2 = q'.2 := by
      rw [decide_eq_false hpq] at e2
      exact of_decide_eq_false e2.symm
    rw [decide_eq_false hpq, decide_eq_false (fun z => h2 (Prod.mk.inj z).2)]
theorem me_of {mg : Str → Option Value} {K : PySem.W.Frag} {h : Heap} {w : World} (X : K.In h) (G : h.Ns mainGlobals mg) (c : He.SaysD fa fn K) : ∀ x ∈ errs, mg x = some (.ref (He.ga K x)) := by
  intro x hx
  simp only [errs, List.mem_cons, List.not_mem_nil, or_false] at hx
  rcases hx with rfl | rfl | rfl | rfl | rfl | rfl | rfl | rfl | rfl
  · exact He.glo_ok X G (c.fact 41 (f := .glo "BadPart") rfl)
  · exact He.glo_ok X G (c.fact 42 (f := .glo "BadPoint") rfl)
  · exact He.glo_ok X G (c.fact 43 (f := .glo "BadRing") rfl)
  · exact He.glo_ok X G (c.fact 44 (f := .glo "BadMap") rfl)
  · exact He.glo_ok X G (c.fact 45 (f := .glo "BadPaper") rfl)
  · exact He.glo_ok X G (c.fact 46 (f := .glo "BadSize") rfl)
  · exact He.glo_ok X G (c.fact 47 (f := .glo "BadText") rfl)
  · exact He.glo_ok X G (c.fact 48 (f := .glo "BadStore") rfl)
  · exact He.glo_ok X G (c.fact 49 (f := .glo "NoSuch") rfl)
theorem xp_of {mg : Str → Option Value} {K : PySem.W.Frag} {h : Heap} {w : World} (X : K.In h) (G : h.Ns mainGlobals mg) (c : He.SaysD fa fn K) : ∀ x ∈ errs, (He.Fa.exc x).ok K = true := by
  intro x hx
  simp only [errs, List.mem_cons, List.not_mem_nil, or_false] at hx
  rcases hx with rfl | rfl | rfl | rfl | rfl | rfl | rfl | rfl | rfl
  · exact c.fact 50 (f := .exc "BadPart") rfl
  · exact c.fact 51 (f := .exc "BadPoint") rfl
  · exact c.fact 52 (f := .exc "BadRing") rfl
  · exact c.fact 53 (f := .exc "BadMap") rfl
  · exact c.fact 54 (f := .exc "BadPaper") rfl
  · exact c.fact 55 (f := .exc "BadSize") rfl
  · exact c.fact 56 (f := .exc "BadText") rfl
  · exact c.fact 57 (f := .exc "BadStore") rfl
  · exact c.fact 58 (f := .exc "NoSuch") rfl
theorem bi_of {mg : Str → Option Value} {K : PySem.W.Frag} {h : Heap} {w : World} (X : K.In h) (G : h.Ns mainGlobals mg) (c : He.SaysD fa fn K) : ∀ x ∈ biL, mg x = none := by
  intro x hx
  simp only [biL, List.mem_cons, List.not_mem_nil, or_false] at hx
  rcases hx with rfl | rfl | rfl | rfl | rfl | rfl | rfl | rfl | rfl | rfl
  · exact He.free_ok X G (c.fact 59 (f := .free "abs") rfl)
  · exact He.free_ok X G (c.fact 60 (f := .free "any") rfl)
  · exact He.free_ok X G (c.fact 61 (f := .free "enumerate") rfl)
  · exact He.free_ok X G (c.fact 62 (f := .free "int") rfl)
  · exact He.free_ok X G (c.fact 63 (f := .free "len") rfl)
  · exact He.free_ok X G (c.fact 64 (f := .free "list") rfl)
  · exact He.free_ok X G (c.fact 65 (f := .free "range") rfl)
  · exact He.free_ok X G (c.fact 66 (f := .free "sorted") rfl)
  · exact He.free_ok X G (c.fact 67 (f := .free "tuple") rfl)
  · exact He.free_ok X G (c.fact 68 (f := .free "zip") rfl)
theorem hd_of {mg : Str → Option Value} {K : PySem.W.Frag} {h : Heap} {w : World} (X : K.In h) (G : h.Ns mainGlobals mg) (c : He.SaysX fa fn [] tf ex w h K) : Hd K mg where
  bi := bi_of (w := w) X G c.t.d
  gcd := PySem.W.mg_of X G (ex_ok c.more).2.2.2.2
  nought := He.glo_ok X G (c.t.d.fact 69 (f := .glo "NOUGHT") rfl)
  noughtT := (ex_ok c.more).2.2.1
  one := He.glo_ok X G (c.t.d.fact 70 (f := .glo "ONE") rfl)
  oneT := (ex_ok c.more).2.2.2.1
  me := me_of (w := w) X G c.t.d
  xp := xp_of (w := w) X G c.t.d
  xm := xm_of (ex_ok c.more).1
  d_shared := ⟨c.t.d.def_ 0 (d := d_shared) rfl, He.glo_ok X G (c.t.d.fact 0 (f := .glo "shared") rfl)⟩
  d_part := ⟨c.t.d.def_ 1 (d := d_part) rfl, He.glo_ok X G (c.t.d.fact 1 (f := .glo "part") rfl)⟩
  d_plus := ⟨c.t.d.def_ 2 (d := d_plus) rfl, He.glo_ok X G (c.t.d.fact 2 (f := .glo "plus") rfl)⟩
  d_minus := ⟨c.t.d.def_ 3 (d := d_minus) rfl, He.glo_ok X G (c.t.d.fact 3 (f := .glo "minus") rfl)⟩
  d_times := ⟨c.t.d.def_ 4 (d := d_times) rfl, He.glo_ok X G (c.t.d.fact 4 (f := .glo "times") rfl)⟩
  d_over := ⟨c.t.d.def_ 5 (d := d_over) rfl, He.glo_ok X G (c.t.d.fact 5 (f := .glo "over") rfl)⟩
  d_is_less := ⟨c.t.d.def_ 6 (d := d_is_less) rfl, He.glo_ok X G (c.t.d.fact 6 (f := .glo "is_less") rfl)⟩
  d_sign_of := ⟨c.t.d.def_ 7 (d := d_sign_of) rfl, He.glo_ok X G (c.t.d.fact 7 (f := .glo "sign_of") rfl)⟩
  d_size_of := ⟨c.t.d.def_ 8 (d := d_size_of) rfl, He.glo_ok X G (c.t.d.fact 8 (f := .glo "size_of") rfl)⟩
  d_total := ⟨c.t.d.def_ 9 (d := d_total) rfl, He.glo_ok X G (c.t.d.fact 9 (f := .glo "total") rfl)⟩
  d_lesser := ⟨c.t.d.def_ 10 (d := d_lesser) rfl, He.glo_ok X G (c.t.d.fact 10 (f := .glo "lesser") rfl)⟩
  d_greater := ⟨c.t.d.def_ 11 (d := d_greater) rfl, He.glo_ok X G (c.t.d.fact 11 (f := .glo "greater") rfl)⟩
  d_point := ⟨c.t.d.def_ 12 (d := d_point) rfl, He.glo_ok X G (c.t.d.fact 12 (f := .glo "point") rfl)⟩
  d_apart := ⟨c.t.d.def_ 13 (d := d_apart) rfl, He.glo_ok X G (c.t.d.fact 13 (f := .glo "apart") rfl)⟩
  d_side := ⟨c.t.d.def_ 14 (d := d_side) rfl, He.glo_ok X G (c.t.d.fact 14 (f := .glo "side") rfl)⟩
  d_spans_meet := ⟨c.t.d.def_ 15 (d := d_spans_meet) rfl, He.glo_ok X G (c.t.d.fact 15 (f := .glo "spans_meet") rfl)⟩
  d_between := ⟨c.t.d.def_ 16 (d := d_between) rfl, He.glo_ok X G (c.t.d.fact 16 (f := .glo "between") rfl)⟩
  d_on_way := ⟨c.t.d.def_ 17 (d := d_on_way) rfl, He.glo_ok X G (c.t.d.fact 17 (f := .glo "on_way") rfl)⟩
  d_may_meet := ⟨c.t.d.def_ 18 (d := d_may_meet) rfl, He.glo_ok X G (c.t.d.fact 18 (f := .glo "may_meet") rfl)⟩
  d_square := ⟨c.t.d.def_ 19 (d := d_square) rfl, He.glo_ok X G (c.t.d.fact 19 (f := .glo "square") rfl)⟩
  d_stride := ⟨c.t.d.def_ 20 (d := d_stride) rfl, He.glo_ok X G (c.t.d.fact 20 (f := .glo "stride") rfl)⟩
  d_check_track := ⟨c.t.d.def_ 21 (d := d_check_track) rfl, He.glo_ok X G (c.t.d.fact 21 (f := .glo "check_track") rfl)⟩
  d_on_step := ⟨c.t.d.def_ 22 (d := d_on_step) rfl, He.glo_ok X G (c.t.d.fact 22 (f := .glo "on_step") rfl)⟩
  d_nearest_on := ⟨c.t.d.def_ 23 (d := d_nearest_on) rfl, He.glo_ok X G (c.t.d.fact 23 (f := .glo "nearest_on") rfl)⟩
  d_whole_way := ⟨c.t.d.def_ 24 (d := d_whole_way) rfl, He.glo_ok X G (c.t.d.fact 24 (f := .glo "whole_way") rfl)⟩
  d_length_of := ⟨c.t.d.def_ 25 (d := d_length_of) rfl, He.glo_ok X G (c.t.d.fact 25 (f := .glo "length_of") rfl)⟩
  d_at_length := ⟨c.t.d.def_ 26 (d := d_at_length) rfl, He.glo_ok X G (c.t.d.fact 26 (f := .glo "at_length") rfl)⟩
  d_length_at := ⟨c.t.d.def_ 27 (d := d_length_at) rfl, He.glo_ok X G (c.t.d.fact 27 (f := .glo "length_at") rfl)⟩
  d_fewer := ⟨c.t.d.def_ 28 (d := d_fewer) rfl, He.glo_ok X G (c.t.d.fact 28 (f := .glo "fewer") rfl)⟩
  d_furthest_off := ⟨c.t.d.def_ 29 (d := d_furthest_off) rfl, He.glo_ok X G (c.t.d.fact 29 (f := .glo "furthest_off") rfl)⟩
  d_far_from := ⟨c.t.d.def_ 30 (d := d_far_from) rfl, He.glo_ok X G (c.t.d.fact 30 (f := .glo "far_from") rfl)⟩
  d_evenly := ⟨c.t.d.def_ 31 (d := d_evenly) rfl, He.glo_ok X G (c.t.d.fact 31 (f := .glo "evenly") rfl)⟩
  d__law_dice := ⟨c.t.d.def_ 32 (d := d__law_dice) rfl, He.glo_ok X G (c.t.d.fact 32 (f := .glo "_law_dice") rfl)⟩
  d__law_roll := ⟨c.t.d.def_ 33 (d := d__law_roll) rfl, He.glo_ok X G (c.t.d.fact 33 (f := .glo "_law_roll") rfl)⟩
  d__law_rounds := ⟨c.t.d.def_ 34 (d := d__law_rounds) rfl, He.glo_ok X G (c.t.d.fact 34 (f := .glo "_law_rounds") rfl)⟩
  d__law_told := ⟨c.t.d.def_ 35 (d := d__law_told) rfl, He.glo_ok X G (c.t.d.fact 35 (f := .glo "_law_told") rfl)⟩
  d__law_spot := ⟨c.t.d.def_ 36 (d := d__law_spot) rfl, He.glo_ok X G (c.t.d.fact 36 (f := .glo "_law_spot") rfl)⟩
  d__law_nearest := ⟨c.t.d.def_ 37 (d := d__law_nearest) rfl, He.glo_ok X G (c.t.d.fact 37 (f := .glo "_law_nearest") rfl)⟩
  d__law_cases1 := ⟨c.t.d.def_ 38 (d := d__law_cases1) rfl, He.glo_ok X G (c.t.d.fact 38 (f := .glo "_law_cases1") rfl)⟩
  d_law := ⟨c.t.d.def_ 39 (d := d_law) rfl, He.glo_ok X G (c.t.d.fact 39 (f := .glo "law") rfl)⟩
theorem law_at {mg : Str → Option Value} {h : Heap} {w : World} {f : Addr} (Y : hk.says w h) (G : h.Ns mainGlobals mg) (hmg : mg "law" = some (.ref f)) : ∃ K : PySem.W.Frag, K.In h ∧ LawAtS PySem.Challenge.rw_borderwright_k16_tracks_gone_along w K (L2.CX prog w) 17 63 "script" mg f h := by
  obtain ⟨K, KX, c⟩ := Y
  have hd := hd_of KX G c
  obtain ⟨⟨fd, F⟩, m⟩ := hd.d_law
  have e : f = He.ga K "law" := by
    rw [hmg] at m
    exact Value.ref.inj (Option.some.inj m)
  subst e
  have b := FunD.bindsA (ps := ["script"]) F fun _ _ _ _ _ _ us hl => match us, hl with | [_], _ => rfl
  refine ⟨K, KX, fd, tf.map (He.cT K), spLaw K (Tt K), ?_, ?_, ?_, fun s u => b s [u] rfl, ?_, ?_⟩
  · intro p hp
    obtain ⟨q, hq, rfl⟩ := List.mem_map.mp hp
    exact c.empty q hq
  · intro p hp
    obtain ⟨q, hq, rfl⟩ := List.mem_map.mp hp
    exact c.out q hq
  · intro p hp
    obtain ⟨q, hq, rfl⟩ := List.mem_map.mp hp
    exact PySem.W.codeHd_of_K KX (c.hd q hq)
  · intro H a ns hl hbits hT hS
    refine ⟨a, ns, rfl, hS, fun p hp => ?_, fun H' => rfl⟩
    have key : ∀ q ∈ tf, H (He.cT K q).2 = some (.tbl #[]) := fun q hq => hT _ (List.mem_map.mpr ⟨q, hq, rfl⟩)
    rcases List.mem_cons.mp hp with e | hp
    · rw [e]
      exact TabS.nil (key ("_law_cases1", none) (by decide))
    · rcases List.mem_cons.mp hp with e | hp
      · rw [e]
        exact TabS.nil (key ("law", none) (by decide))
      · exact absurd hp (by simp)
  · intro base KB GB TB
    have hd2 := hd
    exact law_fn hd2 (TB _ (List.mem_map.mpr ⟨("law", none), by decide, rfl⟩)) (TB _ (List.mem_map.mpr ⟨("_law_cases1", none), by decide, rfl⟩)) (ex_ok c.more).2.1 F
end BW
open PySem PySem.W PySem.Calls PyProof.Rows
theorem PySem.Challenge.cw_borderwright_k16_tracks_gone_along_holds : PySem.Challenge.rw_borderwright_k16_tracks_gone_along.Holds := by
  w_on; o_law
  refine HandSHeadRun.head_imp (r := OpenLaw.row PySem.Challenge.rw_borderwright_k16_tracks_gone_along) (q := view (OpenLaw.row PySem.Challenge.rw_borderwright_k16_tracks_gone_along).prog BW.vw) (H := BW.hk) (ob := BW.ob) (M := 20000) (loose := BW.loose) (d := HandSHeadRun.topDef (OpenLaw.row PySem.Challenge.rw_borderwright_k16_tracks_gone_along).prog 57) (kwd := []) BW.ob_eq BW.run
    (by kernel_rfl) (by kernel_rfl) (by kernel_rfl) (by kernel_rfl) (by kernel_rfl) (by kernel_rfl) ?hb ?hw ?hc
  case hb => exact ⟨rfl, rfl, rfl, rfl, rfl, by decide +kernel⟩
  case hw => w_witness2
  case hc =>
    refine LamX.walk_ofTsE (l := PySem.Challenge.rw_borderwright_k16_tracks_gone_along) (n := 63) (k := 17) (x := "script") (CX := fun w => L2.CX BW.prog w) rfl (by decide) (by kernel_rfl) ⟨rfl, by decide, by decide⟩ ?F ?X
    case F =>
      intro w mg fa h Y G hmg0
      have hmg : mg ("law" : PySem.Str) = some (.ref fa) := by
        have e : (HandSHeadRun.topDef (OpenLaw.row PySem.Challenge.rw_borderwright_k16_tracks_gone_along).prog 57).name = ("law" : PySem.Str) := by kernel_rfl
        rw [← e]
        exact hmg0
      exact BW.law_at Y G hmg
    case X =>
      intro w H s e s' z
      obtain ⟨_, _, _, _, _, _, _, _, _, _, _, _, z⟩ := z
      exact z
