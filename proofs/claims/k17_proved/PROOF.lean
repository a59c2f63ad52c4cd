import PyProof.Rows.All
import Wide.All
import OpenK.AllK
import Wide.FinOn
import KE.KStateDown
import HandS.ForMost
import HandS.Exc
import HandS.Words
import HandS.WordsExc
import HandS.Defaults
import HandS.Lambda
import HandS.EndTab
import HandS.Head0
import HandS.Head1
import HandS.Head2
import HandS.Head3
import HandS.HeadEnd
import HandS.HeadHook1
import HandS.HeadHook2
import HandS.HeadHook3
import HandS.HeadHook4
import HandS.HeadWalk
import HandS.TryOnly
import HandS.TryMany
import HandS.ExcOwn
import HandS.NoneIn
import HandS.Gcd
import HandS.CallLocal
import HandS.FStr
import HandS.MapJoin
import HandS.RevTup
import HandS.Rev
import HandS.TupSets
import HandS.Nested
import HandS.Conv
import HandS.Wide
import HandS.WideMore
import HandS.Deep
import HandS.TupAny
import HandS.Walk
import KE.SortData
import KE.KDictKeyed
import HandS.TupLen
import PyProof.TupleOfSeq
import HandS.Dict
import HandS.WordsDict
import HandS.Small
import HandS.Iter
import HandS.Sort
import HandS.DictEq
import HandS.IsInst
import PyProof.EqLayable
import PyProof.ReprNest
import PyProof.ReprRoads
import HandS.RaiseMore
import HandS.WideBits
import HandS.Comp
import HandS.SortInts
import HandS.More
import HandS.Style
import KE.KRevSl
import HandS.DictComp
import KE.KDictZip
import HandS.Zip0
import HandS.Zip
import PyProof.EnumIter
import PyProof.ZipIter
import PySem.Challenge.RW_borderwright_k17_boxes_in_fours
set_option Elab.async false
set_option linter.all false
set_option maxRecDepth 100000
set_option maxHeartbeats 4000000
/-! K17Head -/
namespace BW
open PySem PySem.Spec PyProof.Rows L2
abbrev prog : Program := PySem.Challenge.pw_borderwright_k17_boxes_in_fours
def top (i : Nat) : Stmt := prog.main.body.getD i (.Pass ⟨0, 0, 0, 0⟩)
abbrev s_in_box : Stmt := top 14
abbrev s_quarters : Stmt := top 15
abbrev s_doubled : Stmt := top 16
abbrev s_is_leaf : Stmt := top 17
abbrev s_code : Stmt := top 18
abbrev s_uncoded : Stmt := top 19
abbrev s_sign_at : Stmt := top 20
abbrev s_depth_of : Stmt := top 21
abbrev s__law_flat : Stmt := top 23
abbrev s__law_dice : Stmt := top 24
abbrev s__law_roll : Stmt := top 25
abbrev s__law_rounds : Stmt := top 26
abbrev s__law_told : Stmt := top 27
abbrev s__law_fits : Stmt := top 28
abbrev s__law_looked : Stmt := top 29
abbrev s__law_deep : Stmt := top 30
abbrev s_law : Stmt := top 31
def clsAt (c : Stmt) (j : Nat) : Stmt := match c with
  | .ClassDef _ _ _ body _ _ _ _ _ _ _ => body.getD j (.Pass ⟨0, 0, 0, 0⟩)
  | _ => .Pass ⟨0, 0, 0, 0⟩
/-! the defs as data -/
def d_in_box : He.DefD := ⟨("in_box", none), "in_box", "in_box", defArgs s_in_box, defBody s_in_box, defScope s_in_box, [], []⟩
def d_quarters : He.DefD := ⟨("quarters", none), "quarters", "quarters", defArgs s_quarters, defBody s_quarters, defScope s_quarters, [], []⟩
def d_doubled : He.DefD := ⟨("doubled", none), "doubled", "doubled", defArgs s_doubled, defBody s_doubled, defScope s_doubled, [], []⟩
def d_is_leaf : He.DefD := ⟨("is_leaf", none), "is_leaf", "is_leaf", defArgs s_is_leaf, defBody s_is_leaf, defScope s_is_leaf, [], []⟩
def d_code : He.DefD := ⟨("code", none), "code", "code", defArgs s_code, defBody s_code, defScope s_code, [], []⟩
def d_uncoded : He.DefD := ⟨("uncoded", none), "uncoded", "uncoded", defArgs s_uncoded, defBody s_uncoded, defScope s_uncoded, [], []⟩
def d_sign_at : He.DefD := ⟨("sign_at", none), "sign_at", "sign_at", defArgs s_sign_at, defBody s_sign_at, defScope s_sign_at, [], []⟩
def d_depth_of : He.DefD := ⟨("depth_of", none), "depth_of", "depth_of", defArgs s_depth_of, defBody s_depth_of, defScope s_depth_of, [], []⟩
def d__law_flat : He.DefD := ⟨("_law_flat", none), "_law_flat", "_law_flat", defArgs s__law_flat, defBody s__law_flat, defScope s__law_flat, [], []⟩
def d__law_dice : He.DefD := ⟨("_law_dice", none), "_law_dice", "_law_dice", defArgs s__law_dice, defBody s__law_dice, defScope s__law_dice, [], []⟩
def d__law_roll : He.DefD := ⟨("_law_roll", none), "_law_roll", "_law_roll", defArgs s__law_roll, defBody s__law_roll, defScope s__law_roll, [], []⟩
def d__law_rounds : He.DefD := ⟨("_law_rounds", none), "_law_rounds", "_law_rounds", defArgs s__law_rounds, defBody s__law_rounds, defScope s__law_rounds, [], []⟩
def d__law_told : He.DefD := ⟨("_law_told", none), "_law_told", "_law_told", defArgs s__law_told, defBody s__law_told, defScope s__law_told, [], []⟩
def d__law_fits : He.DefD := ⟨("_law_fits", none), "_law_fits", "_law_fits", defArgs s__law_fits, defBody s__law_fits, defScope s__law_fits, [], []⟩
def d__law_looked : He.DefD := ⟨("_law_looked", none), "_law_looked", "_law_looked", defArgs s__law_looked, defBody s__law_looked, defScope s__law_looked, [], []⟩
def d__law_deep : He.DefD := ⟨("_law_deep", none), "_law_deep", "_law_deep", defArgs s__law_deep, defBody s__law_deep, defScope s__law_deep, [], []⟩
def d_law : He.DefD := ⟨("law", none), "law", "law", defArgs s_law, defBody s_law, defScope s_law, [], []⟩
abbrev s_Fours___init__ : Stmt := clsAt (top 13) 0
def d_Fours___init__ : He.DefD := ⟨("Fours", some "__init__"), "__init__", "Fours.__init__", defArgs s_Fours___init__, defBody s_Fours___init__, defScope s_Fours___init__, [], []⟩
abbrev s_Fours_put : Stmt := clsAt (top 13) 1
def d_Fours_put : He.DefD := ⟨("Fours", some "put"), "put", "Fours.put", defArgs s_Fours_put, defBody s_Fours_put, defScope s_Fours_put, [], []⟩
abbrev s_Fours_take : Stmt := clsAt (top 13) 2
def d_Fours_take : He.DefD := ⟨("Fours", some "take"), "take", "Fours.take", defArgs s_Fours_take, defBody s_Fours_take, defScope s_Fours_take, [], []⟩
abbrev s_Fours_tree : Stmt := clsAt (top 13) 3
def d_Fours_tree : He.DefD := ⟨("Fours", some "tree"), "tree", "Fours.tree", defArgs s_Fours_tree, defBody s_Fours_tree, defScope s_Fours_tree, [], []⟩
abbrev s_Fours_cut : Stmt := clsAt (top 13) 4
def d_Fours_cut : He.DefD := ⟨("Fours", some "cut"), "cut", "Fours.cut", defArgs s_Fours_cut, defBody s_Fours_cut, defScope s_Fours_cut, [], []⟩
abbrev s_Fours_within : Stmt := clsAt (top 13) 5
def d_Fours_within : He.DefD := ⟨("Fours", some "within"), "within", "Fours.within", defArgs s_Fours_within, defBody s_Fours_within, defScope s_Fours_within, [], []⟩
abbrev s_Fours_found : Stmt := clsAt (top 13) 6
def d_Fours_found : He.DefD := ⟨("Fours", some "found"), "found", "Fours.found", defArgs s_Fours_found, defBody s_Fours_found, defScope s_Fours_found, [], []⟩
abbrev s_Fours_nearest : Stmt := clsAt (top 13) 7
def d_Fours_nearest : He.DefD := ⟨("Fours", some "nearest"), "nearest", "Fours.nearest", defArgs s_Fours_nearest, defBody s_Fours_nearest, defScope s_Fours_nearest, [], []⟩
def fn : List He.DefD := [d_in_box, d_quarters, d_doubled, d_is_leaf, d_code, d_uncoded, d_sign_at, d_depth_of, d__law_flat, d__law_dice, d__law_roll, d__law_rounds, d__law_told, d__law_fits, d__law_looked, d__law_deep, d_law, d_Fours___init__, d_Fours_put, d_Fours_take, d_Fours_tree, d_Fours_cut, d_Fours_within, d_Fours_found, d_Fours_nearest]
/-! the facts -/
def fa : List He.Fa := [.glo "in_box", .glo "quarters", .glo "doubled", .glo "is_leaf", .glo "code", .glo "uncoded",
  .glo "sign_at", .glo "depth_of", .glo "_law_flat", .glo "_law_dice", .glo "_law_roll", .glo "_law_rounds",
  .glo "_law_told", .glo "_law_fits", .glo "_law_looked", .glo "_law_deep", .glo "law", .glo "MapFault",
  .glo "BadPart", .glo "BadPoint", .glo "BadRing", .glo "BadMap", .glo "BadPaper", .glo "BadSize",
  .glo "BadText", .glo "BadStore", .glo "NoSuch", .glo "Fours", .exc "BadPart", .exc "BadPoint",
  .exc "BadRing", .exc "BadMap", .exc "BadPaper", .exc "BadSize", .exc "BadText", .exc "BadStore",
  .exc "NoSuch", .cls "Fours", .mkr "Fours", .noat "Fours" "depth", .noat "Fours" "looked", .noat "Fours" "most",
  .noat "Fours" "points", .noat "Fours" "size", .meth "Fours" "put", .meth "Fours" "take", .meth "Fours" "tree", .meth "Fours" "cut",
  .meth "Fours" "within", .meth "Fours" "found", .meth "Fours" "nearest", .free "abs", .free "dict", .free "int",
  .free "isinstance", .free "len", .free "list", .free "max", .free "min", .free "range",
  .free "sorted", .free "str", .free "sum", .free "tuple", .free "zip", .int "MOST_DEPTH" 10]
/-- each error is caught by its own clause alone -/
def errs : List Str := ["BadPart", "BadPoint", "BadRing", "BadMap", "BadPaper", "BadSize", "BadText", "BadStore", "NoSuch"]
def exmB (K : PySem.W.Frag) : Bool := errs.all fun x => errs.all fun y => (He.Fa.exm x y (decide (x = y))).ok K
def ex (K : PySem.W.Frag) : Bool := exmB K
def tf : List He.Defn := [("law", none)]
abbrev R : PySem.W.OpenRow := PySem.W.OpenLaw.row PySem.Challenge.rw_borderwright_k17_boxes_in_fours
abbrev hk : PySem.W.Hook := He.hookX 5 fa fn [] tf ex
def ob (s : PySem.W.SharedT) : He.AlX := He.obsX 5 fa fn [] tf ex (HandSHeadRun.getT s)
theorem ob_eq (s : PySem.W.SharedT) : ob s = hk.obs s.abs := He.obsX_eq (HandSHeadRun.getT_eq s)
def vw : List Nat := [31]
def loose0 : List Str := ["MapFault", "BadPart", "BadPoint", "BadRing", "BadMap", "BadPaper", "BadSize", "BadText", "BadStore", "NoSuch", "MOST_DEPTH", "Fours", "in_box", "quarters", "doubled", "is_leaf", "code", "uncoded", "sign_at", "depth_of", "_law_flat", "_law_dice", "_law_roll", "_law_rounds", "_law_told", "_law_fits", "_law_looked", "_law_deep"]
def loose : List Str := loose0
def lawAt : Nat := 31

theorem run (w : World) : HandSHeadRun.RunEqI R (PySem.W.view R.prog vw) hk ob 20000 loose w := by
  unfold HandSHeadRun.RunEqI
  kernel_rfl
end BW
/-! CalA -/
/-! A calculus over the hand layer: what an expression, a test, a row of statements comes to, told by data (the abstract heap stays behind it). -/
namespace Cal
open PySem PySem.Spec PyProof.Rows L2

abbrev D := PyData
theorem seqT {K : PySem.W.Frag} {H H' : Hp} {a : Addr} {xs : List V} (e : Same H H') (h : SqT K H a xs) : SqT K H' a xs := by
  rcases h with (h | ⟨o, h⟩) | h
  · exact .inl (.inl (e _ _ h))
  · exact .inl (.inr ⟨o, e _ _ h⟩)
  · exact .inr h
section
variable {K : PySem.W.Frag} {G G' : Hp}
mutual
theorem dpUp (e : Same G G') : ∀ (d : D) {v : V}, Dp K G v d → Dp K G' v d
  | .none, _, h => by cases h; exact .non
  | .bool _, _, h => by cases h; exact .bl _
  | .int _, _, h => by cases h; exact .int _
  | .str _, _, h => by cases h; exact .str _
  | .list ds, _, h => by
    cases h with
    | lst hs ha => exact .lst (e.seq hs) (dpsUp e ds ha)
  | .tuple ds, _, h => by
    cases h with
    | tup hs ha => exact .tup (seqT e hs) (dpsUp e ds ha)
  | .dict _, _, h => by cases h
theorem dpsUp (e : Same G G') : ∀ (ds : List D) {vs : List V}, DpAll K G vs ds → DpAll K G' vs ds
  | [], _, h => by cases h; exact .nil
  | d :: ds, _, h => by
    cases h with
    | cons h1 h2 => exact .cons (dpUp e d h1) (dpsUp e ds h2)
end
end

/-- what a changing thing is: a dict by keys that are figures or texts, one by rows of such, a thing of a class -/
inductive Pk where
  | dk | dt | ob
/-- what is known of a slot, of a value -/
inductive Sv where
  | no | dat (d : D) | raw (v : V) | kn (φ : Hp → V → Prop) | ptr (k : Pk) (a : Addr)
def Vk (K : PySem.W.Frag) (G : Hp) (v : V) : Sv → Prop
  | .no => True
  | .dat d => Dp K G v d
  | .raw w => v = w
  | .kn φ => ∃ G0, Same G0 G ∧ φ G0 v
  | .ptr _ a => v = .ref a
abbrev I (i : Int) : Sv := .dat (.int i)
abbrev B (b : Bool) : Sv := .dat (.bool b)
theorem Vk.up {K : PySem.W.Frag} {G G' : Hp} (e : Same G G') {v : V} : ∀ {r : Sv}, Vk K G v r → Vk K G' v r
  | .no, _ => trivial
  | .dat d, h => dpUp e d h
  | .raw _, h => h
  | .kn _, ⟨G0, h1, h2⟩ => ⟨G0, h1.trans e, h2⟩
  | .ptr _ _, h => h
abbrev Vks (K : PySem.W.Frag) (G : Hp) : List V → List Sv → Prop := Paired (Vk K G)
theorem Vks.up {K : PySem.W.Frag} {G G' : Hp} (e : Same G G') : ∀ {vs : List V} {rs : List Sv}, Vks K G vs rs → Vks K G' vs rs
  | _, _, .nil => .nil
  | _, _, .cons h t => .cons (Vk.up e h) (Vks.up e t)
theorem Vks.len {K : PySem.W.Frag} {G : Hp} {vs : List V} {rs : List Sv} (h : Vks K G vs rs) : vs.length = rs.length := Paired.length h
theorem Vks.app {K : PySem.W.Frag} {G : Hp} : ∀ {vs ws : List V} {rs qs : List Sv}, Vks K G vs rs → Vks K G ws qs → Vks K G (vs ++ ws) (rs ++ qs)
  | _, _, _, _, .nil, s => s
  | _, _, _, _, .cons h t, s => .cons h (Vks.app t s)
def So (K : PySem.W.Frag) (G : Hp) : Option V → Sv → Prop
  | _, .no => True
  | some v, .dat d => Dp K G v d
  | some v, .raw w => v = w
  | some v, .kn φ => ∃ G0, Same G0 G ∧ φ G0 v
  | some v, .ptr _ a => v = .ref a
  | none, .dat _ => False
  | none, .raw _ => False
  | none, .kn _ => False
  | none, .ptr _ _ => False
theorem So.up {K : PySem.W.Frag} {G G' : Hp} (e : Same G G') {o : Option V} {r : Sv} (h : So K G o r) : So K G' o r := by
  cases o with
  | none => cases r <;> exact h
  | some v =>
    cases r with
    | no => trivial
    | dat d => exact dpUp e d h
    | raw w => exact h
    | ptr _ _ => exact h
    | kn φ =>
      obtain ⟨G0, h1, h2⟩ := h
      exact ⟨G0, h1.trans e, h2⟩
theorem So.some {K : PySem.W.Frag} {G : Hp} {v : V} {r : Sv} (h : Vk K G v r) : So K G (.some v) r := by
  cases r <;> exact h
inductive Sl (K : PySem.W.Frag) (G : Hp) : L2.St → List Sv → Prop
  | nil : Sl K G [] []
  | cons {o : Option V} {r : Sv} {σ : L2.St} {ds : List Sv} : So K G o r → Sl K G σ ds → Sl K G (o :: σ) (r :: ds)
section
variable {K : PySem.W.Frag} {G G' : Hp}
theorem Sl.up (e : Same G G') : ∀ {σ : L2.St} {ds : List Sv}, Sl K G σ ds → Sl K G' σ ds
  | _, _, .nil => .nil
  | _, _, .cons h t => .cons (So.up e h) (Sl.up e t)
theorem Sl.get : ∀ {σ : L2.St} {ds : List Sv} {i : Nat} {r : Sv}, Sl K G σ ds → ds[i]? = some r → ∃ o, σ[i]? = some o ∧ So K G o r
  | _, _, _, _, .nil, e => by simp at e
  | _, _, 0, _, .cons h _, e => by
    simp at e
    subst e
    exact ⟨_, rfl, h⟩
  | _, _, i + 1, _, .cons _ t, e => by
    obtain ⟨o, h1, h2⟩ := Sl.get (i := i) t (by simpa using e)
    exact ⟨o, by simpa using h1, h2⟩
theorem Sl.val {σ : L2.St} {ds : List Sv} {i : Nat} {r : Sv} (h : Sl K G σ ds) (e : ds[i]? = some r) (hr : r ≠ .no) : ∃ v, σ[i]? = some (some v) ∧ Vk K G v r := by
  obtain ⟨o, h1, h2⟩ := h.get e
  cases o with
  | none => cases r with
    | no => exact absurd rfl hr
    | dat _ => exact h2.elim
    | raw _ => exact h2.elim
    | kn _ => exact h2.elim
    | ptr _ _ => exact h2.elim
  | some v => cases r with
    | no => exact absurd rfl hr
    | dat _ => exact ⟨v, h1, h2⟩
    | raw _ => exact ⟨v, h1, h2⟩
    | kn _ => exact ⟨v, h1, h2⟩
    | ptr _ _ => exact ⟨v, h1, h2⟩
theorem Sl.seto {o : Option V} {r : Sv} (hv : So K G o r) : ∀ {σ : L2.St} {ds : List Sv} (i : Nat), Sl K G σ ds → Sl K G (σ.set i o) (ds.set i r)
  | _, _, _, .nil => .nil
  | _, _, 0, .cons _ t => .cons hv t
  | _, _, i + 1, .cons h t => .cons h (Sl.seto hv i t)
theorem Sl.set {v : V} {r : Sv} {σ : L2.St} {ds : List Sv} (h : Sl K G σ ds) (i : Nat) (hv : Vk K G v r) : Sl K G (σ.set i (some v)) (ds.set i r) := h.seto (So.some hv) i
def wipeD (ds : List Sv) : List Nat → List Sv
  | [] => ds
  | v :: vs => (wipeD ds vs).set v .no
theorem Sl.wipe {σ : L2.St} {ds : List Sv} (h : Sl K G σ ds) : ∀ vs : List Nat, Sl K G (L2.wipe σ vs) (wipeD ds vs)
  | [] => h
  | v :: vs => (Sl.wipe h vs).seto (by trivial) v
theorem Sl.none : ∀ n : Nat, Sl K G (List.replicate n Option.none) (List.replicate n .no)
  | 0 => .nil
  | n + 1 => .cons (by trivial) (Sl.none n)
theorem Sl.app : ∀ {σ τ : L2.St} {ds es : List Sv}, Sl K G σ ds → Sl K G τ es → Sl K G (σ ++ τ) (ds ++ es)
  | _, _, _, _, .nil, s => s
  | _, _, _, _, .cons h t, s => .cons h (Sl.app t s)
theorem Sl.ofVks : ∀ {vs : List V} {rs : List Sv}, Vks K G vs rs → Sl K G (vs.map some) rs
  | _, _, .nil => .nil
  | _, _, .cons h t => .cons (So.some h) (Sl.ofVks t)
/-- a def's slots at its start -/
def startD (n : Nat) (rs : List Sv) : List Sv := rs ++ List.replicate (n - rs.length) .no
theorem Sl.start {N : List Str} {vs : List V} {rs : List Sv} (h : Vks K G vs rs) : Sl K G (L2.start N vs) (startD N.length rs) := by
  unfold L2.start startD
  rw [h.len]
  exact Sl.app (Sl.ofVks h) (Sl.none _)
end

/-! ### the mutable objects at hand, and the rest -/
/-- what is known of an object that may change -/
inductive MO where
  | lst (rs : List Sv) | any (o : HO)
  /-- a dict; one that is walked; a thing of a class -/
  | dk (es : List (L2.Key × Sv)) | dt (es : List (List L2.Key × Sv)) | fk (od : Obj) (kvs : List (L2.Key × V)) (es : List (L2.Key × Sv)) | ft (od : Obj) (kvs : List (List L2.Key × V)) (es : List (List L2.Key × Sv)) | ob (C : Addr) (fs : List (Str × Sv))
abbrev Kvs (K : PySem.W.Frag) (G : Hp) {κ : Type} : List (κ × V) → List (κ × Sv) → Prop := Paired fun p q => p.1 = q.1 ∧ Vk K G p.2 q.2
theorem Kvs.up {K : PySem.W.Frag} {G G' : Hp} {κ : Type} (e : Same G G') : ∀ {vs : List (κ × V)} {rs : List (κ × Sv)}, Kvs K G vs rs → Kvs K G' vs rs
  | _, _, .nil => .nil
  | _, _, .cons h t => .cons ⟨h.1, Vk.up e h.2⟩ (Kvs.up e t)
def MoK (K : PySem.W.Frag) (G : Hp) : MO → HO → Prop
  | .lst rs, .lst vs => Vks K G vs rs
  | .dk es, .dK kvs => Kvs K G kvs es
  | .dt es, .dT kvs => Kvs K G kvs es
  | .fk od kvs es, .frz od' (.dK kvs') => (od' = od ∧ kvs' = kvs) ∧ Kvs K G kvs es
  | .ft od kvs es, .frz od' (.dT kvs') => (od' = od ∧ kvs' = kvs) ∧ Kvs K G kvs es
  | .ob C fs, .ins C' _ fs' => C' = C ∧ Kvs K G fs' fs
  | .any o, o' => o = o'
  | _, _ => False
theorem MoK.up {K : PySem.W.Frag} {G G' : Hp} (e : Same G G') : ∀ {m : MO} {o : HO}, MoK K G m o → MoK K G' m o := fun {m o} h => by
  cases m with
  | any _ => exact h
  | lst rs =>
    cases o with
    | lst vs => exact Vks.up e h
    | _ => exact h
  | dk es =>
    cases o with
    | dK vs => exact Kvs.up e h
    | _ => exact h
  | dt es =>
    cases o with
    | dT vs => exact Kvs.up e h
    | _ => exact h
  | fk od kvs es =>
    cases o with
    | frz od' u =>
      cases u with
      | dK vs => exact ⟨h.1, Kvs.up e h.2⟩
      | _ => exact h
    | _ => exact h
  | ft od kvs es =>
    cases o with
    | frz od' u =>
      cases u with
      | dT vs => exact ⟨h.1, Kvs.up e h.2⟩
      | _ => exact h
    | _ => exact h
  | ob C fs =>
    cases o with
    | ins C' dx fs' => exact ⟨h.1, Kvs.up e h.2⟩
    | _ => exact h
theorem MoK.dk_of {K : PySem.W.Frag} {G : Hp} {es : List (L2.Key × Sv)} {o : HO} (h : MoK K G (.dk es) o) : ∃ kvs, o = .dK kvs ∧ Kvs K G kvs es := by
  cases o with
  | dK vs => exact ⟨vs, rfl, h⟩
  | _ => exact h.elim
theorem MoK.dt_of {K : PySem.W.Frag} {G : Hp} {es : List (List L2.Key × Sv)} {o : HO} (h : MoK K G (.dt es) o) : ∃ kvs, o = .dT kvs ∧ Kvs K G kvs es := by
  cases o with
  | dT vs => exact ⟨vs, rfl, h⟩
  | _ => exact h.elim
theorem MoK.fk_of {K : PySem.W.Frag} {G : Hp} {od : Obj} {kvs : List (L2.Key × V)} {es : List (L2.Key × Sv)} {o : HO} (h : MoK K G (.fk od kvs es) o) : o = .frz od (.dK kvs) ∧ Kvs K G kvs es := by
  cases o with
  | frz od' u =>
    cases u with
    | dK vs =>
      obtain ⟨⟨e1, e2⟩, h⟩ := (show (od' = od ∧ vs = kvs) ∧ Kvs K G kvs es from h)
      exact ⟨by rw [e1, e2], h⟩
    | _ => exact (show False from h).elim
  | _ => exact (show False from h).elim
theorem MoK.ft_of {K : PySem.W.Frag} {G : Hp} {od : Obj} {kvs : List (List L2.Key × V)} {es : List (List L2.Key × Sv)} {o : HO} (h : MoK K G (.ft od kvs es) o) : o = .frz od (.dT kvs) ∧ Kvs K G kvs es := by
  cases o with
  | frz od' u =>
    cases u with
    | dT vs =>
      obtain ⟨⟨e1, e2⟩, h⟩ := (show (od' = od ∧ vs = kvs) ∧ Kvs K G kvs es from h)
      exact ⟨by rw [e1, e2], h⟩
    | _ => exact (show False from h).elim
  | _ => exact (show False from h).elim
theorem MoK.ob_of {K : PySem.W.Frag} {G : Hp} {C : Addr} {fs : List (Str × Sv)} {o : HO} (h : MoK K G (.ob C fs) o) : ∃ dx fs', o = .ins C dx fs' ∧ Kvs K G fs' fs := by
  cases o with
  | ins C' dx fs' =>
    obtain ⟨e, h⟩ := (show C' = C ∧ Kvs K G fs' fs from h)
    exact ⟨dx, fs', by rw [e], h⟩
  | _ => exact h.elim
theorem MoK.lst_of {K : PySem.W.Frag} {G : Hp} {rs : List Sv} {o : HO} (h : MoK K G (.lst rs) o) : ∃ vs, o = .lst vs ∧ Vks K G vs rs := by
  cases o with
  | lst vs => exact ⟨vs, rfl, h⟩
  | _ => exact h.elim
abbrev Ms := List (Addr × MO)
/-- G: what stays; H: all; M: what may change -/
structure Wo (K : PySem.W.Frag) (M : Ms) (G H : Hp) : Prop where
  ex : Same G H
  mu : ∀ p ∈ M, (∃ o, H p.1 = some o ∧ MoK K G p.2 o) ∧ G p.1 = none
  nd : (M.map (·.1)).Nodup
  nt : ∀ a ps, G a ≠ some (.tbl ps)
structure Po (K : PySem.W.Frag) (M M' : Ms) (G H G' H' : Hp) : Prop where
  g : Same G G'
  w : Wo K M' G' H'
  fr : ∀ a o, H a = some o → (∀ p ∈ M, p.1 ≠ a) → H' a = some o
  th : ∀ a, H a ≠ none → H' a ≠ none
  nn : ∀ a, H a ≠ none → G a = none → G' a = none
  ad : ∀ p ∈ M', (∃ q ∈ M, q.1 = p.1) ∨ H p.1 = none
section
variable {K : PySem.W.Frag}
theorem Po.refl {M : Ms} {G H : Hp} (w : Wo K M G H) : Po K M M G H G H :=
  ⟨Same.refl _, w, fun _ _ h _ => h, fun _ h => h, fun _ _ h => h, fun p hp => .inl ⟨p, hp, rfl⟩⟩
theorem Po.trans {M M1 M2 : Ms} {G H G1 H1 G2 H2 : Hp} (a : Po K M M1 G H G1 H1) (b : Po K M1 M2 G1 H1 G2 H2) : Po K M M2 G H G2 H2 where
  g := a.g.trans b.g
  w := b.w
  fr := fun x o h hm => b.fr x o (a.fr x o h hm) fun p hp e => by
    rcases a.ad p hp with ⟨q, hq, e2⟩ | e2
    · exact hm q hq (e2.trans e)
    · rw [e, h] at e2; cases e2
  th := fun x h => b.th x (a.th x h)
  nn := fun x h n => b.nn x (a.th x h) (a.nn x h n)
  ad := fun p hp => by
    rcases b.ad p hp with ⟨q, hq, e⟩ | e
    · rcases a.ad q hq with ⟨r, hr, e2⟩ | e2
      · exact .inl ⟨r, hr, e2.trans e⟩
      · right; rw [← e]; exact e2
    · right
      cases q : H p.1 with
      | none => rfl
      | some o => exact absurd e (a.th p.1 (by rw [q]; simp))
theorem Wo.gnone {M : Ms} {G H : Hp} (w : Wo K M G H) {p : Addr} (h : H p = none) : G p = none := by
  cases q : G p with
  | none => rfl
  | some o => rw [w.ex p o q] at h; cases h
/-- a new thing, known from now on -/
theorem Po.new {M : Ms} {G H : Hp} (w : Wo K M G H) {p : Addr} (h : H p = none) (o : HO) (ho : ∀ ps, o ≠ .tbl ps := by intro _ z; cases z) : Po K M M G H (upd G p o) (upd H p o) := by
  have g : Same G (upd G p o) := fun a u e => by rw [upd_ne (ne_of_none e (w.gnone h))]; exact e
  refine ⟨g, ⟨fun a u e => ?_, fun q hq => ?_, w.nd, fun a ps e => by
    by_cases ha : a = p
    · subst ha; rw [upd_same] at e; exact ho ps (Option.some.inj e)
    · rw [upd_ne ha] at e; exact w.nt a ps e⟩, fun a u e _ => by rw [upd_ne (ne_of_none e h)]; exact e, fun a e => ?_, fun a e n => ?_, fun q hq => .inl ⟨q, hq, rfl⟩⟩
  · by_cases ha : a = p
    · subst ha; rw [upd_same] at e ⊢; exact e
    · rw [upd_ne ha] at e ⊢; exact w.ex a u e
  · obtain ⟨⟨oq, e1, e2⟩, e3⟩ := w.mu q hq
    have ne := ne_of_none e1 h
    rw [upd_ne ne, upd_ne ne]
    exact ⟨⟨oq, e1, e2.up g⟩, e3⟩
  · by_cases ha : a = p
    · subst ha; exact absurd h e
    · rw [upd_ne ha]; exact e
  · have ha : a ≠ p := fun z => e (by rw [z]; exact h)
    rw [upd_ne ha]; exact n
/-- a new thing that may change -/
theorem Po.mnew {M : Ms} {G H : Hp} (w : Wo K M G H) {p : Addr} (h : H p = none) {o : HO} {m : MO} (hm : MoK K G m o) : Po K M ((p, m) :: M) G H G (upd H p o) where
  g := Same.refl _
  w := ⟨fun a u e => by rw [upd_ne (ne_of_none (w.ex a u e) h)]; exact w.ex a u e,
    fun q hq => by
      rcases List.mem_cons.mp hq with e | hq
      · subst e; exact ⟨⟨o, upd_same, hm⟩, w.gnone h⟩
      · obtain ⟨⟨oq, e1, e2⟩, e3⟩ := w.mu q hq
        rw [upd_ne (ne_of_none e1 h)]; exact ⟨⟨oq, e1, e2⟩, e3⟩,
    List.nodup_cons.mpr ⟨(fun hm => by
      obtain ⟨q, hq, e⟩ := List.mem_map.mp hm
      obtain ⟨⟨oq, e1, _⟩, _⟩ := w.mu q hq
      rw [e, h] at e1
      cases e1), w.nd⟩, w.nt⟩
  fr := fun a u e _ => by rw [upd_ne (ne_of_none e h)]; exact e
  th := fun a e => by
    by_cases ha : a = p
    · subst ha; exact absurd h e
    · rw [upd_ne ha]; exact e
  nn := fun a e n => n
  ad := fun q hq => by
    rcases List.mem_cons.mp hq with e | hq
    · subst e; exact .inr h
    · exact .inl ⟨q, hq, rfl⟩
/-- one of the changing things changes -/
theorem Po.mput {A C : Ms} {G H : Hp} {p : Addr} {m m' : MO} {o' : HO} (w : Wo K (A ++ (p, m) :: C) G H) (hm : MoK K G m' o') : Po K (A ++ (p, m) :: C) (A ++ (p, m') :: C) G H G (upd H p o') where
  g := Same.refl _
  w := by
    have hp := w.mu (p, m) (by simp)
    have nd := w.nd
    have other : ∀ q ∈ A ++ C, q.1 ≠ p := fun q hq e => by
      rw [List.map_append, List.map_cons] at nd
      have h2 := List.nodup_append.mp nd
      obtain ⟨_, h3, h4⟩ := h2
      rcases List.mem_append.mp hq with hq | hq
      · exact h4 q.1 (List.mem_map.mpr ⟨q, hq, rfl⟩) p (by simp) e
      · have h5 := (List.nodup_cons.mp h3).1
        exact h5 (by rw [← e]; exact List.mem_map.mpr ⟨q, hq, rfl⟩)
    refine ⟨fun a u e => ?_, fun q hq => ?_, by simpa using nd, w.nt⟩
    · have ne : a ≠ p := ne_of_none e hp.2
      rw [upd_ne ne]; exact w.ex a u e
    · by_cases e : q.1 = p
      · have : q = (p, m') := by
          rcases List.mem_append.mp hq with h | h
          · exact absurd e (other q (List.mem_append_left _ h))
          · rcases List.mem_cons.mp h with h | h
            · exact h
            · exact absurd e (other q (List.mem_append_right _ h))
        subst this
        exact ⟨⟨o', upd_same, hm⟩, hp.2⟩
      · rw [upd_ne e]
        refine w.mu q ?_
        rcases List.mem_append.mp hq with h | h
        · exact List.mem_append_left _ h
        · rcases List.mem_cons.mp h with h | h
          · subst h; exact absurd rfl e
          · exact List.mem_append_right _ (List.mem_cons_of_mem _ h)
  fr := fun a u e hm => by
    have ne : a ≠ p := fun z => hm (p, m) (by simp) z.symm
    rw [upd_ne ne]; exact e
  th := fun a e => by
    by_cases ha : a = p
    · subst ha; rw [upd_same]; simp
    · rw [upd_ne ha]; exact e
  nn := fun a e n => n
  ad := fun q hq => by
    rcases List.mem_append.mp hq with h | h
    · exact .inl ⟨q, List.mem_append_left _ h, rfl⟩
    · rcases List.mem_cons.mp h with h | h
      · subst h; exact .inl ⟨(p, m), by simp, rfl⟩
      · exact .inl ⟨q, List.mem_append_right _ (List.mem_cons_of_mem _ h), rfl⟩
theorem Wo.lst {A C : Ms} {G H : Hp} {p : Addr} {rs : List Sv} (w : Wo K (A ++ (p, .lst rs) :: C) G H) : ∃ vs, H p = some (.lst vs) ∧ Vks K G vs rs ∧ G p = none := by
  obtain ⟨⟨o, h1, h2⟩, h3⟩ := w.mu (p, .lst rs) (by simp)
  obtain ⟨vs, e, h4⟩ := h2.lst_of
  subst e
  exact ⟨vs, h1, h4, h3⟩
/-- the first of the changing things is changing no more: forgotten, or known from now on -/
theorem Po.drop {M M' : Ms} {p : Addr × MO} {G H G' H' : Hp} (a : Po K M (p :: M') G H G' H') : Po K M M' G H G' H' :=
  ⟨a.g, ⟨a.w.ex, fun q hq => a.w.mu q (List.mem_cons_of_mem _ hq), (List.nodup_cons.mp a.w.nd).2, a.w.nt⟩, a.fr, a.th, a.nn, fun q hq => a.ad q (List.mem_cons_of_mem _ hq)⟩
theorem Po.freeze {M M' : Ms} {p : Addr} {m : MO} {o : HO} {G H G' H' : Hp} (a : Po K M ((p, m) :: M') G H G' H') (ho : H' p = some o) (hn : H p = none) (htb : ∀ ps, o ≠ .tbl ps := by intro _ z; cases z) : Po K M M' G H (upd G' p o) H' := by
  have gp : G' p = none := (a.w.mu (p, m) (by simp)).2
  have g : Same G' (upd G' p o) := fun x u e => by rw [upd_ne (ne_of_none e gp)]; exact e
  refine ⟨a.g.trans g, ⟨fun x u e => ?_, fun q hq => ?_, (List.nodup_cons.mp a.w.nd).2, fun x ps e => by
    by_cases hx : x = p
    · subst hx; rw [upd_same] at e; exact htb ps (Option.some.inj e)
    · rw [upd_ne hx] at e; exact a.w.nt x ps e⟩, a.fr, a.th, fun x h n => ?_, fun q hq => a.ad q (List.mem_cons_of_mem _ hq)⟩
  · by_cases hx : x = p
    · subst hx; rw [upd_same] at e; rw [ho]; exact e
    · rw [upd_ne hx] at e; exact a.w.ex x u e
  · obtain ⟨⟨oq, e1, e2⟩, e3⟩ := a.w.mu q (List.mem_cons_of_mem _ hq)
    have ne : q.1 ≠ p := fun z => (List.nodup_cons.mp a.w.nd).1 (List.mem_map.mpr ⟨q, hq, z⟩)
    rw [upd_ne ne]; exact ⟨⟨oq, e1, e2.up g⟩, e3⟩
  · have : x ≠ p := fun z => h (by rw [z]; exact hn)
    rw [upd_ne this]; exact a.nn x h n
end
end Cal
/-! CalB -/
namespace Cal
open PySem PySem.Spec PyProof.Rows L2

/-! ### what an expression, a row of them, a test comes to -/
def cE (K : PySem.W.Frag) (ds : List Sv) (M : Ms) (r : Sv) (M' : Ms) : TE := fun σ H Q => ∃ G, Wo K M G H ∧ Sl K G σ ds ∧ ∀ v G' H', Po K M M' G H G' H' → Vk K G' v r → Q v H'
def cA (K : PySem.W.Frag) (ds : List Sv) (M : Ms) (rs : List Sv) (M' : Ms) : TA := fun σ H Q => ∃ G, Wo K M G H ∧ Sl K G σ ds ∧ ∀ vs G' H', Po K M M' G H G' H' → Vks K G' vs rs → Q vs H'
def cT (K : PySem.W.Frag) (ds : List Sv) (M : Ms) (b : Bool) (M' : Ms) : TT := fun σ H Q => ∃ G, Wo K M G H ∧ Sl K G σ ds ∧ ∀ G' H', Po K M M' G H G' H' → Q b H'
abbrev PD (X : Cx) (ds : List Sv) (M : Ms) (e : Expr) (r : Sv) (M' : Ms) : Prop := PE X e (cE X.K ds M r M')
abbrev PDA (X : Cx) (ds : List Sv) (M : Ms) (es : List Expr) (rs : List Sv) (M' : Ms) : Prop := PA X es (cA X.K ds M rs M')
abbrev PDT (X : Cx) (ds : List Sv) (M : Ms) (e : Expr) (b : Bool) (M' : Ms) : Prop := PT X e (cT X.K ds M b M')
abbrev PDW (X : Cx) (ds : List Sv) (M : Ms) (e : Expr) (b : Bool) (M' : Ms) : Prop := PW X e (cT X.K ds M b M')
section
variable {X : Cx} {ds : List Sv} {M M' M1 M2 M3 : Ms} {a b c e : Expr} {es : List Expr} {r ra rb : Sv} {rs : List Sv} {i j : Int} {pos : Pos}
theorem pe_mono {t t' : TE} (h : PE X e t) (k : ∀ σ H Q, t' σ H Q → t σ H Q) : PE X e t' := ⟨fun pins s σ H Q I q => h.run pins s σ H Q I (k σ H Q q)⟩
theorem pa_mono {t t' : TA} (h : PA X es t) (k : ∀ σ H Q, t' σ H Q → t σ H Q) : PA X es t' := ⟨fun pos pins s σ H Q I q => h.run pos pins s σ H Q I (k σ H Q q)⟩
theorem pt_mono {t t' : TT} (h : PT X e t) (k : ∀ σ H Q, t' σ H Q → t σ H Q) : PT X e t' := ⟨fun pins s σ H Q I q => h.run pins s σ H Q I (k σ H Q q)⟩
theorem pw_mono {t t' : TT} (h : PW X e t) (k : ∀ σ H Q, t' σ H Q → t σ H Q) : PW X e t' := ⟨fun w pins s σ H Q I q => h.run w pins s σ H Q I (k σ H Q q)⟩
theorem pd_to {r' : Sv} (h : PD X ds M e r M') (q : r = r') : PD X ds M e r' M' := q ▸ h
theorem pdt_to {b b' : Bool} (h : PDT X ds M e b M') (q : b = b') : PDT X ds M e b' M' := q ▸ h
theorem pe_no : PE X e (fun _ _ _ => False) := ⟨fun _ _ _ _ _ _ h => h.elim⟩
theorem pt_no : PT X e (fun _ _ _ => False) := ⟨fun _ _ _ _ _ _ h => h.elim⟩
theorem pw_no : PW X e (fun _ _ _ => False) := ⟨fun _ _ _ _ _ _ _ h => h.elim⟩

/-! ### names, constants -/
theorem pd_var (i : Nat) {x : Str} (h : ds[i]? = some r := by rfl) (hr : r ≠ .no := by (intro z; cases z)) (hN : X.N[i]? = some x := by rfl) (hv : Vis X.env.scope x := by first | exact Or.inl rfl | exact Or.inr (Or.inl rfl) | exact Or.inr (Or.inr rfl))
    (hd : (x == ("__debug__" : Str)) = false := by decide) (hcd : (x == ("__classdict__" : Str)) = false := by decide) : PD X ds M (.Name x pos) r M :=
  pe_mono (pv i hN hv hd hcd) fun σ H Q ⟨G, w, s, k⟩ => by
    obtain ⟨v, e1, e2⟩ := s.val h hr
    exact ⟨v, e1, k v G H (Po.refl w) e2⟩
theorem pd_c {v : V} (h : PE X e (tC v)) (hv : ∀ G, Vk X.K G v r) : PD X ds M e r M := pe_mono h fun σ H Q ⟨G, w, s, k⟩ => k v G H (Po.refl w) (hv G)
theorem pd_int {k : Nat} : PD X ds M (.Constant (.int i) k pos) (I i) M := pd_c pe_int fun _ => .int _
theorem pd_bl {k : Nat} {b : Bool} : PD X ds M (.Constant (.bool b) k pos) (B b) M := pd_c pe_bl fun _ => .bl _
theorem pd_non {k : Nat} : PD X ds M (.Constant .none k pos) (.dat .none) M := pd_c pe_non fun _ => .non
theorem pd_str {k : Nat} {x : Str} : PD X ds M (.Constant (.str x) k pos) (.dat (.str x)) M := pd_c pe_str fun _ => .str _
/-- a name of the module that holds a known value -/
theorem pd_glob {x : Str} {v : V} {u : Value} (hm : X.mg x = some u) (rv : RelV v u) (hv : ∀ G, Vk X.K G v r) (hg : Gl X x := by rfl) (hd : (x == ("__debug__" : Str)) = false := by decide) : PD X ds M (.Name x pos) r M := pd_c (pe_glob hg hm rv hd) hv

/-! ### two places -/
theorem ce_bin {K : PySem.W.Frag} {r2 : R2} (h : ∀ G H x y (Q : VK), Wo K M2 G H → Vk K G x ra → Vk K G y rb → (∀ v G' H', Po K M2 M3 G H G' H' → Vk K G' v r → Q v H') → r2 x y H Q) {σ : L2.St} {H : Hp} {Q : VK} (q : cE K ds M r M3 σ H Q) :
    tOp r2 (cE K ds M ra M1) (cE K ds M1 rb M2) σ H Q := by
  obtain ⟨G, w, s, k⟩ := q
  exact ⟨G, w, s, fun x G1 H1 p1 vx => ⟨G1, p1.w, s.up p1.g, fun y G2 H2 p2 vy => h G2 H2 x y _ p2.w (vx.up p2.g) vy fun v G' H' p3 hv => k v G' H' (p1.trans (p2.trans p3)) hv⟩⟩
/-- .. a value alone comes out -/
theorem ce_op {K : PySem.W.Frag} {r2 : R2} (h : ∀ G H x y (Q : VK), Vk K G x ra → Vk K G y rb → (∀ v, Vk K G v r → Q v H) → r2 x y H Q) {σ : L2.St} {H : Hp} {Q : VK} (q : cE K ds M r M2 σ H Q) :
    tOp r2 (cE K ds M ra M1) (cE K ds M1 rb M2) σ H Q :=
  ce_bin (fun G H x y Q w hx hy k => h G H x y Q hx hy fun v hv => k v G H (Po.refl w) hv) q
theorem vk_int {K : PySem.W.Frag} {G : Hp} {v : V} (h : Vk K G v (I i)) : v = .int i := by
  have h' : Dp K G v (.int i) := h
  cases h'
  rfl
theorem vk_bl {K : PySem.W.Frag} {G : Hp} {v : V} {b : Bool} (h : Vk K G v (B b)) : v = .bl b := by
  have h' : Dp K G v (.bool b) := h
  cases h'
  rfl
theorem vk_str {K : PySem.W.Frag} {G : Hp} {v : V} {x : Str} (h : Vk K G v (.dat (.str x))) : v = .str x := by
  have h' : Dp K G v (.str x) := h
  cases h'
  rfl
theorem vk_tup {K : PySem.W.Frag} {G : Hp} {v : V} {xs : List D} (h : Vk K G v (.dat (.tuple xs))) : ∃ p vs, v = .ref p ∧ SqT K G p vs ∧ DpAll K G vs xs := by
  have h' : Dp K G v (.tuple xs) := h
  cases h' with
  | tup h1 h2 => exact ⟨_, _, rfl, h1, h2⟩
theorem vk_lst {K : PySem.W.Frag} {G : Hp} {v : V} {xs : List D} (h : Vk K G v (.dat (.list xs))) : ∃ p vs, v = .ref p ∧ SqL K G p vs ∧ DpAll K G vs xs := by
  have h' : Dp K G v (.list xs) := h
  cases h' with
  | lst h1 h2 => exact ⟨_, _, rfl, h1, h2⟩
theorem dps_len {K : PySem.W.Frag} {G : Hp} : ∀ {xs : List D} {vs : List V}, DpAll K G vs xs → vs.length = xs.length
  | [], _, h => by cases h; rfl
  | d :: ds, _, h => by
    cases h with
    | cons h1 h2 => rw [List.length_cons, List.length_cons, dps_len h2]
theorem dps_get {K : PySem.W.Frag} {G : Hp} : ∀ {xs : List D} {vs : List V} {i : Nat} {d : D}, DpAll K G vs xs → xs[i]? = some d → ∃ v, vs[i]? = some v ∧ Dp K G v d
  | [], _, _, _, h, e => by simp at e
  | x :: xs, _, i, d, h, e => by
    cases h with
    | cons h1 h2 =>
      cases i with
      | zero =>
        simp at e
        subst e
        exact ⟨_, rfl, h1⟩
      | succ i =>
        obtain ⟨v, e1, e2⟩ := dps_get (i := i) h2 (by simpa using e)
        exact ⟨v, by simpa using e1, e2⟩
theorem dps_at {K : PySem.W.Frag} {G : Hp} {xs : List D} {vs : List V} {i : Int} {d : D} (h : DpAll K G vs xs) (e : atI xs i = some d) : ∃ v, atI vs i = some v ∧ Dp K G v d := by
  unfold atI at e ⊢
  rw [dps_len h]
  cases q : ixN xs.length i with
  | none => rw [q] at e; cases e
  | some j =>
    rw [q] at e
    exact dps_get h e
theorem dps_app {K : PySem.W.Frag} {G : Hp} : ∀ {xs ys : List D} {vs ws : List V}, DpAll K G vs xs → DpAll K G ws ys → DpAll K G (vs ++ ws) (xs ++ ys)
  | [], _, _, _, h, k => by cases h; exact k
  | x :: xs, _, _, _, h, k => by
    cases h with
    | cons h1 h2 => exact .cons h1 (dps_app h2 k)
theorem dps_take {K : PySem.W.Frag} {G : Hp} : ∀ {xs : List D} {vs : List V} (n : Nat), DpAll K G vs xs → DpAll K G (vs.take n) (xs.take n)
  | [], _, n, h => by cases h; simpa using DpAll.nil
  | x :: xs, _, n, h => by
    cases h with
    | cons h1 h2 => cases n with
      | zero => exact .nil
      | succ n => exact .cons h1 (dps_take n h2)
theorem dps_drop {K : PySem.W.Frag} {G : Hp} : ∀ {xs : List D} {vs : List V} (n : Nat), DpAll K G vs xs → DpAll K G (vs.drop n) (xs.drop n)
  | [], _, n, h => by cases h; simpa using DpAll.nil
  | x :: xs, _, n, h => by
    cases h with
    | cons h1 h2 => cases n with
      | zero => exact .cons h1 h2
      | succ n => exact dps_drop n h2

theorem pd_add (ha : PD X ds M a (I i) M1) (hb : PD X ds M1 b (I j) M2) : PD X ds M (.BinOp a .Add b pos) (I (i + j)) M2 := pe_mono (pe_op op_add ha hb) fun σ H Q q => ce_op (fun G H x y Q hx hy k => ⟨i, j, vk_int hx, vk_int hy, k _ (.int _)⟩) q
theorem pd_sub (ha : PD X ds M a (I i) M1) (hb : PD X ds M1 b (I j) M2) : PD X ds M (.BinOp a .Sub b pos) (I (i - j)) M2 := pe_mono (pe_op op_sub ha hb) fun σ H Q q => ce_op (fun G H x y Q hx hy k => ⟨i, j, vk_int hx, vk_int hy, k _ (.int _)⟩) q
theorem pd_mul (ha : PD X ds M a (I i) M1) (hb : PD X ds M1 b (I j) M2) (hc : CMul i j) : PD X ds M (.BinOp a .Mult b pos) (I (i * j)) M2 := pe_mono (pe_op op_mul ha hb) fun σ H Q q => ce_op (fun G H x y Q hx hy k => ⟨i, j, vk_int hx, vk_int hy, hc, k _ (.int _)⟩) q
theorem pd_fdiv (ha : PD X ds M a (I i) M1) (hb : PD X ds M1 b (I j) M2) (hc : CDivN i j) : PD X ds M (.BinOp a .FloorDiv b pos) (I (i.fdiv j)) M2 := pe_mono (pe_op op_fdivN ha hb) fun σ H Q q => ce_op (fun G H x y Q hx hy k => ⟨i, j, vk_int hx, vk_int hy, hc, k _ (.int _)⟩) q
theorem pd_mod (ha : PD X ds M a (I i) M1) (hb : PD X ds M1 b (I j) M2) (hc : 0 < j) : PD X ds M (.BinOp a .Mod b pos) (I (i % j)) M2 := pe_mono (pe_op op_mod ha hb) fun σ H Q q => ce_op (fun G H x y Q hx hy k => ⟨i, j, vk_int hx, vk_int hy, hc, k _ (.int _)⟩) q
theorem pd_pow (ha : PD X ds M a (I i) M1) (hb : PD X ds M1 b (I j) M2) (hc : CPow i j) : PD X ds M (.BinOp a .Pow b pos) (I (i ^ j.toNat)) M2 := pe_mono (pe_op op_pow ha hb) fun σ H Q q => ce_op (fun G H x y Q hx hy k => ⟨i, j, vk_int hx, vk_int hy, hc, k _ (.int _)⟩) q
theorem pd_adds {x y : Str} (ha : PD X ds M a (.dat (.str x)) M1) (hb : PD X ds M1 b (.dat (.str y)) M2) (hl : x.length + y.length ≤ sizeLine) : PD X ds M (.BinOp a .Add b pos) (.dat (.str (x ++ y))) M2 :=
  pe_mono (pe_op op_add_str ha hb) fun σ H Q q => ce_op (fun G H u v Q hx hy k => ⟨x, y, vk_str hx, vk_str hy, hl, k _ (.str _)⟩) q
theorem pd_neg (ha : PD X ds M a (I i) M1) : PD X ds M (.UnaryOp .USub a pos) (I (-i)) M1 := pe_mono (pe_un un_neg ha) fun σ H Q ⟨G, w, s, k⟩ => ⟨G, w, s, fun v G' H' p hv => ⟨i, vk_int hv, k _ G' H' p (.int _)⟩⟩
theorem pd_lt (ha : PD X ds M a (I i) M1) (hb : PD X ds M1 b (I j) M2) : PD X ds M (.Compare a [.Lt] [b] pos) (B (decide (i < j))) M2 := pe_mono (pe_cmpR op_lt ha hb (nomark _)) fun σ H Q q => ce_op (fun G H x y Q hx hy k => ⟨i, j, vk_int hx, vk_int hy, k _ (.bl _)⟩) q
theorem pd_le (ha : PD X ds M a (I i) M1) (hb : PD X ds M1 b (I j) M2) : PD X ds M (.Compare a [.LtE] [b] pos) (B (decide (i ≤ j))) M2 := pe_mono (pe_cmpR op_le ha hb (nomark _)) fun σ H Q q => ce_op (fun G H x y Q hx hy k => ⟨i, j, vk_int hx, vk_int hy, k _ (.bl _)⟩) q
theorem pd_gt (ha : PD X ds M a (I i) M1) (hb : PD X ds M1 b (I j) M2) : PD X ds M (.Compare a [.Gt] [b] pos) (B (decide (j < i))) M2 := pe_mono (pe_cmpR op_gt ha hb (nomark _)) fun σ H Q q => ce_op (fun G H x y Q hx hy k => ⟨i, j, vk_int hx, vk_int hy, k _ (.bl _)⟩) q
theorem pd_ge (ha : PD X ds M a (I i) M1) (hb : PD X ds M1 b (I j) M2) : PD X ds M (.Compare a [.GtE] [b] pos) (B (decide (j ≤ i))) M2 := pe_mono (pe_cmpR op_ge ha hb (nomark _)) fun σ H Q q => ce_op (fun G H x y Q hx hy k => ⟨i, j, vk_int hx, vk_int hy, k _ (.bl _)⟩) q
/-- == and != of data -/
theorem pd_eq {d d' : D} (hu : X.A.units + 64 < cLine) (ha : PD X ds M a (.dat d) M1) (hb : PD X ds M1 b (.dat d') M2) (h1 : SeqAt.shaped d = true) (h2 : SeqAt.shaped d' = true) : PD X ds M (.Compare a [.Eq] [b] pos) (B (PyData.eqv d d')) M2 :=
  pe_mono (pe_cmpR (op_eqD hu) ha hb (nomark _)) fun σ H Q q => ce_bin (fun G H x y Q w hx hy k => ⟨d, d', dpUp w.ex d hx, dpUp w.ex d' hy, h1, h2, k _ G H (Po.refl w) (.bl _)⟩) q
theorem pd_ne {d d' : D} (hu : X.A.units + 64 < cLine) (ha : PD X ds M a (.dat d) M1) (hb : PD X ds M1 b (.dat d') M2) (h1 : SeqAt.shaped d = true) (h2 : SeqAt.shaped d' = true) : PD X ds M (.Compare a [.NotEq] [b] pos) (B (!PyData.eqv d d')) M2 :=
  pe_mono (pe_cmpR (op_neD hu) ha hb (nomark _)) fun σ H Q q => ce_bin (fun G H x y Q w hx hy k => ⟨d, d', dpUp w.ex d hx, dpUp w.ex d' hy, h1, h2, k _ G H (Po.refl w) (.bl _)⟩) q
/-- is None -/
def isNon : D → Bool
  | .none => true
  | _ => false
theorem vk_non {K : PySem.W.Frag} {G : Hp} {v : V} {d : D} (h : Vk K G v (.dat d)) : decide (v = .non) = isNon d := by
  have h' : Dp K G v d := h
  cases h' <;> simp [isNon]
theorem pd_isN {d : D} (ha : PD X ds M a (.dat d) M1) {k p' } : PD X ds M (.Compare a [.Is] [.Constant .none k p'] pos) (B (isNon d)) M1 :=
  pe_mono (pe_cmpR op_isN ha (pd_non (ds := ds) (M := M1)) (nomark _)) fun σ H Q q => ce_op (fun G H x y Q hx hy k => ⟨by
    have h' : Dp X.K G y .none := hy
    cases h'; rfl, by rw [vk_non hx]; exact k _ (.bl _)⟩) q
theorem pd_notN {d : D} (ha : PD X ds M a (.dat d) M1) {k p' } : PD X ds M (.Compare a [.IsNot] [.Constant .none k p'] pos) (B (!isNon d)) M1 :=
  pe_mono (pe_cmpR op_notN ha (pd_non (ds := ds) (M := M1)) (nomark _)) fun σ H Q q => ce_op (fun G H x y Q hx hy k => ⟨by
    have h' : Dp X.K G y .none := hy
    cases h'; rfl, by rw [vk_non hx]; exact k _ (.bl _)⟩) q

/-! ### items -/
theorem pd_ixT {xs : List D} {d : D} (ha : PD X ds M a (.dat (.tuple xs)) M1) (hb : PD X ds M1 b (I i) M2) (h : atI xs i = some d := by rfl) (hs : PlainIx b := by exact fun _ _ => rfl) : PD X ds M (.Subscript a b pos) (.dat d) M2 :=
  pe_mono (pe_ix ix_tup ha hb hs) fun σ H Q q => ce_bin (fun G H x y Q w hx hy k => by
    obtain ⟨p, vs, e, h1, h2⟩ := vk_tup hx
    obtain ⟨v, e1, e2⟩ := dps_at h2 h
    exact ⟨p, vs, i, v, e, vk_int hy, seqT w.ex h1, e1, k v G H (Po.refl w) e2⟩) q
theorem pd_ixL {xs : List D} {d : D} (ha : PD X ds M a (.dat (.list xs)) M1) (hb : PD X ds M1 b (I i) M2) (h : atI xs i = some d := by rfl) (hs : PlainIx b := by exact fun _ _ => rfl) : PD X ds M (.Subscript a b pos) (.dat d) M2 :=
  pe_mono (pe_ix ix_list ha hb hs) fun σ H Q q => ce_bin (fun G H x y Q w hx hy k => by
    obtain ⟨p, vs, e, h1, h2⟩ := vk_lst hx
    obtain ⟨v, e1, e2⟩ := dps_at h2 h
    exact ⟨p, vs, i, v, e, vk_int hy, w.ex.seq h1, e1, k v G H (Po.refl w) e2⟩) q

/-! ### rows of expressions, displays -/
theorem pda_nil : PDA X ds M [] [] M := pa_mono pa_nil fun σ H Q ⟨G, w, s, k⟩ => k [] G H (Po.refl w) .nil
theorem pda_cons (he : PD X ds M e r M1) (hr : PDA X ds M1 es rs M2) (hs : starEach (e :: es) X.env = (false, eval e X.env) :: starEach es X.env := by rfl) : PDA X ds M (e :: es) (r :: rs) M2 :=
  pa_mono (pa_cons he hr hs) fun σ H Q ⟨G, w, s, k⟩ => ⟨G, w, s, fun v G1 H1 p1 hv => ⟨G1, p1.w, s.up p1.g, fun vs G2 H2 p2 hvs => k (v :: vs) G2 H2 (p1.trans p2) (.cons (hv.up p2.g) hvs)⟩⟩
/-- data alone -/
def dats (xs : List D) : List Sv := xs.map .dat
theorem vks_dats {K : PySem.W.Frag} {G : Hp} : ∀ {xs : List D} {vs : List V}, Vks K G vs (dats xs) → DpAll K G vs xs
  | [], _, h => by cases h; exact .nil
  | x :: xs, _, h => by
    cases h with
    | cons h1 h2 => exact .cons h1 (vks_dats h2)
theorem pd_tup {xs : List D} {k : Nat} (h : PDA X ds M es rs M1) (hx : rs = dats xs := by rfl) (hl : xs.length ≤ 1000 := by exact Nat.le_of_ble_eq_true rfl) : PD X ds M (.Tuple es k pos) (.dat (.tuple xs)) M1 :=
  pe_mono (pe_tup h) fun σ H Q ⟨G, w, s, q⟩ => ⟨G, w, s, fun vs G' H' p hv => by
    subst hx
    have hd := vks_dats hv
    have hlen := dps_len hd
    refine ⟨by rw [hlen]; exact Nat.le_of_lt (small1000 hl), fun a ha => ?_⟩
    have p2 := Po.new p.w ha (.tup vs)
    exact q _ _ _ (p.trans p2) (Dp.tup (SqT.of upd_same) (dpsUp p2.g xs hd))⟩
theorem pd_lst {xs : List D} (h : PDA X ds M es rs M1) (hx : rs = dats xs := by rfl) (hl : xs.length ≤ 1000 := by exact Nat.le_of_ble_eq_true rfl) : PD X ds M (.List es pos) (.dat (.list xs)) M1 :=
  pe_mono (pe_lst h) fun σ H Q ⟨G, w, s, q⟩ => ⟨G, w, s, fun vs G' H' p hv => by
    subst hx
    have hd := vks_dats hv
    have hlen := dps_len hd
    refine ⟨by rw [hlen]; exact Nat.le_of_lt (small1000 hl), fun a ha => ?_⟩
    have p2 := Po.new p.w ha (.lst vs)
    exact q _ _ _ (p.trans p2) (Dp.lst (SqL.of upd_same) (dpsUp p2.g xs hd))⟩

/-! ### tests -/
theorem pdt_val {b : Bool} (h : PD X ds M e (B b) M1) (he : ∀ whole, isTrue e X.env whole = (do let v ← whole; standAt e.pos; holding [v] (truthy v)) := by intro _; rfl) : PDT X ds M e b M1 :=
  pt_mono (pt_val h he) fun σ H Q ⟨G, w, s, k⟩ => ⟨G, w, s, fun v G' H' p hv => ⟨b, vk_bl hv, k G' H' p⟩⟩
/-- a comparison -/
theorem pdt_lt (ha : PD X ds M a (I i) M1) (hb : PD X ds M1 b (I j) M2) : PDT X ds M (.Compare a [.Lt] [b] pos) (decide (i < j)) M2 := pt_mono (pt_cmpR op_lt ha hb (nomark _)) fun σ H Q ⟨G, w, s, k⟩ => ce_op (r := B (decide (i < j))) (fun G H x y Q hx hy k => ⟨i, j, vk_int hx, vk_int hy, k _ (.bl _)⟩) ⟨G, w, s, fun v G' H' p hv => ⟨_, vk_bl hv, k G' H' p⟩⟩
theorem pdt_le (ha : PD X ds M a (I i) M1) (hb : PD X ds M1 b (I j) M2) : PDT X ds M (.Compare a [.LtE] [b] pos) (decide (i ≤ j)) M2 := pt_mono (pt_cmpR op_le ha hb (nomark _)) fun σ H Q ⟨G, w, s, k⟩ => ce_op (r := B (decide (i ≤ j))) (fun G H x y Q hx hy k => ⟨i, j, vk_int hx, vk_int hy, k _ (.bl _)⟩) ⟨G, w, s, fun v G' H' p hv => ⟨_, vk_bl hv, k G' H' p⟩⟩
theorem pdt_gt (ha : PD X ds M a (I i) M1) (hb : PD X ds M1 b (I j) M2) : PDT X ds M (.Compare a [.Gt] [b] pos) (decide (j < i)) M2 := pt_mono (pt_cmpR op_gt ha hb (nomark _)) fun σ H Q ⟨G, w, s, k⟩ => ce_op (r := B (decide (j < i))) (fun G H x y Q hx hy k => ⟨i, j, vk_int hx, vk_int hy, k _ (.bl _)⟩) ⟨G, w, s, fun v G' H' p hv => ⟨_, vk_bl hv, k G' H' p⟩⟩
theorem pdt_ge (ha : PD X ds M a (I i) M1) (hb : PD X ds M1 b (I j) M2) : PDT X ds M (.Compare a [.GtE] [b] pos) (decide (j ≤ i)) M2 := pt_mono (pt_cmpR op_ge ha hb (nomark _)) fun σ H Q ⟨G, w, s, k⟩ => ce_op (r := B (decide (j ≤ i))) (fun G H x y Q hx hy k => ⟨i, j, vk_int hx, vk_int hy, k _ (.bl _)⟩) ⟨G, w, s, fun v G' H' p hv => ⟨_, vk_bl hv, k G' H' p⟩⟩
theorem pdt_eq {d d' : D} (hu : X.A.units + 64 < cLine) (ha : PD X ds M a (.dat d) M1) (hb : PD X ds M1 b (.dat d') M2) (h1 : SeqAt.shaped d = true) (h2 : SeqAt.shaped d' = true) : PDT X ds M (.Compare a [.Eq] [b] pos) (PyData.eqv d d') M2 :=
  pt_mono (pt_cmpR (op_eqD hu) ha hb (nomark _)) fun σ H Q ⟨G, w, s, k⟩ => ce_bin (r := B (PyData.eqv d d')) (fun G H x y Q w hx hy k => ⟨d, d', dpUp w.ex d hx, dpUp w.ex d' hy, h1, h2, k _ G H (Po.refl w) (.bl _)⟩) ⟨G, w, s, fun v G' H' p hv => ⟨_, vk_bl hv, k G' H' p⟩⟩
theorem pdt_ne {d d' : D} (hu : X.A.units + 64 < cLine) (ha : PD X ds M a (.dat d) M1) (hb : PD X ds M1 b (.dat d') M2) (h1 : SeqAt.shaped d = true) (h2 : SeqAt.shaped d' = true) : PDT X ds M (.Compare a [.NotEq] [b] pos) (!PyData.eqv d d') M2 :=
  pt_mono (pt_cmpR (op_neD hu) ha hb (nomark _)) fun σ H Q ⟨G, w, s, k⟩ => ce_bin (r := B (!PyData.eqv d d')) (fun G H x y Q w hx hy k => ⟨d, d', dpUp w.ex d hx, dpUp w.ex d' hy, h1, h2, k _ G H (Po.refl w) (.bl _)⟩) ⟨G, w, s, fun v G' H' p hv => ⟨_, vk_bl hv, k G' H' p⟩⟩
theorem pdt_isN {d : D} (ha : PD X ds M a (.dat d) M1) {k p' } : PDT X ds M (.Compare a [.Is] [.Constant .none k p'] pos) (isNon d) M1 :=
  pt_mono (pt_cmpR op_isN ha (pd_non (ds := ds) (M := M1)) (nomark _)) fun σ H Q ⟨G, w, s, k⟩ => ce_op (r := B (isNon d)) (fun G H x y Q hx hy k => ⟨by
    have h' : Dp X.K G y .none := hy
    cases h'; rfl, by rw [vk_non hx]; exact k _ (.bl _)⟩) ⟨G, w, s, fun v G' H' p hv => ⟨_, vk_bl hv, k G' H' p⟩⟩
theorem pdt_notN {d : D} (ha : PD X ds M a (.dat d) M1) {k p' } : PDT X ds M (.Compare a [.IsNot] [.Constant .none k p'] pos) (!isNon d) M1 :=
  pt_mono (pt_cmpR op_notN ha (pd_non (ds := ds) (M := M1)) (nomark _)) fun σ H Q ⟨G, w, s, k⟩ => ce_op (r := B (!isNon d)) (fun G H x y Q hx hy k => ⟨by
    have h' : Dp X.K G y .none := hy
    cases h'; rfl, by rw [vk_non hx]; exact k _ (.bl _)⟩) ⟨G, w, s, fun v G' H' p hv => ⟨_, vk_bl hv, k G' H' p⟩⟩
theorem pdt_not {b : Bool} (h : PDT X ds M a b M1) : PDT X ds M (.UnaryOp .Not a pos) (!b) M1 := pt_mono (pt_not h) fun σ H Q ⟨G, w, s, k⟩ => ⟨G, w, s, fun G' H' p => k G' H' p⟩
theorem pdw_and1 {b : Bool} (h : PDT X ds M a b M1) : PDW X ds M (.BoolOp .And [a] pos) b M1 := pw_and1 h
theorem pdw_or1 {b : Bool} (h : PDT X ds M a b M1) : PDW X ds M (.BoolOp .Or [a] pos) b M1 := pw_or1 h
theorem ct_seq {K : PySem.W.Frag} {t : TT} {b b' : Bool} {σ : L2.St} {H : Hp} {Q : Bool → Hp → Prop} {R : Bool → Hp → Prop} (hR : ∀ H', cT K ds M1 b' M2 σ H' Q → R b H') (q : cT K ds M b' M2 σ H Q) : cT K ds M b M1 σ H R := by
  obtain ⟨G, w, s, k⟩ := q
  exact ⟨G, w, s, fun G' H' p => hR H' ⟨G', p.w, s.up p.g, fun G2 H2 p2 => k G2 H2 (p.trans p2)⟩⟩
theorem pdw_andT {c2 : Bool} {es : List Expr} (h : PDT X ds M a true M1) (h2 : PDW X ds M1 (.BoolOp .And (b :: es) pos) c2 M2) : PDW X ds M (.BoolOp .And (a :: b :: es) pos) c2 M2 :=
  pw_mono (pw_and h h2) fun σ H Q q => ct_seq (K := X.K) (b' := c2) (t := fun _ _ _ => True) (fun H' z => iteT (z)) q
theorem pdw_andF {es : List Expr} (h : PDT X ds M a false M1) : PDW X ds M (.BoolOp .And (a :: b :: es) pos) false M1 :=
  pw_mono (pw_and h pw_no) fun σ H Q ⟨G, w, s, k⟩ => ⟨G, w, s, fun G' H' p => iteF (k G' H' p)⟩
theorem pdw_orT {es : List Expr} (h : PDT X ds M a true M1) : PDW X ds M (.BoolOp .Or (a :: b :: es) pos) true M1 :=
  pw_mono (pw_or h pw_no) fun σ H Q ⟨G, w, s, k⟩ => ⟨G, w, s, fun G' H' p => iteT (k G' H' p)⟩
theorem pdw_orF {c2 : Bool} {es : List Expr} (h : PDT X ds M a false M1) (h2 : PDW X ds M1 (.BoolOp .Or (b :: es) pos) c2 M2) : PDW X ds M (.BoolOp .Or (a :: b :: es) pos) c2 M2 :=
  pw_mono (pw_or h h2) fun σ H Q q => ct_seq (K := X.K) (b' := c2) (t := fun _ _ _ => True) (fun H' z => iteF (z)) q
/-! .. as values -/
theorem pd_one {op : BoolOp} (h : PD X ds M a r M1) : PD X ds M (.BoolOp op [a] pos) r M1 := pe_one h
theorem pd_andT {es : List Expr} (h : PD X ds M a (B true) M1) (h2 : PD X ds M1 (.BoolOp .And (b :: es) pos) r M2) : PD X ds M (.BoolOp .And (a :: b :: es) pos) r M2 :=
  pe_mono (pe_and h h2) fun σ H Q ⟨G, w, s, k⟩ => ⟨G, w, s, fun v G' H' p hv => ⟨true, vk_bl hv, iteT (⟨G', p.w, s.up p.g, fun v2 G2 H2 p2 hv2 => k v2 G2 H2 (p.trans p2) hv2⟩)⟩⟩
theorem pd_andF {es : List Expr} (h : PD X ds M a (B false) M1) : PD X ds M (.BoolOp .And (a :: b :: es) pos) (B false) M1 :=
  pe_mono (pe_and h pe_no) fun σ H Q ⟨G, w, s, k⟩ => ⟨G, w, s, fun v G' H' p hv => ⟨false, vk_bl hv, iteF (k _ G' H' p (.bl _))⟩⟩
theorem pd_orT {es : List Expr} (h : PD X ds M a (B true) M1) : PD X ds M (.BoolOp .Or (a :: b :: es) pos) (B true) M1 :=
  pe_mono (pe_or h pe_no) fun σ H Q ⟨G, w, s, k⟩ => ⟨G, w, s, fun v G' H' p hv => ⟨true, vk_bl hv, iteT (k _ G' H' p (.bl _))⟩⟩
theorem pd_orF {es : List Expr} (h : PD X ds M a (B false) M1) (h2 : PD X ds M1 (.BoolOp .Or (b :: es) pos) r M2) : PD X ds M (.BoolOp .Or (a :: b :: es) pos) r M2 :=
  pe_mono (pe_or h h2) fun σ H Q ⟨G, w, s, k⟩ => ⟨G, w, s, fun v G' H' p hv => ⟨false, vk_bl hv, iteF (⟨G', p.w, s.up p.g, fun v2 G2 H2 p2 hv2 => k v2 G2 H2 (p.trans p2) hv2⟩)⟩⟩
theorem pd_not {b : Bool} (h : PD X ds M a (B b) M1) : PD X ds M (.UnaryOp .Not a pos) (B (!b)) M1 := pe_mono (pe_not h) fun σ H Q ⟨G, w, s, k⟩ => ⟨G, w, s, fun v G' H' p hv => ⟨b, vk_bl hv, k _ G' H' p (.bl _)⟩⟩
theorem pd_ifT (hc : PDT X ds M c true M1) (h : PD X ds M1 a r M2) : PD X ds M (.IfExp c a b pos) r M2 :=
  pe_mono (pe_ifExp hc h pe_no) fun σ H Q ⟨G, w, s, k⟩ => ⟨G, w, s, fun G' H' p => iteT (⟨G', p.w, s.up p.g, fun v2 G2 H2 p2 hv2 => k v2 G2 H2 (p.trans p2) hv2⟩)⟩
theorem pd_ifF (hc : PDT X ds M c false M1) (h : PD X ds M1 b r M2) : PD X ds M (.IfExp c a b pos) r M2 :=
  pe_mono (pe_ifExp hc pe_no h) fun σ H Q ⟨G, w, s, k⟩ => ⟨G, w, s, fun G' H' p => iteF (⟨G', p.w, s.up p.g, fun v2 G2 H2 p2 hv2 => k v2 G2 H2 (p.trans p2) hv2⟩)⟩
end
end Cal
/-! CalC -/
namespace Cal
open PySem PySem.Spec PyProof.Rows L2

/-! ### what statements come to -/
inductive Rs where
  | nx (ds : List Sv) (M : Ms) | rt (r : Sv) (M : Ms) | bk (ds : List Sv) (M : Ms) | ct (ds : List Sv) (M : Ms) | rn (r : Addr × Addr → Sv) (M : Addr × Addr → Ms)
def cS (K : PySem.W.Frag) (ds : List Sv) (M : Ms) : Rs → TS
  | .nx ds' M' => fun D σ H => ∃ G, Wo K M G H ∧ Sl K G σ ds ∧ ∀ σ' G' H', Po K M M' G H G' H' → Sl K G' σ' ds' → D.nx σ' H'
  | .rt r M' => fun D σ H => ∃ G, Wo K M G H ∧ Sl K G σ ds ∧ ∀ v G' H', Po K M M' G H G' H' → Vk K G' v r → D.rt v H'
  | .bk ds' M' => fun D σ H => ∃ G, Wo K M G H ∧ Sl K G σ ds ∧ ∀ σ' G' H', Po K M M' G H G' H' → Sl K G' σ' ds' → D.bk σ' H'
  | .ct ds' M' => fun D σ H => ∃ G, Wo K M G H ∧ Sl K G σ ds ∧ ∀ σ' G' H', Po K M M' G H G' H' → Sl K G' σ' ds' → D.ct σ' H'
  | .rn r M' => fun D σ H => ∃ G, Wo K M G H ∧ Sl K G σ ds ∧ ∀ a v G' H', Po K M (M' a) G H G' H' → Vk K G' v (r a) → D.rt v H'
/-- .. an error of the class at c goes out: W is wished -/
def cX (K : PySem.W.Frag) (W : WX) (ds : List Sv) (M : Ms) (c : Addr) : TS := fun _ σ H => ∃ G, Wo K M G H ∧ Sl K G σ ds ∧ ∀ σ' G' H', Po K M M G H G' H' → W (.ref c) none σ' H'
def cEX (K : PySem.W.Frag) (W : WX) (ds : List Sv) (M : Ms) (c : Addr) : TE := fun σ H _ => ∃ G, Wo K M G H ∧ Sl K G σ ds ∧ ∀ G' H', Po K M M G H G' H' → W (.ref c) none σ H'
abbrev SD (X : Cx) (ds : List Sv) (M : Ms) (ss : List Stmt) (R : Rs) : Prop := PSs X ss (cS X.K ds M R)
abbrev SD1 (X : Cx) (ds : List Sv) (M : Ms) (st : Stmt) (R : Rs) : Prop := PS X st (cS X.K ds M R)
abbrev SX (X : Cx) (W : WX) (ds : List Sv) (M : Ms) (ss : List Stmt) (c : Addr) : Prop := PSs X ss (cX X.K W ds M c)
abbrev SX1 (X : Cx) (W : WX) (ds : List Sv) (M : Ms) (st : Stmt) (c : Addr) : Prop := PS X st (cX X.K W ds M c)
abbrev PX (X : Cx) (W : WX) (ds : List Sv) (M : Ms) (e : Expr) (c : Addr) : Prop := PE X e (cEX X.K W ds M c)
section
variable {X : Cx} {ds ds' ds1 ds2 : List Sv} {M M' M1 M2 M3 : Ms} {a b c e : Expr} {es : List Expr} {st : Stmt} {ss s1 s2 : List Stmt} {r ra rb : Sv} {rs : List Sv} {i j : Int} {pos : Pos} {R : Rs}
theorem ps_mono {t t' : TS} (h : PS X st t) (k : ∀ D σ H, t' D σ H → t D σ H) : PS X st t' := ⟨fun pins s σ H D I q => h.run pins s σ H D I (k D σ H q)⟩
theorem pss_mono {t t' : TS} (h : PSs X ss t) (k : ∀ D σ H, t' D σ H → t D σ H) : PSs X ss t' := ⟨fun pins s σ H D I q => h.run pins s σ H D I (k D σ H q)⟩
/-- first one way on, then the rest -/
theorem cS_seq {K : PySem.W.Frag} {D : Ends} {σ : L2.St} {H : Hp} (q : cS K ds M R D σ H) : cS K ds M (.nx ds1 M1) { D with nx := cS K ds1 M1 R D } σ H → True := fun _ => trivial
theorem cS_then {K : PySem.W.Frag} {D : Ends} {σ : L2.St} {H : Hp} (q : cS K ds M R D σ H) : ∃ G, Wo K M G H ∧ Sl K G σ ds ∧ ∀ ds1 M1 σ1 G1 H1, Po K M M1 G H G1 H1 → Sl K G1 σ1 ds1 → cS K ds1 M1 R D σ1 H1 := by
  cases R with
  | nx d m =>
    obtain ⟨G, w, s, k⟩ := q
    exact ⟨G, w, s, fun ds1 M1 σ1 G1 H1 p sl => ⟨G1, p.w, sl, fun σ' G' H' p2 sl2 => k σ' G' H' (p.trans p2) sl2⟩⟩
  | rt r m =>
    obtain ⟨G, w, s, k⟩ := q
    exact ⟨G, w, s, fun ds1 M1 σ1 G1 H1 p sl => ⟨G1, p.w, sl, fun v G' H' p2 hv => k v G' H' (p.trans p2) hv⟩⟩
  | bk d m =>
    obtain ⟨G, w, s, k⟩ := q
    exact ⟨G, w, s, fun ds1 M1 σ1 G1 H1 p sl => ⟨G1, p.w, sl, fun σ' G' H' p2 sl2 => k σ' G' H' (p.trans p2) sl2⟩⟩
  | ct d m =>
    obtain ⟨G, w, s, k⟩ := q
    exact ⟨G, w, s, fun ds1 M1 σ1 G1 H1 p sl => ⟨G1, p.w, sl, fun σ' G' H' p2 sl2 => k σ' G' H' (p.trans p2) sl2⟩⟩
  | rn r m =>
    obtain ⟨G, w, s, k⟩ := q
    exact ⟨G, w, s, fun ds1 M1 σ1 G1 H1 p sl => ⟨G1, p.w, sl, fun a v G' H' p2 hv => k a v G' H' (p.trans p2) hv⟩⟩
theorem cS_D {K : PySem.W.Frag} {D D' : Ends} {σ : L2.St} {H : Hp} (hR : ∀ d m, R ≠ .nx d m) (e1 : D.rt = D'.rt) (e2 : D.bk = D'.bk) (e3 : D.ct = D'.ct) (q : cS K ds M R D σ H) : cS K ds M R D' σ H := by
  cases R with
  | nx d m => exact absurd rfl (hR d m)
  | rt r m => show ∃ G, _; rw [← e1]; exact q
  | bk d m => show ∃ G, _; rw [← e2]; exact q
  | ct d m => show ∃ G, _; rw [← e3]; exact q
  | rn r m => show ∃ G, _; rw [← e1]; exact q
theorem sd_nil : SD X ds M [] (.nx ds M) := pss_mono pss_nil fun D σ H ⟨G, w, s, k⟩ => k σ G H (Po.refl w) s
theorem sd_cons (h1 : SD1 X ds M st (.nx ds1 M1)) (h2 : SD X ds1 M1 ss R) : SD X ds M (st :: ss) R := pss_mono (pss_cons h1 h2) fun D σ H q => by
  obtain ⟨G, w, s, k⟩ := cS_then q
  exact ⟨G, w, s, fun σ' G' H' p sl => k ds1 M1 σ' G' H' p sl⟩
theorem sd_one (h : SD1 X ds M st R) : SD X ds M [st] R := pss_one h
/-- a statement that doesn't go on -/
theorem sd_stop (h : SD1 X ds M st R) (hR : ∀ d m, R ≠ .nx d m := by intro _ _ z; cases z) : SD X ds M (st :: ss) R := pss_mono (pss_cons h pss_never) fun D σ H q => cS_D (D := D) (D' := { D with nx := tNever D }) hR rfl rfl rfl q
theorem sx_stop {W : WX} {k : Addr} (h : SX1 X W ds M st k) : SX X W ds M (st :: ss) k := pss_mono (pss_cons h pss_never) fun D σ H q => q
theorem sx_cons {W : WX} {k : Addr} (h1 : SD1 X ds M st (.nx ds1 M)) (h2 : SX X W ds1 M ss k) : SX X W ds M (st :: ss) k := pss_mono (pss_cons h1 h2) fun D σ H ⟨G, w, s, q⟩ =>
  ⟨G, w, s, fun σ' G' H' p sl => ⟨G', p.w, sl, fun σ2 G2 H2 p2 => q σ2 G2 H2 (p.trans p2)⟩⟩
theorem sd_ret (h : PD X ds M e r M') : SD1 X ds M (.Return (some e) pos) (.rt r M') := ps_mono (ps_ret h) fun D σ H ⟨G, w, s, k⟩ => ⟨G, w, s, fun v G' H' p hv => k v G' H' p hv⟩
theorem sx_ret {W : WX} {k : Addr} (h : PX X W ds M e k) : SX1 X W ds M (.Return (some e) pos) k := ps_mono (ps_ret h) fun D σ H ⟨G, w, s, q⟩ => ⟨G, w, s, fun G' H' p => q σ G' H' p⟩
theorem sd_set (i : Nat) {x : Str} {pos' : Pos} (he : PD X ds M e r M') (hN : X.N.Nodup) (hi : X.N[i]? = some x := by rfl) (hx : Loc X.env.scope x := by first | exact Or.inl rfl | exact Or.inr rfl) (hs : swapsWith e (some (.Name x pos')) pos.line X.env = pure false := by rfl)
    (hf : X.fn x = true ∨ X.env.scope.names.lookup x = some .local := by first | exact .inl rfl | exact .inr rfl | assumption) : SD1 X ds M (.Assign [.Name x pos'] e pos) (.nx (ds.set i r) M') :=
  ps_mono (ps_set (i := i) hN hi hx he hs hf) fun D σ H ⟨G, w, s, k⟩ => ⟨G, w, s, fun v G' H' p hv => k _ G' H' p ((s.up p.g).set i hv)⟩
theorem sd_drop (he : PD X ds M e r M') (hs : swapsWith e none pos.line X.env = pure false := by rfl) : SD1 X ds M (.Expr e pos) (.nx ds M') :=
  ps_mono (ps_expr he hs) fun D σ H ⟨G, w, s, k⟩ => ⟨G, w, s, fun v G' H' p hv => k σ G' H' p (s.up p.g)⟩
theorem sd_ifT {s1 s2 : List Stmt} (hc : PDT X ds M c true M1) (h : SD X ds M1 s1 R) : SD1 X ds M (.If c s1 s2 pos) R := ps_mono (ps_if hc h pss_never) fun D σ H q => by
  obtain ⟨G, w, s, k⟩ := cS_then q
  exact ⟨G, w, s, fun G' H' p => iteT (k ds M1 σ G' H' p (s.up p.g))⟩
theorem sd_ifF {s1 s2 : List Stmt} (hc : PDT X ds M c false M1) (h : SD X ds M1 s2 R) : SD1 X ds M (.If c s1 s2 pos) R := ps_mono (ps_if hc pss_never h) fun D σ H q => by
  obtain ⟨G, w, s, k⟩ := cS_then q
  exact ⟨G, w, s, fun G' H' p => iteF (k ds M1 σ G' H' p (s.up p.g))⟩
theorem sd_no {s1 : List Stmt} (hc : PDT X ds M c false M1) : SD1 X ds M (.If c s1 [] pos) (.nx ds M1) := sd_ifF hc sd_nil
theorem sx_ifT {W : WX} {k : Addr} {s1 s2 : List Stmt} (hc : PDT X ds M c true M) (h : SX X W ds M s1 k) : SX1 X W ds M (.If c s1 s2 pos) k := ps_mono (ps_if hc h pss_never) fun D σ H ⟨G, w, s, q⟩ =>
  ⟨G, w, s, fun G' H' p => iteT ⟨G', p.w, s.up p.g, fun σ2 G2 H2 p2 => q σ2 G2 H2 (p.trans p2)⟩⟩

/-! ### targets -/
/-- the slots at ts alone may differ -/
def Chg (ts : List Nat) (σ σ' : L2.St) : Prop := ∀ vs : List Nat, (∀ t ∈ ts, t ∈ vs) → L2.wipe σ' vs = L2.wipe σ vs
theorem wipe_put {σ : L2.St} {j : Nat} {o : Option V} : ∀ vs : List Nat, (j ∈ vs → L2.wipe (σ.set j o) vs = L2.wipe σ vs) ∧ (j ∉ vs → L2.wipe (σ.set j o) vs = (L2.wipe σ vs).set j o)
  | [] => ⟨fun h => by simp at h, fun _ => rfl⟩
  | v :: vs => by
    obtain ⟨h1, h2⟩ := wipe_put (σ := σ) (j := j) (o := o) vs
    refine ⟨fun h => ?_, fun h => ?_⟩
    · show (L2.wipe (σ.set j o) vs).set v none = (L2.wipe σ vs).set v none
      by_cases hj : j ∈ vs
      · rw [h1 hj]
      · have e : j = v := by
          rcases List.mem_cons.mp h with e | e
          · exact e
          · exact absurd e hj
        rw [h2 hj, e, List.set_set]
    · show (L2.wipe (σ.set j o) vs).set v none = ((L2.wipe σ vs).set v none).set j o
      have hj : j ∉ vs := fun z => h (List.mem_cons_of_mem _ z)
      have ne : j ≠ v := fun z => h (by rw [z]; exact List.mem_cons_self)
      rw [h2 hj, List.set_comm _ _ ne]
def cG (K : PySem.W.Frag) (r : Sv) (ds ds' : List Sv) (ts : List Nat) : TG := fun v σ H Q => ∃ M G, Wo K M G H ∧ Sl K G σ ds ∧ Vk K G v r ∧ ∀ σ', Sl K G σ' ds' → Chg ts σ σ' → Q σ' H
def cGs (K : PySem.W.Frag) (rs : List Sv) (ds ds' : List Sv) (ts : List Nat) : TGs := fun vs σ H Q => ∃ M G, Wo K M G H ∧ Sl K G σ ds ∧ Vks K G vs rs ∧ ∀ σ', Sl K G σ' ds' → Chg ts σ σ' → Q σ' H
abbrev GD (X : Cx) (t : Expr) (r : Sv) (ds ds' : List Sv) (ts : List Nat) : Prop := PG X t (cG X.K r ds ds' ts)
abbrev GDs (X : Cx) (es : List Expr) (rs : List Sv) (ds ds' : List Sv) (ts : List Nat) : Prop := PGs X es (cGs X.K rs ds ds' ts)
variable {ts ts1 ts2 : List Nat}
theorem pg_mono {t t' : TG} (h : PG X e t) (k : ∀ v σ H Q, t' v σ H Q → t v σ H Q) : PG X e t' := ⟨fun pins s σ H v u Q I r q => h.run pins s σ H v u Q I r (k v σ H Q q)⟩
theorem pgs_mono {t t' : TGs} (h : PGs X es t) (k : ∀ v σ H Q, t' v σ H Q → t v σ H Q) : PGs X es t' := ⟨fun pins s σ H v u Q I r q => h.run pins s σ H v u Q I r (k v σ H Q q)⟩
theorem gd_name (i : Nat) {x : Str} (hN : X.N.Nodup) (hi : X.N[i]? = some x := by rfl) (hx : Loc X.env.scope x := by first | exact Or.inl rfl | exact Or.inr rfl) (hf : X.fn x = true ∨ X.env.scope.names.lookup x = some .local := by first | exact .inl rfl | exact .inr rfl | assumption) :
    GD X (.Name x pos) r ds (ds.set i r) [i] := pg_mono (pg_name (i := i) hN hi hx hf) fun v σ H Q ⟨M, G, w, s, hv, k⟩ => k _ (s.set i hv) fun vs hvs => (wipe_put vs).1 (hvs i (by simp))
theorem gdr_nil : GDs X [] [] ds ds [] := pgs_mono pgs_nil fun v σ H Q ⟨M, G, w, s, hv, k⟩ => ⟨by cases hv; rfl, k σ s fun _ _ => rfl⟩
theorem gdr_cons (h1 : GD X e r ds ds1 ts1) (h2 : GDs X es rs ds1 ds2 ts2) (hs : (assignEach (e :: es) X.env).map (·.2) = assign e X.env :: (assignEach es X.env).map (·.2) := by rfl) : GDs X (e :: es) (r :: rs) ds ds2 (ts1 ++ ts2) := pgs_mono (pgs_cons h1 h2 hs) fun v σ H Q ⟨M, G, w, s, hv, k⟩ => by
  cases hv with
  | cons hv1 hv2 => exact ⟨_, _, rfl, M, G, w, s, hv1, fun σ' s' c1 => ⟨M, G, w, s', hv2, fun σ2 s2 c2 => k σ2 s2 fun vs h => (c2 vs fun t ht => h t (List.mem_append_right _ ht)).trans (c1 vs fun t ht => h t (List.mem_append_left _ ht))⟩⟩
theorem dps_vks {K : PySem.W.Frag} {G : Hp} : ∀ {xs : List D} {vs : List V}, DpAll K G vs xs → Vks K G vs (dats xs)
  | [], _, h => by cases h; exact .nil
  | x :: xs, _, h => by
    cases h with
    | cons h1 h2 => exact .cons h1 (dps_vks h2)
theorem gds_nil : GDs X [] (dats []) ds ds [] := gdr_nil
theorem gds_cons {d : D} {xs : List D} (h1 : GD X e (.dat d) ds ds1 ts1) (h2 : GDs X es (dats xs) ds1 ds2 ts2) (hs : (assignEach (e :: es) X.env).map (·.2) = assign e X.env :: (assignEach es X.env).map (·.2) := by rfl) : GDs X (e :: es) (dats (d :: xs)) ds ds2 (ts1 ++ ts2) := gdr_cons h1 h2 hs
theorem gd_tup {xs : List D} {k n : Nat} (hc : X.calm = true) (h : GDs X es (dats xs) ds ds' ts) (hl : xs.length = n := by rfl) (hn : (assignEach es X.env).length = n := by rfl) (hst : (assignEach es X.env).findIdx? (·.1) = none := by rfl) : GD X (.Tuple es k pos) (.dat (.tuple xs)) ds ds' ts :=
  pg_mono (pg_tup hc h hn hst) fun v σ H Q ⟨M, G, w, s, hv, q⟩ => by
    obtain ⟨p, vs, e, h1, h2⟩ := vk_tup hv
    exact ⟨p, vs, e, seqT w.ex h1, (dps_len h2).trans hl, M, G, w, s, dps_vks h2, q⟩
theorem gd_lst {xs : List D} {k n : Nat} (hc : X.calm = true) (h : GDs X es (dats xs) ds ds' ts) (hl : xs.length = n := by rfl) (hn : (assignEach es X.env).length = n := by rfl) (hst : (assignEach es X.env).findIdx? (·.1) = none := by rfl) : GD X (.Tuple es k pos) (.dat (.list xs)) ds ds' ts :=
  pg_mono (pg_unl hc h hn hst) fun v σ H Q ⟨M, G, w, s, hv, q⟩ => by
    obtain ⟨p, vs, e, h1, h2⟩ := vk_lst hv
    exact ⟨p, vs, e, w.ex.seq h1, (dps_len h2).trans hl, M, G, w, s, dps_vks h2, q⟩
theorem sd_asg {tg : Expr} (he : PD X ds M e r M') (hg : GD X tg r ds ds' ts) (hs : swapsWithSole [tg] e pos.line X.env = pure false := by rfl) (hw : swappedStores [tg] e X.env = pure none := by rfl) (h1 : (assignEach [tg] X.env).map (·.2) = [assign tg X.env] := by rfl) : SD1 X ds M (.Assign [tg] e pos) (.nx ds' M') :=
  ps_mono (ps_asg he hg hs hw h1) fun D σ H ⟨G, w, s, k⟩ => ⟨G, w, s, fun v G' H' p hv => ⟨M', G', p.w, s.up p.g, hv, fun σ' s' _ => k σ' G' H' p s'⟩⟩
theorem sd_par {i j : Nat} {x y : Str} {px py pt : Pos} {kt k2 pt2} (ha : PDA X ds M [a, b] [ra, rb] M') (hc : X.calm = true) (hN : X.N.Nodup) (hi : X.N[i]? = some x := by rfl) (hj : X.N[j]? = some y := by rfl) (hij : i ≠ j := by decide)
    (hx : X.env.scope.names.lookup x = some .local := by rfl) (hy : X.env.scope.names.lookup y = some .local := by rfl)
    (hw : swappedStores [.Tuple [.Name x px, .Name y py] kt pt] (.Tuple [a, b] k2 pt2) X.env = pure (some [x, y]) := by rfl)
    (hs : swapsWithSole [.Tuple [.Name x px, .Name y py] kt pt] (.Tuple [a, b] k2 pt2) pos.line X.env = pure false := by rfl) :
    SD1 X ds M (.Assign [.Tuple [.Name x px, .Name y py] kt pt] (.Tuple [a, b] k2 pt2) pos) (.nx ((ds.set i ra).set j rb) M') :=
  ps_mono (ps_par hc hN hi hj hij hx hy ha hw hs) fun D σ H ⟨G, w, s, k⟩ => ⟨G, w, s, fun vs G' H' p hv => by
    cases hv with
    | cons h1 h2 =>
      cases h2 with
      | cons h2 h3 =>
        cases h3
        exact ⟨_, _, rfl, k _ G' H' p (((s.up p.g).set i h1).set j h2)⟩⟩

/-! ### defs -/
/-- how a def answers: of the arguments and the changing objects -/
abbrev FR := List Sv → Ms → Sv → Ms → Prop
abbrev FE := List Sv → Ms → Addr → Prop
def spF (K : PySem.W.Frag) (n : Nat) (F : FR) (FX : FE) : Sp := fun vs H Q E => ∃ G rs M, vs.length = n ∧ Wo K M G H ∧ Vks K G vs rs ∧
  ((∃ r M', F rs M r M' ∧ ∀ v G' H', Po K M M' G H G' H' → Vk K G' v r → Q v H') ∨ (∃ c, FX rs M c ∧ ∀ G' H', Po K M M G H G' H' → E (.ref c) none H'))
structure Fn (P : Program) (w : World) (K : PySem.W.Frag) (mg : Str → Option Value) (base : Heap) (k : Nat) (x : Str) (n : Nat) (dvs : List V) (drs : List Sv) (F : FR) (FX : FE) : Prop where
  ex : ∃ f fd ps us, FnOk P w K mg base (L2.CX P w) k f fd ps (spF K n F FX) ∧ mg x = some (.ref f) ∧ PySem.W.keepIn K (.ref f) = true ∧ Binds K fd ps us ∧ Vals dvs us
  dr : ∀ G, Vks K G dvs drs
theorem Fn.mono {P : Program} {w : World} {K : PySem.W.Frag} {mg : Str → Option Value} {base : Heap} {k k' : Nat} {x : Str} {n : Nat} {dvs : List V} {drs : List Sv} {F : FR} {FX : FE} (h : Fn P w K mg base k x n dvs drs F FX) (l : k ≤ k') : Fn P w K mg base k' x n dvs drs F FX := by
  obtain ⟨⟨f, fd, ps, us, a, b⟩, d⟩ := h
  exact ⟨⟨f, fd, ps, us, a.mono l, b⟩, d⟩
theorem sp_len {K : PySem.W.Frag} {n : Nat} {F : FR} {FX : FE} (vs : List V) (H : Hp) (Q : VK) (E : XK) (h : spF K n F FX vs H Q E) : vs.length = n := by
  obtain ⟨_, _, _, h, _⟩ := h
  exact h
theorem pd_call {k n : Nat} {dvs : List V} {drs : List Sv} {F : FR} {FX : FE} {x : Str} {p : Pos} (h : Fn X.prog X.w X.K X.mg X.base k x n dvs drs F FX) (hr : Room k X.A) (ha : PDA X ds M (e :: es) rs M1) (hF : F (rs ++ drs) M1 r M2) (hn : (rs ++ drs).length = n := by rfl) (hg : Gl X x := by rfl)
    (hdb : (x == ("__debug__" : Str)) = false := by decide) (he : starEach (e :: es) X.env = (false, eval e X.env) :: starEach es X.env := by rfl) (hpl : (backTo pos (starEach es X.env)).any (·.1) = false := by rfl) :
    PD X ds M (.Call (.Name x p) (e :: es) [] pos) r M2 := by
  obtain ⟨⟨f, fd, ps, us, h1, h2, h3, h4, h5⟩, h6⟩ := h
  refine pe_mono (pe_call h1 hr hg h2 h3 h4 h5 (passL (X := X)) ha hdb he hpl) fun σ H Q ⟨G, w, s, q⟩ => ⟨G, w, s, fun vs G1 H1 p hv => ?_⟩
  exact ⟨G1, rs ++ drs, M1, by rw [List.length_append, hv.len, (h6 G1).len, ← List.length_append]; exact hn, p.w, hv.app (h6 G1), .inl ⟨r, M2, hF, fun v G' H' p2 hv2 => q v G' H' (p.trans p2) hv2⟩⟩
/-- a call of a def without arguments -/
theorem pd_call0 {k : Nat} {F : FR} {FX : FE} {x : Str} {p : Pos} (h : Fn X.prog X.w X.K X.mg X.base k x 0 [] [] F FX) (hr : Room k X.A) (hF : F [] M r M2) (hg : Gl X x := by rfl) (hdb : (x == ("__debug__" : Str)) = false := by decide) : PD X ds M (.Call (.Name x p) [] [] pos) r M2 := by
  obtain ⟨⟨f, fd, ps, us, h1, h2, h3, h4, h5⟩, h6⟩ := h
  refine pe_mono (pe_call0 h1 hr hg h2 h3 h4 h5 (passL (X := X)) hdb) fun σ H Q ⟨G, w, s, q⟩ => ?_
  exact ⟨G, [], M, rfl, w, .nil, .inl ⟨r, M2, hF, fun v G' H' p2 hv2 => q v G' H' p2 hv2⟩⟩
/-- a call that raises -/
theorem px_call {k n : Nat} {F : FR} {FX : FE} {x : Str} {p : Pos} {W : WX} {c : Addr} (tk : Takes X W) (h : Fn X.prog X.w X.K X.mg X.base k x n [] [] F FX) (hr : Room k X.A) (ha : PDA X ds M (e :: es) rs M) (hF : FX rs M c) (hn : rs.length = n := by rfl) (hg : Gl X x := by rfl)
    (hdb : (x == ("__debug__" : Str)) = false := by decide) (he : starEach (e :: es) X.env = (false, eval e X.env) :: starEach es X.env := by rfl) (hpl : (backTo pos (starEach es X.env)).any (·.1) = false := by rfl) :
    PX X W ds M (.Call (.Name x p) (e :: es) [] pos) c := by
  obtain ⟨⟨f, fd, ps, us, h1, h2, h3, h4, h5⟩, h6⟩ := h
  cases h5
  refine pe_mono (pe_callS h1 hr hg h2 h3 h4 (fun σ => passAt tk σ) ha hdb he hpl) fun σ H Q ⟨G, w, s, q⟩ => ⟨G, w, s, fun vs G1 H1 p hv => ?_⟩
  exact ⟨G1, rs, M, by rw [hv.len]; exact hn, p.w, hv, .inr ⟨c, hF, fun G' H' p2 => q G' H' (p.trans p2)⟩⟩
/-- raise X('..') -/
theorem sx_raise {W : WX} {x m : Str} {k : Nat} {p p2 pos' : Pos} {c : Addr} {bmB : List Value} {BB newId initId : String} (hcalm : X.calm = true) (tk : Takes X W) (F : ExcBaseFacts BB newId initId bmB) (q : PySem.W.excIn X.K c bmB newId = true) (gC : X.mg x = some (.ref c)) (kC : PySem.W.keepIn X.K (.ref c) = true) (hr : Raises X (.ref c))
    (hg : Gl X x := by rfl) (hdb : (x == ("__debug__" : Str)) = false := by decide) : SX1 X W ds M (.Raise (some (.Call (.Name x p) [.Constant (.str m) k p2] [] pos)) none pos') c :=
  ps_mono (ps_raise hcalm tk (pmk_own F q gC kC hr hg hdb)) fun D σ H ⟨G, w, s, k⟩ => k σ G H (Po.refl w)

/-! ### built-ins -/
theorem ce_args {K : PySem.W.Frag} {r1 : List V → Hp → VK → Prop} (h : ∀ G H vs (Q : VK), Wo K M1 G H → Vks K G vs rs → (∀ v G' H', Po K M1 M2 G H G' H' → Vk K G' v r → Q v H') → r1 vs H Q) {σ : L2.St} {H : Hp} {Q : VK} (q : cE K ds M r M2 σ H Q) : tCB r1 (cA K ds M rs M1) σ H Q := by
  obtain ⟨G, w, s, k⟩ := q
  exact ⟨G, w, s, fun vs G1 H1 p hv => h G1 H1 vs _ p.w hv fun v G' H' p2 hv2 => k v G' H' (p.trans p2) hv2⟩
theorem vks1 {K : PySem.W.Frag} {G : Hp} {vs : List V} {r : Sv} (h : Vks K G vs [r]) : ∃ v, vs = [v] ∧ Vk K G v r := by
  cases h with
  | cons h1 h2 => cases h2; exact ⟨_, rfl, h1⟩
theorem vks2 {K : PySem.W.Frag} {G : Hp} {vs : List V} {r q : Sv} (h : Vks K G vs [r, q]) : ∃ v u, vs = [v, u] ∧ Vk K G v r ∧ Vk K G u q := by
  cases h with
  | cons h1 h2 => cases h2 with
    | cons h2 h3 => cases h3; exact ⟨_, _, rfl, h1, h2⟩
variable {p : Pos}
theorem pd_abs (hm : X.mg "abs" = none) (ha : PD X ds M a (I i) M1) (hg : Gl X "abs" := by rfl) (h1 : starEach (a :: []) X.env = (false, eval a X.env) :: starEach [] X.env := by rfl) : PD X ds M (.Call (.Name "abs" p) [a] [] pos) (I (if i < 0 then -i else i)) M1 :=
  pe_mono (pe_callB call_abs hg hm (by decide +kernel) (pda_cons ha pda_nil h1) (he := h1)) fun σ H Q q => ce_args (fun G H vs Q w hv k => by
    obtain ⟨v, rfl, h⟩ := vks1 hv
    cases vk_int h
    exact ⟨i, rfl, k _ G H (Po.refl w) (.int _)⟩) q
theorem pd_int1 (hm : X.mg "int" = none) (ha : PD X ds M a (I i) M1) (hg : Gl X "int" := by rfl) (h1 : starEach (a :: []) X.env = (false, eval a X.env) :: starEach [] X.env := by rfl) : PD X ds M (.Call (.Name "int" p) [a] [] pos) (I i) M1 :=
  pe_mono (pe_callTy call_int1 hg hm (by decide +kernel) (pda_cons ha pda_nil h1) (he := h1)) fun σ H Q q => ce_args (fun G H vs Q w hv k => by
    obtain ⟨v, rfl, h⟩ := vks1 hv
    cases vk_int h
    exact .inl ⟨i, rfl, k _ G H (Po.refl w) (.int _)⟩) q
theorem pd_intb {t : Bool} (hm : X.mg "int" = none) (ha : PD X ds M a (B t) M1) (hg : Gl X "int" := by rfl) (h1 : starEach (a :: []) X.env = (false, eval a X.env) :: starEach [] X.env := by rfl) : PD X ds M (.Call (.Name "int" p) [a] [] pos) (I (if t then 1 else 0)) M1 :=
  pe_mono (pe_callTy call_int1 hg hm (by decide +kernel) (pda_cons ha pda_nil h1) (he := h1)) fun σ H Q q => ce_args (fun G H vs Q w hv k => by
    obtain ⟨v, rfl, h⟩ := vks1 hv
    cases vk_bl h
    exact .inr ⟨t, rfl, k _ G H (Po.refl w) (.int _)⟩) q
theorem pd_strI (hm : X.mg "str" = none) (ha : PD X ds M a (I i) M1) (hl : i.natAbs.log2 < 1920) (hg : Gl X "str" := by rfl) (h1 : starEach (a :: []) X.env = (false, eval a X.env) :: starEach [] X.env := by rfl) : PD X ds M (.Call (.Name "str" p) [a] [] pos) (.dat (.str (toString i))) M1 :=
  pe_mono (pe_callTy call_str_int hg hm (by decide +kernel) (pda_cons ha pda_nil h1) (he := h1)) fun σ H Q q => ce_args (fun G H vs Q w hv k => by
    obtain ⟨v, rfl, h⟩ := vks1 hv
    cases vk_int h
    exact ⟨i, rfl, hl, k _ G H (Po.refl w) (.str _)⟩) q
theorem pd_min2 (hm : X.mg "min" = none) (hc : X.calm = true) (ha : PD X ds M a (I i) M1) (hb : PD X ds M1 b (I j) M2) (hg : Gl X "min" := by rfl) (h1 : starEach (a :: [b]) X.env = (false, eval a X.env) :: starEach [b] X.env := by rfl) (h2 : starEach (b :: []) X.env = (false, eval b X.env) :: starEach [] X.env := by rfl)
    (h3 : (backTo pos (starEach [b] X.env)).any (·.1) = false := by rfl) : PD X ds M (.Call (.Name "min" p) [a, b] [] pos) (I (if j < i then j else i)) M2 :=
  pe_mono (pe_callB (call_min2 hc) hg hm (by decide +kernel) (pda_cons ha (pda_cons hb pda_nil h2) h1) (he := h1) (hpl := h3)) fun σ H Q q => ce_args (fun G H vs Q w hv k => by
    obtain ⟨v, u, rfl, h, h'⟩ := vks2 hv
    cases vk_int h
    cases vk_int h'
    exact ⟨i, j, rfl, k _ G H (Po.refl w) (.int _)⟩) q
theorem pd_max2 (hm : X.mg "max" = none) (hc : X.calm = true) (ha : PD X ds M a (I i) M1) (hb : PD X ds M1 b (I j) M2) (hg : Gl X "max" := by rfl) (h1 : starEach (a :: [b]) X.env = (false, eval a X.env) :: starEach [b] X.env := by rfl) (h2 : starEach (b :: []) X.env = (false, eval b X.env) :: starEach [] X.env := by rfl)
    (h3 : (backTo pos (starEach [b] X.env)).any (·.1) = false := by rfl) : PD X ds M (.Call (.Name "max" p) [a, b] [] pos) (I (if j > i then j else i)) M2 :=
  pe_mono (pe_callB (call_max2 hc) hg hm (by decide +kernel) (pda_cons ha (pda_cons hb pda_nil h2) h1) (he := h1) (hpl := h3)) fun σ H Q q => ce_args (fun G H vs Q w hv k => by
    obtain ⟨v, u, rfl, h, h'⟩ := vks2 hv
    cases vk_int h
    cases vk_int h'
    exact ⟨i, j, rfl, k _ G H (Po.refl w) (.int _)⟩) q
theorem pd_gcd (hm : X.mg "gcd" = some (.builtin "math.gcd")) (ha : PD X ds M a (I i) M1) (hb : PD X ds M1 b (I j) M2) (hg : Gl X "gcd" := by rfl) (h1 : starEach (a :: [b]) X.env = (false, eval a X.env) :: starEach [b] X.env := by rfl) (h2 : starEach (b :: []) X.env = (false, eval b X.env) :: starEach [] X.env := by rfl)
    (h3 : (backTo pos (starEach [b] X.env)).any (·.1) = false := by rfl) : PD X ds M (.Call (.Name "gcd" p) [a, b] [] pos) (I ((Nat.gcd i.natAbs j.natAbs : Nat) : Int)) M2 :=
  pe_mono (pe_callBfun cr_gcd hg hm (pda_cons ha (pda_cons hb pda_nil h2) h1) (he := h1) (hpl := h3)) fun σ H Q q => ce_args (fun G H vs Q w hv k => by
    obtain ⟨v, u, rfl, h, h'⟩ := vks2 hv
    cases vk_int h
    cases vk_int h'
    exact ⟨i, j, rfl, k _ G H (Po.refl w) (.int _)⟩) q
theorem pd_len {xs : List D} (hm : X.mg "len" = none) (ha : PD X ds M a (.dat (.list xs)) M1) (hg : Gl X "len" := by rfl) (h1 : starEach (a :: []) X.env = (false, eval a X.env) :: starEach [] X.env := by rfl) : PD X ds M (.Call (.Name "len" p) [a] [] pos) (I xs.length) M1 :=
  pe_mono (pe_callB call_len_seq hg hm PySem.boot_len (pda_cons ha pda_nil h1) (he := h1)) fun σ H Q q => ce_args (fun G H vs Q w hv k => by
    obtain ⟨v, rfl, h⟩ := vks1 hv
    obtain ⟨a, ys, rfl, h1, h2⟩ := vk_lst h
    exact ⟨a, ys, rfl, .inl (w.ex.seq h1), by rw [dps_len h2]; exact k _ G H (Po.refl w) (.int _)⟩) q
theorem pd_lenT {xs : List D} (hm : X.mg "len" = none) (ha : PD X ds M a (.dat (.tuple xs)) M1) (hg : Gl X "len" := by rfl) (h1 : starEach (a :: []) X.env = (false, eval a X.env) :: starEach [] X.env := by rfl) : PD X ds M (.Call (.Name "len" p) [a] [] pos) (I xs.length) M1 :=
  pe_mono (pe_callB call_len_seq hg hm PySem.boot_len (pda_cons ha pda_nil h1) (he := h1)) fun σ H Q q => ce_args (fun G H vs Q w hv k => by
    obtain ⟨v, rfl, h⟩ := vks1 hv
    obtain ⟨a, ys, rfl, h1, h2⟩ := vk_tup h
    exact ⟨a, ys, rfl, .inr (seqT w.ex h1), by rw [dps_len h2]; exact k _ G H (Po.refl w) (.int _)⟩) q
theorem dp_newL {K : PySem.W.Frag} {M : Ms} {G H : Hp} {vs : List V} {xs : List D} (w : Wo K M G H) (h : DpAll K G vs xs) {q : Addr} (hq : H q = none) : Po K M M G H (upd G q (.lst vs)) (upd H q (.lst vs)) ∧ Vk K (upd G q (.lst vs)) (.ref q) (.dat (.list xs)) := by
  have p := Po.new w hq (.lst vs)
  exact ⟨p, Dp.lst (SqL.of upd_same) (dpsUp p.g xs h)⟩
theorem dp_newT {K : PySem.W.Frag} {M : Ms} {G H : Hp} {vs : List V} {xs : List D} (w : Wo K M G H) (h : DpAll K G vs xs) {q : Addr} (hq : H q = none) : Po K M M G H (upd G q (.tup vs)) (upd H q (.tup vs)) ∧ Vk K (upd G q (.tup vs)) (.ref q) (.dat (.tuple xs)) := by
  have p := Po.new w hq (.tup vs)
  exact ⟨p, Dp.tup (SqT.of upd_same) (dpsUp p.g xs h)⟩
theorem pd_listL {xs : List D} (hm : X.mg "list" = none) (ha : PD X ds M a (.dat (.list xs)) M1) (hg : Gl X "list" := by rfl) (h1 : starEach (a :: []) X.env = (false, eval a X.env) :: starEach [] X.env := by rfl) : PD X ds M (.Call (.Name "list" p) [a] [] pos) (.dat (.list xs)) M1 :=
  pe_mono (pe_callTy call_list_of hg hm (by decide +kernel) (pda_cons ha pda_nil h1) (he := h1)) fun σ H Q q => ce_args (fun G H vs Q w hv k => by
    obtain ⟨v, rfl, h⟩ := vks1 hv
    obtain ⟨a, ys, rfl, h1, h2⟩ := vk_lst h
    exact ⟨a, ys, rfl, .inl (w.ex.seq h1), fun l hl => k _ _ _ (dp_newL w h2 hl).1 (dp_newL w h2 hl).2⟩) q
theorem pd_listT {xs : List D} (hm : X.mg "list" = none) (ha : PD X ds M a (.dat (.tuple xs)) M1) (hg : Gl X "list" := by rfl) (h1 : starEach (a :: []) X.env = (false, eval a X.env) :: starEach [] X.env := by rfl) : PD X ds M (.Call (.Name "list" p) [a] [] pos) (.dat (.list xs)) M1 :=
  pe_mono (pe_callTy call_list_of hg hm (by decide +kernel) (pda_cons ha pda_nil h1) (he := h1)) fun σ H Q q => ce_args (fun G H vs Q w hv k => by
    obtain ⟨v, rfl, h⟩ := vks1 hv
    obtain ⟨a, ys, rfl, h1, h2⟩ := vk_tup h
    exact ⟨a, ys, rfl, .inr (seqT w.ex h1), fun l hl => k _ _ _ (dp_newL w h2 hl).1 (dp_newL w h2 hl).2⟩) q
end
end Cal
/-! CalD -/
namespace Cal
open PySem PySem.Spec PyProof.Rows L2
/-- no error goes out -/
abbrev FE0 : FE := fun _ _ _ => False
section
variable {P : Program} {w : World} {K : PySem.W.Frag} {mg : Str → Option Value} {base : Heap}
/-- the context of a def's body -/
abbrev Bx (P : Program) (w : World) (K : PySem.W.Frag) (mg : Str → Option Value) (base : Heap) (N : List Str) (x : Str) (scope : Scope) (f : Addr) (cdv : Value) (A : Around) (outer : List Env) (s : Shared) (H : Hp) (E : XK) : Cx := cxOf (L2.CX P w) P w K mg base N x scope f cdv A outer s H E
abbrev wE (E : XK) : WX := fun cls d _ H => E cls d H
/-- THE RULE for a def -/
theorem fn_mk {x : Str} {params : Arguments} {body : List Stmt} {scope : Scope} {dvs0 dvs : List V} {f : Addr} {fd : FuncData} {N ps : List Str} {k n : Nat} {us : List Value} {drs : List Sv} {F : FR} {FX : FE} (FD : FunD K x x params body scope dvs0 [] f fd) (S : FnScope N ps scope)
    (hm : mg x = some (.ref f)) (hb : Binds K fd ps us) (hv : Vals dvs us) (hd : ∀ G, Vks K G dvs drs) (hn : ps.length = n)
    (ok : ∀ cdv A outer s H E rs M r M', Room k (A.deeper (envOfC x scope s.heap.objs.size f cdv)) → rs.length = n → F rs M r M' → SD (Bx P w K mg base N x scope f cdv A outer s H E) (startD N.length rs) M body (.rt r M'))
    (ex : ∀ cdv A outer s H E rs M c, Room k (A.deeper (envOfC x scope s.heap.objs.size f cdv)) → rs.length = n → FX rs M c → SX (Bx P w K mg base N x scope f cdv A outer s H E) (wE E) (startD N.length rs) M body c := by intro _ _ _ _ _ _ _ _ _ _ _ h; exact h.elim) :
    Fn P w K mg base (k + 1) x n dvs drs F FX := by
  refine ⟨⟨f, fd, ps, us, ?_, hm, FD.kp, hb, hv⟩, hd⟩
  refine FD.ok S (fun vs H Q E h => (sp_len vs H Q E h).trans hn.symm) fun cdv A outer s H vs Q E hr h => ?_
  obtain ⟨G, rs, M, hl, w0, hvs, h⟩ := h
  have hl2 : rs.length = n := hvs.len.symm.trans hl
  rcases h with ⟨r, M', hF, q⟩ | ⟨c, hX, q⟩
  · exact ⟨_, ok cdv A outer s H E rs M r M' hr hl2 hF, G, w0, Sl.start hvs, q⟩
  · exact ⟨_, ex cdv A outer s H E rs M c hr hl2 hX, G, w0, Sl.start hvs, fun σ' G' H' p => q G' H' p⟩
/-- a def without defaults -/
theorem fn_mkN {x : Str} {params : Arguments} {body : List Stmt} {scope : Scope} {f : Addr} {fd : FuncData} {N ps : List Str} {k n : Nat} {F : FR} {FX : FE} (FD : FunD K x x params body scope [] [] f fd) (S : FnScope N ps scope)
    (hm : mg x = some (.ref f))
    (h : ∀ (kV doc pm : Value) (an : Option Addr) (cdv ct : Value) (us : List Value), us.length = ps.length → bindArgs (PySem.W.fnOf x x params body scope .none kV doc pm an cdv ct) ⟨us, []⟩ = pure (ps.zip us)) (hn : ps.length = n)
    (ok : ∀ cdv A outer s H E rs M r M', Room k (A.deeper (envOfC x scope s.heap.objs.size f cdv)) → rs.length = n → F rs M r M' → SD (Bx P w K mg base N x scope f cdv A outer s H E) (startD N.length rs) M body (.rt r M'))
    (ex : ∀ cdv A outer s H E rs M c, Room k (A.deeper (envOfC x scope s.heap.objs.size f cdv)) → rs.length = n → FX rs M c → SX (Bx P w K mg base N x scope f cdv A outer s H E) (wE E) (startD N.length rs) M body c := by intro _ _ _ _ _ _ _ _ _ _ _ h; exact h.elim) :
    Fn P w K mg base (k + 1) x n [] [] F FX := fn_mk FD S hm (FD.bindsN h) .nil (fun _ => .nil) hn ok ex
theorem takesB {N : List Str} {x : Str} {scope : Scope} {f : Addr} {cdv : Value} {A : Around} {outer : List Env} {s : Shared} {H : Hp} {E : XK} : Takes (Bx P w K mg base N x scope f cdv A outer s H E) (wE E) := takes_of rfl rfl rfl rfl
theorem passB {N : List Str} {x : Str} {scope : Scope} {f : Addr} {cdv : Value} {A : Around} {outer : List Env} {s : Shared} {H : Hp} {E : XK} : PassesOwn (model P w) (A.deeper (envOfC x scope s.heap.objs.size f cdv)) (envOfC x scope s.heap.objs.size f cdv) (Bx P w K mg base N x scope f cdv A outer s H E).xe := passes_of (X := Bx P w K mg base N x scope f cdv A outer s H E) rfl
end
/-- a def that takes data and hands back data, whatever may change -/
def pureF (g : List D → D → Prop) : FR := fun rs M r M' => M' = M ∧ ∃ ds d, rs = dats ds ∧ r = .dat d ∧ g ds d
theorem pureF.mk {g : List D → D → Prop} {ds : List D} {d : D} {M : Ms} (h : g ds d) : pureF g (dats ds) M (.dat d) M := ⟨rfl, ds, d, rfl, rfl, h⟩
theorem pf0 {g : List D → D → Prop} {d : D} {M : Ms} (h : g [] d) : pureF g [] M (.dat d) M := ⟨rfl, [], d, rfl, rfl, h⟩
theorem pf1 {g : List D → D → Prop} {a d : D} {M : Ms} (h : g [a] d) : pureF g [.dat a] M (.dat d) M := ⟨rfl, [a], d, rfl, rfl, h⟩
theorem pf2 {g : List D → D → Prop} {a b d : D} {M : Ms} (h : g [a, b] d) : pureF g [.dat a, .dat b] M (.dat d) M := ⟨rfl, [a, b], d, rfl, rfl, h⟩
theorem pf3 {g : List D → D → Prop} {a b c d : D} {M : Ms} (h : g [a, b, c] d) : pureF g [.dat a, .dat b, .dat c] M (.dat d) M := ⟨rfl, [a, b, c], d, rfl, rfl, h⟩
theorem pf4 {g : List D → D → Prop} {a b c e d : D} {M : Ms} (h : g [a, b, c, e] d) : pureF g [.dat a, .dat b, .dat c, .dat e] M (.dat d) M := ⟨rfl, [a, b, c, e], d, rfl, rfl, h⟩
end Cal
/-! CalE -/
namespace Cal
open PySem PySem.Spec PyProof.Rows L2
theorem pg_ex {X : Cx} {tg : Expr} {ι : Type} {p : ι → Prop} {t : ι → TG} (h : ∀ i, p i → PG X tg (t i)) : PG X tg (fun v σ H Q => ∃ i, p i ∧ t i v σ H Q) := ⟨fun pins s σ H v u Q I r ⟨i, hp, q⟩ => (h i hp).run pins s σ H v u Q I r q⟩
theorem pss_ex {X : Cx} {ss : List Stmt} {ι : Type} {p : ι → Prop} {t : ι → TS} (h : ∀ i, p i → PSs X ss (t i)) : PSs X ss (fun D σ H => ∃ i, p i ∧ t i D σ H) := ⟨fun pins s σ H D I ⟨i, hp, q⟩ => (h i hp).run pins s σ H D I q⟩
theorem pe_ex {X : Cx} {e : Expr} {ι : Type} {p : ι → Prop} {t : ι → TE} (h : ∀ i, p i → PE X e (t i)) : PE X e (fun σ H Q => ∃ i, p i ∧ t i σ H Q) := ⟨fun pins s σ H Q I ⟨i, hp, q⟩ => (h i hp).run pins s σ H Q I q⟩
theorem pt_ex {X : Cx} {e : Expr} {ι : Type} {p : ι → Prop} {t : ι → TT} (h : ∀ i, p i → PT X e (t i)) : PT X e (fun σ H Q => ∃ i, p i ∧ t i σ H Q) := ⟨fun pins s σ H Q I ⟨i, hp, q⟩ => (h i hp).run pins s σ H Q I q⟩
theorem pts_ex {X : Cx} {es : List Expr} {ι : Type} {p : ι → Prop} {t : ι → TT} (h : ∀ i, p i → PTs X es (t i)) : PTs X es (fun σ H Q => ∃ i, p i ∧ t i σ H Q) := ⟨fun pins s σ H Q I ⟨i, hp, q⟩ => (h i hp).run pins s σ H Q I q⟩
section
variable {X : Cx} {ds ds' ds1 ds2 : List Sv} {M M' M0 M1 M2 M3 : Ms} {a b c e : Expr} {es : List Expr} {st : Stmt} {ss s1 s2 body : List Stmt} {r ra rb : Sv} {rs : List Sv} {i j : Int} {pos : Pos} {R : Rs}

/-! ### for, over a list -/
abbrev gFor (X : Cx) (tg : Expr) (st : Nat → List Sv) : TG := fun v σ H Q => ∃ z : Nat × D × List Sv × List Nat, GD X tg (.dat z.2.1) (st z.1) z.2.2.1 z.2.2.2 ∧ cG X.K (.dat z.2.1) (st z.1) z.2.2.1 z.2.2.2 v σ H Q
abbrev tFor1 (X : Cx) (body : List Stmt) (st : Nat → List Sv) (ms : Nat → Ms) : TS := fun D σ H => ∃ z : Nat × List Sv, SD X z.2 (ms z.1) body (.nx (st (z.1 + 1)) (ms (z.1 + 1))) ∧ cS X.K z.2 (ms z.1) (.nx (st (z.1 + 1)) (ms (z.1 + 1))) D σ H
theorem sd_forL {tg : Expr} {xs : List D} (st : Nat → List Sv) (ms : Nat → Ms) (hp : PassesOwn (model X.prog X.w) X.A X.env X.xe) (hc : X.calm = true) (he : PD X ds M e (.dat (.list xs)) M1) (h0 : st 0 = ds) (hm : ms 0 = M1)
    (hs : ∀ i d, xs[i]? = some d → ∃ ds' ts, GD X tg (.dat d) (st i) ds' ts ∧ SD X ds' (ms i) body (.nx (st (i + 1)) (ms (i + 1)))) (hfs : ∀ x, foldedSetIterable e X.env x = pure x := by intro _; rfl) :
    SD1 X ds M (.For tg e body [] pos) (.nx (st xs.length) (ms xs.length)) := by
  refine ps_mono (ps_for hp hc (pi_list he)
    (pg_ex (ι := Nat × D × List Sv × List Nat) (p := fun z => GD X tg (.dat z.2.1) (st z.1) z.2.2.1 z.2.2.2) (t := fun z => cG X.K (.dat z.2.1) (st z.1) z.2.2.1 z.2.2.2) fun _ h => h)
    (pss_ex (ι := Nat × List Sv) (p := fun z => SD X z.2 (ms z.1) body (.nx (st (z.1 + 1)) (ms (z.1 + 1)))) (t := fun z => cS X.K z.2 (ms z.1) (.nx (st (z.1 + 1)) (ms (z.1 + 1)))) fun _ h => h) hfs) fun D σ H ⟨G, w, s, k⟩ => ?_
  refine ⟨G, w, s, fun v G1 H1 p1 hv => ?_⟩
  obtain ⟨a, vs, rfl, h1, h2⟩ := vk_lst hv
  have hl := dps_len h2
  refine ⟨a, rfl, ⟨vs, p1.w.ex.seq h1⟩, for_list (g := gFor X tg st) (tb := tFor1 X body st ms) (D := D) (xs := vs) (fun i σ' H' => ∃ Gi, Po X.K M (ms i) G H Gi H' ∧ Same G1 Gi ∧ Sl X.K Gi σ' (st i)) ⟨G1, by rw [hm]; exact p1, Same.refl _, by rw [h0]; exact s.up p1.g⟩ (fun i σ' H' _ ⟨Gi, p, sg, sl⟩ => (sg.trans p.w.ex).seq h1) (fun i x σ' H' hx ⟨Gi, p, sg, sl⟩ => ?_) (fun σ' H' ⟨Gi, p, sg, sl⟩ => ?_)⟩
  · have hi : i < xs.length := by rw [← hl]; exact (List.getElem?_eq_some_iff.mp hx).1
    have hd : xs[i]? = some xs[i] := List.getElem?_eq_getElem hi
    obtain ⟨v, e1, e2⟩ := dps_get h2 hd
    rw [hx] at e1
    cases e1
    obtain ⟨ds', ts, hg, hb⟩ := hs i xs[i] hd
    exact ⟨(i, xs[i], ds', ts), hg, ms i, Gi, p.w, sl, dpUp sg _ e2, fun σ2 s2 _ => ⟨(i, ds'), hb, Gi, p.w, s2, fun σ3 G3 H3 p3 s3 => ⟨G3, p.trans p3, sg.trans p3.g, s3⟩⟩⟩
  · rw [hl] at p sl
    exact k σ' Gi H' p sl

/-! ### lists that change -/
/-- x = [], and at the end the list is handed back -/
theorem sd_newF (n : Nat) {x : Str} {pos' lpos : Pos} {xs : List D} (hN : X.N.Nodup) (h : ∀ l, SD X (ds.set n (.raw (.ref l))) ((l, .lst []) :: M) ss (.rt (.raw (.ref l)) ((l, .lst (dats xs)) :: M'))) (hi : X.N[n]? = some x := by rfl) (hx : Loc X.env.scope x := by first | exact Or.inl rfl | exact Or.inr rfl)
    (hs : swapsWith (.List [] lpos) (some (.Name x pos')) pos.line X.env = pure false := by rfl) (hf : X.fn x = true ∨ X.env.scope.names.lookup x = some .local := by first | exact .inl rfl | exact .inr rfl | assumption) :
    SD X ds M (.Assign [.Name x pos'] (.List [] lpos) pos :: ss) (.rt (.dat (.list xs)) M') := by
  refine pss_mono (pss_cons (ps_set (i := n) hN hi hx (pe_lst pa_nil) hs hf) (pss_ex (ι := Addr) (p := fun _ => True) (t := fun l => cS X.K (ds.set n (.raw (.ref l))) ((l, .lst []) :: M) (.rt (.raw (.ref l)) ((l, .lst (dats xs)) :: M'))) fun l _ => h l)) fun D σ H ⟨G, w, s, k⟩ => ?_
  refine ⟨Nat.zero_le _, fun l hl => ⟨l, trivial, G, (Po.mnew (o := .lst []) (m := .lst []) w hl .nil).w, s.set n (show Vk X.K G (.ref l) (.raw (.ref l)) from rfl), fun v G' H' p hv => ?_⟩⟩
  have hv' : v = .ref l := hv
  subst hv'
  have p2 := (Po.mnew (o := .lst []) (m := .lst []) w hl .nil).trans p
  obtain ⟨vs, h1, h2, h3⟩ := Wo.lst (A := []) p2.w
  have p3 := p2.freeze h1 hl
  exact k _ _ _ p3 (Dp.lst (SqL.of upd_same) (dpsUp (fun x u e => by rw [upd_ne (ne_of_none e h3)]; exact e) xs (vks_dats h2)))
/-- .. and at the end it is forgotten -/
theorem sd_newD (n : Nat) {x : Str} {pos' lpos : Pos} (mo : Addr → MO) (hN : X.N.Nodup) (h : ∀ l, SD X (ds.set n (.raw (.ref l))) ((l, .lst []) :: M) ss (.rt r ((l, mo l) :: M'))) (hi : X.N[n]? = some x := by rfl) (hx : Loc X.env.scope x := by first | exact Or.inl rfl | exact Or.inr rfl)
    (hs : swapsWith (.List [] lpos) (some (.Name x pos')) pos.line X.env = pure false := by rfl) (hf : X.fn x = true ∨ X.env.scope.names.lookup x = some .local := by first | exact .inl rfl | exact .inr rfl | assumption) :
    SD X ds M (.Assign [.Name x pos'] (.List [] lpos) pos :: ss) (.rt r M') := by
  refine pss_mono (pss_cons (ps_set (i := n) hN hi hx (pe_lst pa_nil) hs hf) (pss_ex (ι := Addr) (p := fun _ => True) (t := fun l => cS X.K (ds.set n (.raw (.ref l))) ((l, .lst []) :: M) (.rt r ((l, mo l) :: M'))) fun l _ => h l)) fun D σ H ⟨G, w, s, k⟩ => ?_
  refine ⟨Nat.zero_le _, fun l hl => ⟨l, trivial, G, (Po.mnew (o := .lst []) (m := .lst []) w hl .nil).w, s.set n (show Vk X.K G (.ref l) (.raw (.ref l)) from rfl), fun v G' H' p hv => ?_⟩⟩
  exact k _ _ _ ((Po.mnew (o := .lst []) (m := .lst []) w hl .nil).trans p).drop hv
theorem vks_at {K : PySem.W.Frag} {G : Hp} : ∀ {rs : List Sv} {vs : List V} {i : Nat} {r : Sv}, Vks K G vs rs → rs[i]? = some r → ∃ v, vs[i]? = some v ∧ Vk K G v r
  | [], _, _, _, h, e => by simp at e
  | x :: xs, _, i, d, h, e => by
    cases h with
    | cons h1 h2 =>
      cases i with
      | zero =>
        simp at e
        subst e
        exact ⟨_, rfl, h1⟩
      | succ i =>
        obtain ⟨v, e1, e2⟩ := vks_at (i := i) h2 (by simpa using e)
        exact ⟨v, by simpa using e1, e2⟩
theorem vks_set {K : PySem.W.Frag} {G : Hp} {v : V} {r : Sv} (hv : Vk K G v r) : ∀ {rs : List Sv} {vs : List V} (i : Nat), Vks K G vs rs → Vks K G (vs.set i v) (rs.set i r)
  | _, _, _, .nil => .nil
  | _, _, 0, .cons _ t => .cons hv t
  | _, _, i + 1, .cons h t => .cons h (vks_set hv i t)
variable {A C A0 C0 : Ms} {l : Addr} {rs0 : List Sv}
/-- x[b] of a list that changes -/
theorem pd_ixM (ha : PD X ds M a (.raw (.ref l)) M1) (hb : PD X ds M1 b (I i) (A ++ (l, .lst rs) :: C)) (h : atI rs i = some r) (hs : PlainIx b := by exact fun _ _ => rfl) : PD X ds M (.Subscript a b pos) r (A ++ (l, .lst rs) :: C) :=
  pe_mono (pe_ix ix_list ha hb hs) fun σ H Q q => ce_bin (fun G H x y Q w hx hy k => by
    obtain ⟨vs, h1, h2, h3⟩ := w.lst
    obtain ⟨j, q1, q2⟩ : ∃ j, ixN rs.length i = some j ∧ rs[j]? = some r := by
      unfold atI at h
      cases e : ixN rs.length i with
      | none => rw [e] at h; cases h
      | some j => rw [e] at h; exact ⟨j, rfl, h⟩
    obtain ⟨v, e1, e2⟩ := vks_at h2 q2
    exact ⟨l, vs, i, v, hx, vk_int hy, SqL.of h1, by unfold atI; rw [h2.len, q1]; exact e1, k v G H (Po.refl w) e2⟩) q
/-- a[b] = e of such a list -/
theorem sd_setM {tpos : Pos} {j : Nat} (he : PD X ds M e r M1) (ha : PD X ds M1 a (.raw (.ref l)) M2) (hb : PD X ds M2 b (I i) (A ++ (l, .lst rs) :: C)) (hj : ixN rs.length i = some j) (hs : swapsWithSole [.Subscript a b tpos] e pos.line X.env = pure false := by rfl)
    (hw : swappedStores [.Subscript a b tpos] e X.env = pure none := by rfl) (h1 : (assignEach [.Subscript a b tpos] X.env).map (·.2) = [assign (.Subscript a b tpos) X.env] := by rfl) (hpl : PlainIx b := by exact fun _ _ => rfl)
    (hasg : ∀ v, assign (.Subscript a b tpos) X.env v = (do
      let ov ← holding [v] (eval a X.env)
      let iv ← holding [v, ov] (eval b X.env)
      standAt tpos
      holding [v, ov, iv] (setItem ov iv v)
      release [v, ov, iv] []) := by intro _; rfl) :
    SD1 X ds M (.Assign [.Subscript a b tpos] e pos) (.nx ds (A ++ (l, .lst (rs.set j r)) :: C)) :=
  ps_mono (ps_asg he (pg_sub ha hb set_list hasg) hs hw h1) fun D σ H ⟨G, w, s, k⟩ => ⟨G, w, s, fun v G1 H1 p1 hv => ⟨G1, p1.w, s.up p1.g, fun o G2 H2 p2 ho => ⟨G2, p2.w, s.up (p1.g.trans p2.g), fun x G3 H3 p3 hx => by
    obtain ⟨vs, q1, q2, q3⟩ := p3.w.lst
    have hv3 : Vk X.K G3 v r := hv.up (p2.g.trans p3.g)
    have p4 := Po.mput p3.w (m' := .lst (rs.set j r)) (o' := .lst (vs.set j v)) (vks_set hv3 j q2)
    exact ⟨l, vs, i, j, ho, vk_int hx, q1, by rw [q2.len]; exact hj, k σ _ _ (p1.trans (p2.trans (p3.trans p4))) (s.up (p1.g.trans (p2.g.trans p3.g)))⟩⟩⟩⟩
/-- x.append(e) -/
theorem sd_append {apos cpos : Pos} (hM : M = A0 ++ (l, .lst rs0) :: C0) (ha : PD X ds M a (.raw (.ref l)) M) (he : PD X ds M e r (A ++ (l, .lst rs) :: C)) (hz : rs.length ≤ 1000) (hbase : attributeBase a "append" X.env (eval a X.env) = eval a X.env := by rfl)
    (hfew : ((backTo cpos (starEach [e] X.env)).all (fun x => !x.1) && (backToKw cpos (keywordEach [] X.env)).all (fun x => x.1.isSome) && decide ([e].length + ([] : List Keyword).length + (if ([] : List Keyword).isEmpty then 0 else 1) < 30)) = true := by rfl)
    (hline : (apos.endLine == cpos.line) = true := by rfl) (h1 : starEach [e] X.env = (false, eval e X.env) :: starEach [] X.env := by rfl) (hplain : (backTo cpos (starEach [] X.env)).any (·.1) = false := by rfl) (hs : swapsWith (.Call (.Attribute a "append" apos) [e] [] cpos) none pos.line X.env = pure false := by rfl) :
    SD1 X ds M (.Expr (.Call (.Attribute a "append" apos) [e] [] cpos) pos) (.nx ds (A ++ (l, .lst (rs ++ [r])) :: C)) :=
  ps_mono (ps_expr (pe_bm PySem.F.plainAttrs_list PySem.F.slot_list_append PySem.F.type_list_append mt_append ha (pda_cons he pda_nil h1) hbase hfew hline h1 hplain) hs) fun D σ H ⟨G, w, s, k⟩ => ⟨G, w, s, fun v G1 H1 p1 hv => by
    have w1 := p1.w
    rw [hM] at w1
    obtain ⟨vs0, q1, _, _⟩ := w1.lst
    have hv' : v = .ref l := hv
    subst hv'
    refine ⟨.inl ⟨rfl, _, SqL.of q1⟩, G1, p1.w, s.up p1.g, fun us G2 H2 p2 hu => ?_⟩
    obtain ⟨u, rfl, hu1⟩ := vks1 hu
    obtain ⟨vs, q2, q3, q4⟩ := p2.w.lst
    have p3 := Po.mput p2.w (m' := .lst (rs ++ [r])) (o' := .lst (vs ++ [u])) (q3.app (.cons hu1 .nil))
    exact ⟨l, vs, u, rfl, rfl, q2, by rw [q3.len]; exact small1000 hz, k σ _ _ (p1.trans (p2.trans p3)) (s.up (p1.g.trans p2.g))⟩⟩
/-- == of such a list and a datum -/
theorem dp_mut {K : PySem.W.Frag} {G H : Hp} {xs : List D} (w : Wo K (A ++ (l, .lst (dats xs)) :: C) G H) : Dp K H (.ref l) (.list xs) := by
  obtain ⟨vs, h1, h2, _⟩ := w.lst
  exact .lst (SqL.of h1) (dpsUp w.ex xs (vks_dats h2))
theorem pdt_eqM {xs : List D} {d' : D} (hu : X.A.units + 64 < cLine) (ha : PD X ds M a (.raw (.ref l)) M1) (hb : PD X ds M1 b (.dat d') (A ++ (l, .lst (dats xs)) :: C)) (h1 : SeqAt.shaped (.list xs) = true) (h2 : SeqAt.shaped d' = true) : PDT X ds M (.Compare a [.Eq] [b] pos) (PyData.eqv (.list xs) d') (A ++ (l, .lst (dats xs)) :: C) :=
  pt_mono (pt_cmpR (op_eqD hu) ha hb (nomark _)) fun σ H Q ⟨G, w, s, k⟩ => ce_bin (r := B (PyData.eqv (.list xs) d')) (fun G H x y Q w hx hy k => ⟨.list xs, d', by
    have hx' : x = .ref l := hx
    rw [hx']; exact dp_mut w, dpUp w.ex d' hy, h1, h2, k _ G H (Po.refl w) (.bl _)⟩) ⟨G, w, s, fun v G' H' p hv => ⟨_, vk_bl hv, k G' H' p⟩⟩
/-- len of such a list -/
theorem pd_lenM {p : Pos} (hm : X.mg "len" = none) (ha : PD X ds M a (.raw (.ref l)) (A ++ (l, .lst rs) :: C)) (hg : Gl X "len" := by rfl) (h1 : starEach (a :: []) X.env = (false, eval a X.env) :: starEach [] X.env := by rfl) : PD X ds M (.Call (.Name "len" p) [a] [] pos) (I rs.length) (A ++ (l, .lst rs) :: C) :=
  pe_mono (pe_callB call_len_seq hg hm PySem.boot_len (pda_cons ha pda_nil h1) (he := h1)) fun σ H Q q => ce_args (fun G H vs Q w hv k => by
    obtain ⟨v, rfl, h⟩ := vks1 hv
    obtain ⟨ys, q1, q2, _⟩ := w.lst
    have h' : v = .ref l := h
    subst h'
    exact ⟨l, ys, rfl, .inl (SqL.of q1), by rw [q2.len]; exact k _ G H (Po.refl w) (.int _)⟩) q

/-! ### list + list -/
def rCatD (K : PySem.W.Frag) : R2 := fun x y H Q => ∃ l b xs zs, x = .ref l ∧ y = .ref b ∧ SqL K H l xs ∧ SqL K H b zs ∧ xs.length + zs.length ≤ sizeLine ∧ ∀ p, H p = none → Q (.ref p) (upd H p (.lst (xs ++ zs)))
theorem op_catD : OpR X (binaryOp .Add) (rCatD X.K) := by
  intro pins s σ H x y v u Q I rx ry h
  obtain ⟨l, b, xs, zs, rfl, rfl, hH, hB, hz, q⟩ := h
  cases rx
  cases ry
  obtain ⟨its, r1, p1, _⟩ := I.list hH
  obtain ⟨its2, r2, p2, _⟩ := I.list hB
  obtain ⟨⟨cls, dd, data, sl⟩, ho, hc, n, hd⟩ := id p1.isList
  obtain ⟨⟨cls2, dd2, data2, sl2⟩, ho2, hc2, n2, hd2⟩ := id p2.isList
  simp only at hc hd hc2 hd2
  subst hc hd hc2 hd2
  have e : its.toArray ++ its2.toArray = (its ++ its2).toArray := by simp
  refine concat_meets ⟨_, ho, rfl⟩ ⟨_, ho2, rfl⟩ noFill_list_add seq_list_add PySem.F.slot_list_add PySem.F.entry_list_add (PySem.F.args_list_add_2 _ _) (list_addW l b its.toArray its2.toArray n n2 dd dd2 sl sl2 (by rw [List.size_toArray, List.size_toArray, ← r1.length, ← r2.length]; exact hz)) ⟨ho, ho2, ?_⟩
  rw [e]
  exact ⟨.ref _, _, I.lnew (t' := s.toks) (r1.append r2) (by rw [List.length_append]; omega), rfl, q _ I.fresh⟩
theorem pd_cat {xs ys : List D} (ha : PD X ds M a (.dat (.list xs)) M1) (hb : PD X ds M1 b (.dat (.list ys)) M2) (hl : xs.length + ys.length ≤ 1000) : PD X ds M (.BinOp a .Add b pos) (.dat (.list (xs ++ ys))) M2 :=
  pe_mono (pe_op op_catD ha hb) fun σ H Q q => ce_bin (fun G H x y Q w hx hy k => by
    obtain ⟨p, vs, rfl, h1, h2⟩ := vk_lst hx
    obtain ⟨p', vs', rfl, h3, h4⟩ := vk_lst hy
    exact ⟨p, p', vs, vs', rfl, rfl, w.ex.seq h1, w.ex.seq h3, by rw [dps_len h2, dps_len h4]; exact Nat.le_of_lt (small1000 hl), fun q hq => k _ _ _ (dp_newL w (dps_app h2 h4) hq).1 (dp_newL w (dps_app h2 h4) hq).2⟩) q
/-- a list that changes, and a datum -/
theorem pd_catM {xs ys : List D} (ha : PD X ds M a (.raw (.ref l)) M1) (hb : PD X ds M1 b (.dat (.list ys)) (A ++ (l, .lst (dats xs)) :: C)) (hl : xs.length + ys.length ≤ 1000) : PD X ds M (.BinOp a .Add b pos) (.dat (.list (xs ++ ys))) (A ++ (l, .lst (dats xs)) :: C) :=
  pe_mono (pe_op op_catD ha hb) fun σ H Q q => ce_bin (fun G H x y Q w hx hy k => by
    have hx' : x = .ref l := hx
    subst hx'
    obtain ⟨vs, h1, h2, _⟩ := w.lst
    obtain ⟨p', vs', rfl, h3, h4⟩ := vk_lst hy
    have h2' := vks_dats h2
    exact ⟨l, p', vs, vs', rfl, rfl, SqL.of h1, w.ex.seq h3, by rw [dps_len h2', dps_len h4]; exact Nat.le_of_lt (small1000 hl), fun q hq => k _ _ _ (dp_newL w (dps_app h2' h4) hq).1 (dp_newL w (dps_app h2' h4) hq).2⟩) q

/-! ### slices of lists -/
def cutD (xs : List D) (lo hi : Option Int) : List D := (xs.drop (HT.sIx xs.length 0 lo)).take (HT.sIx xs.length xs.length hi - HT.sIx xs.length 0 lo)
def cO (K : PySem.W.Frag) (ds : List Sv) (M : Ms) (o : Option Int) (M' : Ms) : TO := fun σ H Q => ∃ G, Wo K M G H ∧ Sl K G σ ds ∧ ∀ G' H', Po K M M' G H G' H' → Q o H'
theorem po_mono {t t' : TO} {lo : Option Expr} (h : PO X lo t) (k : ∀ σ H Q, t' σ H Q → t σ H Q) : PO X lo t' := ⟨fun pins s σ H Q I q => h.run pins s σ H Q I (k σ H Q q)⟩
theorem pdo_none : PO X none (cO X.K ds M none M) := po_mono po_none fun σ H Q ⟨G, w, s, k⟩ => k G H (Po.refl w)
theorem pdo_some (h : PD X ds M e (I i) M1) : PO X (some e) (cO X.K ds M (some i) M1) := po_mono (po_some h) fun σ H Q ⟨G, w, s, k⟩ => ⟨G, w, s, fun v G' H' p hv => ⟨i, vk_int hv, k G' H' p⟩⟩
theorem pd_slL {xs : List D} {lo hi : Option Expr} {l' h' : Option Int} {p2 : Pos} (he : PD X ds M e (.dat (.list xs)) M1) (hl : PO X lo (cO X.K ds M1 l' M2)) (hh : PO X hi (cO X.K ds M2 h' M3)) : PD X ds M (.Subscript e (.Slice lo hi none p2) pos) (.dat (.list (cutD xs l' h'))) M3 :=
  pe_mono (pe_slice sl_list he hl hh) fun σ H Q ⟨G, w, s, k⟩ => ⟨G, w, s, fun v G1 H1 p1 hv => ⟨G1, p1.w, s.up p1.g, fun G2 H2 p2 => ⟨G2, p2.w, s.up (p1.g.trans p2.g), fun G3 H3 p3 => by
    obtain ⟨a, vs, rfl, h1, h2⟩ := vk_lst (hv.up (p2.g.trans p3.g))
    refine ⟨a, vs, rfl, p3.w.ex.seq h1, fun q hq => ?_⟩
    have h3 : DpAll X.K G3 (cutV vs l' h') (cutD xs l' h') := by
      unfold cutV cutD
      rw [dps_len h2]
      exact dps_take _ (dps_drop _ h2)
    have n := dp_newL p3.w h3 hq
    exact k _ _ _ (p1.trans (p2.trans (p3.trans n.1))) n.2⟩⟩⟩
end
end Cal
/-! CalF -/
namespace Cal
open PySem PySem.Spec PyProof.Rows L2
theorem wipe_sub {σ : L2.St} {vs : List Nat} : ∀ {us : List Nat}, (∀ u ∈ us, u ∈ vs) → L2.wipe (L2.wipe σ us) vs = L2.wipe σ vs
  | [], _ => rfl
  | u :: us, h => by
    show L2.wipe ((L2.wipe σ us).set u none) vs = L2.wipe σ vs
    rw [(wipe_put vs).1 (h u (by simp)), wipe_sub fun t ht => h t (by simp [ht])]
theorem wipe_idem {σ : L2.St} {vs : List Nat} : L2.wipe (L2.wipe σ vs) vs = L2.wipe σ vs := wipe_sub fun _ h => h
/-- what a comprehension has made so far -/
def pick (bs : Nat → Bool) (out : Nat → D) : Nat → List D
  | 0 => []
  | n + 1 => pick bs out n ++ (if bs n then [out n] else [])
theorem pick_len (bs : Nat → Bool) (out : Nat → D) : ∀ n, (pick bs out n).length ≤ n
  | 0 => Nat.le_refl _
  | n + 1 => by
    have := pick_len bs out n
    show (pick bs out n ++ (if bs n then [out n] else [])).length ≤ n + 1
    rw [List.length_append]
    split <;> simp <;> omega
theorem pick_all (out : Nat → D) : ∀ n, pick (fun _ => true) out n = (List.range n).map out
  | 0 => rfl
  | n + 1 => by
    show pick _ out n ++ [out n] = _
    rw [pick_all out n, List.range_succ, List.map_append]
    rfl
section
variable {X : Cx} {ds ds' : List Sv} {M M' M0 M1 M2 : Ms} {e elt tg : Expr} {ifs : List Expr} {scope : Scope} {own : List (Str × Nat)} {pos : Pos}
/-- the block's context -/
abbrev Zb (X : Cx) (scope : Scope) (s : Shared) (H : Hp) (C : Addr) (cl : List (Str × Addr)) (fp : List Addr) : Cx := X.blk s H scope (compEnvC scope cl C X.env) fp
/-- what is asked of one turn: d the item, eis the slots behind the target, b whether it is kept, o the datum that comes of it, M the changing things ahead and behind -/
structure Turn1 (X : Cx) (scope : Scope) (ds : List Sv) (vs : List Nat) (tg elt : Expr) (ifs : List Expr) (d : D) (b : Bool) (o : D) (M M' : Ms) : Prop where
  ex : ∃ eis ts, (∀ t ∈ ts, t ∈ vs) ∧ (∀ s H C cl fp, GD (Zb X scope s H C cl fp) tg (.dat d) (wipeD ds vs) eis ts) ∧ (∀ s H C cl fp q, PTs (Zb X scope s H C cl fp) ifs (cT X.K eis (q :: M) b (q :: M))) ∧
    (b = true → ∀ s H C cl fp q, PD (Zb X scope s H C cl fp) eis (q :: M) elt (.dat o) (q :: M')) ∧ (b = false → M' = M)
abbrev gLc (X : Cx) (scope : Scope) (ds : List Sv) (vs : List Nat) (tg : Expr) : TG := fun v σ H Q => ∃ z : D × List Sv × List Nat, (∀ s H C cl fp, GD (Zb X scope s H C cl fp) tg (.dat z.1) (wipeD ds vs) z.2.1 z.2.2) ∧ cG X.K (.dat z.1) (wipeD ds vs) z.2.1 z.2.2 v σ H Q
abbrev tLcT (X : Cx) (scope : Scope) (ifs : List Expr) : TT := fun σ H Q => ∃ z : List Sv × Ms × Bool, (∀ s H C cl fp, PTs (Zb X scope s H C cl fp) ifs (cT X.K z.1 z.2.1 z.2.2 z.2.1)) ∧ cT X.K z.1 z.2.1 z.2.2 z.2.1 σ H Q
abbrev tLcE (X : Cx) (scope : Scope) (elt : Expr) : TE := fun σ H Q => ∃ z : List Sv × Ms × D × Ms, (∀ s H C cl fp, PD (Zb X scope s H C cl fp) z.1 z.2.1 elt (.dat z.2.2.1) z.2.2.2) ∧ cE X.K z.1 z.2.1 (.dat z.2.2.1) z.2.2.2 σ H Q
/-- between two turns -/
def Cv (K : PySem.W.Frag) (M : Ms) (G H G1 : Hp) (Dl : Addr) (bs : Nat → Bool) (out : Nat → D) (ms : Nat → Ms) (i : Nat) (H' : Hp) : Prop := ∃ Gi, Po K M ((Dl, .lst (dats (pick bs out i))) :: ms i) G H Gi H' ∧ Same G1 Gi
theorem lc_turn {vs : List Nat} {d : D} {σ : L2.St} {G H G1 : Hp} {Dl : Addr} {bs : Nat → Bool} {out : Nat → D} {ms : Nat → Ms} {i : Nat} {H' : Hp} {x : V} (hi : i ≤ 1000) (s : Sl X.K G1 σ ds) (T : Turn1 X scope ds vs tg elt ifs d (bs i) (out i) (ms i) (ms (i + 1)))
    (hd : Dp X.K G1 x d) (h : Cv X.K M G H G1 Dl bs out ms i H') :
    gLc X scope ds vs tg x (L2.wipe σ vs) H' fun σ2 H2 => L2.wipe σ2 vs = L2.wipe σ vs ∧ tLcT X scope ifs σ2 H2 fun b H3 => if b = true then tLcE X scope elt σ2 H3 fun y H4 => ∃ acc, H4 Dl = some (.lst acc) ∧ acc.length < sizeLine ∧ Cv X.K M G H G1 Dl bs out ms (i + 1) (upd H4 Dl (.lst (acc ++ [y]))) else Cv X.K M G H G1 Dl bs out ms (i + 1) H3 := by
  obtain ⟨eis, ts, hts, hg, ht, he, hf⟩ := T.ex
  obtain ⟨Gi, p, sg⟩ := h
  refine ⟨(d, eis, ts), hg, _, Gi, p.w, (s.up sg).wipe vs, dpUp sg _ hd, fun σ2 s2 chg => ⟨(chg vs hts).trans wipe_idem, (eis, (Dl, .lst (dats (pick bs out i))) :: ms i, bs i), fun s H C cl fp => ht s H C cl fp _, Gi, p.w, s2, fun G3 H3 p3 => ?_⟩⟩
  have hl := pick_len bs out i
  cases hb : bs i with
  | true =>
    refine iteT ⟨(eis, (Dl, .lst (dats (pick bs out i))) :: ms i, out i, (Dl, .lst (dats (pick bs out i))) :: ms (i + 1)), fun s H C cl fp => he hb s H C cl fp _, G3, p3.w, s2.up p3.g, fun y G4 H4 p4 hy => ?_⟩
    have p5 := p.trans (p3.trans p4)
    obtain ⟨ws, q1, q2, q3⟩ := Wo.lst (A := []) p5.w
    refine ⟨ws, q1, by rw [q2.len]; unfold dats; rw [List.length_map]; exact small1000 (Nat.le_trans hl hi), G4, ?_, sg.trans (p3.g.trans p4.g)⟩
    have p6 := Po.mput (A := []) p5.w (m' := .lst (dats (pick bs out (i + 1)))) (o' := .lst (ws ++ [y])) (by
      have e : dats (pick bs out (i + 1)) = dats (pick bs out i) ++ [.dat (out i)] := by
        show dats (pick bs out i ++ (if bs i then [out i] else [])) = _
        rw [hb]
        unfold dats
        rw [List.map_append]
        rfl
      rw [e]
      exact q2.app (.cons hy .nil))
    exact p5.trans p6
  | false =>
    refine iteF ⟨G3, ?_, sg.trans p3.g⟩
    have e : pick bs out (i + 1) = pick bs out i := by
      show pick bs out i ++ (if bs i then [out i] else []) = _
      rw [hb]
      simp
    rw [e, hf hb]
    exact p.trans p3
theorem lc_end {G H G1 H1 : Hp} {Dl : Addr} {bs : Nat → Bool} {out : Nat → D} {ms : Nat → Ms} {n : Nat} {H' : Hp} {Q : VK} (hD : H Dl = none) (h : Cv X.K M G H G1 Dl bs out ms n H')
    (k : ∀ v G' H', Po X.K M (ms n) G H G' H' → Vk X.K G' v (.dat (.list (pick bs out n))) → Q v H') : Q (.ref Dl) H' := by
  obtain ⟨Gi, p, sg⟩ := h
  obtain ⟨ws, q1, q2, q3⟩ := Wo.lst (A := []) p.w
  exact k _ _ _ (p.freeze q1 hD) (Dp.lst (SqL.of upd_same) (dpsUp (fun x u e => by rw [upd_ne (ne_of_none e q3)]; exact e) _ (vks_dats q2)))
theorem lc_begin {G H G1 H1 : Hp} {Dl : Addr} {bs : Nat → Bool} {out : Nat → D} {ms : Nat → Ms} (h0 : ms 0 = M1) (p : Po X.K M M1 G H G1 H1) (hD : H1 Dl = none) : Cv X.K M G H G1 Dl bs out ms 0 (upd H1 Dl (.lst [])) := by
  refine ⟨G1, ?_, Same.refl _⟩
  rw [h0]
  exact p.trans (Po.mnew p.w hD (m := .lst (dats [])) (o := .lst []) .nil)
theorem none_back {K : PySem.W.Frag} {G H G1 H1 : Hp} (p : Po K M M1 G H G1 H1) {x : Addr} (h : H1 x = none) : H x = none := by
  cases q : H x with
  | none => rfl
  | some o => exact absurd h (p.th x (by rw [q]; simp))
/-- over a list -/
theorem lc_readL {xs : List D} (bs : Nat → Bool) (out : Nat → D) (ms : Nat → Ms) (h0 : ms 0 = M1) (hz : xs.length ≤ 1000) (hT : ∀ i d, xs[i]? = some d → Turn1 X scope ds (own.map (·.2)) tg elt ifs d (bs i) (out i) (ms i) (ms (i + 1))) {σ : L2.St} {H : Hp} {Q : VK}
    (q : cE X.K ds M (.dat (.list (pick bs out xs.length))) (ms xs.length) σ H Q) : tLc (iList X.K (cE X.K ds M (.dat (.list xs)) M1)) (gLc X scope ds (own.map (·.2)) tg) (tLcT X scope ifs) (tLcE X scope elt) (own.map (·.2)) σ H Q := by
  obtain ⟨G, w, s, k⟩ := q
  refine ⟨G, w, s, fun v G1 H1 p1 hv => ?_⟩
  obtain ⟨a, vs, rfl, h1, h2⟩ := vk_lst hv
  have hl := dps_len h2
  refine ⟨a, rfl, ⟨vs, p1.w.ex.seq h1⟩, fun Dl hD => ?_⟩
  refine lc_list (K := X.K) (a := a) (g := gLc X scope ds (own.map (·.2)) tg) (tt := tLcT X scope ifs) (te := tLcE X scope elt) (Qd := fun H' => Q (.ref Dl) H') (xs := vs) (Cv X.K M G H G1 Dl bs out ms) (lc_begin h0 p1 hD) (fun i H' _ ⟨Gi, p, sg⟩ => (sg.trans p.w.ex).seq h1) (fun i x H' hx hc => ?_) (fun H' hc => ?_)
  · have hi : i < xs.length := by rw [← hl]; exact (List.getElem?_eq_some_iff.mp hx).1
    have hd : xs[i]? = some xs[i] := List.getElem?_eq_getElem hi
    obtain ⟨v, e1, e2⟩ := dps_get h2 hd
    rw [hx] at e1
    cases e1
    exact lc_turn (by omega) (s.up p1.g) (hT i _ hd) e2 hc
  · rw [hl] at hc
    exact lc_end (X := X) (H1 := H1) (none_back p1 hD) hc k
/-- over a tuple -/
theorem lc_readT {xs : List D} (bs : Nat → Bool) (out : Nat → D) (ms : Nat → Ms) (h0 : ms 0 = M1) (hz : xs.length ≤ 1000) (hT : ∀ i d, xs[i]? = some d → Turn1 X scope ds (own.map (·.2)) tg elt ifs d (bs i) (out i) (ms i) (ms (i + 1))) {σ : L2.St} {H : Hp} {Q : VK}
    (q : cE X.K ds M (.dat (.list (pick bs out xs.length))) (ms xs.length) σ H Q) : tLc (iTup X.K (cE X.K ds M (.dat (.tuple xs)) M1)) (gLc X scope ds (own.map (·.2)) tg) (tLcT X scope ifs) (tLcE X scope elt) (own.map (·.2)) σ H Q := by
  obtain ⟨G, w, s, k⟩ := q
  refine ⟨G, w, s, fun v G1 H1 p1 hv => ?_⟩
  obtain ⟨a, vs, rfl, h1, h2⟩ := vk_tup hv
  have hl := dps_len h2
  refine ⟨a, rfl, ⟨vs, seqT p1.w.ex h1⟩, fun Dl hD => ?_⟩
  refine lc_tup (K := X.K) (a := a) (g := gLc X scope ds (own.map (·.2)) tg) (tt := tLcT X scope ifs) (te := tLcE X scope elt) (Qd := fun H' => Q (.ref Dl) H') (xs := vs) (Cv X.K M G H G1 Dl bs out ms) (lc_begin h0 p1 hD) (fun i H' _ ⟨Gi, p, sg⟩ => seqT (sg.trans p.w.ex) h1) (fun i x H' hx hc => ?_) (fun H' hc => ?_)
  · have hi : i < xs.length := by rw [← hl]; exact (List.getElem?_eq_some_iff.mp hx).1
    have hd : xs[i]? = some xs[i] := List.getElem?_eq_getElem hi
    obtain ⟨v, e1, e2⟩ := dps_get h2 hd
    rw [hx] at e1
    cases e1
    exact lc_turn (by omega) (s.up p1.g) (hT i _ hd) e2 hc
  · rw [hl] at hc
    exact lc_end (X := X) (H1 := H1) (none_back p1 hD) hc k
/-- over range(n) -/
theorem lc_readR {n : Nat} (bs : Nat → Bool) (out : Nat → D) (ms : Nat → Ms) (h0 : ms 0 = M1) (hz : n ≤ 1000) (hT : ∀ i : Nat, i < n → Turn1 X scope ds (own.map (·.2)) tg elt ifs (.int (i : Int)) (bs i) (out i) (ms i) (ms (i + 1))) {σ : L2.St} {H : Hp} {Q : VK}
    (q : cE X.K ds M (.dat (.list (pick bs out n))) (ms n) σ H Q) : tLc (iRng1 (cA X.K ds M [I (n : Int)] M1)) (gLc X scope ds (own.map (·.2)) tg) (tLcT X scope ifs) (tLcE X scope elt) (own.map (·.2)) σ H Q := by
  obtain ⟨G, w, s, k⟩ := q
  refine ⟨G, w, s, fun vs G1 H1 p1 hv => ?_⟩
  obtain ⟨v, rfl, hv1⟩ := vks1 hv
  cases vk_int hv1
  refine ⟨(n : Int), rfl, by omega, by omega, fun Dl hD => ?_⟩
  have e : ((n : Int)).toNat = n := by omega
  rw [e]
  refine lc_range (lo := 0) (n := n) (g := gLc X scope ds (own.map (·.2)) tg) (tt := tLcT X scope ifs) (te := tLcE X scope elt) (Qd := fun H' => Q (.ref Dl) H') (Cv X.K M G H G1 Dl bs out ms) (lc_begin h0 p1 hD) (fun i H' hi hc => ?_) (fun H' hc => ?_)
  · have e0 : (0 : Int) + (i : Int) = (i : Int) := Int.zero_add _
    rw [e0]
    exact lc_turn (by omega) (s.up p1.g) (hT i hi) (.int _) hc
  · exact lc_end (X := X) (H1 := H1) (none_back p1 hD) hc k
theorem lc_g : ∀ (s : Shared) (H : Hp) (C : Addr) (cl : List (Str × Addr)) (fp : List Addr), PG (Zb X scope s H C cl fp) tg (gLc X scope ds (own.map (·.2)) tg) := fun s H C cl fp => pg_ex (ι := D × List Sv × List Nat) (p := fun z => ∀ s H C cl fp, GD (Zb X scope s H C cl fp) tg (.dat z.1) (wipeD ds (own.map (·.2))) z.2.1 z.2.2) (t := fun z => cG X.K (.dat z.1) (wipeD ds (own.map (·.2))) z.2.1 z.2.2) fun _ h => h s H C cl fp
theorem lc_t : ∀ (s : Shared) (H : Hp) (C : Addr) (cl : List (Str × Addr)) (fp : List Addr), PTs (Zb X scope s H C cl fp) ifs (tLcT X scope ifs) := fun s H C cl fp => pts_ex (ι := List Sv × Ms × Bool) (p := fun z => ∀ s H C cl fp, PTs (Zb X scope s H C cl fp) ifs (cT X.K z.1 z.2.1 z.2.2 z.2.1)) (t := fun z => cT X.K z.1 z.2.1 z.2.2 z.2.1) fun _ h => h s H C cl fp
theorem lc_e : ∀ (s : Shared) (H : Hp) (C : Addr) (cl : List (Str × Addr)) (fp : List Addr), PE (Zb X scope s H C cl fp) elt (tLcE X scope elt) := fun s H C cl fp => pe_ex (ι := List Sv × Ms × D × Ms) (p := fun z => ∀ s H C cl fp, PD (Zb X scope s H C cl fp) z.1 z.2.1 elt (.dat z.2.2.1) z.2.2.2) (t := fun z => cE X.K z.1 z.2.1 (.dat z.2.2.1) z.2.2.2) fun _ h => h s H C cl fp
/-- [elt for tg in e if ..], over a list; a tuple; range(n): own tells the block's names by slots -/
theorem pd_lcL (own : List (Str × Nat)) {xs : List D} (bs : Nat → Bool) (out : Nat → D) (ms : Nat → Ms) (hc : X.calm = true) (hN : X.N.Nodup) (hB : blkC X.N X.env.scope scope own = true) (he : PD X ds M e (.dat (.list xs)) M1) (h0 : ms 0 = M1) (hz : xs.length ≤ 1000)
    (hT : ∀ i d, xs[i]? = some d → Turn1 X scope ds (own.map (·.2)) tg elt ifs d (bs i) (out i) (ms i) (ms (i + 1))) (hs : ∀ x, foldedSetIterable e X.env x = pure x := by intro _; rfl) :
    PD X ds M (.ListComp elt [⟨tg, e, ifs, 0⟩] scope pos) (.dat (.list (pick bs out xs.length))) (ms xs.length) :=
  pe_mono (pe_lc (own := own) hc hN (pi_list he) (blkOk_by hB) lc_g lc_t lc_e hs) fun σ H Q q => lc_readL bs out ms h0 hz hT q
theorem pd_lcT (own : List (Str × Nat)) {xs : List D} (bs : Nat → Bool) (out : Nat → D) (ms : Nat → Ms) (hc : X.calm = true) (hN : X.N.Nodup) (hB : blkC X.N X.env.scope scope own = true) (he : PD X ds M e (.dat (.tuple xs)) M1) (h0 : ms 0 = M1) (hz : xs.length ≤ 1000)
    (hT : ∀ i d, xs[i]? = some d → Turn1 X scope ds (own.map (·.2)) tg elt ifs d (bs i) (out i) (ms i) (ms (i + 1))) (hs : ∀ x, foldedSetIterable e X.env x = pure x := by intro _; rfl) :
    PD X ds M (.ListComp elt [⟨tg, e, ifs, 0⟩] scope pos) (.dat (.list (pick bs out xs.length))) (ms xs.length) :=
  pe_mono (pe_lc (own := own) hc hN (pi_tup he) (blkOk_by hB) lc_g lc_t lc_e hs) fun σ H Q q => lc_readT bs out ms h0 hz hT q
theorem pd_lcR (own : List (Str × Nat)) {n : Nat} {p p' : Pos} (bs : Nat → Bool) (out : Nat → D) (ms : Nat → Ms) (hc : X.calm = true) (hN : X.N.Nodup) (hB : blkC X.N X.env.scope scope own = true) (hm : X.mg "range" = none) (he : PD X ds M e (I (n : Int)) M1) (h0 : ms 0 = M1) (hz : n ≤ 1000)
    (hT : ∀ i : Nat, i < n → Turn1 X scope ds (own.map (·.2)) tg elt ifs (.int (i : Int)) (bs i) (out i) (ms i) (ms (i + 1))) (hg : Gl X "range" := by rfl) (h1 : starEach (e :: []) X.env = (false, eval e X.env) :: starEach [] X.env := by rfl) (h2 : starEach [e] X.env = [(false, eval e X.env)] := by rfl)
    (hs : ∀ x, foldedSetIterable (.Call (.Name "range" p) [e] [] p') X.env x = pure x := by intro _; rfl) :
    PD X ds M (.ListComp elt [⟨tg, .Call (.Name "range" p) [e] [] p', ifs, 0⟩] scope pos) (.dat (.list (pick bs out n))) (ms n) :=
  pe_mono (pe_lc (own := own) hc hN (pi_range1 hg hm (pda_cons he pda_nil h1) h2) (blkOk_by hB) lc_g lc_t lc_e hs) fun σ H Q q => lc_readR bs out ms h0 hz hT q
/-- name = [..] -/
theorem sd_setLcL (own : List (Str × Nat)) {xs : List D} (i : Nat) {y : Str} {py spos : Pos} (bs : Nat → Bool) (out : Nat → D) (ms : Nat → Ms) (hc : X.calm = true) (hN : X.N.Nodup) (hB : blkC X.N X.env.scope scope own = true) (he : PD X ds M e (.dat (.list xs)) M1) (h0 : ms 0 = M1) (hz : xs.length ≤ 1000)
    (hsw : swapsWith (.ListComp elt [⟨tg, e, ifs, 0⟩] scope pos) (some (.Name y py)) spos.line X.env = pure true)
    (hT : ∀ i d, xs[i]? = some d → Turn1 X scope ds (own.map (·.2)) tg elt ifs d (bs i) (out i) (ms i) (ms (i + 1))) (hy : X.N[i]? = some y := by rfl) (hyl : X.env.scope.names.lookup y = some .local := by rfl) (hs : ∀ x, foldedSetIterable e X.env x = pure x := by intro _; rfl) :
    SD1 X ds M (.Assign [.Name y py] (.ListComp elt [⟨tg, e, ifs, 0⟩] scope pos) spos) (.nx (ds.set i (.dat (.list (pick bs out xs.length)))) (ms xs.length)) :=
  ps_mono (ps_setLc (own := own) hc hN hy hyl hsw (pi_list he) (blkOk_by hB) lc_g lc_t lc_e hs) fun D σ H ⟨G, w, s, k⟩ => lc_readL bs out ms h0 hz hT ⟨G, w, s, fun v G' H' p hv => k _ G' H' p ((s.up p.g).set i hv)⟩
theorem sd_setLcR (own : List (Str × Nat)) {n : Nat} (i : Nat) {y : Str} {py spos p p' : Pos} (bs : Nat → Bool) (out : Nat → D) (ms : Nat → Ms) (hc : X.calm = true) (hN : X.N.Nodup) (hB : blkC X.N X.env.scope scope own = true) (hm : X.mg "range" = none) (he : PD X ds M e (I (n : Int)) M1) (h0 : ms 0 = M1) (hz : n ≤ 1000)
    (hsw : swapsWith (.ListComp elt [⟨tg, .Call (.Name "range" p) [e] [] p', ifs, 0⟩] scope pos) (some (.Name y py)) spos.line X.env = pure true)
    (hT : ∀ i : Nat, i < n → Turn1 X scope ds (own.map (·.2)) tg elt ifs (.int (i : Int)) (bs i) (out i) (ms i) (ms (i + 1))) (hy : X.N[i]? = some y := by rfl) (hyl : X.env.scope.names.lookup y = some .local := by rfl) (hg : Gl X "range" := by rfl) (h1 : starEach (e :: []) X.env = (false, eval e X.env) :: starEach [] X.env := by rfl) (h2 : starEach [e] X.env = [(false, eval e X.env)] := by rfl)
    (hs : ∀ x, foldedSetIterable (.Call (.Name "range" p) [e] [] p') X.env x = pure x := by intro _; rfl) :
    SD1 X ds M (.Assign [.Name y py] (.ListComp elt [⟨tg, .Call (.Name "range" p) [e] [] p', ifs, 0⟩] scope pos) spos) (.nx (ds.set i (.dat (.list (pick bs out n)))) (ms n)) :=
  ps_mono (ps_setLc (own := own) hc hN hy hyl hsw (pi_range1 hg hm (pda_cons he pda_nil h1) h2) (blkOk_by hB) lc_g lc_t lc_e hs) fun D σ H ⟨G, w, s, k⟩ => lc_readR bs out ms h0 hz hT ⟨G, w, s, fun v G' H' p hv => k _ G' H' p ((s.up p.g).set i hv)⟩
/-- no if -/
theorem pts0 {M : Ms} {X : Cx} {K : PySem.W.Frag} {ds : List Sv} : PTs X [] (cT K ds M true M) := ⟨fun pins s σ H Q I ⟨G, w, sl, k⟩ => pts_nil.run pins s σ H Q I (k G H (Po.refl w))⟩
end
end Cal
/-! CalG -/
namespace PySem
namespace JRev
open PySem PySem.W PySem.Calls PyProof.Rows
open Builtin Builtin.Str Builtin.Int
section
variable {prog : Program} {w : World} {A : Around} {E : Value → Shared → Prop} {s : Shared}
/-- sep.join(reversed(a list)) from its iterator on -/
theorem join_rev {x : Str} {t : Tok} {ys : List Str} {it l : Addr} {items : Array Value} {Q : Value → Shared → Prop} (hh : A.handled = none) (hit : s.heap.IsRevIter it l ((items.size : Int) - 1)) (hl : s.heap.IsList l items) (hne : l ≠ it) (hn : items.size ≤ sizeLine)
    (hP : ∀ acc : Array Value, ItemsOf (fun i v => items[items.size - 1 - i]? = some v) acc items.size → StrsAre acc.toList ys) (hok : (ys.map (·.length)).sum + ys.length * x.length ≤ 16777216)
    (hq : ∀ h' t' k, (∀ b o, b ≠ it → s.heap.get? b = some o → h'.get? b = some o) → Q (.str (Txt.join x ys) t') { s with heap := h', toks := k }) :
    wpAny (model prog w) A (call (.builtin "str.join") [.str x t, .ref it]) Q E s := by
  refine wpAny_call (codeAny_call_builtin F.slot_str_join.plain F.entry_str_join (F.slot_str_join.check _ _ _ _ _ _ _ _ (typeIs_str _ _ _) (F.args_str_join_2 _ _) ?_))
  rw [join_tree_other]
  refine wpAny_bind (wpAny_typeOf hit.typeIs ?_)
  show wpAny _ A.in1 ((pyIter (.ref it)).tryCatch _ >>= fun it => collect it >>= fun items => joinTail x items) _ _ s
  refine wpAny_bind (wpAny_tryCatch (wpAny_pyIter_revIter hit ?_))
  refine wpAny_bind (RT.collect_rev (A := A.in1) hh hit hl hne hn fun h' tk acc hk hacc => ?_)
  obtain ⟨l, hl, ht⟩ := strsAre_values (hP acc hacc)
  subst ht
  rw [hl]
  have hok' := joinOk_of hok
  unfold JoinOk at hok'
  rw [Bool.not_eq_true'] at hok'
  have g : Gives (joinTail x (strValues l)) (joinMade x l) := by
    have g0 := gives_joinTail x l hok'
    cases l with
    | nil => exact g0
    | cons p r => cases r with
      | nil => exact g0
      | cons q r' => exact g0
  exact g prog w A (wants Q E) { s with heap := h', toks := tk } (post_join l ⟨joinFit_length hok', fun t' k => hq h' t' k hk⟩)
end
end JRev
end PySem
namespace Cal
open PySem PySem.Spec PyProof.Rows L2
theorem dps_strs {K : PySem.W.Frag} {G : Hp} : ∀ {ys : List Str} {vs : List V}, DpAll K G vs (ys.map .str) → vs = ys.map V.str
  | [], _, h => by cases h; rfl
  | y :: ys, _, h => by
    cases h with
    | cons a b =>
      cases a
      rw [List.map_cons, dps_strs b]
theorem vals_strs : ∀ {ys : List Str} {us : List Value}, Vals (ys.map V.str) us → StrsAre us ys
  | [], _, .nil => .nil
  | y :: ys, _, .cons ⟨t, e⟩ r => by subst e; exact .cons y t (vals_strs r)
section
variable {X : Cx} {ds ds' : List Sv} {M M' M0 M1 M2 M3 : Ms} {a b c e : Expr} {es : List Expr} {st : Stmt} {ss s1 s2 body : List Stmt} {r ra rb : Sv} {rs : List Sv} {i j : Int} {pos : Pos} {R : Rs} {A C : Ms} {l : Addr}
def tJoinRev (K : PySem.W.Frag) (sep : Str) (te : TE) : TE := fun σ H Q => te σ H fun v H1 => ∃ (a : Addr) (ys : List Str), v = .ref a ∧ SqL K H1 a (ys.map V.str) ∧ (ys.map (·.length)).sum + ys.length * sep.length ≤ 16777216 ∧ Q (.str (Txt.join sep ys.reverse)) H1
theorem pe_joinRev {sep : Str} {te : TE} {p p2 pos pos2 apos : Pos} {k : Nat} (hc : X.calm = true) (hg2 : Gl X "reversed") (hm2 : X.mg "reversed" = none) (he : PE X e te)
    (hs : starEach [e] X.env = (false, eval e X.env) :: starEach [] X.env := by rfl)
    (hs2 : starEach [.Call (.Name "reversed" p2) [e] [] pos2] X.env = [(false, eval (.Call (.Name "reversed" p2) [e] [] pos2) X.env)] := by rfl)
    (hbase : attributeBase (.Constant (.str sep) k p) "join" X.env (eval (.Constant (.str sep) k p) X.env) = eval (.Constant (.str sep) k p) X.env := by rfl) (hline : (apos.endLine == pos.line) = true := by rfl) :
    PE X (.Call (.Attribute (.Constant (.str sep) k p) "join" apos) [.Call (.Name "reversed" p2) [e] [] pos2] [] pos) (tJoinRev X.K sep te) := by
  refine ⟨fun pins s σ H Q I h => ?_⟩
  refine PySem.Call_method1 hbase hs2 hline (Calls.Constant_str ?_)
  have I0 := I.tok (s.toks + 1)
  refine ⟨"str", _, PySem.F.plainAttrs_str, PySem.F.slot_str_join, PySem.F.type_str_join, typeIs_str _ _ _, (fun _ e => nomatch e), Calls.callWith_builtin rfl (Calls.evalArgs_plain (Calls.spliced_cons ?_))⟩
  refine Call_ (ld_blt I0 hg2 hm2 PyProof.Rows.boot_reversed (PyProof.Rows.callWith_type1 (args_cons (thn (he.run pins _ σ H _ I0 h) fun u s1 ⟨v, H1, I1, r1, q1⟩ => args_nil ?_) hs) hs rfl))
  obtain ⟨a, ys, ev, hq, hz, q⟩ := q1
  subst ev
  obtain rfl : u = Value.ref a := r1
  obtain ⟨its, rv, p', hsz⟩ := I1.list hq
  refine call_reversed_list p'.isList (Calls.spliced_nil ?_)
  have k0 : ∀ b o, s1.heap.get? b = some o → (s1.heap.push (revObj a ((its.toArray.size : Int) - 1))).get? b = some o := fun b o e => Heap.get?_push_of_some _ e
  have I2 : Inv X pins σ H1 { s1 with heap := s1.heap.push (revObj a ((its.toArray.size : Int) - 1)) } := I1.kept (t' := s1.toks) k0
  obtain ⟨f0, f1, f2, f3, f4, f5⟩ := I1.fpOk (H' := H1) (b := s1.heap.objs.size) (Nat.le_refl _) (I1.hok.fresh (Nat.le_refl _))
  have hl := p'.isList
  obtain ⟨ol, hol, _⟩ := id hl
  have hne : a ≠ s1.heap.objs.size := Nat.ne_of_lt (Heap.lt_size hol)
  have hn : its.toArray.size ≤ sizeLine := by rw [List.size_toArray, ← rv.length]; exact hsz
  have e1 : (ys.reverse.map (·.length)).sum = (ys.map (·.length)).sum := by rw [List.map_reverse, List.sum_reverse]
  refine JRev.join_rev (s := { s1 with heap := s1.heap.push (revObj a ((its.toArray.size : Int) - 1)) }) (ys := ys.reverse) (I1.ok.hd hc) ⟨_, Heap.get?_push_size _ rfl, rfl, rfl⟩ (hl.push _) hne hn (fun acc hacc => ?_) (by rw [e1, List.length_reverse]; exact hz) fun h' t' k hk => ?_
  · have := RT.vals_rev rv hacc
    rw [← List.map_reverse] at this
    exact vals_strs this
  · exact ⟨.str _, H1, I2.turned (t' := k) (fun b o hb e => hk b o hb e) f0 f1 f3 f4 f5, ⟨t', rfl⟩, q⟩
/-- ''.join(reversed(rows)), rows a list of texts that changes -/
theorem pd_joinRevM {sep : Str} {p p2 pos pos2 apos : Pos} {k : Nat} {ys : List Str} (hc : X.calm = true) (hm2 : X.mg "reversed" = none) (he : PD X ds M e (.raw (.ref l)) (A ++ (l, .lst (dats (ys.map .str))) :: C)) (hz : (ys.map (·.length)).sum + ys.length * sep.length ≤ 16777216) (hg2 : Gl X "reversed" := by rfl)
    (hs : starEach [e] X.env = (false, eval e X.env) :: starEach [] X.env := by rfl)
    (hs2 : starEach [.Call (.Name "reversed" p2) [e] [] pos2] X.env = [(false, eval (.Call (.Name "reversed" p2) [e] [] pos2) X.env)] := by rfl)
    (hbase : attributeBase (.Constant (.str sep) k p) "join" X.env (eval (.Constant (.str sep) k p) X.env) = eval (.Constant (.str sep) k p) X.env := by rfl) (hline : (apos.endLine == pos.line) = true := by rfl) :
    PD X ds M (.Call (.Attribute (.Constant (.str sep) k p) "join" apos) [.Call (.Name "reversed" p2) [e] [] pos2] [] pos) (.dat (.str (Txt.join sep ys.reverse))) (A ++ (l, .lst (dats (ys.map .str))) :: C) :=
  pe_mono (pe_joinRev hc hg2 hm2 he hs hs2 hbase hline) fun σ H Q ⟨G, w, s, q⟩ => ⟨G, w, s, fun v G' H' p hv => by
    have hv' : v = .ref l := hv
    subst hv'
    obtain ⟨vs, h1, h2, h3⟩ := p.w.lst
    have h4 := vks_dats h2
    have h5 := dps_strs h4
    subst h5
    exact ⟨l, ys, rfl, SqL.of h1, hz, q _ _ _ p (.str _)⟩⟩

/-! ### f-strings of texts -/
theorem pd_fmt {x : Str} {pos : Pos} (h : PD X ds M e (.dat (.str x)) M1) (hz : x.length ≤ 1000) : PD X ds M (.FormattedValue e (-1) none pos) (.dat (.str x)) M1 := pe_mono (pe_fmt h) fun σ H Q ⟨G, w, s, k⟩ => ⟨G, w, s, fun v G' H' p hv => .inl ⟨x, vk_str hv, Nat.le_of_lt (small1000 hz), k _ G' H' p (.str _)⟩⟩
theorem pd_fstr4 {e1 e2 e3 e4 : Expr} {M4 : Ms} {x1 x2 x3 x4 : Str} (h1 : PD X ds M e1 (.dat (.str x1)) M1) (h2 : PD X ds M1 e2 (.dat (.str x2)) M2) (h3 : PD X ds M2 e3 (.dat (.str x3)) M3) (h4 : PD X ds M3 e4 (.dat (.str x4)) M4) (hz : x1.length + x2.length + x3.length + x4.length ≤ 1000) :
    PD X ds M (.JoinedStr [e1, e2, e3, e4] pos) (.dat (.str (Str.empty ++ x1 ++ x2 ++ x3 ++ x4))) M4 :=
  pe_mono (pe_joined (.cons h1 (.cons h2 (.cons h3 (.cons h4 .nil))))) fun σ H Q ⟨G, w, s, k⟩ => by
    have hl : ∀ a b : Str, (a ++ b).length = a.length + b.length := fun a b => by
      show (a.cps ++ b.cps).size = _
      rw [Array.size_append]; rfl
    have e0 : Str.empty.length = 0 := rfl
    refine ⟨G, w, s, fun v1 G1 H1 p1 q1 => ⟨x1, vk_str q1, by rw [hl, e0]; exact Nat.le_of_lt (small1000 (by omega)), G1, p1.w, s.up p1.g, fun v2 G2 H2 p2 q2 => ⟨x2, vk_str q2, by rw [hl, hl, e0]; exact Nat.le_of_lt (small1000 (by omega)), G2, p2.w, s.up (p1.g.trans p2.g), fun v3 G3 H3 p3 q3 => ⟨x3, vk_str q3, by rw [hl, hl, hl, e0]; exact Nat.le_of_lt (small1000 (by omega)), G3, p3.w, s.up (p1.g.trans (p2.g.trans p3.g)), fun v4 G4 H4 p4 q4 => ⟨x4, vk_str q4, by rw [hl, hl, hl, hl, e0]; exact Nat.le_of_lt (small1000 (by omega)), k _ _ _ (p1.trans (p2.trans (p3.trans p4))) (.str _)⟩⟩⟩⟩⟩

/-! ### while, not once -/
theorem sd_while0 (hp : PassesOwn (model X.prog X.w) X.A X.env X.xe) (hc : PDT X ds M c false M1) : SD1 X ds M (.While c body [] pos) (.nx ds M1) :=
  ps_mono (ps_while hp hc pss_never) fun D σ H ⟨G, w, s, k⟩ => ⟨fun m σ' H' => m = 0 ∧ σ' = σ ∧ H' = H, ⟨0, rfl, rfl, rfl⟩, fun m σ' H' ⟨_, e1, e2⟩ => by
    subst e1 e2
    exact ⟨G, w, s, fun G' H2 p => iteF (k _ G' H2 p (s.up p.g))⟩⟩
/-- while: n turns, then the test is False -/
theorem sd_while (n : Nat) (st : Nat → List Sv) (ms : Nat → Ms) (hp : PassesOwn (model X.prog X.w) X.A X.env X.xe) (h0 : st 0 = ds) (hm : ms 0 = M) (hc : ∀ i, i < n → PDT X (st i) (ms i) c true (ms i)) (hs : ∀ i, i < n → SD X (st i) (ms i) body (.nx (st (i + 1)) (ms (i + 1)))) (he : PDT X (st n) (ms n) c false (ms n)) :
    SD1 X ds M (.While c body [] pos) (.nx (st n) (ms n)) := by
  have hct : ∀ z : Nat × Bool, (z.1 ≤ n ∧ z.2 = decide (z.1 < n)) → PT X c (cT X.K (st z.1) (ms z.1) z.2 (ms z.1)) := fun z hz => by
    obtain ⟨k, b⟩ := z
    obtain ⟨h1, h2⟩ := hz
    by_cases hk : k < n
    · have e : b = true := h2.trans (decide_eq_true hk)
      subst e
      exact hc k hk
    · have e : b = false := h2.trans (decide_eq_false hk)
      have e2 : k = n := by have h1' : k ≤ n := h1; omega
      subst e e2
      exact he
  refine ps_mono (ps_while hp (pt_ex (ι := Nat × Bool) (p := fun z => z.1 ≤ n ∧ z.2 = decide (z.1 < n)) (t := fun z => cT X.K (st z.1) (ms z.1) z.2 (ms z.1)) hct)
    (pss_ex (ι := Nat) (p := fun i => i < n) (t := fun i => cS X.K (st i) (ms i) (.nx (st (i + 1)) (ms (i + 1)))) fun i hi => hs i hi)) fun D σ H ⟨G, w, s, k⟩ => ?_
  refine ⟨fun m σ' H' => ∃ i Gi, m = n - i ∧ i ≤ n ∧ Po X.K M (ms i) G H Gi H' ∧ Sl X.K Gi σ' (st i), ⟨n, 0, G, by omega, by omega, by rw [hm]; exact Po.refl w, by rw [h0]; exact s⟩, fun m σ' H' ⟨i, Gi, em, hi, p, sl⟩ => ?_⟩
  refine ⟨(i, decide (i < n)), ⟨hi, rfl⟩, Gi, p.w, sl, fun G2 H2 p2 => ?_⟩
  by_cases hin : i < n
  · show if decide (i < n) = true then _ else _
    rw [decide_eq_true hin]
    exact iteT ⟨fun σ3 H3 => ∃ G3, Po X.K M (ms (i + 1)) G H G3 H3 ∧ Sl X.K G3 σ3 (st (i + 1)), fun σ3 H3 ⟨G3, p3, s3⟩ => ⟨n - (i + 1), by omega, i + 1, G3, rfl, by omega, p3, s3⟩, i, hin, G2, p2.w, sl.up p2.g, fun σ3 G3 H3 p3 s3 => ⟨G3, p.trans (p2.trans p3), s3⟩⟩
  · show if decide (i < n) = true then _ else _
    rw [decide_eq_false hin]
    have e2 : i = n := by omega
    subst e2
    exact iteF (k σ' G2 H2 (p.trans p2) (sl.up p2.g))
/-- x += n -/
theorem sd_augI (n : Nat) {x : Str} {pos' : Pos} (hN : X.N.Nodup) (hx0 : ds[n]? = some (I i)) (he : PD X ds M e (I j) M1) (hi : X.N[n]? = some x := by rfl) (hx : Loc X.env.scope x := by first | exact Or.inl rfl | exact Or.inr rfl)
    (hf : X.fn x = true ∨ X.env.scope.names.lookup x = some .local := by first | exact .inl rfl | exact .inr rfl | assumption) : SD1 X ds M (.AugAssign (.Name x pos') .Add e pos) (.nx (ds.set n (I (i + j))) M1) :=
  ps_mono (ps_aug (i := n) hN hi hx he ip_add hf) fun D σ H ⟨G, w, s, k⟩ => by
    obtain ⟨v, e1, e2⟩ := s.val hx0 (by intro z; cases z)
    exact ⟨v, e1, G, w, s, fun y G' H' p hy => ⟨i, j, vk_int e2, vk_int hy, k _ G' H' p ((s.up p.g).set n (.int _))⟩⟩

/-! ### a call of a def that a name holds -/
theorem pd_callL {k n : Nat} {dvs : List V} {drs : List Sv} {F : FR} {FX : FE} {x y : Str} {p : Pos} {f : Addr} (m : Nat) (h : Fn X.prog X.w X.K X.mg X.base k y n dvs drs F FX) (hmy : X.mg y = some (.ref f)) (hsl : ds[m]? = some (.raw (.ref f))) (hr : Room k X.A) (ha : PDA X ds M (e :: es) rs M1) (hF : F (rs ++ drs) M1 r M2) (hn : (rs ++ drs).length = n := by rfl)
    (hN : X.N[m]? = some x := by rfl) (hv : Vis X.env.scope x := by first | exact Or.inl rfl | exact Or.inr (Or.inl rfl) | exact Or.inr (Or.inr rfl)) (hdb : (x == ("__debug__" : Str)) = false := by decide) (hcd : (x == ("__classdict__" : Str)) = false := by decide)
    (he : starEach (e :: es) X.env = (false, eval e X.env) :: starEach es X.env := by rfl) (hpl : (backTo pos (starEach es X.env)).any (·.1) = false := by rfl) : PD X ds M (.Call (.Name x p) (e :: es) [] pos) r M2 := by
  obtain ⟨⟨f', fd, ps, us, h1, h2, h3, h4, h5⟩, h6⟩ := h
  have ef : f' = f := by
    rw [hmy] at h2
    exact (Value.ref.inj (Option.some.inj h2)).symm
  subst ef
  refine pe_mono (pe_callL (i := m) h1 hr hN hv h3 h4 h5 (passL (X := X)) ha hdb hcd he hpl) fun σ H Q ⟨G, w, s, q⟩ => ?_
  obtain ⟨v, e1, e2⟩ := s.val hsl (by intro z; cases z)
  have e2' : v = .ref f' := e2
  subst e2'
  exact ⟨e1, G, w, s, fun vs G1 H1 p hv => ⟨G1, rs ++ drs, M1, by rw [List.length_append, hv.len, (h6 G1).len, ← List.length_append]; exact hn, p.w, hv.app (h6 G1), .inl ⟨r, M2, hF, fun v G' H' p2 hv2 => q v G' H' (p.trans p2) hv2⟩⟩⟩
end
end Cal
/-! CalH -/
namespace Cal
open PySem PySem.Spec PyProof.Rows L2
/-! ### values that are new things that change: whatever their addresses are -/
def cEN (K : PySem.W.Frag) (ds : List Sv) (M : Ms) (r : Addr × Addr → Sv) (M' : Addr × Addr → Ms) : TE := fun σ H Q => ∃ G, Wo K M G H ∧ Sl K G σ ds ∧ ∀ a v G' H', Po K M (M' a) G H G' H' → Vk K G' v (r a) → Q v H'
abbrev PDN (X : Cx) (ds : List Sv) (M : Ms) (e : Expr) (r : Addr × Addr → Sv) (M' : Addr × Addr → Ms) : Prop := PE X e (cEN X.K ds M r M')
abbrev FRN := List Sv → Ms → (Addr × Addr → Sv) → (Addr × Addr → Ms) → Prop
def spN (K : PySem.W.Frag) (n : Nat) (F : FRN) : Sp := fun vs H Q E => ∃ G rs M, vs.length = n ∧ Wo K M G H ∧ Vks K G vs rs ∧ ∃ r M', F rs M r M' ∧ ∀ a v G' H', Po K M (M' a) G H G' H' → Vk K G' v (r a) → Q v H'
structure FnN (P : Program) (w : World) (K : PySem.W.Frag) (mg : Str → Option Value) (base : Heap) (k : Nat) (x : Str) (n : Nat) (F : FRN) : Prop where
  ex : ∃ f fd ps, FnOk P w K mg base (L2.CX P w) k f fd ps (spN K n F) ∧ mg x = some (.ref f) ∧ PySem.W.keepIn K (.ref f) = true ∧ Binds K fd ps []
theorem spN_len {K : PySem.W.Frag} {n : Nat} {F : FRN} (vs : List V) (H : Hp) (Q : VK) (E : XK) (h : spN K n F vs H Q E) : vs.length = n := by
  obtain ⟨_, _, _, h, _⟩ := h
  exact h
section
variable {P : Program} {w : World} {K : PySem.W.Frag} {mg : Str → Option Value} {base : Heap}
theorem FnN.mono {k k' : Nat} {x : Str} {n : Nat} {F : FRN} (h : FnN P w K mg base k x n F) (l : k ≤ k') : FnN P w K mg base k' x n F := by
  obtain ⟨f, fd, ps, a, b⟩ := h.ex
  exact ⟨f, fd, ps, a.mono l, b⟩
theorem fnn_mk {x : Str} {params : Arguments} {body : List Stmt} {scope : Scope} {f : Addr} {fd : FuncData} {N ps : List Str} {k n : Nat} {F : FRN} (FD : FunD K x x params body scope [] [] f fd) (S : FnScope N ps scope)
    (hm : mg x = some (.ref f))
    (h : ∀ (kV doc pm : Value) (an : Option Addr) (cdv ct : Value) (us : List Value), us.length = ps.length → bindArgs (PySem.W.fnOf x x params body scope .none kV doc pm an cdv ct) ⟨us, []⟩ = pure (ps.zip us)) (hn : ps.length = n)
    (ok : ∀ cdv A outer s H E rs M r M', Room k (A.deeper (envOfC x scope s.heap.objs.size f cdv)) → rs.length = n → F rs M r M' → SD (Bx P w K mg base N x scope f cdv A outer s H E) (startD N.length rs) M body (.rn r M')) :
    FnN P w K mg base (k + 1) x n F := by
  refine ⟨f, fd, ps, ?_, hm, FD.kp, FD.bindsN h⟩
  refine FD.ok S (fun vs H Q E h => (spN_len vs H Q E h).trans hn.symm) fun cdv A outer s H vs Q E hr h => ?_
  obtain ⟨G, rs, M, hl, w0, hvs, r, M', hF, q⟩ := h
  exact ⟨_, ok cdv A outer s H E rs M r M' hr (hvs.len.symm.trans hl) hF, G, w0, Sl.start hvs, q⟩
end
section
variable {X : Cx} {ds ds' ds1 ds2 : List Sv} {M M' M0 M1 M2 : Ms} {a b c e elt tg : Expr} {es : List Expr} {ss body : List Stmt} {r ra rb : Sv} {rs : List Sv} {i j : Int} {pos : Pos} {R : Rs}
theorem sd_retN {r : Addr × Addr → Sv} {M' : Addr × Addr → Ms} (h : PDN X ds M e r M') : SD1 X ds M (.Return (some e) pos) (.rn r M') := ps_mono (ps_ret h) fun D σ H ⟨G, w, s, k⟩ => ⟨G, w, s, fun a v G' H' p hv => k a v G' H' p hv⟩
/-- a list that is new and will change -/
theorem pd_lstN (h : PDA X ds M es rs M1) (hl : rs.length ≤ 1000 := by exact Nat.le_of_ble_eq_true rfl) : PDN X ds M (.List es pos) (fun a => .raw (.ref a.1)) (fun a => (a.1, .lst rs) :: M1) :=
  pe_mono (pe_lst h) fun σ H Q ⟨G, w, s, k⟩ => ⟨G, w, s, fun vs G1 H1 p hv => ⟨by rw [hv.len]; exact Nat.le_of_lt (small1000 hl), fun l hn => k (l, l) (.ref l) _ _ (p.trans (Po.mnew p.w hn (m := .lst rs) (o := .lst vs) hv)) rfl⟩⟩
theorem pd_callN {k n : Nat} {F : FRN} {r : Addr × Addr → Sv} {M' : Addr × Addr → Ms} {x : Str} {p : Pos} (h : FnN X.prog X.w X.K X.mg X.base k x n F) (hr : Room k X.A) (ha : PDA X ds M (e :: es) rs M1) (hF : F rs M1 r M') (hn : rs.length = n := by rfl) (hg : Gl X x := by rfl)
    (hdb : (x == ("__debug__" : Str)) = false := by decide) (he : starEach (e :: es) X.env = (false, eval e X.env) :: starEach es X.env := by rfl) (hpl : (backTo pos (starEach es X.env)).any (·.1) = false := by rfl) :
    PDN X ds M (.Call (.Name x p) (e :: es) [] pos) r M' := by
  obtain ⟨f, fd, ps, h1, h2, h3, h4⟩ := h.ex
  refine pe_mono (pe_call (dvs := []) h1 hr hg h2 h3 h4 .nil (passL (X := X)) ha hdb he hpl) fun σ H Q ⟨G, w, s, q⟩ => ⟨G, w, s, fun vs G1 H1 p hv => ?_⟩
  show spN X.K n F (vs ++ []) H1 Q _
  rw [List.append_nil]
  exact ⟨G1, rs, M1, by rw [hv.len]; exact hn, p.w, hv, r, M', hF, fun a v G' H' p2 hv2 => q a v G' H' (p.trans p2) hv2⟩
/-- [elt for tg in [d]], where elt is new and will change -/
abbrev tLcN (X : Cx) (scope : Scope) (elt : Expr) (m : MO) : TE := fun σ H Q => ∃ z : List Sv × Ms, (∀ s H C cl fp, PDN (Zb X scope s H C cl fp) z.1 z.2 elt (fun a => .raw (.ref a.1)) (fun a => (a.1, m) :: z.2)) ∧ cEN X.K z.1 z.2 (fun a => .raw (.ref a.1)) (fun a => (a.1, m) :: z.2) σ H Q
theorem pd_lc1N {scope : Scope} (own : List (Str × Nat)) {d : D} {m : MO} (hc : X.calm = true) (hN : X.N.Nodup) (hB : blkC X.N X.env.scope scope own = true) (he : PD X ds M e (.dat (.list [d])) M1)
    (hT : ∃ eis ts, (∀ t ∈ ts, t ∈ own.map (·.2)) ∧ (∀ s H C cl fp, GD (Zb X scope s H C cl fp) tg (.dat d) (wipeD ds (own.map (·.2))) eis ts) ∧ ∀ q s H C cl fp, PDN (Zb X scope s H C cl fp) eis (q :: M1) elt (fun a => .raw (.ref a.1)) (fun a => (a.1, m) :: q :: M1))
    (hs : ∀ x, foldedSetIterable e X.env x = pure x := by intro _; rfl) :
    PDN X ds M (.ListComp elt [⟨tg, e, [], 0⟩] scope pos) (fun a => .raw (.ref a.1)) (fun a => (a.2, m) :: (a.1, .lst [.raw (.ref a.2)]) :: M1) := by
  refine pe_mono (pe_lc (own := own) (g := gLc X scope ds (own.map (·.2)) tg) (te := tLcN X scope elt m) hc hN (pi_list he) (blkOk_by hB) (lc_g (own := own)) lc_t (fun s H C cl fp => pe_ex (ι := List Sv × Ms) (p := fun z => ∀ s H C cl fp, PDN (Zb X scope s H C cl fp) z.1 z.2 elt (fun a => .raw (.ref a.1)) (fun a => (a.1, m) :: z.2)) (t := fun z => cEN X.K z.1 z.2 (fun a => .raw (.ref a.1)) (fun a => (a.1, m) :: z.2)) fun _ h => h s H C cl fp) hs) fun σ H Q ⟨G, w, s, k⟩ => ?_
  obtain ⟨eis, ts, hts, hg, hel⟩ := hT
  refine ⟨G, w, s, fun v G1 H1 p1 hv => ?_⟩
  obtain ⟨a, vs, rfl, h1, h2⟩ := vk_lst hv
  have hl := dps_len h2
  refine ⟨a, rfl, ⟨vs, p1.w.ex.seq h1⟩, fun Dl hD => ?_⟩
  have hD0 : H Dl = none := none_back p1 hD
  refine lc_list (K := X.K) (a := a) (g := gLc X scope ds (own.map (·.2)) tg) (tt := tLcT X scope []) (te := tLcN X scope elt m) (Qd := fun H' => Q (.ref Dl) H') (xs := vs)
    (fun i H' => ∃ Gi, Same G1 Gi ∧ if i = 0 then Po X.K M ((Dl, .lst []) :: M1) G H Gi H' else ∃ l, Po X.K M ((l, m) :: (Dl, .lst [.raw (.ref l)]) :: M1) G H Gi H')
    ⟨G1, Same.refl _, by rw [if_pos rfl]; exact p1.trans (Po.mnew p1.w hD (m := .lst []) (o := .lst []) .nil)⟩ (fun i H' _ ⟨Gi, sg, p⟩ => ?_) (fun i x H' hx ⟨Gi, sg, p⟩ => ?_) (fun H' ⟨Gi, sg, p⟩ => ?_)
  · by_cases hi : i = 0
    · rw [if_pos hi] at p
      exact (sg.trans p.w.ex).seq h1
    · rw [if_neg hi] at p
      obtain ⟨l, p⟩ := p
      exact (sg.trans p.w.ex).seq h1
  · have hi : i < vs.length := (List.getElem?_eq_some_iff.mp hx).1
    have hi0 : i = 0 := by rw [hl] at hi; simp at hi; omega
    subst hi0
    rw [if_pos rfl] at p
    obtain ⟨v, e1, e2⟩ := dps_get h2 (i := 0) (d := d) rfl
    rw [hx] at e1
    cases e1
    refine ⟨(d, eis, ts), hg, _, Gi, p.w, (s.up (p1.g.trans sg)).wipe (own.map (·.2)), dpUp sg _ e2, fun σ2 s2 chg => ⟨(chg (own.map (·.2)) hts).trans wipe_idem, (eis, (Dl, .lst []) :: M1, true), fun s H C cl fp => pts0, Gi, p.w, s2, fun G3 H3 p3 => iteT ?_⟩⟩
    refine ⟨(eis, (Dl, .lst []) :: M1), fun s H C cl fp => hel _ s H C cl fp, G3, p3.w, s2.up p3.g, fun al y G4 H4 p4 hy => ?_⟩
    have hy' : y = .ref al.1 := hy
    subst hy'
    have p5 := p.trans (p3.trans p4)
    obtain ⟨ws, q1, q2, q3⟩ := Wo.lst (A := [(al.1, m)]) p5.w
    cases q2
    refine ⟨[], q1, Nat.zero_lt_of_lt (small1000 (Nat.zero_le 1000)), G4, sg.trans (p3.g.trans p4.g), ?_⟩
    rw [if_neg (by decide)]
    exact ⟨al.1, p5.trans (Po.mput (A := [(al.1, m)]) p5.w (m' := .lst [.raw (.ref al.1)]) (o' := .lst ([] ++ [V.ref al.1])) (show Vks X.K G4 ([] ++ [V.ref al.1]) [.raw (.ref al.1)] from .cons rfl .nil))⟩
  · rw [hl, if_neg (by simp)] at p
    obtain ⟨l, p⟩ := p
    exact k (Dl, l) _ _ _ p rfl
abbrev gFN (X : Cx) (tg : Expr) (ds : List Sv) (ds1 : Addr × Addr → List Sv) (ts : List Nat) : TG := fun v σ H Q => ∃ a : Addr × Addr, GD X tg (.raw (.ref a.2)) ds (ds1 a) ts ∧ cG X.K (.raw (.ref a.2)) ds (ds1 a) ts v σ H Q
abbrev mFN (m : MO) (M : Ms) (a : Addr × Addr) : Ms := (a.2, m) :: (a.1, .lst [.raw (.ref a.2)]) :: M
abbrev tFN (X : Cx) (body : List Stmt) (ds1 ds2 : Addr × Addr → List Sv) (m m2 : MO) (M1 : Ms) : TS := fun D σ H => ∃ a : Addr × Addr, SD X (ds1 a) (mFN m M1 a) body (.nx (ds2 a) (mFN m2 M1 a)) ∧ cS X.K (ds1 a) (mFN m M1 a) (.nx (ds2 a) (mFN m2 M1 a)) D σ H
abbrev tRN (X : Cx) (ss : List Stmt) (ds2 : Addr × Addr → List Sv) (m2 : MO) (M1 : Ms) (r : Sv) : TS := fun D σ H => ∃ a : Addr × Addr, SD X (ds2 a) (mFN m2 M1 a) ss (.rt r (mFN m2 M1 a)) ∧ cS X.K (ds2 a) (mFN m2 M1 a) (.rt r (mFN m2 M1 a)) D σ H
/-- for tg in (a new list of one new thing): .., and what stands behind it -/
theorem sd_forN {m m2 : MO} (ds1 ds2 : Addr × Addr → List Sv) {ts : List Nat} (hp : PassesOwn (model X.prog X.w) X.A X.env X.xe) (hc : X.calm = true) (he : PDN X ds M e (fun a => .raw (.ref a.1)) (fun a => mFN m M1 a))
    (hg : ∀ a : Addr × Addr, GD X tg (.raw (.ref a.2)) ds (ds1 a) ts) (hb : ∀ a, SD X (ds1 a) (mFN m M1 a) body (.nx (ds2 a) (mFN m2 M1 a)))
    (hr : ∀ a, SD X (ds2 a) (mFN m2 M1 a) ss (.rt r (mFN m2 M1 a))) (hfs : ∀ x, foldedSetIterable e X.env x = pure x := by intro _; rfl) :
    SD X ds M (.For tg e body [] pos :: ss) (.rt r M1) := by
  refine pss_mono (pss_cons (ps_for (g := gFN X tg ds ds1 ts) (tb := tFN X body ds1 ds2 m m2 M1) hp hc (pi_list he)
    (pg_ex (ι := Addr × Addr) (p := fun a => GD X tg (.raw (.ref a.2)) ds (ds1 a) ts) (t := fun a => cG X.K (.raw (.ref a.2)) ds (ds1 a) ts) fun a h => h)
    (pss_ex (ι := Addr × Addr) (p := fun a => SD X (ds1 a) (mFN m M1 a) body (.nx (ds2 a) (mFN m2 M1 a))) (t := fun a => cS X.K (ds1 a) (mFN m M1 a) (.nx (ds2 a) (mFN m2 M1 a))) fun a h => h) hfs)
    (show PSs X ss (tRN X ss ds2 m2 M1 r) from pss_ex (ι := Addr × Addr) (p := fun a => SD X (ds2 a) (mFN m2 M1 a) ss (.rt r (mFN m2 M1 a))) (t := fun a => cS X.K (ds2 a) (mFN m2 M1 a) (.rt r (mFN m2 M1 a))) fun a h => h)) fun D σ H ⟨G, w, s, k⟩ => ?_
  refine ⟨G, w, s, fun a v G1 H1 p1 hv => ?_⟩
  have hv' : v = .ref a.1 := hv
  subst hv'
  obtain ⟨vs, q1, q2, q3⟩ := Wo.lst (A := [(a.2, m)]) p1.w
  obtain ⟨u, eu, hu⟩ := vks1 q2
  have hu' : u = .ref a.2 := hu
  subst eu hu'
  refine ⟨a.1, rfl, ⟨_, SqL.of q1⟩, for_list (K := X.K) (g := gFN X tg ds ds1 ts) (tb := tFN X body ds1 ds2 m m2 M1) (D := { nx := tRN X ss ds2 m2 M1 r D, rt := D.rt, bk := D.bk, ct := D.ct }) (xs := [V.ref a.2]) (fun i σ' H' => ∃ Gi, if i = 0 then Po X.K M (mFN m M1 a) G H Gi H' ∧ Sl X.K Gi σ' ds else Po X.K M (mFN m2 M1 a) G H Gi H' ∧ Sl X.K Gi σ' (ds2 a)) ⟨G1, by rw [if_pos rfl]; exact ⟨p1, s.up p1.g⟩⟩ (fun i σ' H' _ ⟨Gi, p⟩ => ?_) (fun i x σ' H' hx ⟨Gi, p⟩ => ?_) (fun σ' H' ⟨Gi, p⟩ => ?_)⟩
  · by_cases hi : i = 0
    · rw [if_pos hi] at p
      obtain ⟨ws, z1, z2, _⟩ := Wo.lst (A := [(a.2, m)]) p.1.w
      obtain ⟨u, eu, hu⟩ := vks1 z2
      have hu' : u = .ref a.2 := hu
      subst eu hu'
      exact SqL.of z1
    · rw [if_neg hi] at p
      obtain ⟨ws, z1, z2, _⟩ := Wo.lst (A := [(a.2, m2)]) p.1.w
      obtain ⟨u, eu, hu⟩ := vks1 z2
      have hu' : u = .ref a.2 := hu
      subst eu hu'
      exact SqL.of z1
  · have hi : i < 1 := (List.getElem?_eq_some_iff.mp hx).1
    have hi0 : i = 0 := by omega
    subst hi0
    rw [if_pos rfl] at p
    cases hx
    exact ⟨a, hg a, _, Gi, p.1.w, p.2, rfl, fun σ2 s2 _ => ⟨a, hb a, Gi, p.1.w, s2, fun σ3 G3 H3 p3 s3 => ⟨G3, by rw [if_neg (by decide)]; exact ⟨p.1.trans p3, s3⟩⟩⟩⟩
  · rw [if_neg (by simp)] at p
    exact ⟨a, hr a, Gi, p.1.w, p.2, fun v G' H' p2 hv => k v G' H' (p.1.trans p2).drop.drop hv⟩
end
end Cal
/-! CalI -/
namespace Cal
open PySem PySem.Spec PyProof.Rows L2
section
variable {X : Cx} {ds ds' ds1 ds2 : List Sv} {M M' M0 M1 M2 : Ms} {a b c e elt tg : Expr} {es : List Expr} {ss body : List Stmt} {r ra rb : Sv} {rs : List Sv} {i j k : Int} {pos : Pos} {R : Rs}
/-- a < b < c -/
theorem pdt_chainLt (ha : PD X ds M a (I i) M) (hb : PD X ds M b (I j) M) (hc : PD X ds M c (I k) M) (hm : lastMarks [.Lt, .Lt] [b, c] = false := by with_unfolding_all rfl) : PDT X ds M (.Compare a [.Lt, .Lt] [b, c] pos) (decide (i < j) && decide (j < k)) M :=
  pt_mono (pt_chain op_lt op_lt ha hb hc hm) fun σ H Q ⟨G, w, s, q⟩ => ⟨G, w, s, fun v G1 H1 p1 hv => ⟨G1, p1.w, s.up p1.g, fun v2 G2 H2 p2 hv2 => by
    cases vk_int hv
    cases vk_int hv2
    refine ⟨i, j, rfl, rfl, decide (i < j), rfl, ?_⟩
    by_cases h : i < j
    · rw [decide_eq_true h] at q ⊢
      refine iteT ⟨G2, p2.w, s.up (p1.g.trans p2.g), fun v3 G3 H3 p3 hv3 => ?_⟩
      cases vk_int hv3
      exact ⟨j, k, rfl, rfl, _, rfl, q _ _ (p1.trans (p2.trans p3))⟩
    · rw [decide_eq_false h] at q ⊢
      exact iteF ⟨false, rfl, q _ _ (p1.trans p2)⟩⟩⟩
/-- a <= b <= c, as a value -/
theorem pd_chainLe (ha : PD X ds M a (I i) M) (hb : PD X ds M b (I j) M) (hc : PD X ds M c (I k) M) (hm : lastMarks [.LtE, .LtE] [b, c] = false := by with_unfolding_all rfl) : PD X ds M (.Compare a [.LtE, .LtE] [b, c] pos) (B (decide (i ≤ j) && decide (j ≤ k))) M :=
  pe_mono (pe_chain op_le op_le ha hb hc hm) fun σ H Q ⟨G, w, s, q⟩ => ⟨G, w, s, fun v G1 H1 p1 hv => ⟨G1, p1.w, s.up p1.g, fun v2 G2 H2 p2 hv2 => by
    cases vk_int hv
    cases vk_int hv2
    refine ⟨i, j, rfl, rfl, decide (i ≤ j), rfl, ?_⟩
    by_cases h : i ≤ j
    · rw [decide_eq_true h] at q ⊢
      refine iteT ⟨G2, p2.w, s.up (p1.g.trans p2.g), fun v3 G3 H3 p3 hv3 => ?_⟩
      cases vk_int hv3
      exact ⟨j, k, rfl, rfl, q _ _ _ (p1.trans (p2.trans p3)) (.bl _)⟩
    · rw [decide_eq_false h] at q ⊢
      exact iteF (q _ _ _ (p1.trans p2) (.bl _))⟩⟩
end
end Cal
/-! CalJ -/
namespace Cal
open PySem PySem.Spec PyProof.Rows L2 LamX
abbrev Tb := List (Addr × Str)
def Lsts (M : Ms) : Prop := ∀ p ∈ M, ∀ o, p.2 ≠ .any o
theorem MoK.plain {K : PySem.W.Frag} {G : Hp} {m : MO} {o : HO} (hm : ∀ o', m ≠ .any o') (h : MoK K G m o) : (∀ ps, o ≠ .tbl ps) ∧ ∀ φ, o ≠ .ext φ := by
  cases m with
  | any o' => exact absurd rfl (hm o')
  | lst rs =>
    obtain ⟨_, e, _⟩ := h.lst_of
    subst e
    exact ⟨fun _ z => (nomatch z), fun _ z => (nomatch z)⟩
  | dk rs =>
    obtain ⟨_, e, _⟩ := h.dk_of
    subst e
    exact ⟨fun _ z => (nomatch z), fun _ z => (nomatch z)⟩
  | dt rs =>
    obtain ⟨_, e, _⟩ := h.dt_of
    subst e
    exact ⟨fun _ z => (nomatch z), fun _ z => (nomatch z)⟩
  | fk od kvs rs =>
    obtain ⟨e, _⟩ := h.fk_of
    subst e
    exact ⟨fun _ z => (nomatch z), fun _ z => (nomatch z)⟩
  | ft od kvs rs =>
    obtain ⟨e, _⟩ := h.ft_of
    subst e
    exact ⟨fun _ z => (nomatch z), fun _ z => (nomatch z)⟩
  | ob C fs =>
    obtain ⟨_, _, e, _⟩ := h.ob_of
    subst e
    exact ⟨fun _ z => (nomatch z), fun _ z => (nomatch z)⟩
theorem lsts_nil : Lsts [] := fun p hp => absurd hp (by simp)
theorem lsts_cons {l : Addr} {rs : List Sv} {M : Ms} (h : Lsts M) : Lsts ((l, .lst rs) :: M) := fun p hp => by
  rcases List.mem_cons.mp hp with e | hp
  · rw [e]; exact fun o z => (nomatch z)
  · exact h p hp
theorem not_in {K : PySem.W.Frag} {M : Ms} {G H : Hp} (hM : Lsts M) (w : Wo K M G H) {a : Addr} {o : HO} (h : H a = some o) (ho : (∃ ps, o = .tbl ps) ∨ ∃ φ, o = .ext φ) : ∀ p ∈ M, p.1 ≠ a := fun p hp e => by
  obtain ⟨⟨o', h1, h2⟩, _⟩ := w.mu p hp
  obtain ⟨k1, k2⟩ := h2.plain (hM p hp)
  rw [e, h] at h1
  rcases ho with ⟨ps, z⟩ | ⟨φ, z⟩
  · exact k1 ps ((Option.some.inj h1).symm.trans z)
  · exact k2 φ ((Option.some.inj h1).symm.trans z)
theorem tabs_po {K : PySem.W.Frag} {T : Tb} {M M' : Ms} {G H G' H' : Hp} (hM : Lsts M) (t : Tabs T H) (w : Wo K M G H) (p : Po K M M' G H G' H') : Tabs T H' := fun q hq => by
  obtain ⟨ps, h1, h2, h3⟩ := t q hq
  refine ⟨ps, p.fr _ _ h1 (not_in hM w h1 (.inl ⟨_, rfl⟩)), h2, fun pos cv hc => ?_⟩
  obtain ⟨c, e1, e2⟩ := h3 pos cv hc
  exact ⟨c, e1, p.fr _ _ e2 (not_in hM w e2 (.inr ⟨_, rfl⟩))⟩
theorem wo_ext {K : PySem.W.Frag} {M : Ms} {G H H1 : Hp} (hM : Lsts M) (w : Wo K M G H) (e : ExtN H H1) : Wo K M G H1 where
  ex := fun a o h => e a o (w.ex a o h) fun ps z => w.nt a ps (by rw [h, z])
  mu := fun p hp => by
    obtain ⟨⟨o', h1, h2⟩, h3⟩ := w.mu p hp
    exact ⟨⟨o', e _ _ h1 (h2.plain (hM p hp)).1, h2⟩, h3⟩
  nd := w.nd
  nt := w.nt
/-! ### the law's own statements: only what holds behind them is told -/
inductive Rw where
  | nx (ds : List Sv) (M : Ms) | rt (b : Bool)
def cW (K : PySem.W.Frag) (T : Tb) (ds : List Sv) (M : Ms) : Rw → TS
  | .nx ds' M' => fun D σ H => ∃ G, Wo K M G H ∧ Tabs T H ∧ Sl K G σ ds ∧ ∀ σ' G' H', Wo K M' G' H' → Tabs T H' → Sl K G' σ' ds' → D.nx σ' H'
  | .rt b => fun D σ H => ∃ G, Wo K M G H ∧ Tabs T H ∧ Sl K G σ ds ∧ ∀ H', D.rt (.bl b) H'
abbrev WD (X : Cx) (T : Tb) (ds : List Sv) (M : Ms) (ss : List Stmt) (R : Rw) : Prop := PSs X ss (cW X.K T ds M R)
abbrev WD1 (X : Cx) (T : Tb) (ds : List Sv) (M : Ms) (st : Stmt) (R : Rw) : Prop := PS X st (cW X.K T ds M R)
section
variable {X : Cx} {T : Tb} {ds ds' ds1 ds2 : List Sv} {M M' M0 M1 M2 : Ms} {a b c e elt tg : Expr} {es : List Expr} {st : Stmt} {ss body : List Stmt} {r ra rb : Sv} {rs : List Sv} {i j k : Int} {pos : Pos} {R : Rw}
theorem wd_sd (hM : Lsts M) (h : SD1 X ds M st (.nx ds1 M1)) : WD1 X T ds M st (.nx ds1 M1) := ps_mono h fun D σ H ⟨G, w, t, s, k⟩ => ⟨G, w, s, fun σ' G' H' p sl => k σ' G' H' p.w (tabs_po hM t w p) sl⟩
theorem wd_cons (h1 : WD1 X T ds M st (.nx ds1 M1)) (h2 : WD X T ds1 M1 ss R) : WD X T ds M (st :: ss) R := pss_mono (pss_cons h1 h2) fun D σ H q => by
  cases R with
  | nx ds2 M2 =>
    obtain ⟨G, w, t, s, k⟩ := q
    exact ⟨G, w, t, s, fun σ' G' H' w' t' s' => ⟨G', w', t', s', k⟩⟩
  | rt b =>
    obtain ⟨G, w, t, s, k⟩ := q
    exact ⟨G, w, t, s, fun σ' G' H' w' t' s' => ⟨G', w', t', s', k⟩⟩
theorem wd_one (h : WD1 X T ds M st R) : WD X T ds M [st] R := pss_one h
/-- a def that answers True, and may make code objects -/
def spW (K : PySem.W.Frag) (T : Tb) : Sp := fun vs H Q _ => vs.length = 0 ∧ ∃ G, Wo K [] G H ∧ Tabs T H ∧ ∀ H', Q (.bl true) H'
structure FnW (P : Program) (w : World) (K : PySem.W.Frag) (mg : Str → Option Value) (base : Heap) (k : Nat) (x : Str) (T : Tb) : Prop where
  ex : ∃ f fd, FnOk P w K mg base (L2.CX P w) k f fd [] (spW K T) ∧ mg x = some (.ref f) ∧ PySem.W.keepIn K (.ref f) = true ∧ Binds K fd [] []
theorem wd_retC {k : Nat} {x : Str} {p pos' : Pos} (h : FnW X.prog X.w X.K X.mg X.base k x T) (hr : Room k X.A) (hg : Gl X x := by rfl) (hdb : (x == ("__debug__" : Str)) = false := by decide) : WD1 X T ds M (.Return (some (.Call (.Name x p) [] [] pos)) pos') (.rt true) := by
  obtain ⟨f, fd, h1, h2, h3, h4⟩ := h.ex
  refine ps_mono (ps_ret (pe_call0 (dvs := []) h1 hr hg h2 h3 h4 .nil (passL (X := X)) hdb)) fun D σ H ⟨G, w, t, s, q⟩ => ?_
  exact ⟨rfl, G, ⟨w.ex, fun p hp => absurd hp (by simp), List.nodup_nil, w.nt⟩, t, fun H' => q H'⟩
abbrev tWN (X : Cx) (T : Tb) (body : List Stmt) (ds1 ds2 : Addr × Addr → List Sv) (m m2 : MO) (M1 : Ms) : TS := fun D σ H => ∃ a : Addr × Addr, WD X T (ds1 a) (mFN m M1 a) body (.nx (ds2 a) (mFN m2 M1 a)) ∧ cW X.K T (ds1 a) (mFN m M1 a) (.nx (ds2 a) (mFN m2 M1 a)) D σ H
abbrev tWR (X : Cx) (T : Tb) (ss : List Stmt) (ds2 : Addr × Addr → List Sv) (m2 : MO) (M1 : Ms) (b : Bool) : TS := fun D σ H => ∃ a : Addr × Addr, WD X T (ds2 a) (mFN m2 M1 a) ss (.rt b) ∧ cW X.K T (ds2 a) (mFN m2 M1 a) (.rt b) D σ H
theorem wd_forN {m m2 : MO} {bb : Bool} (ds1 ds2 : Addr × Addr → List Sv) {ts : List Nat} (hM0 : Lsts M) (hp : PassesOwn (model X.prog X.w) X.A X.env X.xe) (hc : X.calm = true) (he : PDN X ds M e (fun a => .raw (.ref a.1)) (fun a => mFN m M1 a))
    (hg : ∀ a : Addr × Addr, GD X tg (.raw (.ref a.2)) ds (ds1 a) ts) (hb : ∀ a, WD X T (ds1 a) (mFN m M1 a) body (.nx (ds2 a) (mFN m2 M1 a)))
    (hr : ∀ a, WD X T (ds2 a) (mFN m2 M1 a) ss (.rt bb)) (hfs : ∀ x, foldedSetIterable e X.env x = pure x := by intro _; rfl) :
    WD X T ds M (.For tg e body [] pos :: ss) (.rt bb) := by
  refine pss_mono (pss_cons (ps_for (g := gFN X tg ds ds1 ts) (tb := tWN X T body ds1 ds2 m m2 M1) hp hc (pi_list he)
    (pg_ex (ι := Addr × Addr) (p := fun a => GD X tg (.raw (.ref a.2)) ds (ds1 a) ts) (t := fun a => cG X.K (.raw (.ref a.2)) ds (ds1 a) ts) fun a h => h)
    (pss_ex (ι := Addr × Addr) (p := fun a => WD X T (ds1 a) (mFN m M1 a) body (.nx (ds2 a) (mFN m2 M1 a))) (t := fun a => cW X.K T (ds1 a) (mFN m M1 a) (.nx (ds2 a) (mFN m2 M1 a))) fun a h => h) hfs)
    (show PSs X ss (tWR X T ss ds2 m2 M1 bb) from pss_ex (ι := Addr × Addr) (p := fun a => WD X T (ds2 a) (mFN m2 M1 a) ss (.rt bb)) (t := fun a => cW X.K T (ds2 a) (mFN m2 M1 a) (.rt bb)) fun a h => h)) fun D σ H ⟨G, w, t, s, k⟩ => ?_
  refine ⟨G, w, s, fun a v G1 H1 p1 hv => ?_⟩
  have t1 := tabs_po hM0 t w p1
  have hv' : v = .ref a.1 := hv
  subst hv'
  obtain ⟨vs, q1, q2, q3⟩ := Wo.lst (A := [(a.2, m)]) p1.w
  obtain ⟨u, eu, hu⟩ := vks1 q2
  have hu' : u = .ref a.2 := hu
  subst eu hu'
  refine ⟨a.1, rfl, ⟨_, SqL.of q1⟩, for_list (K := X.K) (g := gFN X tg ds ds1 ts) (tb := tWN X T body ds1 ds2 m m2 M1) (D := { nx := tWR X T ss ds2 m2 M1 bb D, rt := D.rt, bk := D.bk, ct := D.ct }) (xs := [V.ref a.2]) (fun i σ' H' => ∃ Gi, Tabs T H' ∧ if i = 0 then Wo X.K (mFN m M1 a) Gi H' ∧ Sl X.K Gi σ' ds else Wo X.K (mFN m2 M1 a) Gi H' ∧ Sl X.K Gi σ' (ds2 a)) ⟨G1, t1, by rw [if_pos rfl]; exact ⟨p1.w, s.up p1.g⟩⟩ (fun i σ' H' _ ⟨Gi, ti, p⟩ => ?_) (fun i x σ' H' hx ⟨Gi, ti, p⟩ => ?_) (fun σ' H' ⟨Gi, ti, p⟩ => ?_)⟩
  · by_cases hi : i = 0
    · rw [if_pos hi] at p
      obtain ⟨ws, z1, z2, _⟩ := Wo.lst (A := [(a.2, m)]) p.1
      obtain ⟨u, eu, hu⟩ := vks1 z2
      have hu' : u = .ref a.2 := hu
      subst eu hu'
      exact SqL.of z1
    · rw [if_neg hi] at p
      obtain ⟨ws, z1, z2, _⟩ := Wo.lst (A := [(a.2, m2)]) p.1
      obtain ⟨u, eu, hu⟩ := vks1 z2
      have hu' : u = .ref a.2 := hu
      subst eu hu'
      exact SqL.of z1
  · have hi : i < 1 := (List.getElem?_eq_some_iff.mp hx).1
    have hi0 : i = 0 := by omega
    subst hi0
    rw [if_pos rfl] at p
    cases hx
    exact ⟨a, hg a, _, Gi, p.1, p.2, rfl, fun σ2 s2 _ => ⟨a, hb a, Gi, p.1, ti, s2, fun σ3 G3 H3 w3 t3 s3 => ⟨G3, t3, by rw [if_neg (by decide)]; exact ⟨w3, s3⟩⟩⟩⟩
  · rw [if_neg (by simp)] at p
    exact ⟨a, hr a, Gi, p.1, ti, p.2, k⟩
end
/-! ### try: return what() / except E1: return t1 / .. -/
abbrev TT9 (K : PySem.W.Frag) (es : List (Addr × Str)) : (XK → Hp → VK → Prop) → Hp → VK → Prop := fun tl H Q => tl (fun cls _ H' => ∃ p ∈ es, cls = .ref p.1 ∧ Q (.str p.2) H') H Q
abbrev wc9 (es : List (Addr × Str)) : List (Value × (Addr → Value → Option Addr → TS)) := es.map fun p => (Value.ref p.1, fun _ _ _ => fun D _ H => D.rt (.str p.2) H)
theorem many9 {K : PySem.W.Frag} {D : Ends} {σ : L2.St} {H : Hp} {d : Option Addr} {p : Addr × Str} (h : D.rt (.str p.2) H) : ∀ (es : List (Addr × Str)), p ∈ es → (∀ q ∈ es, PySem.W.exmOne K (.ref p.1) (.ref q.1) = some (decide (p = q))) → wMany K (fun _ _ _ _ => False) D (wc9 es) (.ref p.1) d σ H
  | [], hp, _ => absurd hp (by simp)
  | q :: es, hp, hx => by
    refine ⟨decide (p = q), hx q (by simp), fun hb a _ => ?_, fun hb => ?_⟩
    · rw [← of_decide_eq_true hb]
      exact h
    · have ne := of_decide_eq_false hb
      refine many9 h es ?_ fun q hq => hx q (by simp [hq])
      rcases List.mem_cons.mp hp with e | e
      · exact absurd e ne
      · exact e
section
variable {X : Cx}
theorem told9_gives {es : List (Addr × Str)} {Ng : List Str} {x a q : Str} {sg : Scope} {g : Addr} {cdg : Value} {h₀ : ExceptHandler} {hds : List ExceptHandler} {p1 p2 p3 p8 : Pos} (hx : ∀ p ∈ es, ∀ q ∈ es, PySem.W.exmOne X.K (.ref p.1) (.ref q.1) = some (decide (p = q)))
    (hh : ∀ (s : Shared) (H : Hp), HdsOk (cxOf C8.CX0 X.prog X.w X.K X.mg X.base Ng x sg g cdg X.A X.stack s H C8.E0).nox (h₀ :: hds) (wc9 es)) (h0 : ∀ f : Addr, (L2.start Ng [V.ref f])[0]? = some (some (V.ref f))) :
    GivesTo X Ng x sg g cdg [.Try [.Return (some (.Call (.Name a p1) [] [] p2)) p3] (h₀ :: hds) [] [] p8] a q (TT9 X.K es) := by
  intro f c' s H Q tl act hc h
  refine ⟨_, pss_one (ps_try_many (X := (cxOf C8.CX0 X.prog X.w X.K X.mg X.base Ng x sg g cdg X.A X.stack s H C8.E0).nox) (Wout := fun _ _ _ _ => False) (l := wc9 es)
      (tb := fun W D σ H => ∃ Ech : XK, (∀ cls d σ' H', Ech cls d H' → W cls d σ' H') ∧ σ[0]? = some (some (.ref f)) ∧ H c' = some (CodeO c' q) ∧ tl Ech H D.rt)
      rfl rfl LamX.takes0 (fun W pn xe tk _ => ?_) (hh s H)), ?_⟩
  · refine ⟨fun pins s' σ H' D I h' => ?_⟩
    obtain ⟨Ech, hW, h1, h2, h3⟩ := h'
    exact (pss_one (ps_ret (pos := p3) (act W pn xe Ech p1 p2 tk hW))).run pins s' σ H' D I ⟨h1, h2, h3⟩
  · refine ⟨fun cls _ H' => ∃ p ∈ es, cls = .ref p.1 ∧ Q (.str p.2) H', fun cls d σ' H' hE => ?_, h0 f, hc, h⟩
    obtain ⟨p, hp, e, hq⟩ := hE
    rw [e]
    exact many9 hq es hp (hx p hp)
/-- name = told(lambda: ..) -/
theorem wd_setTold {T : Tb} {ds : List Sv} {M : Ms} {es : List (Addr × Str)} {call : Expr} {t : XK → TE} {r : Sv} (i : Nat) {y : Str} {py pos : Pos} (hM : Lsts M) (hpe : PE X call (tLam T (TT9 X.K es) t)) (hq : ∀ σ H Q, cE X.K ds M r M σ H Q → TT9 X.K es (fun E H' Q' => t E σ H' Q') H Q)
    (hN : X.N.Nodup) (hi : X.N[i]? = some y := by rfl) (hx : Loc X.env.scope y := by first | exact Or.inl rfl | exact Or.inr rfl) (hs : swapsWith call (some (.Name y py)) pos.line X.env = pure false := by rfl) (hf : X.fn y = true ∨ X.env.scope.names.lookup y = some .local := by first | exact .inl rfl | exact .inr rfl | assumption) :
    WD1 X T ds M (.Assign [.Name y py] call pos) (.nx (ds.set i r) M) := by
  refine ps_mono (ps_set (i := i) hN hi hx hpe hs hf) fun D σ H ⟨G, w, tt, s, k⟩ => ?_
  refine ⟨tt, fun H1 eN T1 => hq σ H1 _ ⟨G, wo_ext hM w eN, s, fun v G' H' p hv => ?_⟩⟩
  exact k _ G' H' p.w (tabs_po hM T1 (wo_ext hM w eN) p) ((s.up p.g).set i hv)
theorem told_ret {es : List (Addr × Str)} {K : PySem.W.Frag} {ds : List Sv} {M : Ms} {r : Sv} : ∀ σ H Q, cE K ds M r M σ H Q → TT9 K es (fun _ H' Q' => cE K ds M r M σ H' Q') H Q := fun _ _ _ q => q
theorem told_raise {es : List (Addr × Str)} {K : PySem.W.Frag} {ds : List Sv} {M : Ms} {p : Addr × Str} (hp : p ∈ es) : ∀ σ H Q, cE K ds M (.dat (.str p.2)) M σ H Q → TT9 K es (fun E H' Q' => cEX K (wE E) ds M p.1 σ H' Q') H Q := fun σ H Q ⟨G, w, s, k⟩ => ⟨G, w, s, fun G' H' pp => ⟨p, hp, rfl, k _ G' H' pp (.str _)⟩⟩
end
end Cal
/-! CalK -/
namespace Cal
open PySem PySem.Spec PyProof.Rows L2 LamX
/-! ### a lambda that captures nothing, kept in a thing -/
structure Lf where
  qual : Str
  params : Arguments
  body : Expr
  scope : Scope
  cl : List (Str × Addr)
def LamO (f : Addr) (L : Lf) (c' : Addr) : HO := .ext fun h => ∃ (pm ctv : Value), h.get? f = some (PySem.W.kla_obj "<lambda>" L.qual L.params L.body L.scope L.cl pm c' ctv)
section
variable {X : Cx} {pins : List (Addr × Obj)} {σ : L2.St} {H : Hp} {s : Shared}
theorem inv_lam {L : Lf} {c' : Addr} {o : Obj} {t' : Nat} {pm ctv : Value} (I : Inv X pins σ H s) (ho : o = PySem.W.kla_obj "<lambda>" L.qual L.params L.body L.scope L.cl pm c' ctv) :
    Inv X pins σ (upd H s.heap.objs.size (LamO s.heap.objs.size L c')) { s with heap := s.heap.push o, toks := t' } := by
  subst ho
  refine I.laid (a := s.heap.objs.size) (fun b u e => Heap.get?_push_of_some _ e) (Nat.le_refl _) ?_
  have e := Heap.get?_push_size s.heap (o := PySem.W.kla_obj "<lambda>" L.qual L.params L.body L.scope L.cl pm c' ctv) rfl
  exact ⟨⟨pm, ctv, e⟩, ⟨_, e⟩, fun h1 h2 ⟨p, t, z⟩ st => ⟨p, t, st _ z⟩⟩
theorem lam_kept {T : Tb} {c P : Addr} {params : Arguments} {body : Expr} {scope : Scope} {pos : Pos} {E : Value → Shared → Prop} {Q : Value → Shared → Prop} (I : Inv X pins σ H s) (B : TabB X.base X.mg c P) (hcode : X.env.code = .ref c)
    (hm : (P, X.env.qual ++ "<lambda>") ∈ T) (hu : ∀ p ∈ T, p.1 = P → p.2 = X.env.qual ++ "<lambda>") (hT : Tabs T H) (hdef : defaultsOf params X.env = ([], [])) (hfree : ∀ y ∈ scope.names, y.2 = .free → ∃ c, X.env.cells.lookup y.1 = some c)
    (h : ∀ (f c' : Addr) (H1 : Hp) (s' : Shared), Inv X pins σ H1 s' → ExtN H H1 → Tabs T H1 → H1 f = some (LamO f ⟨X.env.qual ++ "<lambda>", params, body, scope, cloFrom X.env.cells scope.names []⟩ c') → H1 c' = some (CodeO c' (X.env.qual ++ "<lambda>")) → Q (.ref f) s') :
    wpAny (model X.prog X.w) X.A (eval (.Lambda params body scope pos) X.env) Q E s := by
  obtain ⟨ps, hP, ht, ha⟩ := hT _ hm
  refine PySem.W.kla_eval hdef ?_
  have bP : s.heap.BuiltinsAt X.mg P := B.bm.keeps I.bk
  have hP' : s.heap.get? P = some { cls := .none, data := .fields ps } := I.hok P _ hP
  cases hc : codeAmong pos ps.toList with
  | none =>
    refine PySem.W.kla_makeFunction (mg := X.mg) (c := c) (P := P) (ps := ps) (closure_ok hfree) I.ok.glob (I.mod.glob.keeps I.bk) hcode (B.code.keeps I.bk) hP' ht hc B.gP bP fun c' ctv h' tk hx hge hlt hrec htb => ?_
    obtain ⟨c2, oc, vs, t, e2, hoc, hd, hv⟩ := hrec
    cases e2
    have nC : H c' = none := I.hok.fresh hge
    have I1 := inv_table (t' := tk) (more := #[rawInt pos.line, rawInt pos.col, .ref c']) (h' := h') I hP (fun b o hb e => hx b o hb e) htb hge ⟨oc, vs, t, hoc, hd, hv⟩
    obtain ⟨Hn, eH⟩ : ∃ Hn, Hn = upd (upd H P (.tbl (ps ++ #[rawInt pos.line, rawInt pos.col, .ref c']))) c' (CodeO c' (X.env.qual ++ "<lambda>")) := ⟨_, rfl⟩
    rw [← eH] at I1
    have hcN : Hn c' = some (CodeO c' (X.env.qual ++ "<lambda>")) := by rw [eH]; exact upd_same
    have hE : ExtN H Hn := fun b o e n => by
      rw [eH, upd_ne (ne_of_none e nC), upd_ne (fun z => n ps (Option.some.inj (e.symm.trans (by rw [z]; exact hP))))]
      exact e
    have hT1 : Tabs T Hn := fun p hp => by
      by_cases hb : p.1 = P
      · rw [hu p hp hb, hb]
        refine ⟨_, by rw [eH, upd_ne (ne_of_none hP nC), upd_same], by rw [Array.toList_append]; exact PySem.TriplesOk_snoc _ _ _ _ ht, fun p' cv hcv => ?_⟩
        rw [Array.toList_append] at hcv
        rcases among_app _ ht hcv with z | z
        · obtain ⟨c0, e1, e2⟩ := ha p' cv z
          exact ⟨c0, e1, hE _ _ e2 codeO_ne⟩
        · exact ⟨c', z, hcN⟩
      · obtain ⟨qs, a1, a2, a3⟩ := hT p hp
        refine ⟨qs, by rw [eH, upd_ne (ne_of_none a1 nC), upd_ne hb]; exact a1, a2, fun p' cv hcv => ?_⟩
        obtain ⟨c0, e1, e2⟩ := a3 p' cv hcv
        exact ⟨c0, e1, hE _ _ e2 codeO_ne⟩
    have nF := I1.hok.fresh (Nat.le_refl _)
    have I2 := inv_lam (L := ⟨X.env.qual ++ "<lambda>", params, body, scope, cloFrom X.env.cells scope.names []⟩) (c' := c') (t' := tk) (pm := (X.mg "__name__").getD .none) (ctv := ctv) I1 rfl
    exact h h'.objs.size c' _ _ I2 (hE.trans (ExtN.of fun b o e => (upd_ne (ne_of_none e nF)).trans e)) (hT1.ext fun b o e => (upd_ne (ne_of_none e nF)).trans e) upd_same ((upd_ne (Nat.ne_of_lt hlt)).trans hcN)
  | some cv =>
    obtain ⟨c', e, hco⟩ := ha pos cv hc
    subst e
    refine PySem.W.kla_makeFunctionHit (mg := X.mg) (c := c) (P := P) (ps := ps) (closure_ok hfree) I.ok.glob (I.mod.glob.keeps I.bk) hcode (B.code.keeps I.bk) hP' ht hc bP fun ctv h' tk hx hsz => ?_
    have I1 : Inv X pins σ H { s with heap := h', toks := tk } := I.kept hx
    have nF : H h'.objs.size = none := I1.hok.fresh (Nat.le_refl _)
    have I2 := inv_lam (L := ⟨X.env.qual ++ "<lambda>", params, body, scope, cloFrom X.env.cells scope.names []⟩) (c' := c') (t' := tk) (pm := (X.mg "__name__").getD .none) (ctv := ctv) I1 rfl
    exact h h'.objs.size c' _ _ I2 (ExtN.of fun b o e => (upd_ne (ne_of_none e nF)).trans e) (hT.ext fun b o e => (upd_ne (ne_of_none e nF)).trans e) upd_same ((upd_ne (ne_of_none hco nF)).trans hco)
/-- what() in the def that got such a lambda -/
theorem pe_actK {CXg : CXT} {Eg : XK} {Ng : List Str} {qg : Str} {sg : Scope} {g f c' : Addr} {cdg : Value} {L : Lf} {k i : Nat} {a : Str} {pn : List (Addr × Obj)} {xe : Value → Shared → Prop} {W : WX} {E : XK} {tb : TE} {p1 p2 : Pos}
    (I : Inv X pins σ H s) (Ls : LamS X.env.scope L.scope) (hq : L.qual = X.env.qual ++ "<lambda>") (hcl : cloFrom X.env.cells L.scope.names [] = L.cl)
    (hbind : ∀ pm cv ctv, bindArgs (PySem.W.kla_fn "<lambda>" L.qual L.params L.body L.scope L.cl pm cv ctv) ⟨[], []⟩ = pure [])
    (tk : Takes ((cxOf CXg X.prog X.w X.K X.mg X.base Ng qg sg g cdg X.A X.stack s H Eg).tr pn xe) W) (hW : ∀ cls d σ' H', E cls d H' → W cls d σ' H') (hr : Room (k + 1) (X.A.deeper (envOfC qg sg s.heap.objs.size g cdg)))
    (hbody : ∀ (A : Around) (outer : List Env) (s : Shared) (H : Hp), Room k (A.deeper (lamEnv X L.scope s.heap.objs.size f c')) → PE (lamCx X A outer s H E L.scope f c') L.body tb)
    (hN : Ng[i]? = some a) (hv : Vis sg a) (hd : (a == ("__debug__" : Str)) = false := by decide) (hcd : (a == ("__classdict__" : Str)) = false := by decide) :
    PE ((cxOf CXg X.prog X.w X.K X.mg X.base Ng qg sg g cdg X.A X.stack s H Eg).tr pn xe) (.Call (.Name a p1) [] [] p2)
      (fun σZ HZ Q => σZ[i]? = some (some (.ref f)) ∧ HZ c' = some (CodeO c' (X.env.qual ++ "<lambda>")) ∧ HZ f = some (LamO f L c') ∧ tb σ HZ Q) := by
  refine ⟨fun pinsZ sZ σZ HZ Q IZ ⟨hs, hc, hl, ht⟩ => ?_⟩
  refine wpAny_Call_Name_kw (thn ((pe_var (pos := p1) (i := i) hN hv hd hcd).run pinsZ sZ σZ HZ (fun v H1 => v = .ref f ∧ H1 = HZ) IZ ⟨.ref f, hs, rfl, rfl⟩) fun u s1 ⟨v, H1, I1, r1, ev, eH⟩ => ?_)
  subst ev eH
  obtain rfl : u = Value.ref f := r1
  obtain ⟨⟨pm, ctv, of1⟩, _, _⟩ := I1.hok f _ hl
  obtain ⟨⟨oc, vs, t, hoc, hdc, hvc⟩, _, _⟩ := I1.hok c' _ hc
  refine PySem.W.callWith_F0 ⟨_, _, _, _, of1⟩ ?_
  have un : Un (frs X.stack) [] H H1 s.heap s1.heap := I1.base
  have rc : codeAny (model X.prog X.w) (X.A.deeper (envOfC qg sg s.heap.objs.size g cdg)) (.call (.ref f) ⟨[], []⟩) (CR (L2.CX X.prog X.w) (envOfC qg sg s.heap.objs.size g cdg :: X.stack) X.prog X.w H1 s1 Q E) s1 := by
    refine PySem.W.kla_callFunE hr.depth of1 rfl Ls.co Ls.gen rfl ⟨c', oc, vs, t, rfl, hoc, hdc, by rw [hq]; exact hvc⟩ ?_
    rw [hbind]
    refine wpAny_pure (wpAny_newFunctionEnv (fun y hy => (Ls.own y hy).2) (fun y hy => absurd hy (by simp)) (fun h₁ hns hsb => ⟨I1.nolimit.fresh _ hsb, ?_⟩) Ls.kind)
    have kp : ∀ b o, s1.heap.get? b = some o → h₁.get? b = some o := fun b o e => hsb.extBut b o (Nat.ne_of_lt (Heap.lt_size e)) (Heap.get?_push_of_some _ e)
    have J : Inv (lamCx X (X.A.deeper (envOfC qg sg s.heap.objs.size g cdg)) (envOfC qg sg s.heap.objs.size g cdg :: X.stack) s1 H1 E L.scope f c') [] σ H1 { s1 with heap := h₁, toks := s1.toks + ([] : List (Str × Value)).length } :=
      lam_start2 I Ls I1.env0 hr.hd un hns kp
    have ee : PySem.W.envX L.qual L.scope s1.heap.objs.size f (.ref c') L.cl = lamEnv X L.scope s1.heap.objs.size f c' := by
      show _ = PySem.W.envX (X.env.qual ++ "<lambda>") L.scope s1.heap.objs.size f (.ref c') (cloFrom X.env.cells L.scope.names [])
      rw [hcl, hq]
    show codeAny _ _ (.expr L.body (PySem.W.envX L.qual L.scope s1.heap.objs.size f (.ref c') L.cl)) _ _
    rw [ee]
    refine PySem.W.kla_codeExpr (wpAny_mono ((hbody _ _ s1 H1 (hr.deeper _)).run [] _ _ H1 Q J ht) (fun v s' ⟨w', H', J', rv, q⟩ => ⟨w', H', J'.os, J'.bare, J'.base, J'.hok, rv, q⟩) fun e s' hq => hq)
  have hx : Passes (L2.CX X.prog X.w) ((cxOf CXg X.prog X.w X.K X.mg X.base Ng qg sg g cdg X.A X.stack s H Eg).tr pn xe) E := passes_call tk hW
  refine wpAny_call (codeAny_mono rc fun r s' hq => ?_)
  cases r with
  | error e => exact hx pinsZ σZ H1 s1 e s' I1 hq
  | ok fl =>
    cases fl with
    | ret u => exact I1.after hq
    | next => exact False.elim hq
    | brk => exact False.elim hq
    | cont => exact False.elim hq
end
section
variable {X : Cx}
/-- told(arg), where arg is such a lambda -/
theorem pe_toldK {es : List (Addr × Str)} {L : Lf} {x a : Str} {g : Addr} {k : Nat} {pg : Arguments} {bg : List Stmt} {sg : Scope} {dV kV doc pm cdv ct oc : Value} {an od : Option Addr} {osl : Array (Option Value)} {Ng : List Str} {arg : Expr} {ta : TE} {t : XK → TE} {p pos : Pos}
    (hg : Gl X x) (hm : X.mg x = some (.ref g)) (hk : PySem.W.keepIn X.K (.ref g) = true)
    (lk : X.K.lookup g = some ⟨oc, od, .func (PySem.W.fnOf x x pg bg sg dV kV doc pm an cdv ct), osl⟩) (hcg : PySem.W.codeIn X.K cdv x = true) (hb : L2.Binds X.K (PySem.W.fnOf x x pg bg sg dV kV doc pm an cdv ct) [a] []) (Sg : FnScope Ng [a] sg) (hNg : Ng[0]? = some a) (hva : Vis sg a)
    (hG : GivesTo X Ng x sg g cdv bg a (X.env.qual ++ "<lambda>") (TT9 X.K es))
    (harg : PE X arg ta) (hr : Room (k + 2) X.A) (Ls : LamS X.env.scope L.scope) (hq : L.qual = X.env.qual ++ "<lambda>") (hcl : cloFrom X.env.cells L.scope.names [] = L.cl)
    (hbind : ∀ pm cv ctv, bindArgs (PySem.W.kla_fn "<lambda>" L.qual L.params L.body L.scope L.cl pm cv ctv) ⟨[], []⟩ = pure [])
    (hbody : ∀ (A : Around) (outer : List Env) (s : Shared) (H : Hp) (E : XK) (f c' : Addr), Room k (A.deeper (lamEnv X L.scope s.heap.objs.size f c')) → PE (lamCx X A outer s H E L.scope f c') L.body (t E))
    (hdb : (x == ("__debug__" : Str)) = false := by decide) (hd : (a == ("__debug__" : Str)) = false := by decide) (hcd : (a == ("__classdict__" : Str)) = false := by decide)
    (he : starEach (arg :: []) X.env = (false, eval arg X.env) :: starEach [] X.env := by rfl) :
    PE X (.Call (.Name x p) [arg] [] pos) (fun σ H Q => ta σ H fun v H1 => ∃ f c', v = .ref f ∧ H1 c' = some (CodeO c' (X.env.qual ++ "<lambda>")) ∧ H1 f = some (LamO f L c') ∧ TT9 X.K es (fun E H' Q' => H' f = some (LamO f L c') ∧ t E σ H' Q') H1 Q) := by
  refine ⟨fun pins s σ H Q I h => ?_⟩
  refine wpAny_Call_Name_kw (ld_glob I hg hm ?_ hdb)
  refine PySem.W.callWith_K (h₀ := X.base) I.ok.mod.kin hk ?_ he (by rfl)
  rw [he]
  show wpAny _ _ (spliced ((false, eval arg X.env) :: backTo pos (starEach [] X.env))) _ _ s
  refine Calls.spliced_cons (thn (harg.run pins s σ H _ I h) fun u s' ⟨v, H1, I1, r1, f, c', ev, hco, hlo, hT⟩ => ?_)
  subst ev
  obtain rfl : u = Value.ref f := r1
  refine Calls.spliced_nil ⟨I1.kIn, ?_⟩
  have rc : codeAny (model X.prog X.w) X.A (.call (.ref g) ⟨[.ref f], []⟩) (CR C8.CX0 X.stack X.prog X.w H1 s' Q C8.E0) s' := by
    refine run_ofS (N := Ng) (ps := [a]) (us := [.ref f]) (vs := [.ref f]) lk hcg Sg hr I1.env0 (hb s' [.ref f] I1.kIn rfl) (.cons rfl .nil) rfl fun hr' => ?_
    obtain ⟨t', ht', hq'⟩ := hG f c' s' H1 Q (fun E H' Q' => H' f = some (LamO f L c') ∧ t E σ H' Q') (fun W pn xe E p1 p2 tk hW => pe_actK (i := 0) I1 Ls hq hcl hbind tk hW hr' (fun A outer s H hr2 => hbody A outer s H E f c' hr2) hNg hva hd hcd) hco hT
    exact ⟨t', ht'.nox, hq'⟩
  refine wpAny_call (codeAny_mono rc fun r s2 hq => ?_)
  cases r with
  | error e => exact (show False from hq).elim
  | ok fl =>
    cases fl with
    | ret u => exact I1.after hq
    | next => exact False.elim hq
    | brk => exact False.elim hq
    | cont => exact False.elim hq
end
end Cal
/-! CalL -/
namespace Cal
open PySem PySem.Spec PyProof.Rows L2 LamX
/-! ### tuples and lists of such things; lambdas -/
def sTup (K : PySem.W.Frag) (rs : List Sv) : Sv := .kn fun G v => ∃ p vs, v = .ref p ∧ SqT K G p vs ∧ Vks K G vs rs
def sLst (K : PySem.W.Frag) (rs : List Sv) : Sv := .kn fun G v => ∃ p vs, v = .ref p ∧ SqL K G p vs ∧ Vks K G vs rs
def sLam (L : Lf) : Sv := .kn fun G v => ∃ f c', v = .ref f ∧ G f = some (LamO f L c') ∧ G c' = some (CodeO c' L.qual)
theorem vk_sTup {K : PySem.W.Frag} {G : Hp} {v : V} {rs : List Sv} (h : Vk K G v (sTup K rs)) : ∃ p vs, v = .ref p ∧ SqT K G p vs ∧ Vks K G vs rs := by
  obtain ⟨G0, e, p, vs, h1, h2, h3⟩ := h
  exact ⟨p, vs, h1, seqT e h2, h3.up e⟩
theorem vk_sLst {K : PySem.W.Frag} {G : Hp} {v : V} {rs : List Sv} (h : Vk K G v (sLst K rs)) : ∃ p vs, v = .ref p ∧ SqL K G p vs ∧ Vks K G vs rs := by
  obtain ⟨G0, e, p, vs, h1, h2, h3⟩ := h
  exact ⟨p, vs, h1, e.seq h2, h3.up e⟩
theorem vk_sLam {K : PySem.W.Frag} {G : Hp} {v : V} {L : Lf} (h : Vk K G v (sLam L)) : ∃ f c', v = .ref f ∧ G f = some (LamO f L c') ∧ G c' = some (CodeO c' L.qual) := by
  obtain ⟨G0, e, f, c', h1, h2, h3⟩ := h
  exact ⟨f, c', h1, e _ _ h2, e _ _ h3⟩
def cXW (K : PySem.W.Frag) (T : Tb) (ds : List Sv) (M : Ms) (r : Sv) (M' : Ms) : TE := fun σ H Q => ∃ G, Wo K M G H ∧ Tabs T H ∧ Sl K G σ ds ∧ ∀ v G' H', Same G G' → Wo K M' G' H' → Tabs T H' → Vk K G' v r → Q v H'
def cXA (K : PySem.W.Frag) (T : Tb) (ds : List Sv) (M : Ms) (rs : List Sv) (M' : Ms) : TA := fun σ H Q => ∃ G, Wo K M G H ∧ Tabs T H ∧ Sl K G σ ds ∧ ∀ vs G' H', Same G G' → Wo K M' G' H' → Tabs T H' → Vks K G' vs rs → Q vs H'
abbrev XW (X : Cx) (T : Tb) (ds : List Sv) (M : Ms) (e : Expr) (r : Sv) (M' : Ms) : Prop := PE X e (cXW X.K T ds M r M')
abbrev XA (X : Cx) (T : Tb) (ds : List Sv) (M : Ms) (es : List Expr) (rs : List Sv) (M' : Ms) : Prop := PA X es (cXA X.K T ds M rs M')
section
variable {X : Cx} {T : Tb} {ds ds' ds1 ds2 : List Sv} {M M' M0 M1 M2 : Ms} {a b c e elt tg : Expr} {es : List Expr} {st : Stmt} {ss body : List Stmt} {r ra rb : Sv} {rs : List Sv} {i j k : Int} {pos : Pos}
theorem xw_pd (hM : Lsts M) (h : PD X ds M e r M') : XW X T ds M e r M' := pe_mono h fun σ H Q ⟨G, w, t, s, k⟩ => ⟨G, w, s, fun v G' H' p hv => k v G' H' p.g p.w (tabs_po hM t w p) hv⟩
theorem xa_nil : XA X T ds M [] [] M := pa_mono pa_nil fun σ H Q ⟨G, w, t, s, k⟩ => k [] G H (Same.refl _) w t .nil
theorem xa_cons (he : XW X T ds M e r M1) (hr : XA X T ds M1 es rs M2) (hs : starEach (e :: es) X.env = (false, eval e X.env) :: starEach es X.env := by rfl) : XA X T ds M (e :: es) (r :: rs) M2 :=
  pa_mono (pa_cons he hr hs) fun σ H Q ⟨G, w, t, s, k⟩ => ⟨G, w, t, s, fun v G1 H1 g1 w1 t1 hv => ⟨G1, w1, t1, s.up g1, fun vs G2 H2 g2 w2 t2 hvs => k (v :: vs) G2 H2 (g1.trans g2) w2 t2 (.cons (hv.up g2) hvs)⟩⟩
theorem xw_tup {k : Nat} (hM : Lsts M1) (h : XA X T ds M es rs M1) (hl : rs.length ≤ 1000 := by exact Nat.le_of_ble_eq_true rfl) : XW X T ds M (.Tuple es k pos) (sTup X.K rs) M1 :=
  pe_mono (pe_tup h) fun σ H Q ⟨G, w, t, s, q⟩ => ⟨G, w, t, s, fun vs G' H' g' w' t' hv => by
    refine ⟨by rw [hv.len]; exact Nat.le_of_lt (small1000 hl), fun a ha => ?_⟩
    have p2 := Po.new w' ha (.tup vs)
    exact q _ _ _ (g'.trans p2.g) p2.w (tabs_po hM t' w' p2) ⟨_, Same.refl _, a, vs, rfl, SqT.of upd_same, hv.up p2.g⟩⟩
theorem xw_lst (hM : Lsts M1) (h : XA X T ds M es rs M1) (hl : rs.length ≤ 1000 := by exact Nat.le_of_ble_eq_true rfl) : XW X T ds M (.List es pos) (sLst X.K rs) M1 :=
  pe_mono (pe_lst h) fun σ H Q ⟨G, w, t, s, q⟩ => ⟨G, w, t, s, fun vs G' H' g' w' t' hv => by
    refine ⟨by rw [hv.len]; exact Nat.le_of_lt (small1000 hl), fun a ha => ?_⟩
    have p2 := Po.new w' ha (.lst vs)
    exact q _ _ _ (g'.trans p2.g) p2.w (tabs_po hM t' w' p2) ⟨_, Same.refl _, a, vs, rfl, SqL.of upd_same, hv.up p2.g⟩⟩
theorem wd_setX (i : Nat) {y : Str} {py : Pos} (he : XW X T ds M e r M1) (hN : X.N.Nodup) (hi : X.N[i]? = some y := by rfl) (hx : Loc X.env.scope y := by first | exact Or.inl rfl | exact Or.inr rfl) (hs : swapsWith e (some (.Name y py)) pos.line X.env = pure false := by rfl) (hf : X.fn y = true ∨ X.env.scope.names.lookup y = some .local := by first | exact .inl rfl | exact .inr rfl | assumption) :
    WD1 X T ds M (.Assign [.Name y py] e pos) (.nx (ds.set i r) M1) :=
  ps_mono (ps_set (i := i) hN hi hx he hs hf) fun D σ H ⟨G, w, t, s, k⟩ => ⟨G, w, t, s, fun v G' H' g w' t' hv => k _ G' H' w' t' ((s.up g).set i hv)⟩
theorem xw_lam {c P : Addr} {params : Arguments} {body : Expr} {scope : Scope} (hM : Lsts M) (B : TabB X.base X.mg c P) (hcode : X.env.code = .ref c) (hm : (P, X.env.qual ++ "<lambda>") ∈ T) (hu : ∀ p ∈ T, p.1 = P → p.2 = X.env.qual ++ "<lambda>") (hdef : defaultsOf params X.env = ([], []) := by rfl)
    (hfree : ∀ pins σ H s, Inv X pins σ H s → ∀ y ∈ scope.names, y.2 = .free → ∃ c, X.env.cells.lookup y.1 = some c) : XW X T ds M (.Lambda params body scope pos) (sLam ⟨X.env.qual ++ "<lambda>", params, body, scope, cloFrom X.env.cells scope.names []⟩) M := by
  refine ⟨fun pins s σ H Q I ⟨G, w, t, sl, q⟩ => ?_⟩
  refine lam_kept I B hcode hm hu t hdef (hfree _ _ _ _ I) fun f c' H1 s' I1 eN T1 hf hc => ⟨.ref f, H1, I1, rfl, ?_⟩
  have w1 := wo_ext hM w eN
  obtain ⟨G', eG⟩ : ∃ G' : Hp, G' = fun b => match G b with | some o => some o | none => if b = f ∨ b = c' then H1 b else none := ⟨_, rfl⟩
  have g1 : Same G G' := fun b o h => by rw [eG]; show (match G b with | some o => some o | none => _) = _; rw [h]
  have at_ : ∀ b, G b = none → G' b = if b = f ∨ b = c' then H1 b else none := fun b h => by rw [eG]; show (match G b with | some o => some o | none => _) = _; rw [h]
  have sub : Same G' H1 := fun b o h => by
    cases hb : G b with
    | some u =>
      have := g1 b u hb
      rw [h] at this
      rw [this]
      exact w1.ex b u hb
    | none =>
      rw [at_ b hb] at h
      split at h
      · exact h
      · cases h
  have know : ∀ b o, (b = f ∨ b = c') → H1 b = some o → G' b = some o := fun b o hb h => by
    cases hg : G b with
    | some u =>
      have h1 := w1.ex b u hg
      rw [h] at h1
      rw [← Option.some.inj h1] at hg
      exact g1 b o hg
    | none => rw [at_ b hg, if_pos hb, h]
  refine q (.ref f) G' H1 g1 ⟨sub, fun p hp => ?_, w.nd, fun b ps h => ?_⟩ T1 ⟨G', Same.refl _, f, c', rfl, know f _ (.inl rfl) hf, know c' _ (.inr rfl) hc⟩
  · obtain ⟨⟨o, h1, h2⟩, h3⟩ := w1.mu p hp
    have k2 := (h2.plain (hM p hp)).2
    refine ⟨⟨o, h1, h2.up g1⟩, ?_⟩
    rw [at_ _ h3, if_neg]
    rintro (z | z)
    · rw [z, hf] at h1
      exact k2 _ (Option.some.inj h1).symm
    · rw [z, hc] at h1
      exact k2 _ (Option.some.inj h1).symm
  · cases hg : G b with
    | some u =>
      have := g1 b u hg
      rw [h] at this
      rw [← Option.some.inj this] at hg
      exact w.nt b ps hg
    | none =>
      rw [at_ b hg] at h
      split at h
      · rename_i hb
        rcases hb with z | z
        · rw [z, hf] at h
          have z2 := Option.some.inj h
          unfold LamO at z2
          cases z2
        · rw [z, hc] at h
          have z2 := Option.some.inj h
          unfold CodeO at z2
          cases z2
      · cases h
/-- a place of such a tuple -/
theorem vks_ix {K : PySem.W.Frag} {G : Hp} {rs : List Sv} {vs : List V} {i : Int} {r : Sv} (h : Vks K G vs rs) (e : atI rs i = some r) : ∃ v, atI vs i = some v ∧ Vk K G v r := by
  unfold atI at e ⊢
  rw [h.len]
  cases q : ixN rs.length i with
  | none => rw [q] at e; cases e
  | some j =>
    rw [q] at e
    exact vks_at h e
theorem pd_ixS (ha : PD X ds M a (sTup X.K rs) M1) (hb : PD X ds M1 b (I i) M2) (h : atI rs i = some r := by rfl) (hs : PlainIx b := by exact fun _ _ => rfl) : PD X ds M (.Subscript a b pos) r M2 :=
  pe_mono (pe_ix ix_tup ha hb hs) fun σ H Q q => ce_bin (fun G H x y Q w hx hy k => by
    obtain ⟨p, vs, e, h1, h2⟩ := vk_sTup hx
    obtain ⟨v, e1, e2⟩ := vks_ix h2 h
    exact ⟨p, vs, i, v, e, vk_int hy, seqT w.ex h1, e1, k v G H (Po.refl w) e2⟩) q
/-- told(arg), where arg is such a lambda, that raises -/
theorem pd_toldK {es : List (Addr × Str)} {p : Addr × Str} {L : Lf} {x a' : Str} {g : Addr} {fd : FuncData} {k : Nat} {pg : Arguments} {bg : List Stmt} {sg : Scope} {Ng : List Str} {arg : Expr} {q : Pos} (hp : p ∈ es) (FD : FunD X.K x x pg bg sg [] [] g fd) (hm : X.mg x = some (.ref g))
    (h : ∀ (kV doc pm : Value) (an : Option Addr) (cdv ct : Value) (us : List Value), us.length = [a'].length → bindArgs (PySem.W.fnOf x x pg bg sg .none kV doc pm an cdv ct) ⟨us, []⟩ = pure ([a'].zip us)) (Sg : FnScope Ng [a'] sg) (hNg : Ng[0]? = some a') (hva : Vis sg a')
    (hG : ∀ cdg, GivesTo X Ng x sg g cdg bg a' (X.env.qual ++ "<lambda>") (TT9 X.K es)) (harg : PD X ds M arg (sLam L) M1) (hr : Room (k + 2) X.A) (Ls : LamS X.env.scope L.scope) (hq : L.qual = X.env.qual ++ "<lambda>") (hcl : cloFrom X.env.cells L.scope.names [] = L.cl)
    (hbind : ∀ pm cv ctv, bindArgs (PySem.W.kla_fn "<lambda>" L.qual L.params L.body L.scope L.cl pm cv ctv) ⟨[], []⟩ = pure [])
    (hbody : ∀ (A : Around) (outer : List Env) (s : Shared) (H : Hp) (E : XK) (f c' : Addr), Room k (A.deeper (lamEnv X L.scope s.heap.objs.size f c')) → PX (lamCx X A outer s H E L.scope f c') (wE E) ds M1 L.body p.1)
    (hg : Gl X x := by rfl) (hdb : (x == ("__debug__" : Str)) = false := by decide) (hd : (a' == ("__debug__" : Str)) = false := by decide) (hcd : (a' == ("__classdict__" : Str)) = false := by decide)
    (he : starEach (arg :: []) X.env = (false, eval arg X.env) :: starEach [] X.env := by rfl) :
    PD X ds M (.Call (.Name x q) [arg] [] pos) (.dat (.str p.2)) M1 := by
  have hb := FD.bindsN h
  have hk := FD.kp
  obtain ⟨oc, od, dV, kV, doc, pm, an, cdv, ct, osl, rfl, lk, hcg, _, _⟩ := FD.ex
  refine pe_mono (pe_toldK (t := fun E => cEX X.K (wE E) ds M1 p.1) hg hm hk lk hcg hb Sg hNg hva (hG cdv) harg hr Ls hq hcl hbind (fun A outer s H E f c' hr' => hbody A outer s H E f c' hr') hdb hd hcd he) fun σ H Q ⟨G, w, s, kk⟩ => ⟨G, w, s, fun v G1 H1 p1 hv => ?_⟩
  obtain ⟨f, c', rfl, h1, h2⟩ := vk_sLam hv
  rw [hq] at h2
  exact ⟨f, c', rfl, p1.w.ex _ _ h2, p1.w.ex _ _ h1, p1.w.ex _ _ h1, G1, p1.w, s.up p1.g, fun G' H' p2 => ⟨p, hp, rfl, kk _ G' H' (p1.trans p2) (.str _)⟩⟩
end
section
variable {X : Cx} {ds : List Sv} {M M1 : Ms} {e elt tg : Expr} {ifs : List Expr} {scope : Scope} {pos : Pos}
abbrev gLcS (X : Cx) (scope : Scope) (ds : List Sv) (vs : List Nat) (tg : Expr) : TG := fun v σ H Q => ∃ z : Sv × List Sv × List Nat, (∀ s H C cl fp, GD (Zb X scope s H C cl fp) tg z.1 (wipeD ds vs) z.2.1 z.2.2) ∧ cG X.K z.1 (wipeD ds vs) z.2.1 z.2.2 v σ H Q
/-- [elt for tg in such a list if ..], nothing kept -/
theorem pd_lcF (own : List (Str × Nat)) {rs : List Sv} (hc : X.calm = true) (hN : X.N.Nodup) (hB : blkC X.N X.env.scope scope own = true) (he : PD X ds M e (sLst X.K rs) M1)
    (hT : ∀ (i : Nat) (r : Sv), rs[i]? = some r → ∃ eis ts, (∀ t ∈ ts, t ∈ own.map (·.2)) ∧ (∀ s H C cl fp, GD (Zb X scope s H C cl fp) tg r (wipeD ds (own.map (·.2))) eis ts) ∧ ∀ q s H C cl fp, PTs (Zb X scope s H C cl fp) ifs (cT X.K eis (q :: M1) false (q :: M1)))
    (hs : ∀ x, foldedSetIterable e X.env x = pure x := by intro _; rfl) : PD X ds M (.ListComp elt [⟨tg, e, ifs, 0⟩] scope pos) (.dat (.list [])) M1 := by
  refine pe_mono (pe_lc (own := own) (g := gLcS X scope ds (own.map (·.2)) tg) (tt := tLcT X scope ifs) (te := fun _ _ _ => False) hc hN (pi_list he) (blkOk_by hB) (fun s H C cl fp => pg_ex (ι := Sv × List Sv × List Nat) (p := fun z => ∀ s H C cl fp, GD (Zb X scope s H C cl fp) tg z.1 (wipeD ds (own.map (·.2))) z.2.1 z.2.2) (t := fun z => cG X.K z.1 (wipeD ds (own.map (·.2))) z.2.1 z.2.2) fun _ h => h s H C cl fp) lc_t (fun s H C cl fp => pe_no) hs) fun σ H Q ⟨G, w, s, k⟩ => ?_
  refine ⟨G, w, s, fun v G1 H1 p1 hv => ?_⟩
  obtain ⟨a, vs, rfl, h1, h2⟩ := vk_sLst hv
  refine ⟨a, rfl, ⟨vs, p1.w.ex.seq h1⟩, fun Dl hD => ?_⟩
  have hD0 : H Dl = none := none_back p1 hD
  refine lc_list (K := X.K) (a := a) (g := gLcS X scope ds (own.map (·.2)) tg) (tt := tLcT X scope ifs) (te := fun _ _ _ => False) (Qd := fun H' => Q (.ref Dl) H') (xs := vs)
    (fun i H' => ∃ Gi, Same G1 Gi ∧ Po X.K M ((Dl, .lst []) :: M1) G H Gi H') ⟨G1, Same.refl _, p1.trans (Po.mnew p1.w hD (m := .lst []) (o := .lst []) .nil)⟩ (fun i H' _ ⟨Gi, sg, p⟩ => (sg.trans p.w.ex).seq h1) (fun i x H' hx ⟨Gi, sg, p⟩ => ?_) (fun H' ⟨Gi, sg, p⟩ => ?_)
  · have hi : i < rs.length := by rw [← h2.len]; exact (List.getElem?_eq_some_iff.mp hx).1
    have hd : rs[i]? = some rs[i] := List.getElem?_eq_getElem hi
    obtain ⟨v, e1, e2⟩ := vks_at h2 hd
    rw [hx] at e1
    cases e1
    obtain ⟨eis, ts, hts, hg, ht⟩ := hT i _ hd
    refine ⟨(rs[i], eis, ts), hg, _, Gi, p.w, (s.up (p1.g.trans sg)).wipe (own.map (·.2)), e2.up sg, fun σ2 s2 chg => ⟨(chg (own.map (·.2)) hts).trans wipe_idem, (eis, (Dl, .lst []) :: M1, false), fun s H C cl fp => ht _ s H C cl fp, Gi, p.w, s2, fun G3 H3 p3 => iteF ⟨G3, sg.trans p3.g, p.trans p3⟩⟩⟩
  · obtain ⟨ws, q1, q2, q3⟩ := Wo.lst (A := []) p.w
    cases q2
    exact k _ _ _ (p.freeze q1 hD0) (Dp.lst (SqL.of upd_same) .nil)
end
end Cal
/-! CalM -/
namespace Cal
open PySem PySem.Spec PyProof.Rows L2
def b2n (b : Bool) : Int := if b = true then 1 else 0
theorem op_subBB {X : Cx} : OpR X (binaryOp .Sub) (fun x y H Q => ∃ p q, x = .bl p ∧ y = .bl q ∧ Q (.int (b2n p - b2n q)) H) := by
  intro pins s σ H x y v u Q I rx ry h
  obtain ⟨p, q, rfl, rfl, k⟩ := h
  cases rx
  cases ry
  exact sub_bool ⟨.int (b2n p - b2n q), H, I.tok _, ⟨_, rfl⟩, k⟩
section
variable {X : Cx} {ds : List Sv} {M M1 M2 : Ms} {a b c : Expr} {pos : Pos} {i j k : Int}
theorem pd_subB {x y : Bool} (ha : PD X ds M a (B x) M1) (hb : PD X ds M1 b (B y) M2) : PD X ds M (.BinOp a .Sub b pos) (I (b2n x - b2n y)) M2 := pe_mono (pe_op op_subBB ha hb) fun σ H Q q => ce_op (fun G H v u Q hx hy k => ⟨x, y, vk_bl hx, vk_bl hy, k _ (.int _)⟩) q
/-- tuples of two ints, less -/
theorem pd_ltP {x y : Int × Int} (hu : X.A.units < cLine) (ha : PD X ds M a (.dat (.tuple [.int x.1, .int x.2])) M1) (hb : PD X ds M1 b (.dat (.tuple [.int y.1, .int y.2])) M2) : PD X ds M (.Compare a [.Lt] [b] pos) (B (HT.lexLt [x.1, x.2] [y.1, y.2])) M2 := pe_mono (pe_cmpR (op_ltT hu) ha hb (nomark _)) fun σ H Q q => ce_bin (fun G H v u Q w hx hy k => by
  obtain ⟨p, vs, rfl, h1, h2⟩ := vk_tup hx
  obtain ⟨p', vs', rfl, h3, h4⟩ := vk_tup hy
  have e1 : vs = [x.1, x.2].map V.int := by
    cases h2 with
    | cons a b =>
      cases b with
      | cons b c =>
        cases c
        cases a
        cases b
        rfl
  have e2 : vs' = [y.1, y.2].map V.int := by
    cases h4 with
    | cons a b =>
      cases b with
      | cons b c =>
        cases c
        cases a
        cases b
        rfl
  subst e1 e2
  exact ⟨p, p', [x.1, x.2], [y.1, y.2], rfl, rfl, seqT w.ex h1, seqT w.ex h3, k _ G H (Po.refl w) (.bl _)⟩) q
end
end Cal
/-! CalN -/
namespace Cal
open PySem PySem.Spec PyProof.Rows L2
abbrev pD (u : Int × Int) : D := .tuple [.int u.1, .int u.2]
theorem dp_pair {K : PySem.W.Frag} {G : Hp} {x : V} {u : Int × Int} (h : Dp K G x (pD u)) : TupI K G x [u.1, u.2] := by
  cases h with
  | tup h1 h2 =>
    cases h2 with
    | cons a b =>
      cases b with
      | cons b c =>
        cases c
        cases a
        cases b
        exact ⟨_, rfl, h1⟩
theorem tupI_up {K : PySem.W.Frag} {G H : Hp} (e : Same G H) {x : V} {ns : List Int} (h : TupI K G x ns) : TupI K H x ns := by
  obtain ⟨t, e1, e2⟩ := h
  exact ⟨t, e1, seqT e e2⟩
theorem dps_perm {K : PySem.W.Frag} {G : Hp} : ∀ {zs xs : List V}, zs.Perm xs → ∀ us : List (Int × Int), DpAll K G xs (us.map pD) → ∃ us' : List (Int × Int), us'.Perm us ∧ DpAll K G zs (us'.map pD) := by
  intro zs xs hp
  induction hp with
  | nil =>
    intro us h
    exact ⟨us, .refl _, h⟩
  | cons x hp ih =>
    intro us h
    match us, h with
    | [], h => cases h
    | u :: us, h =>
      cases h with
      | cons h1 h2 =>
        obtain ⟨us', e1, e2⟩ := ih us h2
        exact ⟨u :: us', e1.cons u, .cons h1 e2⟩
  | swap x y l =>
    intro us h
    match us, h with
    | [], h => cases h
    | [u], h =>
      cases h with
      | cons h1 h2 => cases h2
    | u :: v :: us, h =>
      cases h with
      | cons h1 h2 =>
        cases h2 with
        | cons h2 h3 => exact ⟨v :: u :: us, .swap u v us, .cons h2 (.cons h1 h3)⟩
  | trans _ _ ih1 ih2 =>
    intro us h
    obtain ⟨us2, e1, e2⟩ := ih2 us h
    obtain ⟨us3, e3, e4⟩ := ih1 us2 e2
    exact ⟨us3, e3.trans e1, e4⟩
def cd6 (u : Int × Int) : Int := u.1 * 6 + u.2
theorem code6 (u : Int × Int) : TS.code 6 [u.1, u.2] = cd6 u := by
  show u.1 * 6 ^ 1 + (u.2 * 6 ^ 0 + 0) = _
  unfold cd6
  omega
theorem dps_mem {K : PySem.W.Frag} {G : Hp} : ∀ {zs : List V} {us : List (Int × Int)}, DpAll K G zs (us.map pD) → (∀ x ∈ zs, ∃ u ∈ us, Dp K G x (pD u)) ∧ (∀ u ∈ us, ∃ x ∈ zs, Dp K G x (pD u))
  | [], [], _ => ⟨fun x hx => absurd hx (by simp), fun x hx => absurd hx (by simp)⟩
  | [], u :: us, h => by cases h
  | z :: zs, [], h => by cases h
  | z :: zs, u :: us, h => by
    cases h with
    | cons h1 h2 =>
      obtain ⟨i1, i2⟩ := dps_mem h2
      refine ⟨fun x hx => ?_, fun v hv => ?_⟩
      · rcases List.mem_cons.mp hx with e | hx
        · exact ⟨u, by simp, by rw [e]; exact h1⟩
        · obtain ⟨v, h3, h4⟩ := i1 x hx
          exact ⟨v, by simp [h3], h4⟩
      · rcases List.mem_cons.mp hv with e | hv
        · exact ⟨z, by simp, by rw [e]; exact h1⟩
        · obtain ⟨x, h3, h4⟩ := i2 v hv
          exact ⟨x, by simp [h3], h4⟩
theorem dps_pair {K : PySem.W.Frag} {G H : Hp} (e : Same G H) : ∀ {zs : List V} {us : List (Int × Int)}, DpAll K G zs (us.map pD) → zs.Pairwise (fun x y => ∀ n m, TupI K H x n → TupI K H y m → TS.code 6 n ≤ TS.code 6 m) → us.Pairwise fun u v => cd6 u ≤ cd6 v
  | [], [], _, _ => .nil
  | [], u :: us, h, _ => by cases h
  | z :: zs, [], h, _ => by cases h
  | z :: zs, u :: us, h, hp => by
    cases h with
    | cons h1 h2 =>
      obtain ⟨p1, p2⟩ := List.pairwise_cons.mp hp
      refine List.pairwise_cons.mpr ⟨fun v hv => ?_, dps_pair e h2 p2⟩
      obtain ⟨x, hx, hd⟩ := (dps_mem h2).2 v hv
      have := p1 x hx [u.1, u.2] [v.1, v.2] (tupI_up e (dp_pair h1)) (tupI_up e (dp_pair hd))
      rw [code6, code6] at this
      exact this
theorem perm_uniq : ∀ {us vs : List (Int × Int)}, us.Perm vs → us.Pairwise (fun u v => cd6 u ≤ cd6 v) → vs.Pairwise (fun u v => cd6 u ≤ cd6 v) → (∀ u ∈ us, ∀ v ∈ us, cd6 u = cd6 v → u = v) → us = vs
  | [], vs, hp, _, _, _ => by
    have := hp.symm.eq_nil
    exact this.symm
  | u :: us, [], hp, _, _, _ => absurd hp.eq_nil (by simp)
  | u :: us, v :: vs, hp, h1, h2, ha => by
    obtain ⟨p1, p2⟩ := List.pairwise_cons.mp h1
    obtain ⟨q1, q2⟩ := List.pairwise_cons.mp h2
    have hv : v ∈ u :: us := hp.mem_iff.mpr (by simp)
    have hu : u ∈ v :: vs := hp.mem_iff.mp (by simp)
    have e : u = v := by
      refine ha u (by simp) v hv (Int.le_antisymm ?_ ?_)
      · rcases List.mem_cons.mp hv with z | z
        · rw [z]; exact Int.le_refl _
        · exact p1 v z
      · rcases List.mem_cons.mp hu with z | z
        · rw [z]; exact Int.le_refl _
        · exact q1 u z
    subst e
    rw [perm_uniq hp.cons_inv p2 q2 fun a ha' b hb hab => ha a (by simp [ha']) b (by simp [hb]) hab]
/-- a cell of six by six -/
def In6 (u : Int × Int) : Prop := 0 ≤ u.1 ∧ u.1 < 6 ∧ 0 ≤ u.2 ∧ u.2 < 6
theorem cd6_inj {u v : Int × Int} (hu : In6 u) (hv : In6 v) (h : cd6 u = cd6 v) : u = v := by
  unfold In6 at hu hv
  unfold cd6 at h
  exact Prod.ext (by omega) (by omega)
section
variable {X : Cx} {ds : List Sv} {M M1 : Ms} {a : Expr} {pos p : Pos}
/-- sorted(xs), pairs of small ints -/
theorem pd_sortP {us vs : List (Int × Int)} (hm : X.mg "sorted" = none) (ha : PD X ds M a (.dat (.list (us.map pD))) M1) (hl : us.length < 64) (hb : ∀ u ∈ us, In6 u) (hp : vs.Perm us) (hs : vs.Pairwise fun u v => cd6 u ≤ cd6 v) (hg : Gl X "sorted" := by rfl) (h1 : starEach (a :: []) X.env = (false, eval a X.env) :: starEach [] X.env := by rfl) :
    PD X ds M (.Call (.Name "sorted" p) [a] [] pos) (.dat (.list (vs.map pD))) M1 :=
  pe_mono (pe_callB (cr_sortT (d := 2) (B := 6) (by decide)) hg hm rfl (pda_cons ha pda_nil h1) (he := h1)) fun σ H Q q => ce_args (fun G H ws Q w hv k => by
    obtain ⟨v, rfl, h⟩ := vks1 hv
    obtain ⟨a', xs, rfl, h2, h3⟩ := vk_lst h
    have hlen := dps_len h3
    rw [List.length_map] at hlen
    refine ⟨a', xs, rfl, w.ex.seq h2, by omega, fun x hx => ?_, fun zs pp hz hz2 hpp => ?_⟩
    · obtain ⟨u, hu, hd⟩ := (dps_mem h3).1 x hx
      obtain ⟨b1, b2, b3, b4⟩ := hb u hu
      refine ⟨[u.1, u.2], tupI_up w.ex (dp_pair hd), rfl, fun m hm => ?_⟩
      simp only [List.mem_cons, List.not_mem_nil, or_false] at hm
      rcases hm with e | e
      · rw [e]; exact ⟨b1, b2⟩
      · rw [e]; exact ⟨b3, b4⟩
    · obtain ⟨us', e1, e2⟩ := dps_perm hz us h3
      have e3 := dps_pair w.ex e2 hz2
      have e4 : us' = vs := perm_uniq (e1.trans hp.symm) e3 hs fun x hx y hy => cd6_inj (hb x (e1.mem_iff.mp hx)) (hb y (e1.mem_iff.mp hy))
      rw [e4] at e2
      exact k _ _ _ (dp_newL w e2 hpp).1 (dp_newL w e2 hpp).2) q
end
end Cal
/-! CalO -/
namespace Cal
open PySem PySem.Spec PyProof.Rows L2
section
variable {prog : Program} {w : World} {A : Around} {E : Value → Shared → Prop}
abbrev tK (prog : Program) (w : World) := tupleKind (mixKind prog w)
theorem is_keep {h h' : Heap} {ks : List Key} {a : Addr} (k : ∀ o, h.get? a = some o → h'.get? a = some o) (x : (tK prog w).is h ks a) : (tK prog w).is h' ks a := by
  obtain ⟨o, its, n, h1, r⟩ := x
  exact ⟨o, its, n, k o h1, r⟩
abbrev Tr := List Key × Addr × Value
def putAll (acc : List Tr) (l : List Tr) : List Tr := l.foldl (fun a q => storedH a q.1 q.2.1 q.2.2) acc
theorem dof_keep {h h' : Heap} {S : Addr} {acc : List Tr} (kS : ∀ o, h.get? S = some o → h'.get? S = some o) (ka : ∀ x ∈ acc, ∀ o, h.get? x.2.1 = some o → h'.get? x.2.1 = some o) (x : h.DictOfH (tK prog w) S acc) : h'.DictOfH (tK prog w) S acc := by
  obtain ⟨o, es, ep, h1, h2, h3, h4, h5, h6⟩ := x
  exact ⟨o, es, ep, kS o h1, h2, h3, h4, fun y hy => is_keep (ka y hy) (h5 y hy), h6⟩
theorem stored_mem {acc : List Tr} {k : List Key} {a : Addr} {v : Value} {x : Tr} (h : x ∈ storedH acc k a v) : (∃ y ∈ acc, x.1 = y.1 ∧ x.2.1 = y.2.1) ∨ x = (k, a, v) := by
  unfold storedH at h
  split at h
  · obtain ⟨y, hy, e⟩ := List.mem_map.mp h
    left
    refine ⟨y, hy, ?_⟩
    rw [← e]
    unfold putAt
    split <;> exact ⟨rfl, rfl⟩
  · rcases List.mem_append.mp h with h | h
    · exact .inl ⟨x, h, rfl, rfl⟩
    · right
      simpa using h
theorem stored_len (acc : List Tr) (k : List Key) (a : Addr) (v : Value) : (storedH acc k a v).length ≤ acc.length + 1 := by
  unfold storedH
  split <;> simp
theorem upd_loopT {R : Result → Shared → Prop} {S I l : Addr} {items : Array Value} {res : Value} (hh : A.handled = none) (hu : (tK prog w).room A.in1) (hlI : l ≠ I) (hSI : S ≠ I) (hSl : S ≠ l) :
    ∀ (rest : List Tr) (i : Nat) (acc : List Tr) (ix : Int) (t : Tok) (s : Shared), items.size = i + rest.length → acc.length + rest.length ≤ sizeLine →
      (∀ (j : Nat) (q : Tr), rest[j]? = some q → ∃ b : Addr, items[i + j]? = some (.ref b) ∧ b ≠ S ∧ b ≠ I ∧ q.2.1 ≠ S ∧ q.2.1 ≠ I ∧ IsTup s.heap b #[.ref q.2.1, q.2.2] ∧ (tK prog w).is s.heap q.1 q.2.1) →
      (∀ x ∈ acc, x.2.1 ≠ S ∧ x.2.1 ≠ I) → s.heap.IsListIter I l i → s.heap.IsList l items → s.heap.DictOfH (tK prog w) S acc →
      (∀ h' tk, h'.DictOfH (tK prog w) S (putAll acc rest) → (∀ b o, b ≠ S → b ≠ I → s.heap.get? b = some o → h'.get? b = some o) → R (.ok (.ret res)) { s with heap := h', toks := tk }) →
      codeAny (model prog w) A (.builtin "dict.update.loop" ⟨[.ref S, .ref I, .int ix t, res], []⟩) R s
  | [], i, acc, ix, t, s, hsz, hln, ht, hac, hit, hl, hm, hR => by
    refine codeAny_builtin ud_entry ?_
    rw [Around.under_plainId ud_plain _]
    show wpAny _ A.in1 (pyNext (.ref I) >>= _) _ _ s
    refine wpAny_bind (wpAny_pyNext_list_end (A := A.in1) hh hit hl (by first | exact Array.getElem?_eq_none (Nat.le_of_eq hsz) | (simp at hsz; simp; omega)) fun h' he => ?_)
    show wpAny _ A.in1 (Builtin.Dict.addKeywords S [] >>= _) _ _ _
    refine wpAny_bind (wpAny_pure (wpAny_pure ?_))
    exact hR h' s.toks (dof_keep (fun o e => he S o hSI e) (fun x hx o e => he _ o (hac x hx).2 e) hm) fun b o _ hb e => he b o hb e
  | q :: rest, i, acc, ix, t, s, hsz, hln, ht, hac, hit, hl, hm, hR => by
    obtain ⟨b, hb, hbS, hbI, hkS, hkI, htup, hk⟩ := ht 0 q rfl
    rw [List.length_cons] at hsz hln
    refine codeAny_builtin ud_entry ?_
    rw [Around.under_plainId ud_plain _]
    show wpAny _ A.in1 (pyNext (.ref I) >>= _) _ _ s
    refine wpAny_bind (wpAny_pyNext_list_item (x := .ref b) hit hl (by simpa using hb) fun h1 hit1 hs1 => ?_)
    have ht1 : IsTup h1 b #[.ref q.2.1, q.2.2] := htup.extBut hs1.extBut hbI
    have hl1 : h1.IsList l items := hl.extBut hs1.extBut hlI
    obtain ⟨o, ho, hc, n, hd⟩ := id ht1
    show wpAny _ A.in1 (holding [Value.ref b] _ >>= _) _ _ _
    refine wpAny_bind (wpAny_holding ?_)
    refine wpAny_bind (wpAny_tryCatch ?_)
    unfold Builtin.Dict.pairItems
    refine wpAny_bind (wpAny_typeOf (T := "tuple") ⟨o, ho, hc⟩ ?_)
    rw [if_pos (by first | decide | rfl | simp)]
    refine wpAny_bind (wpAny_seqItems ho hd (wpAny_pure ?_))
    show wpAny _ A.in1 (holding [.ref q.2.1, q.2.2] (dictSet S (.ref q.2.1) q.2.2)) _ _ _
    have hm1 : h1.DictOfH (tK prog w) S acc := dof_keep (fun o e => hs1.extBut S o hSI e) (fun x hx o e => hs1.extBut _ o (hac x hx).2 e) hm
    refine wpAny_holding (wpAny_dictSet_heap (knd := tK prog w) (k := q.1) (a := q.2.1) (d := S) hu (is_keep (fun o e => hs1.extBut _ o hkI e) hk) hm1 (fun h2 hm2 hs2 => ?_) (by omega))
    have sl := stored_len acc q.1 q.2.1 q.2.2
    refine wpAny_pure ⟨plainId_quiet ud_plain _, upd_loopT (items := items) hh hu hlI hSI hSl rest (i + 1) (storedH acc q.1 q.2.1 q.2.2) (ix + 1) 0 _ (show items.size = i + 1 + rest.length by omega) (by omega) (fun j q' e => ?_) (fun x hx => ?_) ?_ ?_ hm2 fun h' tk hd' k => ?_⟩
    · obtain ⟨b', hb', hbS', hbI', hkS', hkI', htup', hk'⟩ := ht (j + 1) q' (by simpa using e)
      refine ⟨b', ?_, hbS', hbI', hkS', hkI', (htup'.extBut hs1.extBut hbI').extBut hs2.extBut hbS', is_keep (fun o e => hs2.extBut _ o hkS' (hs1.extBut _ o hkI' e)) hk'⟩
      rw [show i + 1 + j = i + (j + 1) by omega]
      exact hb'
    · rcases stored_mem hx with ⟨y, hy, _, e2⟩ | e
      · rw [e2]
        exact hac y hy
      · rw [e]
        exact ⟨hkS, hkI⟩
    · exact hit1.at fun o' e => hs2.extBut I o' (Ne.symm hSI) e
    · exact hl1.extBut hs2.extBut (Ne.symm hSl)
    · exact hR h' tk hd' fun c oc h3 h4 e => k c oc h3 h4 (hs2.extBut c oc h3 (hs1.extBut c oc h4 e))
/-- dict(l) of a list of pairs whose keys are tuples -/
theorem call_dict_pairsT {s : Shared} {l : Addr} {ol : Obj} {items : Array Value} {n : Nat} {prs : List Tr} {Q : Value → Shared → Prop} (hh : A.handled = none) (hu : (tK prog w).room A.in1.in1) (hl : s.heap.get? l = some ol) (hc : ol.cls = .type "list") (hd : ol.dict = none)
    (hdat : ol.data = .seq items n) (hsz : items.size = prs.length) (hln : prs.length ≤ sizeLine)
    (ht : ∀ (j : Nat) (q : Tr), prs[j]? = some q → ∃ b : Addr, items[j]? = some (.ref b) ∧ IsTup s.heap b #[.ref q.2.1, q.2.2] ∧ (tK prog w).is s.heap q.1 q.2.1)
    (h : ∀ h' tk, h'.DictOfH (tK prog w) s.heap.objs.size (putAll [] prs) → (∀ b o, s.heap.get? b = some o → h'.get? b = some o) → Q (.ref s.heap.objs.size) { s with heap := h', toks := tk }) :
    wpAny (model prog w) A (call (.type "dict") [.ref l]) Q E s := by
  refine callType_codes (Q₁ := fun obj s₁ => obj = .ref s.heap.objs.size ∧ s₁ = { s with heap := s.heap.push { cls := .type "dict", data := .dict #[] } }) PySem.F.kt_called_dict (PySem.F.kt_typeCall_dict_1 _) PySem.F.entry_dict_init (kt_code_dict_new _ ⟨rfl, rfl⟩) ?_
  rintro obj s₁ ⟨rfl, rfl⟩
  have hnew : (s.heap.push { cls := .type "dict", data := .dict #[] }).DictOfH (tK prog w) s.heap.objs.size [] := Heap.DictOfH.new s.heap
  have k0 : ∀ b o, s.heap.get? b = some o → (s.heap.push { cls := .type "dict", data := .dict #[] }).get? b = some o := fun b o e => Heap.get?_push_of_some _ e
  refine ⟨hnew.typeIs, PySem.F.args_dict_init_2 _ _, ?_⟩
  unfold Builtin.«dict.__init__»
  refine wpAny_bind ?_
  unfold Builtin.Dict.selfAndRest
  refine wpAny_bind (wpAny_notOrdered_dict hnew.typeIs ?_)
  show wpAny _ _ (pure (s.heap.objs.size, [Value.ref l])) _ _ _
  refine wpAny_pure ?_
  show wpAny _ _ (Builtin.Dict.updateFrom "dict.__init__" s.heap.objs.size (.ref l) [] .none) _ _ _
  unfold Builtin.Dict.updateFrom
  refine wpAny_bind (wpAny_typeOf (T := "list") ⟨ol, k0 _ _ hl, hc⟩ ?_)
  rw [if_pos (by first | decide | rfl | simp)]
  refine wpAny_bind (miss_list (k0 _ _ hl) hc hdat hd hh fun h1 tk1 hk1 => ?_)
  rw [if_pos (show (none : Option Value).isNone = true from rfl)]
  refine wpAny_bind (wpAny_rule ?_)
  have hl1 : h1.IsList l items := ⟨ol, hk1 _ _ (k0 _ _ hl), hc, n, hdat⟩
  have hS1 : s.heap.objs.size < h1.objs.size := by
    have e : (s.heap.push { cls := .type "dict", data := .dict #[] }).get? s.heap.objs.size = some { cls := .type "dict", data := .dict #[] } := Heap.get?_push_size _ rfl
    exact Heap.lt_size (hk1 _ _ e)
  refine wpAny_bind (wpAny_pyIter_list hl1 ?_)
  have k2 : ∀ b o, h1.get? b = some o → (h1.push { cls := .type "list_iterator", data := .fields #[.ref l, .int 0 0] }).get? b = some o := fun b o e => Heap.get?_push_of_some _ e
  have hlt : l < s.heap.objs.size := Heap.lt_size hl
  have key := upd_loopT (prog := prog) (w := w) (A := A.in1) (R := wants (fun r s₂ => r = .none ∧ Q (.ref s.heap.objs.size) s₂) E) (S := s.heap.objs.size) (I := h1.objs.size) (l := l) (items := items) (res := Value.none) hh hu
    (Nat.ne_of_lt (Nat.lt_trans hlt hS1)) (Nat.ne_of_lt hS1) (Nat.ne_of_gt hlt) prs 0 [] 0 0
    { s with heap := h1.push { cls := .type "list_iterator", data := .fields #[.ref l, .int 0 0] }, toks := tk1 } (by rw [hsz, Nat.zero_add]) (by rw [List.length_nil, Nat.zero_add]; exact hln)
    (fun j q e => by
      obtain ⟨b, e1, e2, e3⟩ := ht j q e
      have hb : b < s.heap.objs.size := e2.lt
      have hkk : q.2.1 < s.heap.objs.size := by
        obtain ⟨o, _, _, ho, _⟩ := e3
        exact Heap.lt_size ho
      exact ⟨b, by rw [Nat.zero_add]; exact e1, Nat.ne_of_lt hb, Nat.ne_of_lt (Nat.lt_trans hb hS1), Nat.ne_of_lt hkk, Nat.ne_of_lt (Nat.lt_trans hkk hS1), e2.keeps fun c o z => k2 _ _ (hk1 _ _ (k0 _ _ z)), is_keep (fun o z => k2 _ _ (hk1 _ _ (k0 _ _ z))) e3⟩)
    (fun x hx => absurd hx (by simp)) ⟨_, Heap.get?_push_size _ rfl, rfl, rfl⟩ (hl1.at fun o e => k2 _ _ e) (dof_keep (fun o e => k2 _ _ (hk1 _ _ e)) (fun x hx => absurd hx (by simp)) hnew)
    (fun h' tk hd' k => ⟨rfl, h h' tk hd' fun b o e => k b o (Nat.ne_of_lt (Heap.lt_size e)) (Nat.ne_of_lt (Nat.lt_trans (Heap.lt_size e) hS1)) (k2 _ _ (hk1 _ _ (k0 _ _ e)))⟩)
  first
    | exact wpAny_pure ⟨plainId_quiet ud_plain _, key⟩
    | exact wpAny_bind (wpAny_pure (wpAny_pure ⟨plainId_quiet ud_plain _, key⟩))
end
/-- the dict at a: its keys stand at bs -/
def DRaw (P : Program) (w : World) (a : Addr) (bs : List Addr) : HO := .ext fun h => (a == sysModules) = false ∧ ∃ o es ep, h.get? a = some o ∧ o.ExactDict ∧ o.data = .dict es ep ∧ es.toList.map (·.key) = bs.map Value.ref
theorem draw_of {P : Program} {w : World} {h : Heap} {a : Addr} {xs : List Tr} (x : h.DictOfH (tK P w) a xs) : ∃ o es ep, h.get? a = some o ∧ o.ExactDict ∧ o.data = .dict es ep ∧ es.toList.map (·.key) = (xs.map (·.2.1)).map Value.ref := by
  obtain ⟨o, es, ep, h1, h2, h3, h4, _⟩ := x
  refine ⟨o, es, ep, h1, h2, h3, ?_⟩
  rw [h4, List.map_map, List.map_map]
  rfl
/-- what a fold of pairs leaves -/
theorem putAll_mem : ∀ (l acc : List Tr) (x : Tr), x ∈ putAll acc l → (∃ y ∈ acc, x.1 = y.1 ∧ x.2.1 = y.2.1) ∨ ∃ y ∈ l, x.1 = y.1 ∧ x.2.1 = y.2.1
  | [], acc, x, h => .inl ⟨x, h, rfl, rfl⟩
  | q :: l, acc, x, h => by
    rcases putAll_mem l (storedH acc q.1 q.2.1 q.2.2) x h with ⟨y, hy, e1, e2⟩ | ⟨y, hy, e⟩
    · rcases stored_mem hy with ⟨z, hz, e3, e4⟩ | e
      · exact .inl ⟨z, hz, e1.trans e3, e2.trans e4⟩
      · right
        refine ⟨q, by simp, ?_, ?_⟩
        · rw [e1, e]
        · rw [e2, e]
    · exact .inr ⟨y, by simp [hy], e⟩
theorem stored_keys {acc : List Tr} {k : List Key} {a : Addr} {v : Value} : (∀ y ∈ acc, ∃ x ∈ storedH acc k a v, x.1 = y.1) ∧ ∃ x ∈ storedH acc k a v, x.1 = k := by
  unfold storedH
  by_cases h : (atKey acc k).isSome = true
  · rw [if_pos h]
    refine ⟨fun y hy => ⟨putAt k v y, List.mem_map.mpr ⟨y, hy, rfl⟩, by unfold putAt; split <;> rfl⟩, ?_⟩
    unfold atKey at h
    rw [Option.isSome_map] at h
    obtain ⟨y, hy⟩ := Option.isSome_iff_exists.mp h
    have hm := List.mem_of_find?_eq_some hy
    have hk : y.1 = k := by simpa using List.find?_some hy
    exact ⟨putAt k v y, List.mem_map.mpr ⟨y, hm, rfl⟩, by unfold putAt; split <;> exact hk⟩
  · rw [if_neg h]
    exact ⟨fun y hy => ⟨y, by simp [hy], rfl⟩, (k, a, v), by simp, rfl⟩
theorem putAll_keys : ∀ (l acc : List Tr), (∀ y ∈ acc, ∃ x ∈ putAll acc l, x.1 = y.1) ∧ ∀ y ∈ l, ∃ x ∈ putAll acc l, x.1 = y.1
  | [], acc => ⟨fun y hy => ⟨y, hy, rfl⟩, fun y hy => absurd hy (by simp)⟩
  | q :: l, acc => by
    obtain ⟨h1, h2⟩ := putAll_keys l (storedH acc q.1 q.2.1 q.2.2)
    obtain ⟨s1, s2⟩ := stored_keys (acc := acc) (k := q.1) (a := q.2.1) (v := q.2.2)
    refine ⟨fun y hy => ?_, fun y hy => ?_⟩
    · obtain ⟨z, hz, e⟩ := s1 y hy
      obtain ⟨x, hx, e2⟩ := h1 z hz
      exact ⟨x, hx, e2.trans e⟩
    · rcases List.mem_cons.mp hy with e | hy
      · obtain ⟨z, hz, e3⟩ := s2
        obtain ⟨x, hx, e2⟩ := h1 z hz
        exact ⟨x, hx, by rw [e2, e3, e]⟩
      · exact h2 y hy
end Cal
/-! CalP -/
namespace Cal
open PySem PySem.Spec PyProof.Rows L2
abbrev Rw2 := Addr × (Int × Int)
theorem putAll_len : ∀ (l acc : List Tr), (putAll acc l).length ≤ acc.length + l.length
  | [], acc => Nat.le_refl _
  | q :: l, acc => by
    have h1 := putAll_len l (storedH acc q.1 q.2.1 q.2.2)
    have h2 := stored_len acc q.1 q.2.1 q.2.2
    show (putAll (storedH acc q.1 q.2.1 q.2.2) l).length ≤ acc.length + (l.length + 1)
    omega
section
variable {X : Cx}
theorem trs_of {pins : List (Addr × Obj)} {σ : L2.St} {H : Hp} {s : Shared} (I : Inv X pins σ H s) : ∀ {ps : List Addr} {us : List Rw2}, Paired (fun p q => SqT X.K H p [.ref q.1, .int 1] ∧ SqT X.K H q.1 [.int q.2.1, .int q.2.2]) ps us →
    ∃ prs : List Tr, prs.map (fun q => (q.1, q.2.1)) = us.map (fun q => ([Sum.inl q.2.1, Sum.inl q.2.2], q.1)) ∧ prs.length = ps.length ∧ ∀ (j : Nat) (q : Tr), prs[j]? = some q → ∃ b : Addr, ps[j]? = some b ∧ IsTup s.heap b #[.ref q.2.1, q.2.2] ∧ (tK X.prog X.w).is s.heap q.1 q.2.1
  | _, _, .nil => ⟨[], rfl, rfl, fun j q e => by simp at e⟩
  | _, _, .cons (a := p) (b := kv) h t => by
    obtain ⟨prs, r, hl, hp⟩ := trs_of I t
    obtain ⟨its, rv, ht, _⟩ := I.tuple h.1
    obtain ⟨u, y, ei, ru, ry⟩ := vals2 rv
    subst ei
    obtain ⟨its2, rv2, ht2, _⟩ := I.tuple h.2
    obtain rfl : u = Value.ref kv.1 := ru
    have hk : (tK X.prog X.w).is s.heap [Sum.inl kv.2.1, Sum.inl kv.2.2] kv.1 := by
      obtain ⟨o, h1, h2, n, h3⟩ := ht2
      exact ⟨o, its2.toArray, n, h1, h2, h3, by simpa using items_are (ks := [Sum.inl kv.2.1, Sum.inl kv.2.2]) rv2⟩
    refine ⟨([Sum.inl kv.2.1, Sum.inl kv.2.2], kv.1, y) :: prs, by rw [List.map_cons, List.map_cons, r], by rw [List.length_cons, List.length_cons, hl], fun j q e => ?_⟩
    cases j with
    | zero =>
      have e' := Option.some.inj e
      subst e'
      exact ⟨p, rfl, ht, hk⟩
    | succ j =>
      obtain ⟨b, e1, e2, e3⟩ := hp j q (by simpa using e)
      exact ⟨b, by simpa using e1, e2, e3⟩
/-- dict(xs), a list of pairs (pair of ints, 1) -/
theorem cr_dictT (hcalm : X.calm = true) (hu : X.A.units + 64 < cLine) : CallR X (.type "dict") (fun xs H Q => ∃ (a : Addr) (ps : List Addr) (us : List Rw2), xs = [.ref a] ∧ SqL X.K H a (ps.map V.ref) ∧ Paired (fun p q => SqT X.K H p [.ref q.1, .int 1] ∧ SqT X.K H q.1 [.int q.2.1, .int q.2.2]) ps us ∧
    ∀ (d : Addr) (L : List Rw2), (L.map (·.2)).Nodup → (∀ x ∈ L, x ∈ us) → (∀ y ∈ us, ∃ x ∈ L, x.2 = y.2) → L.length ≤ us.length → H d = none → Q (.ref d) (upd H d (DRaw X.prog X.w d (L.map (·.1))))) := by
  intro pins s σ H xs us Q I r q
  obtain ⟨a, ps, us2, ex, hq, hp, q⟩ := q
  subst ex
  obtain ⟨u, eu, rx⟩ := vals1 r
  subst eu
  cases rx
  obtain ⟨its, rv, pl, hz⟩ := I.list hq
  have ei := refs_at rv
  subst ei
  rw [List.length_map] at hz
  obtain ⟨prs, rel, hl, hpr⟩ := trs_of I hp
  obtain ⟨o, n, ho, hc, hd, hdat⟩ := pl
  refine call_dict_pairsT (prs := prs) (I.ok.hd hcalm) (show X.A.units + 1 + 1 < cLine by omega) ho hc hd hdat (by simp [hl]) (by rw [hl]; exact hz) (fun j q' e => ?_) fun h' tk hd' k => ?_
  · obtain ⟨b, e1, e2, e3⟩ := hpr j q' e
    exact ⟨b, by simp [e1], e2, e3⟩
  · have hm : (s.heap.objs.size == sysModules) = false := beq_eq_false_iff_ne.mpr (Nat.ne_of_gt I.big)
    have hnd : ((putAll [] prs).map (·.1)).Nodup := by
      obtain ⟨_, _, _, _, _, _, _, _, z⟩ := hd'
      exact z
    have mm : ∀ y ∈ prs, ∃ q ∈ us2, y.1 = [Sum.inl q.2.1, Sum.inl q.2.2] ∧ y.2.1 = q.1 := by
      intro y hy
      have z : (y.1, y.2.1) ∈ prs.map (fun q => (q.1, q.2.1)) := List.mem_map.mpr ⟨y, hy, rfl⟩
      rw [rel] at z
      obtain ⟨q, hq, e⟩ := List.mem_map.mp z
      exact ⟨q, hq, (Prod.mk.inj e).1.symm, (Prod.mk.inj e).2.symm⟩
    have mu : ∀ q ∈ us2, ∃ y ∈ prs, y.1 = [Sum.inl q.2.1, Sum.inl q.2.2] ∧ y.2.1 = q.1 := by
      intro q hq
      have z : (([Sum.inl q.2.1, Sum.inl q.2.2] : List Key), q.1) ∈ us2.map (fun q => (([Sum.inl q.2.1, Sum.inl q.2.2] : List Key), q.1)) := List.mem_map.mpr ⟨q, hq, rfl⟩
      rw [← rel] at z
      obtain ⟨y, hy, e⟩ := List.mem_map.mp z
      exact ⟨y, hy, (Prod.mk.inj e).1, (Prod.mk.inj e).2⟩
    have each : ∀ x ∈ putAll [] prs, ∃ q ∈ us2, x.1 = [Sum.inl q.2.1, Sum.inl q.2.2] ∧ x.2.1 = q.1 := by
      intro x hx
      rcases putAll_mem prs [] x hx with ⟨y, hy, _⟩ | ⟨y, hy, e1, e2⟩
      · exact absurd hy (by simp)
      · obtain ⟨q, hq, e3, e4⟩ := mm y hy
        exact ⟨q, hq, e1.trans e3, e2.trans e4⟩
    -- the rows behind the keys
    have rows : ∀ l : List Tr, (∀ x ∈ l, ∃ q ∈ us2, x.1 = [Sum.inl q.2.1, Sum.inl q.2.2] ∧ x.2.1 = q.1) → ∃ L : List Rw2, L.map (·.1) = l.map (·.2.1) ∧ L.map (fun q => ([Sum.inl q.2.1, Sum.inl q.2.2] : List Key)) = l.map (·.1) ∧ ∀ x ∈ L, x ∈ us2 := by
      intro l
      induction l with
      | nil => intro _; exact ⟨[], rfl, rfl, fun x hx => absurd hx (by simp)⟩
      | cons x l ih =>
        intro hx
        obtain ⟨q, hq, e1, e2⟩ := hx x (by simp)
        obtain ⟨L, l1, l2, l3⟩ := ih fun y hy => hx y (by simp [hy])
        refine ⟨q :: L, by rw [List.map_cons, List.map_cons, l1, e2], by rw [List.map_cons, List.map_cons, l2, e1], fun y hy => ?_⟩
        rcases List.mem_cons.mp hy with e | hy
        · rw [e]; exact hq
        · exact l3 y hy
    obtain ⟨L, l1, l2, l3⟩ := rows _ each
    have hLn : (L.map (·.2)).Nodup := by
      rw [← l2] at hnd
      have e : L.map (fun q => ([Sum.inl q.2.1, Sum.inl q.2.2] : List Key)) = (L.map (·.2)).map (fun u => ([Sum.inl u.1, Sum.inl u.2] : List Key)) := by rw [List.map_map]; rfl
      rw [e] at hnd
      exact List.Pairwise.imp (fun hne z => hne (by rw [z])) (List.pairwise_map.mp hnd)
    have hLa : ∀ y ∈ us2, ∃ x ∈ L, x.2 = y.2 := by
      intro y hy
      obtain ⟨z, hz, e1, _⟩ := mu y hy
      obtain ⟨x, hx, e2⟩ := (putAll_keys prs []).2 z hz
      have hx2 : x.1 ∈ (putAll [] prs).map (·.1) := List.mem_map.mpr ⟨x, hx, rfl⟩
      rw [← l2] at hx2
      obtain ⟨q, hq, e3⟩ := List.mem_map.mp hx2
      refine ⟨q, hq, ?_⟩
      have e4 : ([Sum.inl q.2.1, Sum.inl q.2.2] : List Key) = [Sum.inl y.2.1, Sum.inl y.2.2] := e3.trans (e2.trans e1)
      have f1 := (List.cons.inj e4).1
      have f2 := (List.cons.inj (List.cons.inj e4).2).1
      exact Prod.ext (Sum.inl.inj f1) (Sum.inl.inj f2)
    have hLl : L.length ≤ us2.length := by
      have e1 := congrArg List.length l1
      have e2 := congrArg List.length rel
      have e3 := putAll_len prs []
      rw [List.length_map, List.length_map] at e1 e2
      rw [List.length_nil] at e3
      omega
    obtain ⟨o2, es, ep, g1, g2, g3, g4⟩ := draw_of hd'
    refine ⟨.ref s.heap.objs.size, upd H s.heap.objs.size (DRaw X.prog X.w s.heap.objs.size (L.map (·.1))), I.laid (t' := tk) k (Nat.le_refl _) ⟨⟨hm, o2, es, ep, g1, g2, g3, by rw [l1]; exact g4⟩, ⟨o2, g1⟩, fun h1 h2 ⟨z0, o3, es3, ep3, z1, z2⟩ st => ⟨z0, o3, es3, ep3, st _ z1, z2⟩⟩, rfl, q _ L hLn l3 hLa hLl (I.hok.fresh (Nat.le_refl _))⟩
theorem refs_perm {l : List Value} {bs : List Addr} (h : l.Perm (bs.map Value.ref)) : ∃ as : List Addr, l = as.map Value.ref ∧ as.Perm bs := by
  have all : ∀ l : List Value, (∀ v ∈ l, ∃ a, v = Value.ref a) → ∃ as : List Addr, l = as.map Value.ref := by
    intro l
    induction l with
    | nil => intro _; exact ⟨[], rfl⟩
    | cons v l ih =>
      intro hv
      obtain ⟨a, e⟩ := hv v (by simp)
      obtain ⟨as, e2⟩ := ih fun u hu => hv u (by simp [hu])
      exact ⟨a :: as, by rw [e, e2]; rfl⟩
  obtain ⟨as, e⟩ := all l fun v hv => by
    obtain ⟨a, _, e⟩ := List.mem_map.mp (h.mem_iff.mp hv)
    exact ⟨a, e.symm⟩
  refine ⟨as, e, ?_⟩
  rw [e] at h
  have h2 := h.map (fun v => match v with | .ref a => a | _ => 0)
  rw [List.map_map, List.map_map] at h2
  have f : ∀ l : List Addr, l.map ((fun v => match v with | .ref a => a | _ => 0) ∘ Value.ref) = l := by
    intro l
    induction l with
    | nil => rfl
    | cons a l ih => rw [List.map_cons, ih]; rfl
  rw [f, f] at h2
  exact h2
theorem refs_vals : ∀ as : List Addr, Vals (as.map V.ref) (as.map Value.ref)
  | [] => .nil
  | _ :: r => .cons rfl (refs_vals r)
/-- sorted(d), such a dict -/
theorem cr_sortedD (hcalm : X.calm = true) : CallR X (.builtin "sorted") (fun xs H Q => ∃ (d : Addr) (L : List Rw2), xs = [.ref d] ∧ H d = some (DRaw X.prog X.w d (L.map (·.1))) ∧ (∀ x ∈ L, SqT X.K H x.1 [.int x.2.1, .int x.2.2] ∧ In6 x.2) ∧ L.length < 64 ∧
    ∀ (as : List Addr) (p : Addr), as.Perm (L.map (·.1)) → (as.map V.ref).Pairwise (fun x y => ∀ n m, TupI X.K H x n → TupI X.K H y m → TS.code 6 n ≤ TS.code 6 m) → H p = none → Q (.ref p) (upd H p (.lst (as.map V.ref)))) := by
  intro pins s σ H xs us Q I r q
  obtain ⟨d, L, ex, hd, hL, h64, q⟩ := q
  subst ex
  obtain ⟨u, eu, rx⟩ := vals1 r
  subst eu
  cases rx
  obtain ⟨⟨lo, o, es, ep, ho, hx, hdt, hk⟩, _, _⟩ := I.hok d _ hd
  have hn : es.size = L.length := by
    have e := congrArg List.length hk
    rw [List.length_map, List.length_map, List.length_map, Array.length_toList] at e
    exact e
  refine Calls.call_function_entry PyProof.Rows.kind_sorted PyProof.Rows.plain_sorted PyProof.Rows.entry_sorted (PyProof.Rows.args_sorted1 _) ?_
  unfold Builtin.«sorted»
  refine wpAny_bind (m := checkCount "sorted" 1 1 _) (wpAny_pure ?_)
  refine wpAny_bind (PySem.W.kdu_collect (A := X.A.in1) (kdl_raw lo hx hdt) (I.ok.hd hcalm) ho (by rw [hn, sizeLine_eq]; omega) fun h' tk acc hkp hacc => ?_)
  have ea : acc.toList = (L.map (·.1)).map Value.ref := by
    rw [← hk]
    apply List.ext_getElem?
    intro j
    cases hj : acc.toList[j]? with
    | none =>
      have h1 := List.getElem?_eq_none_iff.mp hj
      rw [Array.length_toList, hacc.1] at h1
      rw [List.getElem?_eq_none (by rw [List.length_map, Array.length_toList]; omega)]
    | some v =>
      obtain ⟨en, hen, hv⟩ := hacc.2 j v (by rw [← Array.getElem?_toList]; exact hj)
      rw [List.getElem?_map, Array.getElem?_toList, hen, hv]
      rfl
  have hvl : acc.toList.length < 64 := by rw [ea, List.length_map, List.length_map]; exact h64
  have I1 : Inv X pins σ H { s with heap := h', toks := tk } := I.kept hkp
  refine wpAny_bind (wpAny_newList ?_ (by rw [sizeLine_eq]; omega))
  have hoL : (h'.push (seqObj "list" acc.toList.toArray 0)).get? h'.objs.size = some (seqObj "list" acc.toList.toArray 0) := Heap.get?_push_size _ rfl
  have tki : ∀ x ∈ L, TS.TupInts (h'.push (seqObj "list" acc.toList.toArray 0)) (.ref x.1) [x.2.1, x.2.2] := fun x hx2 => (tupI_raw (ns := [x.2.1, x.2.2]) I (hL x hx2).1).keeps fun b u e _ => Heap.get?_push_of_some _ (hkp b u e)
  have tok : TS.TupsOk (h'.push (seqObj "list" acc.toList.toArray 0)) 2 6 acc.toList := fun v hv => by
    rw [ea, List.map_map] at hv
    obtain ⟨x, hx2, e⟩ := List.mem_map.mp hv
    rw [← e]
    obtain ⟨b1, b2, b3, b4⟩ := (hL x hx2).2
    refine ⟨[x.2.1, x.2.2], tki x hx2, rfl, fun m hm => ?_⟩
    simp only [List.mem_cons, List.not_mem_nil, or_false] at hm
    rcases hm with e | e
    · rw [e]; exact ⟨b1, b2⟩
    · rw [e]; exact ⟨b3, b4⟩
  show wpAny _ _ _ _ _ { s with heap := h'.push (seqObj "list" acc.toList.toArray 0), toks := tk }
  refine wpAny_bind (wpAny_holding (TS.call_sort_tups (s := { s with heap := h'.push (seqObj "list" acc.toList.toArray 0), toks := tk }) hoL hvl (by decide) tok fun out a1 a2 => ?_))
  obtain ⟨c, hc⟩ := PyProof.Rows.sortedHeap_at (vs := acc.toList) (out := out) hoL
  rw [ea] at a1
  obtain ⟨as, e1, e2⟩ := refs_perm a1
  have pw : (as.map V.ref).Pairwise (fun x y => ∀ n m, TupI X.K H x n → TupI X.K H y m → TS.code 6 n ≤ TS.code 6 m) := by
    rw [e1] at a2
    refine List.pairwise_map.mpr (List.Pairwise.imp (fun {a b} hab n m hn2 hm2 => ?_) (List.pairwise_map.mp a2))
    obtain ⟨t1, z1, y1⟩ := hn2
    obtain ⟨t2, z2, y2⟩ := hm2
    cases z1
    cases z2
    have f1 : TS.intsOf (h'.push (seqObj "list" acc.toList.toArray 0)) (.ref a) = n := ((tupI_raw I y1).keeps fun b u e _ => Heap.get?_push_of_some _ (hkp b u e)).ints
    have f2 : TS.intsOf (h'.push (seqObj "list" acc.toList.toArray 0)) (.ref b) = m := ((tupI_raw I y2).keeps fun b u e _ => Heap.get?_push_of_some _ (hkp b u e)).ints
    rw [← f1, ← f2]
    exact hab
  have hz : (as.map V.ref).length ≤ sizeLine := by
    rw [List.length_map, e2.length_eq, List.length_map, sizeLine_eq]
    omega
  refine wpAny_pure ⟨_, rfl, .ref h'.objs.size, upd H h'.objs.size (.lst (as.map V.ref)), I1.laid (t' := tk) (fun b u e => ?_) (Nat.le_refl _) ⟨hz, as.map Value.ref, c, refs_vals as, by rw [← e1]; simpa using hc⟩, rfl, q as _ e2 pw (I1.hok.fresh (Nat.le_refl _))⟩
  have hlt := Heap.lt_size e
  show (PyProof.Rows.sortedHeap (h'.push (seqObj "list" acc.toList.toArray 0)) h'.objs.size acc.toList out).get? b = some u
  rw [PyProof.Rows.sortedHeap_old (Nat.ne_of_lt hlt) (by rw [PyProof.Rows.size_push']; exact Nat.lt_succ_of_lt hlt)]
  exact Heap.get?_push_of_some _ e
end
abbrev prD (u : Int × Int) : D := .tuple [pD u, .int 1]
def sDict (K : PySem.W.Frag) (P : Program) (w : World) (us : List (Int × Int)) : Sv := .kn fun G v => ∃ (d : Addr) (L : List Rw2), v = .ref d ∧ G d = some (DRaw P w d (L.map (·.1))) ∧ (L.map (·.2)).Nodup ∧ (∀ x ∈ L, SqT K G x.1 [.int x.2.1, .int x.2.2] ∧ x.2 ∈ us) ∧ (∀ u ∈ us, ∃ x ∈ L, x.2 = u) ∧ L.length ≤ us.length
theorem pairs_split {K : PySem.W.Frag} {G : Hp} : ∀ {ys : List V} {us : List (Int × Int)}, DpAll K G ys (us.map prD) → ∃ (ps : List Addr) (rs : List Rw2), ys = ps.map V.ref ∧ rs.map (·.2) = us ∧ Paired (fun p q => SqT K G p [.ref q.1, .int 1] ∧ SqT K G q.1 [.int q.2.1, .int q.2.2]) ps rs
  | [], [], _ => ⟨[], [], rfl, rfl, .nil⟩
  | [], u :: us, h => by cases h
  | y :: ys, [], h => by cases h
  | y :: ys, u :: us, h => by
    cases h with
    | cons h1 h2 =>
      obtain ⟨ps, rs, e1, e2, e3⟩ := pairs_split h2
      obtain ⟨p, ws, rfl, g1, g2⟩ := vk_tup (show Vk K G y (.dat (.tuple [pD u, .int 1])) from h1)
      cases g2 with
      | cons a b =>
        cases b with
        | cons b c =>
          cases c
          cases b
          obtain ⟨t, rfl, g3⟩ := dp_pair a
          exact ⟨p :: ps, (t, u) :: rs, by rw [e1]; rfl, by rw [List.map_cons, e2], .cons ⟨g1, g3⟩ e3⟩
section
variable {X : Cx} {ds : List Sv} {M M1 : Ms} {a : Expr} {pos p : Pos}
theorem pd_dictP {us : List (Int × Int)} (hm : X.mg "dict" = none) (hc : X.calm = true) (hu : X.A.units + 64 < cLine) (ha : PD X ds M a (.dat (.list (us.map prD))) M1) (hg : Gl X "dict" := by rfl) (h1 : starEach (a :: []) X.env = (false, eval a X.env) :: starEach [] X.env := by rfl) :
    PD X ds M (.Call (.Name "dict" p) [a] [] pos) (sDict X.K X.prog X.w us) M1 :=
  pe_mono (pe_callTy (cr_dictT hc hu) hg hm PyProof.Rows.boot_dict (pda_cons ha pda_nil h1) (he := h1)) fun σ H Q q => ce_args (fun G H ws Q w hv k => by
    obtain ⟨v, rfl, h⟩ := vks1 hv
    obtain ⟨a', ys, rfl, h2, h3⟩ := vk_lst h
    obtain ⟨ps, rs, e1, e2, e3⟩ := pairs_split h3
    subst e1
    refine ⟨a', ps, rs, rfl, w.ex.seq h2, Paired.mapP e3 fun _ _ z => ⟨seqT w.ex z.1, seqT w.ex z.2⟩, fun d L l1 l2 l3 l4 hd => ?_⟩
    have sq : ∀ x ∈ rs, SqT X.K G x.1 [.int x.2.1, .int x.2.2] := by
      have gen : ∀ (ps : List Addr) (rs : List Rw2), Paired (fun p q => SqT X.K G p [.ref q.1, .int 1] ∧ SqT X.K G q.1 [.int q.2.1, .int q.2.2]) ps rs → ∀ x ∈ rs, SqT X.K G x.1 [.int x.2.1, .int x.2.2] := by
        intro ps rs h
        induction h with
        | nil => intro x hx; exact absurd hx (by simp)
        | cons h t ih =>
          intro x hx
          rcases List.mem_cons.mp hx with e | hx
          · rw [e]; exact h.2
          · exact ih x hx
      exact gen ps rs e3
    have hnt : ∀ q, DRaw X.prog X.w d (L.map (·.1)) ≠ .tbl q := fun q z => by
      unfold DRaw at z
      cases z
    have p2 := Po.new w hd (DRaw X.prog X.w d (L.map (·.1))) hnt
    refine k _ _ _ p2 ⟨_, Same.refl _, d, L, rfl, upd_same, l1, fun x hx => ⟨seqT p2.g (sq x (l2 x hx)), ?_⟩, fun u hu2 => ?_, ?_⟩
    · rw [← e2]
      exact List.mem_map.mpr ⟨x, l2 x hx, rfl⟩
    · rw [← e2] at hu2
      obtain ⟨y, hy, rfl⟩ := List.mem_map.mp hu2
      exact l3 y hy
    · rw [← e2, List.length_map]
      exact l4) q
theorem pd_sortD {us vs : List (Int × Int)} (hm : X.mg "sorted" = none) (hc : X.calm = true) (ha : PD X ds M a (sDict X.K X.prog X.w us) M1) (hl : us.length < 64) (hb : ∀ u ∈ us, In6 u) (hmem : ∀ u, u ∈ vs ↔ u ∈ us) (hs : vs.Pairwise fun u v => cd6 u < cd6 v) (hg : Gl X "sorted" := by rfl) (h1 : starEach (a :: []) X.env = (false, eval a X.env) :: starEach [] X.env := by rfl) :
    PD X ds M (.Call (.Name "sorted" p) [a] [] pos) (.dat (.list (vs.map pD))) M1 :=
  pe_mono (pe_callB (cr_sortedD hc) hg hm rfl (pda_cons ha pda_nil h1) (he := h1)) fun σ H Q q => ce_args (fun G H ws Q w hv k => by
    obtain ⟨v, rfl, h⟩ := vks1 hv
    obtain ⟨G0, g0, d, L, rfl, f1, f2, f3, f4, f5⟩ := h
    refine ⟨d, L, rfl, w.ex _ _ (g0 _ _ f1), fun x hx => ⟨seqT (g0.trans w.ex) (f3 x hx).1, hb _ (f3 x hx).2⟩, by omega, fun as pp hz hz2 hpp => ?_⟩
    have dl : ∀ L : List Rw2, (∀ x ∈ L, SqT X.K G0 x.1 [.int x.2.1, .int x.2.2]) → DpAll X.K G ((L.map (·.1)).map V.ref) ((L.map (·.2)).map pD) := by
      intro L
      induction L with
      | nil => intro _; exact .nil
      | cons x L ih => intro hx; exact .cons (Dp.tup (seqT g0 (hx x (by simp))) (.cons (.int _) (.cons (.int _) .nil))) (ih fun y hy => hx y (by simp [hy]))
    obtain ⟨us', e1, e2⟩ := dps_perm (hz.map V.ref) (L.map (·.2)) (dl L fun x hx => (f3 x hx).1)
    have e3 := dps_pair w.ex e2 hz2
    have nv : vs.Nodup := List.Pairwise.imp (fun {u v} h z => by rw [z] at h; exact Int.lt_irrefl _ h) hs
    have pv : vs.Perm (L.map (·.2)) := (List.perm_ext_iff_of_nodup nv f2).mpr fun u => by
      rw [hmem u]
      constructor
      · intro hu
        obtain ⟨x, hx, e⟩ := f4 u hu
        exact List.mem_map.mpr ⟨x, hx, e⟩
      · intro hu
        obtain ⟨x, hx, e⟩ := List.mem_map.mp hu
        rw [← e]
        exact (f3 x hx).2
    have hin : ∀ u ∈ us', In6 u := fun u hu => hb u ((hmem u).mp (pv.mem_iff.mpr (e1.mem_iff.mp hu)))
    have e4 : us' = vs := perm_uniq (e1.trans pv.symm) e3 (hs.imp fun h => Int.le_of_lt h) fun x hx y hy => cd6_inj (hin x hx) (hin y hy)
    rw [e4] at e2
    exact k _ _ _ (dp_newL w e2 hpp).1 (dp_newL w e2 hpp).2) q
end
end Cal
/-! WpA -/
/-! What is to hold ahead of an expression, a test, a row of statements, so that what is wanted holds behind it; read off the text. -/
namespace Cal
open PySem PySem.Spec PyProof.Rows L2 LamX

abbrev PoE := Sv → Ms → Prop
abbrev PoA := List Sv → Ms → Prop
abbrev PoT := Bool → Ms → Prop
abbrev Er := Addr → Ms → Prop
/-- a def's promise, as what it asks -/
structure Sig where
  n : Nat
  dr : List Sv
  T : List Sv → Ms → PoE → Er → Prop
  mono : ∀ {rs : List Sv} {M : Ms} {Q Q' : PoE} {E E' : Er}, (∀ r M', Q r M' → Q' r M') → (∀ c M', E c M' → E' c M') → T rs M Q E → T rs M Q' E'
/-- what is known of the module -/
structure Gi where
  T : Tb
  k : Nat
  sg : Str → Nat → Option Sig
  gv : Str → Option Sv
  bi : Str → Bool
  gc : Str → Bool
  fa : Str → Addr
  ex : Str → Option Addr
  es : List (Addr × Str)
  lq : Str
  /-- are dicts gone through; the attributes of things of classes; their methods; their makers -/
  wk : Bool := false
  fl : Addr → Str → Bool := fun _ _ => false
  mt : Addr → Str → Nat → Option Sig := fun _ _ _ => none
  mkr : Str → Nat → Option (Addr × Sig) := fun _ _ => none
/-- lambdas that are kept and capture names: in the def that makes them (its cells), and in a block of it that has them called (what the def's names held at the block's birth) -/
inductive Kp where
  | no
  | df (cs : List (Str × Addr))
  | bl (cs : List (Str × Addr)) (tau : L2.St) (φ : Hp → V → Prop) (ds : List Sv) (sc : Scope)
/-- what is known of the block: all names by slots, the scope, the cells of its own -/
structure Sc where
  N : List Str
  sc : Scope
  fn : Str → Bool
  lam : Bool
  tq : Bool
  kp : Kp
/-- a lambda that captures nothing, beside a text -/
def pairLS (L : Lf) (t : Str) : Sv := .kn fun G v => ∃ p f c', v = .ref p ∧ G p = some (.tup [.ref f, .str t]) ∧ G f = some (LamO f L c') ∧ G c' = some (CodeO c' L.qual)
theorem vk_pairLS {K : PySem.W.Frag} {G : Hp} {v : V} {L : Lf} {t : Str} (h : Vk K G v (pairLS L t)) : ∃ p f c', v = .ref p ∧ G p = some (.tup [.ref f, .str t]) ∧ G f = some (LamO f L c') ∧ G c' = some (CodeO c' L.qual) := by
  obtain ⟨G0, e, p, f, c', h1, h2, h3, h4⟩ := h
  exact ⟨p, f, c', h1, e _ _ h2, e _ _ h3, e _ _ h4⟩
section
variable (K : PySem.W.Frag) (T : Tb)
structure Wt (M : Ms) (G H : Hp) : Prop where
  w : Wo K M G H
  t : Tabs T H
def okE (G : Hp) (Q : PoE) (q : VK) : Prop := ∀ r M' v G' H', Q r M' → Same G G' → Wt K T M' G' H' → Vk K G' v r → q v H'
def okA (G : Hp) (Q : PoA) (q : List V → Hp → Prop) : Prop := ∀ rs M' vs G' H', Q rs M' → Same G G' → Wt K T M' G' H' → Vks K G' vs rs → q vs H'
def okT (G : Hp) (Q : PoT) (q : Bool → Hp → Prop) : Prop := ∀ b M' G' H', Q b M' → Same G G' → Wt K T M' G' H' → q b H'
def erE (G : Hp) (E : Er) (W : WX) : Prop := ∀ c M' G' H' σ', E c M' → Same G G' → Wt K T M' G' H' → W (.ref c) none σ' H'
def erX (G : Hp) (E : Er) (W : XK) : Prop := ∀ c M' G' H', E c M' → Same G G' → Wt K T M' G' H' → W (.ref c) none H'
def tE (W : WX) (ds : List Sv) (M : Ms) (Q : PoE) (E : Er) : TE := fun σ H q => ∃ G, Wt K T M G H ∧ Sl K G σ ds ∧ okE K T G Q q ∧ erE K T G E W
def tA (W : WX) (ds : List Sv) (M : Ms) (Q : PoA) (E : Er) : TA := fun σ H q => ∃ G, Wt K T M G H ∧ Sl K G σ ds ∧ okA K T G Q q ∧ erE K T G E W
def tT (W : WX) (ds : List Sv) (M : Ms) (Q : PoT) (E : Er) : TT := fun σ H q => ∃ G, Wt K T M G H ∧ Sl K G σ ds ∧ okT K T G Q q ∧ erE K T G E W
def spP (S : Sig) : Sp := fun vs H Q E => ∃ G rs M Qp Ep, vs.length = S.n ∧ Wt K T M G H ∧ Vks K G vs rs ∧ S.T rs M Qp Ep ∧ okE K T G Qp Q ∧ erX K T G Ep E
end
section
variable {K : PySem.W.Frag} {T : Tb} {M M' : Ms} {G G' H H' : Hp}
theorem okE.up {Q : PoE} {q : VK} (e : Same G G') (h : okE K T G Q q) : okE K T G' Q q := fun r M' v G2 H2 hq s w hv => h r M' v G2 H2 hq (e.trans s) w hv
theorem okA.up {Q : PoA} {q : List V → Hp → Prop} (e : Same G G') (h : okA K T G Q q) : okA K T G' Q q := fun r M' v G2 H2 hq s w hv => h r M' v G2 H2 hq (e.trans s) w hv
theorem okT.up {Q : PoT} {q : Bool → Hp → Prop} (e : Same G G') (h : okT K T G Q q) : okT K T G' Q q := fun r M' G2 H2 hq s w => h r M' G2 H2 hq (e.trans s) w
theorem erE.up {E : Er} {W : WX} (e : Same G G') (h : erE K T G E W) : erE K T G' E W := fun c M' G2 H2 σ' hq s w => h c M' G2 H2 σ' hq (e.trans s) w
theorem Wt.new (w : Wt K T M G H) {p : Addr} (h : H p = none) (o : HO) (ho : ∀ ps, o ≠ .tbl ps := by intro _ z; cases z) : Same G (upd G p o) ∧ Wt K T M (upd G p o) (upd H p o) := by
  have p1 := Po.new w.w h o ho
  exact ⟨p1.g, p1.w, w.t.ext fun b u e => by rw [upd_ne (ne_of_none e h)]; exact e⟩
theorem Wt.mnew (w : Wt K T M G H) {p : Addr} (h : H p = none) {o : HO} {m : MO} (hm : MoK K G m o) : Wt K T ((p, m) :: M) G (upd H p o) :=
  ⟨(Po.mnew w.w h hm).w, w.t.ext fun b u e => by rw [upd_ne (ne_of_none e h)]; exact e⟩
theorem tabs_put (t : Tabs T H) {p : Addr} {vs : List V} {o' : HO} (h : H p = some (.lst vs)) : Tabs T (upd H p o') := fun q hq => by
  obtain ⟨ps, h1, h2, h3⟩ := t q hq
  refine ⟨ps, by rw [upd_ne (ne_of h1 h (by intro z; cases z))]; exact h1, h2, fun pos cv hc => ?_⟩
  obtain ⟨c, e1, e2⟩ := h3 pos cv hc
  exact ⟨c, e1, by rw [upd_ne (ne_of e2 h (by unfold CodeO; intro z; cases z))]; exact e2⟩
theorem Wt.mput {A C : Ms} {p : Addr} {rs : List Sv} {m' : MO} {o' : HO} (w : Wt K T (A ++ (p, .lst rs) :: C) G H) (hm : MoK K G m' o') : Wt K T (A ++ (p, m') :: C) G (upd H p o') := by
  obtain ⟨vs, h1, _, _⟩ := w.w.lst
  exact ⟨(Po.mput w.w hm).w, tabs_put w.t h1⟩
theorem Wt.lst {A C : Ms} {p : Addr} {rs : List Sv} (w : Wt K T (A ++ (p, .lst rs) :: C) G H) : ∃ vs, H p = some (.lst vs) ∧ Vks K G vs rs ∧ G p = none := w.w.lst
theorem nodup_mid {A C : Ms} {p : Addr × MO} (h : ((A ++ p :: C).map (·.1)).Nodup) : ((A ++ C).map (·.1)).Nodup := by
  rw [List.map_append, List.map_cons] at h
  rw [List.map_append]
  obtain ⟨h1, h2, h3⟩ := List.nodup_append.mp h
  exact List.nodup_append.mpr ⟨h1, (List.nodup_cons.mp h2).2, fun a ha b hb => h3 a ha b (List.mem_cons_of_mem _ hb)⟩
theorem mid_ne {A C : Ms} {p q : Addr × MO} (h : ((A ++ p :: C).map (·.1)).Nodup) (hq : q ∈ A ++ C) : q.1 ≠ p.1 := by
  rw [List.map_append, List.map_cons] at h
  obtain ⟨h1, h2, h3⟩ := List.nodup_append.mp h
  intro e
  rcases List.mem_append.mp hq with hq | hq
  · exact h3 q.1 (List.mem_map.mpr ⟨q, hq, rfl⟩) p.1 (by simp) e
  · exact (List.nodup_cons.mp h2).1 (by rw [← e]; exact List.mem_map.mpr ⟨q, hq, rfl⟩)
theorem mem_mid {A C : Ms} {p q : Addr × MO} (hq : q ∈ A ++ C) : q ∈ A ++ p :: C := by
  rcases List.mem_append.mp hq with h | h
  · exact List.mem_append_left _ h
  · exact List.mem_append_right _ (List.mem_cons_of_mem _ h)
/-- what changes no more: known from now on -/
theorem Wt.freeze {A C : Ms} {p : Addr} {m : MO} {o : HO} (w : Wt K T (A ++ (p, m) :: C) G H) (ho : H p = some o) (htb : ∀ ps, o ≠ .tbl ps := by intro _ z; cases z) : Same G (upd G p o) ∧ Wt K T (A ++ C) (upd G p o) H := by
  have gp : G p = none := (w.w.mu (p, m) (by simp)).2
  have g : Same G (upd G p o) := fun x u e => by rw [upd_ne (ne_of_none e gp)]; exact e
  refine ⟨g, ⟨fun x u e => ?_, fun q hq => ?_, nodup_mid w.w.nd, fun x ps e => ?_⟩, w.t⟩
  · by_cases hx : x = p
    · subst hx; rw [upd_same] at e; rw [ho]; exact e
    · rw [upd_ne hx] at e; exact w.w.ex x u e
  · obtain ⟨⟨oq, e1, e2⟩, e3⟩ := w.w.mu q (mem_mid hq)
    have ne := mid_ne w.w.nd hq
    rw [upd_ne ne]; exact ⟨⟨oq, e1, e2.up g⟩, e3⟩
  · by_cases hx : x = p
    · subst hx; rw [upd_same] at e; exact htb ps (Option.some.inj e)
    · rw [upd_ne hx] at e; exact w.w.nt x ps e
/-- .. or forgotten -/
theorem Wt.drop {A C : Ms} {p : Addr × MO} (w : Wt K T (A ++ p :: C) G H) : Wt K T (A ++ C) G H :=
  ⟨⟨w.w.ex, fun q hq => w.w.mu q (mem_mid hq), nodup_mid w.w.nd, w.w.nt⟩, w.t⟩
end
end Cal
/-! WpBx -/
namespace Cal
open PySem PySem.Spec PyProof.Rows L2
/-! sorted of a tuple of alike things; dicts of which the number alone is told -/
section
variable {X : Cx} {pins : List (Addr × Obj)} {σ : L2.St} {H : Hp} {s : Shared}
theorem each_reads (I : Inv X pins σ H s) : ∀ {vs : List V} {us : List Value} {ds : List D}, Vals vs us → DpAll X.K H vs ds → PySem.W.EachIs (fun v d => ∃ as, Reads s.heap v d as) us ds
  | _, _, [], .nil, .nil => .nil
  | _, _, d :: _, .cons r t, .cons h k => .cons (Dp.reads I d _ _ h r) (each_reads I t k)
theorem each_from {K : PySem.W.Frag} {H : Hp} : ∀ {vs : List V} {us : List Value} {ds : List D}, Vals vs us → DpAll K H vs ds → PySem.W.EachIs (fun v d => ∃ x : V, RelV x v ∧ Dp K H x d) us ds
  | _, _, _, .nil, .nil => .nil
  | _, _, _, .cons r t, .cons h k => .cons ⟨_, r, h⟩ (each_from t k)
theorem each_back {K : PySem.W.Frag} {H : Hp} : ∀ {us : List Value} {ds : List D}, PySem.W.EachIs (fun v d => ∃ x : V, RelV x v ∧ Dp K H x d) us ds → ∃ vs, Vals vs us ∧ DpAll K H vs ds
  | _, _, .nil => ⟨[], .nil, .nil⟩
  | _, _, .cons ⟨x, r, h⟩ t => by
    obtain ⟨vs, h1, h2⟩ := each_back t
    exact ⟨x :: vs, .cons r h1, .cons h h2⟩
end
mutual
theorem reads_in {h : Heap} : ∀ (d : D) (v : Value) (as : List Addr), PySem.W.alike d d = true → Reads h v d as → ∀ b ∈ as, ∃ o, h.get? b = some o
  | .none, _, _, _, r, b, hb => by cases r; cases hb
  | .bool _, _, _, _, r, b, hb => by cases r; cases hb
  | .int _, _, _, _, r, b, hb => by cases r; cases hb
  | .str _, _, _, _, r, b, hb => by cases r; cases hb
  | .list xs, _, _, ha, r, b, hb => by
    cases r with
    | list h1 h2 h3 h4 =>
      rcases List.mem_cons.mp hb with e | hb
      · rw [e]; exact ⟨_, h1⟩
      · exact reads_ins xs _ _ (by simpa [PySem.W.alike] using ha) h4 b hb
  | .tuple xs, _, _, ha, r, b, hb => by
    cases r with
    | tuple h1 h2 h3 h4 => exact reads_ins xs _ _ (by simpa [PySem.W.alike] using ha) h4 b hb
  | .dict _, _, _, ha, _, _, _ => absurd ha (by simp [PySem.W.alike])
theorem reads_ins {h : Heap} : ∀ (ds : List D) (vs : List Value) (as : List Addr), PySem.W.alikeAll ds ds = true → ReadsAll h vs ds as → ∀ b ∈ as, ∃ o, h.get? b = some o
  | [], _, _, _, r, b, hb => by cases r; cases hb
  | d :: ds, _, _, ha, r, b, hb => by
    cases r with
    | cons h1 h2 =>
      have ha2 : PySem.W.alike d d = true ∧ PySem.W.alikeAll ds ds = true := by
        simpa [PySem.W.alikeAll] using ha
      rcases List.mem_append.mp hb with hb | hb
      · exact reads_in d _ _ ha2.1 h1 b hb
      · exact reads_ins ds _ _ ha2.2 h2 b hb
end
section
variable {X : Cx} {pins : List (Addr × Obj)} {σ : L2.St} {H : Hp} {s : Shared}
theorem each_mem2 {R R' : Value → D → Prop} : ∀ {us : List Value} {ds : List D}, PySem.W.EachIs R us ds → (∀ v d, d ∈ ds → R v d → R' v d) → PySem.W.EachIs R' us ds
  | _, _, .nil, _ => .nil
  | _, _, .cons r t, h => .cons (h _ _ List.mem_cons_self r) (each_mem2 t fun v d hd => h v d (List.mem_cons_of_mem _ hd))
theorem cr_sortTup : CallR X (.builtin "sorted") (fun xs H Q => ∃ (p : Addr) (vs : List V) (ds : List D) (G : Hp), xs = [.ref p] ∧ SqT X.K H p vs ∧ Same G H ∧ DpAll X.K G vs ds ∧ PySem.W.AllAlike ds ∧ PySem.W.Sortable ds ∧ ds.length ≤ 1000 ∧ (∀ d ∈ ds, X.A.units + 20 + d.depth < cLine) ∧
    ∀ (ws : List V) (q : Addr), ws.length = ds.length → DpAll X.K G ws (ds.mergeSort (PySem.W.dataLe false id)) → H q = none → Q (.ref q) (upd H q (.lst ws))) := by
  intro pins s σ H xs us Q I r q
  obtain ⟨p, vs, ds, G, ex, hT, hG, hD, hal, hso, hl, hu, q⟩ := q
  subst ex
  obtain ⟨u, eu, rx⟩ := vals1 r
  subst eu
  cases rx
  obtain ⟨its, rv, ⟨o, ho, hc, n, hd⟩, hz⟩ := I.tuple hT
  have hli : its.length = ds.length := by rw [← rv.length, dps_len hD]
  refine Calls.call_function_entry PyProof.Rows.kind_sorted PyProof.Rows.plain_sorted PyProof.Rows.entry_sorted (PyProof.Rows.args_sorted1 _) ?_
  unfold Builtin.«sorted»
  refine wpAny_bind (m := checkCount "sorted" 1 1 _) (wpAny_pure ?_)
  refine wpAny_bind (wpAny_collect_seq (T := "tuple") p (.inr rfl) ho hc hd (fun h' hkp => ?_) (by rw [List.size_toArray, hli, sizeLine_eq]; omega))
  have I1 : Inv X pins σ H { s with heap := h' } := I.kept (t' := s.toks) hkp
  refine wpAny_bind (wpAny_newList ?_ (by rw [hli, sizeLine_eq]; omega))
  have hoL : (h'.push (seqObj "list" its.toArray 0)).get? h'.objs.size = some (seqObj "list" its.toArray 0) := Heap.get?_push_size _ rfl
  have hkL : ∀ b ob, s.heap.get? b = some ob → (h'.push (seqObj "list" its.toArray 0)).get? b = some ob := fun b ob e => Heap.get?_push_of_some _ (hkp b ob e)
  have er : PySem.W.EachIs (fun v d => ∃ as, Reads (h'.push (seqObj "list" its.toArray 0)) v (id d) as ∧ h'.objs.size ∉ as) its ds := each_mem2 (each_reads I rv (dpsUp hG ds hD)) fun v d hdm ⟨as, rd⟩ => ⟨as, PyProof.Rows.Reads.keeps hkL rd, fun hb => by
    obtain ⟨ob, e⟩ := reads_in d v as (hal d hdm d hdm) rd _ hb
    exact absurd (Heap.lt_size (hkp _ _ e)) (Nat.lt_irrefl _)⟩
  show wpAny _ _ _ _ _ { s with heap := h'.push (seqObj "list" its.toArray 0) }
  refine wpAny_bind (wpAny_holding (PySem.W.list_sort_data (enc := id) (s := { s with heap := h'.push (seqObj "list" its.toArray 0) }) hoL (each_from rv hD) er (by rw [List.map_id]; exact hal) (by rw [List.map_id]; exact hso) (by rw [sizeLine_eq]; omega) (fun d hd => ?_) fun out h1 h2 => ?_))
  · have := hu d hd
    show X.A.units + 1 + 1 + d.depth < cLine
    omega
  · obtain ⟨ws, w1, w2⟩ := each_back h2
    obtain ⟨c, hcc⟩ := PyProof.Rows.sortedHeap_at (vs := its) (out := out.toArray) hoL
    have hwl : ws.length = ds.length := by rw [dps_len w2, List.length_mergeSort]
    refine wpAny_pure ⟨_, rfl, .ref h'.objs.size, upd H h'.objs.size (.lst ws), I1.laid (t' := s.toks) (fun b u e => ?_) (Nat.le_refl _) ⟨by rw [hwl, sizeLine_eq]; omega, out, c, w1, hcc⟩, rfl, q ws _ hwl w2 (I1.hok.fresh (Nat.le_refl _))⟩
    have hlt := Heap.lt_size e
    show (PyProof.Rows.sortedHeap (h'.push (seqObj "list" its.toArray 0)) h'.objs.size its out.toArray).get? b = some u
    rw [PyProof.Rows.sortedHeap_old (Nat.ne_of_lt hlt) (by rw [PyProof.Rows.size_push']; exact Nat.lt_succ_of_lt hlt)]
    exact Heap.get?_push_of_some _ e
end
/-! a dict told by its number -/
def DNum (a : Addr) (n : Nat) : HO := .ext fun h => (a == sysModules) = false ∧ ∃ o es ep, h.get? a = some o ∧ o.ExactDict ∧ o.data = .dict es ep ∧ es.size = n
section
variable {prog : Program} {w : World} {A : Around} {E : Value → Shared → Prop} {s : Shared}
theorem num_len (d : Addr) (n : Nat) (hd : (d == sysModules) = false) : MeetsIn prog w (Builtin.«dict.__len__» ⟨[.ref d], []⟩) (fun _ R s =>
    (∃ o es ep, s.heap.get? d = some o ∧ o.data = .dict es ep ∧ es.size = n) ∧ R (.ok (.ret (.int n s.toks))) { s with toks := s.toks + 1 }) := by
  refine .of_wp fun A R s h => ?_
  obtain ⟨⟨o, es, ep, e1, e2, e3⟩, hR⟩ := h
  show PySem.wpAny _ _ (dictSize d >>= _) _ _ s
  unfold dictSize
  refine wpAny_bind (wpAny_bind ?_)
  refine wpAny_dictEntries e1 e2 (wpAny_pure ?_)
  refine wpAny_bind (m := Builtin.Dict.pendingCount d) (wpAny_pendingCount_other hd ?_)
  refine wpAny_ret_mkInt ?_
  rw [Nat.add_zero, e3]
  exact hR
theorem call_len_num {d : Addr} {n : Nat} {Q : Value → Shared → Prop} (hd : (d == sysModules) = false) (ht : s.TypeIs (.ref d) "dict") (ho : ∃ o es ep, s.heap.get? d = some o ∧ o.data = .dict es ep ∧ es.size = n) (hn : n ≤ 1000) (hQ : Q (.int n (s.toks + 1)) { s with toks := s.toks + 1 + 1 }) :
    wpAny (model prog w) A (call (.builtin "len") [.ref d]) Q E s := by
  refine Calls.call_function_entry kind_len plain_len entry_len (args_len1 _) ?_
  unfold Builtin.«len»
  refine wpAny_bind (m := oneArg "len" _) (wpAny_pure ?_)
  have nn : ¬ ((n : Nat) : Int) < 0 := by omega
  have nb : ¬ ((n : Nat) : Int) ≥ 2 ^ 63 := by omega
  refine wpAny_bind (wpAny_callSpecial?_slot ht F.slot_dict_len (call_meetsIn F.slot_dict_len ht F.entry_dict_len (F.args_dict_len_1 _) (num_len d n hd) ⟨ho, ?_⟩))
  refine wpAny_bind (wpAny_holding (wpAny_pure (wpAny_bind (wpAny_letGo ?_))))
  simp only [if_neg nn, if_neg nb]
  exact wpAny_bind (wpAny_mkInt (wpAny_pure ⟨_, rfl, hQ⟩))
end
mutual
theorem nest_of {X : Cx} {pins : List (Addr × Obj)} {σ : L2.St} {H : Hp} {s : Shared} (I : Inv X pins σ H s) : ∀ (k : NestedKey) (v : V) (u : Value), Dp X.K H v k.data → RelV v u → NestedIs s.heap k u
  | .none, _, _, h, r => by cases h; cases r; exact .none
  | .num i, _, _, h, r => by
    cases h
    obtain ⟨t, rfl⟩ := r
    exact .int i t
  | .text x, _, _, h, r => by
    cases h
    obtain ⟨t, rfl⟩ := r
    exact .text x t
  | .tup ks, _, _, h, r => by
    obtain ⟨p, vs, rfl, h1, h2⟩ := vk_tup (show Vk X.K H _ (.dat (.tuple (NestedKey.datas ks))) from h)
    obtain rfl : _ = Value.ref p := r
    obtain ⟨its, rv, ⟨o, e1, e2, n, e3⟩, _⟩ := I.tuple h1
    exact .tup e1 e2 e3 (nests_of I ks vs its h2 rv)
theorem nests_of {X : Cx} {pins : List (Addr × Obj)} {σ : L2.St} {H : Hp} {s : Shared} (I : Inv X pins σ H s) : ∀ (ks : List NestedKey) (vs : List V) (us : List Value), DpAll X.K H vs (NestedKey.datas ks) → Vals vs us → NestedAll s.heap ks us
  | [], _, _, h, r => by cases h; cases r; exact .nil
  | k :: ks, _, _, h, r => by
    cases h with
    | cons h1 h2 =>
      cases r with
      | cons r1 r2 => exact .cons (nest_of I k _ _ h1 r1) (nests_of I ks _ _ h2 r2)
end
abbrev kp1 (k : NestedKey) : D := .tuple [k.data, .int 1]
abbrev Q4 := NestedKey × Addr × Addr × Value
theorem quads {X : Cx} {pins : List (Addr × Obj)} {σ : L2.St} {H : Hp} {s : Shared} (I : Inv X pins σ H s) : ∀ {ks : List NestedKey} {vs : List V} {us : List Value}, (∀ k ∈ ks, ∃ r, k = .tup r) → DpAll X.K H vs (ks.map kp1) → Vals vs us →
    ∃ L : List Q4, L.map (·.1) = ks ∧ us = L.map (fun x => Value.ref x.2.1) ∧ ∀ x ∈ L, s.heap.IsTuple x.2.1 #[.ref x.2.2.1, x.2.2.2] ∧ NestedIs s.heap x.1 (.ref x.2.2.1)
  | [], _, _, _, h, r => by
    cases h
    cases r
    exact ⟨[], rfl, rfl, fun x hx => by cases hx⟩
  | k :: ks, _, _, hk, h, r => by
    cases h with
    | cons h1 h2 =>
      cases r with
      | cons r1 r2 =>
        obtain ⟨L, e1, e2, e3⟩ := quads I (fun k' h' => hk k' (List.mem_cons_of_mem _ h')) h2 r2
        obtain ⟨T, ws, rfl, t1, t2⟩ := vk_tup (show Vk X.K H _ (.dat (.tuple [k.data, .int 1])) from h1)
        obtain rfl : _ = Value.ref T := r1
        obtain ⟨its, rv, ht, _⟩ := I.tuple t1
        cases t2 with
        | cons d1 d2 =>
          cases rv with
          | cons p1 p2 =>
            cases d2 with
            | cons d3 d4 =>
              cases d4
              cases p2 with
              | cons p3 p4 =>
                cases p4
                have hn := nest_of I k _ _ d1 p1
                obtain ⟨rr, rfl⟩ := hk k List.mem_cons_self
                cases hn with
                | tup a1 a2 a3 a4 => exact ⟨(_, T, _, _) :: L, by rw [List.map_cons, e1], by rw [List.map_cons, ← e2], fun x hx => by
                    rcases List.mem_cons.mp hx with e | hx
                    · rw [e]
                      exact ⟨ht, .tup a1 a2 a3 a4⟩
                    · exact e3 x hx⟩
section
variable {κ : Type} [DecidableEq κ]
theorem stored_keys2 (kvs : List (κ × Value)) (k : κ) (v : Value) (x : κ) : x ∈ (stored kvs k v).map (·.1) ↔ x ∈ kvs.map (·.1) ∨ x = k := by
  unfold stored
  split
  · rename_i h
    obtain ⟨y, hy, e⟩ := List.any_eq_true.mp h
    have e : y.1 = k := of_decide_eq_true e
    rw [List.map_map]
    have : (kvs.map ((fun z : κ × Value => z.1) ∘ fun kv => if kv.1 = k then (kv.1, v) else kv)) = kvs.map (·.1) := List.map_congr_left fun z _ => by
      show (if z.1 = k then (z.1, v) else z).1 = z.1
      split <;> rfl
    rw [this]
    constructor
    · exact fun h => .inl h
    · rintro (h | h)
      · exact h
      · rw [h, ← e]
        exact List.mem_map.mpr ⟨y, hy, rfl⟩
  · rw [List.map_append]
    simp
theorem merged_keys : ∀ (more kvs : List (κ × Value)) (x : κ), x ∈ (merged kvs more).map (·.1) ↔ x ∈ kvs.map (·.1) ∨ x ∈ more.map (·.1)
  | [], kvs, x => by
    show x ∈ kvs.map (·.1) ↔ _
    simp
  | p :: more, kvs, x => by
    show x ∈ (merged (stored kvs p.1 p.2) more).map (·.1) ↔ _
    rw [merged_keys more, stored_keys2, List.map_cons, List.mem_cons, or_assoc]
end
section
variable {X : Cx}
theorem cr_dictN (hcalm : X.calm = true) (hu : X.A.units + 64 < cLine) : CallR X (.type "dict") (fun xs H Q => ∃ (a : Addr) (vs : List V) (ks : List NestedKey), xs = [.ref a] ∧ SqL X.K H a vs ∧ DpAll X.K H vs (ks.map kp1) ∧ ks.length ≤ 1000 ∧ (∀ k ∈ ks, (∃ r, k = .tup r) ∧ k.depth ≤ 8) ∧
    ∀ (d : Addr) (n : Nat), (∀ ws : List NestedKey, ws.Nodup → (∀ k, k ∈ ws ↔ k ∈ ks) → n = ws.length) → n ≤ 1000 → H d = none → Q (.ref d) (upd H d (DNum d n))) := by
  intro pins s σ H xs us Q I r q
  obtain ⟨a, vs, ks, ex, hq, hD, hl, hk, q⟩ := q
  subst ex
  obtain ⟨u, eu, rx⟩ := vals1 r
  subst eu
  cases rx
  obtain ⟨its, rv, pl, hz⟩ := I.list hq
  obtain ⟨L, e1, e2, e3⟩ := quads I (fun k h => (hk k h).1) hD rv
  subst e2
  have hLl : L.length = ks.length := by rw [← e1, List.length_map]
  have P := PairArg.list (prog := X.prog) (w := X.w) a (L.map (fun x => Value.ref x.2.1)).toArray (fun j => (L.getD j (.none, 0, 0, .none)).2.1) (L.map fun x => (Value.ref x.2.2.1, x.2.2.2))
  have gd : ∀ j x, L[j]? = some x → L.getD j (.none, 0, 0, .none) = x := fun j x h => by rw [List.getD_eq_getElem?_getD, h]; rfl
  have getL : ∀ (j : Nat) (k v : Value), (L.map fun x => (Value.ref x.2.2.1, x.2.2.2))[j]? = some (k, v) → ∃ x : Q4, L[j]? = some x ∧ k = Value.ref x.2.2.1 ∧ v = x.2.2.2 := fun j k v h => by
    rw [List.getElem?_map] at h
    obtain ⟨x, h1, h2⟩ := Option.map_eq_some_iff.mp h
    exact ⟨x, h1, (Prod.mk.inj h2).1.symm, (Prod.mk.inj h2).2.symm⟩
  refine dict_keyed (knd := nestedKind X.prog X.w) (kvs := L.map fun x => (x.1, x.2.2.2)) nestedKind_stays P (I.ok.hd hcalm) (show X.A.units + 1 + 1 + 8 < cLine by omega) ⟨pl, by simp, fun j k v h => ?_⟩
    ⟨L.map fun x => (x.1, x.2.2.1, x.2.2.2), by unfold pairsH; rw [List.map_map]; rfl, ⟨by simp, fun j k v h => ?_⟩, fun x hx => ?_⟩ (fun h' hkp k b hkb => nestedKind_stays.all h' hkp k b hkb) (by rw [List.length_map, hLl, sizeLine_eq]; omega) fun h' tk hd' hkp => ?_
  · obtain ⟨x, h1, rfl, rfl⟩ := getL j k v h
    refine ⟨?_, .inl ?_⟩
    · dsimp only
      rw [gd j x h1]
      simp [h1]
    · dsimp only
      rw [gd j x h1]
      exact (e3 x (List.mem_of_getElem? h1)).1
  · obtain ⟨x, h1, rfl, rfl⟩ := getL j k v h
    exact ⟨x.1, x.2.2.1, by simp [h1], rfl⟩
  · obtain ⟨y, hy, rfl⟩ := List.mem_map.mp hx
    refine ⟨(e3 y hy).2, (hk y.1 ?_).2⟩
    rw [← e1]
    exact List.mem_map.mpr ⟨y, hy, rfl⟩
  · have hm : (s.heap.objs.size == sysModules) = false := beq_eq_false_iff_ne.mpr (Nat.ne_of_gt I.big)
    have nd := hd'.nodup
    have hlen := merged_length ([] : List (NestedKey × Value)) (L.map fun x => (x.1, x.2.2.2))
    rw [List.length_map, List.length_nil, hLl] at hlen
    obtain ⟨xs, ⟨o, es, ep, h1, h2, h3, h4, h5, h6⟩, h7⟩ := hd'
    have hes : es.size = (merged ([] : List (NestedKey × Value)) (L.map fun x => (x.1, x.2.2.2))).length := by rw [size_of_entries h4, ← h7, pairsH_length]
    have nH : H s.heap.objs.size = none := I.hok.fresh (Nat.le_refl _)
    refine ⟨.ref s.heap.objs.size, upd H s.heap.objs.size (DNum s.heap.objs.size _), I.laid (t' := tk) (fun b u e => hkp b u (fun z => by cases z) e) (Nat.le_refl _) ⟨⟨hm, o, es, ep, h1, h2, h3, rfl⟩, ⟨o, h1⟩, fun g1 g2 z st => ?_⟩, rfl, q _ es.size (fun ws w1 w2 => ?_) (by rw [hes]; omega) nH⟩
    · obtain ⟨z1, o', es', ep', z2, z3, z4, z5⟩ := z
      exact ⟨z1, o', es', ep', st _ z2, z3, z4, z5⟩
    · rw [hes, ← List.length_map (f := fun z : NestedKey × Value => z.1)]
      refine ((List.perm_ext_iff_of_nodup nd w1).mpr fun k => ?_).length_eq
      rw [merged_keys, w2 k, ← e1]
      simp
end
end Cal
/-! WpKv -/
namespace Cal
open PySem PySem.Spec PyProof.Rows L2 LamX
/-! dicts that change: tables of what is known of their values -/
def keyD : D → Option L2.Key
  | .int i => some (.inl i)
  | .str x => some (.inr x)
  | _ => none
def keysD : List D → Option (List L2.Key)
  | [] => some []
  | d :: ds => match keyD d, keysD ds with
    | some k, some ks => some (k :: ks)
    | _, _ => none
section
variable {κ : Type} [DecidableEq κ]
def kvGet : List (κ × Sv) → κ → Option Sv
  | [], _ => none
  | p :: es, k => if p.1 = k then some p.2 else kvGet es k
theorem kvGet_pos {p : κ × Sv} {es : List (κ × Sv)} {k : κ} (e : p.1 = k) : kvGet (p :: es) k = some p.2 := by unfold kvGet; rw [if_pos e]
theorem kvGet_neg {p : κ × Sv} {es : List (κ × Sv)} {k : κ} (e : ¬ p.1 = k) : kvGet (p :: es) k = kvGet es k := by
  show (if p.1 = k then some p.2 else kvGet es k) = _
  rw [if_neg e]
def kvPut (es : List (κ × Sv)) (k : κ) (r : Sv) : List (κ × Sv) :=
  if (es.any fun p => decide (p.1 = k)) = true then es.map (fun p => if p.1 = k then (p.1, r) else p) else es ++ [(k, r)]
def kvDrop (es : List (κ × Sv)) (k : κ) : List (κ × Sv) := es.filter fun p => decide (p.1 ≠ k)
variable {K : PySem.W.Frag} {G : Hp} {k : κ}
theorem Kvs.len : ∀ {kvs : List (κ × V)} {es : List (κ × Sv)}, Kvs K G kvs es → kvs.length = es.length := fun h => Paired.length h
theorem Kvs.any : ∀ {kvs : List (κ × V)} {es : List (κ × Sv)}, Kvs K G kvs es → (kvs.any fun p => decide (p.1 = k)) = es.any fun p => decide (p.1 = k)
  | _, _, .nil => rfl
  | _, _, .cons h t => by rw [List.any_cons, List.any_cons, h.1, Kvs.any t]
theorem Kvs.get : ∀ {kvs : List (κ × V)} {es : List (κ × Sv)}, Kvs K G kvs es → (∃ v r, valV kvs k = some v ∧ kvGet es k = some r ∧ Vk K G v r) ∨ (valV kvs k = none ∧ kvGet es k = none)
  | _, _, .nil => .inr ⟨rfl, rfl⟩
  | (k1, v) :: kvs, (k2, r) :: es, .cons h t => by
    have h1 : k1 = k2 := h.1
    subst h1
    by_cases e : k1 = k
    · exact .inl ⟨v, r, valV_pos (p := (k1, v)) e, kvGet_pos (p := (k1, r)) e, h.2⟩
    · rcases Kvs.get t with ⟨v', r', a, b, c⟩ | ⟨a, b⟩
      · exact .inl ⟨v', r', (valV_neg (p := (k1, v)) e).trans a, (kvGet_neg (p := (k1, r)) e).trans b, c⟩
      · exact .inr ⟨(valV_neg (p := (k1, v)) e).trans a, (kvGet_neg (p := (k1, r)) e).trans b⟩
theorem Kvs.getO {kvs : List (κ × V)} {es : List (κ × Sv)} (h : Kvs K G kvs es) : (valV kvs k).isSome = (kvGet es k).isSome := by
  rcases h.get (k := k) with ⟨v, r, a, b, _⟩ | ⟨a, b⟩
  · rw [a, b]; rfl
  · rw [a, b]; rfl
theorem Kvs.some {kvs : List (κ × V)} {es : List (κ × Sv)} {r : Sv} (h : Kvs K G kvs es) (e : kvGet es k = some r) : ∃ v, valV kvs k = some v ∧ Vk K G v r := by
  rcases h.get (k := k) with ⟨v, r', a, b, c⟩ | ⟨a, b⟩
  · rw [e] at b
    cases b
    exact ⟨v, a, c⟩
  · rw [e] at b
    cases b
theorem Kvs.map {v : V} {r : Sv} (hv : Vk K G v r) : ∀ {kvs : List (κ × V)} {es : List (κ × Sv)}, Kvs K G kvs es → Kvs K G (kvs.map fun p => if p.1 = k then (p.1, v) else p) (es.map fun p => if p.1 = k then (p.1, r) else p)
  | _, _, .nil => .nil
  | (k1, v1) :: kvs, (k2, r1) :: es, .cons h t => by
    have h1 : k1 = k2 := h.1
    subst h1
    refine .cons ?_ (Kvs.map hv t)
    dsimp only
    by_cases e : k1 = k
    · rw [if_pos e, if_pos e]; exact ⟨rfl, hv⟩
    · rw [if_neg e, if_neg e]; exact h
theorem Kvs.app : ∀ {kvs kws : List (κ × V)} {es fs : List (κ × Sv)}, Kvs K G kvs es → Kvs K G kws fs → Kvs K G (kvs ++ kws) (es ++ fs)
  | _, _, _, _, .nil, s => s
  | _, _, _, _, .cons h t, s => .cons h (Kvs.app t s)
theorem Kvs.put {v : V} {r : Sv} {kvs : List (κ × V)} {es : List (κ × Sv)} (h : Kvs K G kvs es) (hv : Vk K G v r) : Kvs K G (putK kvs k v) (kvPut es k r) := by
  unfold putK kvPut
  rw [h.any]
  split
  · exact h.map hv
  · exact h.app (.cons ⟨rfl, hv⟩ .nil)
theorem Kvs.drop : ∀ {kvs : List (κ × V)} {es : List (κ × Sv)}, Kvs K G kvs es → Kvs K G (dropK kvs k) (kvDrop es k)
  | _, _, .nil => .nil
  | (k1, v1) :: kvs, (k2, r1) :: es, .cons h t => by
    have h1 : k1 = k2 := h.1
    subst h1
    unfold dropK kvDrop
    rw [List.filter_cons, List.filter_cons]
    by_cases e : k1 = k
    · simp only [e, ne_eq, not_true_eq_false, decide_false]
      exact Kvs.drop t
    · simp only [e, ne_eq, not_false_eq_true, decide_true]
      exact .cons ⟨rfl, h.2⟩ (Kvs.drop t)
theorem kvGet_any (k : κ) : ∀ es : List (κ × Sv), (es.any fun p => decide (p.1 = k)) = (kvGet es k).isSome
  | [] => rfl
  | p :: es => by
    rw [List.any_cons]
    by_cases h : p.1 = k
    · rw [kvGet_pos h, decide_eq_true h]; rfl
    · rw [kvGet_neg h, decide_eq_false h, kvGet_any k es]; rfl
theorem kvGet_map (k j : κ) (r : Sv) : ∀ es : List (κ × Sv), kvGet (es.map fun p => if p.1 = k then (p.1, r) else p) j = (kvGet es j).map fun x => if j = k then r else x
  | [] => rfl
  | p :: es => by
    have ih := kvGet_map k j r es
    rw [List.map_cons]
    by_cases h1 : p.1 = k
    · rw [if_pos h1]
      by_cases h2 : p.1 = j
      · rw [kvGet_pos (p := (p.1, r)) h2, kvGet_pos h2, Option.map_some, if_pos (h2.symm.trans h1)]
      · rw [kvGet_neg (p := (p.1, r)) h2, kvGet_neg h2, ih]
    · rw [if_neg h1]
      by_cases h2 : p.1 = j
      · rw [kvGet_pos h2, kvGet_pos h2, Option.map_some, if_neg (fun z => h1 (h2.trans z))]
      · rw [kvGet_neg h2, kvGet_neg h2, ih]
theorem kvGet_snoc (k j : κ) (r : Sv) : ∀ es : List (κ × Sv), kvGet es k = none → kvGet (es ++ [(k, r)]) j = if j = k then some r else kvGet es j
  | [], _ => by
    by_cases h : k = j
    · rw [if_pos h.symm]; exact kvGet_pos (p := (k, r)) h
    · rw [if_neg (fun z => h z.symm)]; exact kvGet_neg (p := (k, r)) h
  | p :: es, hn => by
    rw [List.cons_append]
    by_cases h0 : p.1 = k
    · rw [kvGet_pos h0] at hn; cases hn
    · rw [kvGet_neg h0] at hn
      by_cases h1 : p.1 = j
      · rw [kvGet_pos h1, kvGet_pos h1, if_neg (fun z => h0 (h1.trans z))]
      · rw [kvGet_neg h1, kvGet_neg h1, kvGet_snoc k j r es hn]
theorem kvGet_put (es : List (κ × Sv)) (k j : κ) (r : Sv) : kvGet (kvPut es k r) j = if j = k then some r else kvGet es j := by
  unfold kvPut
  by_cases a : (es.any fun p => decide (p.1 = k)) = true
  · rw [if_pos a, kvGet_map]
    rw [kvGet_any] at a
    obtain ⟨x, hx⟩ := Option.isSome_iff_exists.mp a
    by_cases h : j = k
    · rw [h, hx, if_pos rfl, Option.map_some, if_pos rfl]
    · rw [if_neg h]
      cases kvGet es j with
      | none => rfl
      | some y => rw [Option.map_some, if_neg h]
  · rw [if_neg a]
    refine kvGet_snoc k j r es ?_
    rw [kvGet_any] at a
    cases q : kvGet es k with
    | none => rfl
    | some y => rw [q] at a; exact absurd rfl a
end
/-- a dict at l, walked or not -/
def rdK (M : Ms) (l : Addr) (es : List (L2.Key × Sv)) : Prop := (∃ A C, M = A ++ (l, .dk es) :: C) ∨ ∃ A od kvs C, M = A ++ (l, .fk od kvs es) :: C
def rdT (M : Ms) (l : Addr) (es : List (List L2.Key × Sv)) : Prop := (∃ A C, M = A ++ (l, .dt es) :: C) ∨ ∃ A od kvs C, M = A ++ (l, .ft od kvs es) :: C
section
variable {K : PySem.W.Frag} {T : Tb} {M : Ms} {G H : Hp} {l : Addr}
theorem rdK_ok {es : List (L2.Key × Sv)} (h : rdK M l es) (w : Wt K T M G H) : ∃ kvs, Rd H l (.dK kvs) ∧ Kvs K G kvs es := by
  rcases h with ⟨A, C, e⟩ | ⟨A, od, kvs, C, e⟩
  · obtain ⟨⟨o, h1, h2⟩, _⟩ := w.w.mu (l, .dk es) (by rw [e]; simp)
    obtain ⟨kvs, e2, h3⟩ := h2.dk_of
    rw [e2] at h1
    exact ⟨kvs, .inl h1, h3⟩
  · obtain ⟨⟨o, h1, h2⟩, _⟩ := w.w.mu (l, .fk od kvs es) (by rw [e]; simp)
    obtain ⟨e2, h3⟩ := h2.fk_of
    rw [e2] at h1
    exact ⟨kvs, .inr ⟨od, h1⟩, h3⟩
theorem rdT_ok {es : List (List L2.Key × Sv)} (h : rdT M l es) (w : Wt K T M G H) : ∃ kvs, Rd H l (.dT kvs) ∧ Kvs K G kvs es := by
  rcases h with ⟨A, C, e⟩ | ⟨A, od, kvs, C, e⟩
  · obtain ⟨⟨o, h1, h2⟩, _⟩ := w.w.mu (l, .dt es) (by rw [e]; simp)
    obtain ⟨kvs, e2, h3⟩ := h2.dt_of
    rw [e2] at h1
    exact ⟨kvs, .inl h1, h3⟩
  · obtain ⟨⟨o, h1, h2⟩, _⟩ := w.w.mu (l, .ft od kvs es) (by rw [e]; simp)
    obtain ⟨e2, h3⟩ := h2.ft_of
    rw [e2] at h1
    exact ⟨kvs, .inr ⟨od, h1⟩, h3⟩
theorem dk_at {A C : Ms} {es : List (L2.Key × Sv)} (w : Wt K T (A ++ (l, .dk es) :: C) G H) : ∃ kvs, H l = some (.dK kvs) ∧ Kvs K G kvs es ∧ G l = none := by
  obtain ⟨⟨o, h1, h2⟩, h3⟩ := w.w.mu (l, .dk es) (List.mem_append_right _ List.mem_cons_self)
  obtain ⟨kvs, e2, h4⟩ := h2.dk_of
  rw [e2] at h1
  exact ⟨kvs, h1, h4, h3⟩
theorem ob_at {A C : Ms} {c : Addr} {fs : List (Str × Sv)} (w : Wt K T (A ++ (l, .ob c fs) :: C) G H) : ∃ dx fs', H l = some (.ins c dx fs') ∧ Kvs K G fs' fs ∧ G l = none := by
  obtain ⟨⟨o, h1, h2⟩, h3⟩ := w.w.mu (l, .ob c fs) (List.mem_append_right _ List.mem_cons_self)
  obtain ⟨dx, fs', e2, h4⟩ := h2.ob_of
  rw [e2] at h1
  exact ⟨dx, fs', h1, h4, h3⟩
/-- one of the changing things changes, whatever it is -/
theorem Wt.mset {A C : Ms} {p : Addr} {m m' : MO} {o o' : HO} (w : Wt K T (A ++ (p, m) :: C) G H) (h1 : H p = some o) (h2 : (∀ ps, o ≠ .tbl ps) ∧ ∀ φ, o ≠ .ext φ) (hm : MoK K G m' o') : Wt K T (A ++ (p, m') :: C) G (upd H p o') := by
  refine ⟨(Po.mput w.w hm).w, fun q hq => ?_⟩
  obtain ⟨ps, t1, t2, t3⟩ := w.t q hq
  have ne : ∀ {b : Addr} {u : HO}, H b = some u → ((∃ ps, u = .tbl ps) ∨ ∃ φ, u = .ext φ) → b ≠ p := fun {b u} e k z => by
    rw [z, h1] at e
    rcases k with ⟨ps, k⟩ | ⟨φ, k⟩
    · exact h2.1 ps ((Option.some.inj e).trans k)
    · exact h2.2 φ ((Option.some.inj e).trans k)
  refine ⟨ps, by rw [upd_ne (ne t1 (.inl ⟨_, rfl⟩))]; exact t1, t2, fun pos cv hc => ?_⟩
  obtain ⟨c, e1, e2⟩ := t3 pos cv hc
  exact ⟨c, e1, by rw [upd_ne (ne e2 (.inr ⟨_, rfl⟩))]; exact e2⟩
theorem Wt.dput {A C : Ms} {es es' : List (L2.Key × Sv)} {kvs' : List (L2.Key × V)} (w : Wt K T (A ++ (l, .dk es) :: C) G H) (hk : Kvs K G kvs' es') : Wt K T (A ++ (l, .dk es') :: C) G (upd H l (.dK kvs')) := by
  obtain ⟨kvs, h1, _, _⟩ := dk_at w
  exact w.mset h1 ⟨fun _ z => (nomatch z), fun _ z => (nomatch z)⟩ (m' := .dk es') hk
theorem Wt.oput {A C : Ms} {c dx : Addr} {fs fs2 : List (Str × Sv)} {fs' : List (Str × V)} (w : Wt K T (A ++ (l, .ob c fs) :: C) G H) (hk : Kvs K G fs' fs2) : Wt K T (A ++ (l, .ob c fs2) :: C) G (upd H l (.ins c dx fs')) := by
  obtain ⟨dx0, f0, h1, _, _⟩ := ob_at w
  exact w.mset h1 ⟨fun _ z => (nomatch z), fun _ z => (nomatch z)⟩ (m' := .ob c fs2) ⟨rfl, hk⟩
theorem keyD_ok {d : D} {k : L2.Key} {v : V} (h : keyD d = some k) (hv : Dp K G v d) : v = kV k := by
  cases d with
  | int i => cases h; cases hv; rfl
  | str x => cases h; cases hv; rfl
  | _ => cases h
theorem keysD_ok : ∀ {ds : List D} {ks : List L2.Key} {vs : List V}, keysD ds = some ks → DpAll K G vs ds → vs = ks.map kV
  | [], _, _, h, hv => by cases h; cases hv; rfl
  | d :: ds, ks, _, h, .cons h1 h2 => by
    unfold keysD at h
    split at h
    · rename_i k ks' e1 e2
      cases h
      rw [List.map_cons, ← keyD_ok e1 h1, ← keysD_ok e2 h2]
    · cases h
end
end Cal
/-! WpKw -/
/-! more of dicts: ==, dict of pairs; sorted of alike data; isinstance of data -/
namespace Cal
open PySem PySem.Spec PyProof.Rows L2 LamX
/-! sorted of a list of alike data -/
theorem cr_sortLst {X : Cx} : CallR X (.builtin "sorted") (fun xs H Q => ∃ (p : Addr) (vs : List V) (ds : List D) (G : Hp), xs = [.ref p] ∧ SqL X.K H p vs ∧ Same G H ∧ DpAll X.K G vs ds ∧ PySem.W.AllAlike ds ∧ PySem.W.Sortable ds ∧ ds.length ≤ 1000 ∧ (∀ d ∈ ds, X.A.units + 20 + d.depth < cLine) ∧
    ∀ (ws : List V) (q : Addr), ws.length = ds.length → DpAll X.K G ws (ds.mergeSort (PySem.W.dataLe false id)) → H q = none → Q (.ref q) (upd H q (.lst ws))) := by
  intro pins s σ H xs us Q I r q
  obtain ⟨p, vs, ds, G, ex, hT, hG, hD, hal, hso, hl, hu, q⟩ := q
  subst ex
  obtain ⟨u, eu, rx⟩ := vals1 r
  subst eu
  cases rx
  obtain ⟨its, rv, pl, hz⟩ := I.list hT
  obtain ⟨o, n, ho, hc, hd, hdat⟩ := pl
  have hli : its.length = ds.length := by rw [← rv.length, dps_len hD]
  refine Calls.call_function_entry PyProof.Rows.kind_sorted PyProof.Rows.plain_sorted PyProof.Rows.entry_sorted (PyProof.Rows.args_sorted1 _) ?_
  unfold Builtin.«sorted»
  refine wpAny_bind (m := checkCount "sorted" 1 1 _) (wpAny_pure ?_)
  refine wpAny_bind (wpAny_collect_seq (T := "list") p (.inl rfl) ho hc hdat (fun h' hkp => ?_) (by rw [List.size_toArray, hli, sizeLine_eq]; omega))
  have I1 : Inv X pins σ H { s with heap := h' } := I.kept (t' := s.toks) hkp
  refine wpAny_bind (wpAny_newList ?_ (by rw [hli, sizeLine_eq]; omega))
  have hoL : (h'.push (seqObj "list" its.toArray 0)).get? h'.objs.size = some (seqObj "list" its.toArray 0) := Heap.get?_push_size _ rfl
  have hkL : ∀ b ob, s.heap.get? b = some ob → (h'.push (seqObj "list" its.toArray 0)).get? b = some ob := fun b ob e => Heap.get?_push_of_some _ (hkp b ob e)
  have er : PySem.W.EachIs (fun v d => ∃ as, Reads (h'.push (seqObj "list" its.toArray 0)) v (id d) as ∧ h'.objs.size ∉ as) its ds := each_mem2 (each_reads I rv (dpsUp hG ds hD)) fun v d hdm ⟨as, rd⟩ => ⟨as, PyProof.Rows.Reads.keeps hkL rd, fun hb => by
    obtain ⟨ob, e⟩ := reads_in d v as (hal d hdm d hdm) rd _ hb
    exact absurd (Heap.lt_size (hkp _ _ e)) (Nat.lt_irrefl _)⟩
  show wpAny _ _ _ _ _ { s with heap := h'.push (seqObj "list" its.toArray 0) }
  refine wpAny_bind (wpAny_holding (PySem.W.list_sort_data (enc := id) (s := { s with heap := h'.push (seqObj "list" its.toArray 0) }) hoL (each_from rv hD) er (by rw [List.map_id]; exact hal) (by rw [List.map_id]; exact hso) (by rw [sizeLine_eq]; omega) (fun d hd => ?_) fun out h1 h2 => ?_))
  · have := hu d hd
    show X.A.units + 1 + 1 + d.depth < cLine
    omega
  · obtain ⟨ws, w1, w2⟩ := each_back h2
    obtain ⟨c, hcc⟩ := PyProof.Rows.sortedHeap_at (vs := its) (out := out.toArray) hoL
    have hwl : ws.length = ds.length := by rw [dps_len w2, List.length_mergeSort]
    refine wpAny_pure ⟨_, rfl, .ref h'.objs.size, upd H h'.objs.size (.lst ws), I1.laid (t' := s.toks) (fun b u e => ?_) (Nat.le_refl _) ⟨by rw [hwl, sizeLine_eq]; omega, out, c, w1, hcc⟩, rfl, q ws _ hwl w2 (I1.hok.fresh (Nat.le_refl _))⟩
    have hlt := Heap.lt_size e
    show (PyProof.Rows.sortedHeap (h'.push (seqObj "list" its.toArray 0)) h'.objs.size its out.toArray).get? b = some u
    rw [PyProof.Rows.sortedHeap_old (Nat.ne_of_lt hlt) (by rw [PyProof.Rows.size_push']; exact Nat.lt_succ_of_lt hlt)]
    exact Heap.get?_push_of_some _ e
/-! isinstance(x, tuple) -/
def isTupD : D → Bool
  | .tuple _ => true
  | _ => false
theorem kit_tt {K : PySem.W.Frag} : PySem.W.kitOne K (.type "tuple") (.type "tuple") = some true := rfl
theorem cr_isiTup {X : Cx} : CallR X (.builtin "isinstance") (fun xs H Q => ∃ (v : V) (d : D), xs = [v, .ty "tuple"] ∧ Dp X.K H v d ∧ Q (.bl (isTupD d)) H) := by
  intro pins s σ H xs us Q J r ⟨v, d, ex, hd, q⟩
  have go : ∀ t b, TyX X.K H v t → PySem.W.kitOne X.K t (.type "tuple") = some b → Q (.bl b) H → wpAny (model X.prog X.w) X.A (call (.builtin "isinstance") us) (EP X pins σ Q) X.xe s := fun t b h1 h2 h3 =>
    call_isi pins s σ H xs us Q J r ⟨v, _, t, .type "tuple", b, ex, .ty _, h1, h2, h3⟩
  cases hd with
  | non => exact go (.type "NoneType") false (.base .non) (by first | rfl | decide +kernel | kernel_rfl) q
  | bl b => exact go (.type "bool") false (.base (.bl b)) (by first | rfl | decide +kernel | kernel_rfl) q
  | int i => exact go (.type "int") false (.base (.int i)) (by first | rfl | decide +kernel | kernel_rfl) q
  | str x => exact go (.type "str") false (.base (.str x)) (by first | rfl | decide +kernel | kernel_rfl) q
  | lst hs hds =>
    have kt : PySem.W.kitOne X.K (.type "list") (.type "tuple") = some false := by first | rfl | decide +kernel | kernel_rfl
    rcases hs with (h | ⟨o, h⟩) | ⟨o, its, n, hk, hc, _⟩
    · exact go (.type "list") false (.base (.lst h)) kt q
    · exact go (.type "list") false (.base (.frz h)) kt q
    · exact go (.type "list") false (.kList hk hc) kt q
  | tup hs hds =>
    rcases hs with (h | ⟨o, h⟩) | ⟨o, its, n, hk, hc, _⟩
    · exact go (.type "tuple") true (.base (.tup h)) kit_tt q
    · exact go (.type "tuple") true (.fTuple h) kit_tt q
    · exact go (.type "tuple") true (.kTuple hk hc) kit_tt q
/-! == of dicts of data -/
def dEq1 (es' : List (L2.Key × Sv)) (q : L2.Key × Sv) : Bool := match q.2, kvGet es' q.1 with
  | .dat d, some (.dat d') => PyData.eqv d d'
  | _, _ => false
def dEq (es es' : List (L2.Key × Sv)) : Bool := es.length == es'.length && es.all (dEq1 es')
def DatE (es : List (L2.Key × Sv)) : Prop := ∀ q ∈ es, ∃ d, q.2 = .dat d ∧ SeqAt.shaped d = true
theorem kvGet_mem {κ : Type} [DecidableEq κ] {k : κ} {r : Sv} : ∀ {es : List (κ × Sv)}, kvGet es k = some r → (k, r) ∈ es
  | [], h => by cases h
  | p :: es, h => by
    by_cases e : p.1 = k
    · rw [kvGet_pos e] at h
      cases h
      rw [← e]
      exact List.mem_cons_self
    · rw [kvGet_neg e] at h
      exact List.mem_cons_of_mem _ (kvGet_mem h)
section
variable {X : Cx} {pins : List (Addr × Obj)} {σ : L2.St} {G H : Hp} {s : Shared}
theorem hits_of (J : Inv X pins σ H s) (sg : Same G H) {A : Around} (hu : A.units + 64 < cLine) {kvs' : List (L2.Key × V)} {es' : List (L2.Key × Sv)} {vb : List (L2.Key × Value)} (k2 : Kvs X.K G kvs' es') (rb : KV kvs' vb) (d2 : DatE es') :
    ∀ {kvs : List (L2.Key × V)} {es : List (L2.Key × Sv)} {va : List (L2.Key × Value)}, Kvs X.K G kvs es → KV kvs va → DatE es → PySem.W.KeqHits A s vb va (es.all (dEq1 es'))
  | _, _, _, .nil, .nil, _ => .nil
  | (k1, v1) :: kvs, (k3, r1) :: es, (k4, u1) :: va, .cons h t, .cons h' t', hd => by
    have ih := hits_of J sg hu k2 rb d2 t t' fun q hq => hd q (List.mem_cons_of_mem _ hq)
    obtain ⟨a1, a2⟩ := h
    obtain ⟨b1, b2⟩ := h'
    have a1 : k1 = k3 := a1
    have b1 : k1 = k4 := b1
    have b2 : RelV v1 u1 := b2
    subst a1 b1
    obtain ⟨d, e1, sd⟩ := hd (k1, r1) List.mem_cons_self
    have e1 : r1 = .dat d := e1
    subst e1
    have a2 : Dp X.K G v1 d := a2
    rw [List.all_cons]
    have rr := rb.val k1
    rcases k2.get (k := k1) with ⟨v', r', x1, x2, x3⟩ | ⟨x1, x2⟩
    · obtain ⟨d', e2, sd'⟩ := d2 (k1, r') (kvGet_mem x2)
      have e2 : r' = .dat d' := e2
      subst e2
      have x3 : Dp X.K G v' d' := x3
      rw [x1] at rr
      obtain ⟨y, hy, ry⟩ := rr.some_of
      have e3 : dEq1 es' (k1, .dat d) = PyData.eqv d d' := by
        unfold dEq1
        dsimp only
        rw [x2]
      rw [e3]
      obtain ⟨as, r1⟩ := Dp.reads J d v1 u1 (dpUp sg _ a2) b2
      obtain ⟨bs, r2⟩ := Dp.reads J d' v' y (dpUp sg _ x3) ry
      exact .hit hy (SeqAt.eqAt_reads d d' A s u1 y as bs r1 r2 (SeqAt.canLay_of_shaped sd) (SeqAt.canLay_of_shaped sd') (SeqAt.room_of_shaped sd hu)) ih
    · rw [x1] at rr
      have hn : valueAt vb k1 = none := by
        cases hv : valueAt vb k1 with
        | none => rfl
        | some z => rw [hv] at rr; exact rr.elim
      have e3 : dEq1 es' (k1, .dat d) = false := by
        unfold dEq1
        dsimp only
        rw [x2]
      rw [e3, Bool.false_and]
      exact .miss hn
theorem deq_ok (J : Inv X pins σ H s) (sg : Same G H) (hu : X.A.units + 65 < cLine) {a b : Addr} {kvs kvs' : List (L2.Key × V)} {es es' : List (L2.Key × Sv)} (r1 : Rd H a (.dK kvs)) (r2 : Rd H b (.dK kvs')) (k1 : Kvs X.K G kvs es) (k2 : Kvs X.K G kvs' es') (d1 : DatE es) (d2 : DatE es')
    {Q : VK} (q : Q (.bl (dEq es es')) H) : wpAny (model X.prog X.w) X.A (compareOp .Eq (.ref a) (.ref b)) (EP X pins σ Q) X.xe s := by
  obtain ⟨_, ya, va, ra, da⟩ := dk_rd J.hok r1
  obtain ⟨_, yb, vb, rb, db⟩ := dk_rd J.hok r2
  have hl : va.length = es.length := by rw [← ra.length]; exact k1.len
  have hl2 : vb.length = es'.length := by rw [← rb.length]; exact k2.len
  refine PySem.W.keq_eq (knd := mixKind X.prog X.w) (r := es.all (dEq1 es')) ya yb da db (by omega) (fun _ => hits_of J sg (by show X.A.units + 1 + 64 < cLine; omega) k2 rb d2 k1 ra d1) (fin_bl J q ?_)
  rw [hl, hl2]
  rfl
theorem dne_ok (J : Inv X pins σ H s) (sg : Same G H) (hu : X.A.units + 65 < cLine) {a b : Addr} {kvs kvs' : List (L2.Key × V)} {es es' : List (L2.Key × Sv)} (r1 : Rd H a (.dK kvs)) (r2 : Rd H b (.dK kvs')) (k1 : Kvs X.K G kvs es) (k2 : Kvs X.K G kvs' es') (d1 : DatE es) (d2 : DatE es')
    {Q : VK} (q : Q (.bl (!dEq es es')) H) : wpAny (model X.prog X.w) X.A (compareOp .NotEq (.ref a) (.ref b)) (EP X pins σ Q) X.xe s := by
  obtain ⟨_, ya, va, ra, da⟩ := dk_rd J.hok r1
  obtain ⟨_, yb, vb, rb, db⟩ := dk_rd J.hok r2
  have hl : va.length = es.length := by rw [← ra.length]; exact k1.len
  have hl2 : vb.length = es'.length := by rw [← rb.length]; exact k2.len
  refine PySem.W.keq_ne (knd := mixKind X.prog X.w) (r := es.all (dEq1 es')) ya yb da db (by omega) (fun _ => hits_of J sg (by show X.A.units + 1 + 64 < cLine; omega) k2 rb d2 k1 ra d1) (fin_bl J q ?_)
  rw [hl, hl2]
  rfl
end
/-! dict of a list of pairs -/
def kvAll (es more : List (L2.Key × Sv)) : List (L2.Key × Sv) := more.foldl (fun acc p => kvPut acc p.1 p.2) es
def keyS : L2.Key → D
  | .inl i => .int i
  | .inr x => .str x
def pairD (p : L2.Key × D) : D := .tuple [keyS p.1, p.2]
section
variable {K : PySem.W.Frag} {G H : Hp}
theorem Kvs.merge : ∀ {more : List (L2.Key × V)} {ms : List (L2.Key × Sv)} {kvs : List (L2.Key × V)} {es : List (L2.Key × Sv)}, Kvs K G more ms → Kvs K G kvs es → Kvs K G (mergeK kvs more) (kvAll es ms)
  | _, _, _, _, .nil, h => h
  | (k1, v1) :: more, (k2, r1) :: ms, kvs, es, .cons a t, h => by
    have e : k1 = k2 := a.1
    subst e
    show Kvs K G (mergeK (putK kvs k1 v1) more) (kvAll (kvPut es k1 r1) ms)
    exact Kvs.merge t (h.put a.2)
theorem pairsD_split : ∀ {ps : List (L2.Key × D)} {vs : List V}, DpAll K G vs (ps.map pairD) → ∃ (qs : List Addr) (kvs : List (L2.Key × V)), vs = qs.map V.ref ∧ Paired (fun p (kv : L2.Key × V) => SqT K G p [kV kv.1, kv.2]) qs kvs ∧ Kvs K G kvs (ps.map fun p => (p.1, .dat p.2))
  | [], _, h => by
    cases h
    exact ⟨[], [], rfl, .nil, .nil⟩
  | (k, d) :: ps, v :: vs, .cons h t => by
    obtain ⟨qs, kvs, e, h1, h2⟩ := pairsD_split (ps := ps) t
    have h : Dp K G v (.tuple [keyS k, d]) := h
    cases h with
    | tup hs hds =>
      rename_i a us
      cases hds with
      | cons ha hb =>
        rename_i va vb
        cases hb with
        | cons hb hn =>
          rename_i vb vbs
          cases hn
          have ek : va = kV k := by
            cases k with
            | inl i => cases ha; rfl
            | inr x => cases ha; rfl
          subst ek
          exact ⟨a :: qs, (k, vb) :: kvs, by rw [e]; rfl, .cons hs h1, .cons ⟨rfl, hb⟩ h2⟩
end
end Cal
/-! WpKx -/
/-! min(d.values()), also of a dict that is gone through (own; the steps go as the library's own ones) -/
namespace Cal
open PySem PySem.Spec PyProof.Rows L2 LamX
section
variable {X : Cx}
def tMinV (td : TE) : TE := fun σ H Q => td σ H fun x H1 => ∃ a kvs is, x = V.ref a ∧ Rd H1 a (.dK kvs) ∧ kvs.map (·.2) = is.map V.int ∧ is ≠ [] ∧ ∀ m, m ∈ is → (∀ j ∈ is, m ≤ j) → Q (.int m) H1
variable {o : Expr} {p pos apos mpos : Pos} {td : TE}
theorem pe_minV (hc : X.calm = true) (hg : Gl X "min") (hm : X.mg "min" = none) (hd : PE X o td) (hbase : attributeBase o "values" X.env (eval o X.env) = eval o X.env) (hline : (apos.endLine == mpos.line) = true) :
    PE X (.Call (.Name "min" p) [.Call (.Attribute o "values" apos) [] [] mpos] [] pos) (tMinV td) := by
  refine ⟨fun pins s σ H Q J h => ?_⟩
  refine wpAny_Call_Name_kw (ld_blt J hg hm (u := .builtin "min") (by first | rfl | decide +kernel) ?_ (by first | decide +kernel | decide) (by first | decide +kernel | decide))
  rw [show starEach [Expr.Call (.Attribute o "values" apos) [] [] mpos] X.env = [(false, eval (Expr.Call (.Attribute o "values" apos) [] [] mpos) X.env)] from rfl]
  refine PySem.callWith_builtin1 (wpAny_Call_method0_late hbase hline (thn (hd.run pins s σ H _ J h) fun v s1 ⟨x, H1, J1, r1, a, kvs, is, ex, ha, hv, hne, q⟩ => ?_))
  subst ex
  obtain rfl : v = Value.ref a := r1
  obtain ⟨_, hsys, vs, rel, dof⟩ := dk_rd J1.hok ha
  obtain ⟨ep, dat⟩ := dof.dictAt
  obtain ⟨ob, es, ho, ex, hdat, hko, hpr, hnd⟩ := id dat
  refine ⟨"dict", "dict.values", F.plainAttrs_dict, F.slot_dict_values, F.type_dict_values, ⟨ob, ho, ex.1⟩, fun b e => ?_, Calls.callWith_builtin rfl (PySem.evalArgs_none ?_)⟩
  · cases e
    exact ⟨ob, ho, ex.2.1⟩
  refine call_meetsIn F.slot_dict_values ⟨ob, ho, ex.1⟩ F.entry_dict_values (F.args_dict_values_1 _) (meets_dict_values (mixKind X.prog X.w) a hsys) ⟨⟨vs, dof⟩, ?_⟩
  obtain ⟨g1, eg⟩ : ∃ g1 : Heap, g1 = s1.heap.push { cls := .type "dict_values", data := .fields #[.ref a] } := ⟨_, rfl⟩
  have up : ∀ b u, s1.heap.get? b = some u → g1.get? b = some u := fun b u e => by rw [eg]; exact Heap.get?_push_of_some _ e
  have view : g1.get? s1.heap.objs.size = some { cls := .type "dict_values", data := .fields #[.ref a] } := by rw [eg]; exact Heap.get?_push_size _ rfl
  have sz : g1.objs.size = s1.heap.objs.size + 1 := by rw [eg]; exact Heap.size_push _ _
  rw [← eg]
  have dat1 : g1.DictAt (mixKind X.prog X.w) a vs ep := dat.keep up
  have lv : vs.length = is.length := by
    have e1 := congrArg List.length hv
    rw [List.length_map, List.length_map] at e1
    rw [← e1]
    exact (KV.length rel).symm
  have pos1 : 0 < vs.length := by
    rw [lv]
    exact List.length_pos_iff.mpr hne
  have val : ∀ (i : Nat) (v : Value), (∃ k, vs[i]? = some (k, v)) → ∃ t, v = Value.int (is.getD i 0) t := fun i v ⟨k, hk⟩ => by
    obtain ⟨x, h1, h2⟩ := KV.at' rel hk
    have e1 : (kvs.map (·.2))[i]? = some x := by rw [List.getElem?_map, h1] <;> rfl
    rw [hv, List.getElem?_map] at e1
    obtain ⟨j, hj, e2⟩ := Option.map_eq_some_iff.mp e1
    subst e2
    obtain ⟨t, e3⟩ := h2
    refine ⟨t, ?_⟩
    rw [e3, List.getD_eq_getElem?_getD, hj] <;> rfl
  refine call_min_walk (wpAny_pyIter_values (v := s1.heap.objs.size) (d := a) ⟨_, view, rfl, rfl⟩ dat1 ?_)
  have lta : a < s1.heap.objs.size := Heap.lt_size ho
  refine ⟨_, _, _, _, _, _, _, rfl, Walks.dictValues (knd := mixKind X.prog X.w) (A := X.A.in1) (J.ok.hd hc) g1.objs.size a (by rw [sz]; exact Nat.ne_of_lt (Nat.lt_succ_of_lt lta)) vs ep,
    ⟨⟨_, Heap.get?_push_size _ rfl, rfl, rfl⟩, dat1.keep fun b u e => Heap.get?_push_of_some _ e⟩, fun b hb => ?_, pos1, CmpOf.ints_lt (fun i => is.getD i 0) val, fun v h' tk hP hk => ?_⟩
  · show b < (g1.push _).objs.size
    rw [Heap.size_push, sz]
    rcases List.mem_cons.mp hb with e | hb
    · rw [e, sz]
      exact Nat.lt_succ_self _
    · rw [List.mem_singleton.mp hb]
      exact Nat.lt_succ_of_lt (Nat.lt_succ_of_lt lta)
  · obtain ⟨t, rfl⟩ := val _ v hP
    obtain ⟨b1, b2⟩ := argBest_lt (fun i => is.getD i 0) (vs.length - 1)
    refine ⟨.int _, H1, J1.kept (t' := tk) fun b u e => hk b u (fun hmem => ?_) (Heap.get?_push_of_some _ (up b u e)), ⟨t, rfl⟩, q _ ?_ fun j hj => ?_⟩
    · have e1 : b = g1.objs.size := List.mem_singleton.mp hmem
      have e2 := Heap.lt_size e
      rw [e1, sz] at e2
      exact absurd e2 (Nat.not_lt.mpr (Nat.le_succ _))
    · have hb : argBest (fun i j => decide (is.getD i 0 < is.getD j 0)) (vs.length - 1) < is.length := by omega
      rw [List.getD_eq_getElem?_getD, List.getElem?_eq_getElem hb]
      exact List.getElem_mem hb
    · obtain ⟨i, hi, e⟩ := List.mem_iff_getElem.mp hj
      have e2 : is.getD i 0 = j := by rw [List.getD_eq_getElem?_getD, List.getElem?_eq_getElem hi, ← e] <;> rfl
      rw [← e2]
      exact b2 i (by omega)
end
end Cal
/-! WpSt -/
/-! str(x) of nested tuples of short texts, whatever stands around: some text comes -/
namespace Cal
open PySem PySem.Spec PyProof.Rows L2 LamX
abbrev Kps (h h' : Heap) : Prop := ∀ b o, h.get? b = some o → h'.get? b = some o
theorem ok_app (x y : Str) : PyData.strOk (x ++ y) = (PyData.strOk x && PyData.strOk y) := by
  unfold PyData.strOk
  show ((x.cps ++ y.cps).all _) = _
  rw [Array.all_append]
theorem ok_join : ∀ ts : List Str, (∀ t ∈ ts, PyData.strOk t = true) → PyData.strOk (Str.join ", " ts) = true
  | [], _ => by decide +kernel
  | [x], h => h x List.mem_cons_self
  | x :: y :: r, h => by
    show PyData.strOk (x ++ ", " ++ Str.join ", " (y :: r)) = true
    rw [ok_app, ok_app, h x List.mem_cons_self, ok_join (y :: r) fun t ht => h t (List.mem_cons_of_mem _ ht)]
    decide +kernel
theorem ok_text {ts : List Str} (h : ∀ t ∈ ts, PyData.strOk t = true) : PyData.strOk (tupleText ts) = true := by
  unfold tupleText
  rw [ok_app, ok_app, ok_join ts h]
  split <;> decide +kernel
def Fine (L : Nat) (t : Str) : Prop := t.length ≤ L ∧ PyData.strOk t = true
/-- x is shown by some text of L signs at most, whoever is being shown around -/
def Shows (prog : Program) (w : World) (h0 : Heap) (d L : Nat) (x : Value) : Prop :=
  ∀ base, base + L ≤ sizeLine → ∀ (A : Around) (E : Value → Shared → Prop) (s : Shared) (Q : Str → Shared → Prop), A.units + d < cLine → Kps h0 s.heap →
    (∀ h' tk t, Fine L t → Kps s.heap h' → Q t { s with heap := h', toks := tk }) → wpAny (model prog w) A (pyReprUnder base x) Q E s
theorem Shows.more {prog : Program} {w : World} {h0 : Heap} {d d' L L' : Nat} {x : Value} (h : Shows prog w h0 d L x) (a : d ≤ d') (b : L ≤ L') : Shows prog w h0 d' L' x :=
  fun base hb A E s Q hu hk hQ => h base (by omega) A E s Q (by omega) hk fun h' tk t ht => hQ h' tk t ⟨Nat.le_trans ht.1 b, ht.2⟩
theorem shows_str {prog : Program} {w : World} {h0 : Heap} {L : Nat} {x : Str} {t : Tok} (h : (reprText x).length ≤ L) (ho : PyData.strOk (reprText x) = true) (hL : L ≤ sizeLine) : Shows prog w h0 0 L (.str x t) :=
  fun base hb A E s Q hu hk hQ => (ReprIs.str x t (by omega)) base (by omega) A E s Q fun tk => hQ s.heap tk _ ⟨h, ho⟩ fun _ _ e => e
theorem piled_le {L : Nat} : ∀ {ts : List Str}, (∀ t ∈ ts, Fine L t) → piled ts ≤ ts.length * (L + 2)
  | [], _ => by rw [piled_nil]; exact Nat.zero_le _
  | t :: ts, h => by
    have h1 := (h t List.mem_cons_self).1
    have h2 := piled_le (ts := ts) fun x hx => h x (List.mem_cons_of_mem _ hx)
    rw [piled_cons, List.length_cons, Nat.add_mul, Nat.one_mul]
    omega
theorem text_le (ts : List Str) : (tupleText ts).length ≤ piled ts + 3 := by
  unfold tupleText
  rw [strLen_append, strLen_append]
  have e1 : ((("(" : String) : Str)).length = 1 := rfl
  have e3 : (((if ts.length == 1 then ",)" else ")" : String) : Str)).length ≤ 2 := by split <;> decide
  rw [e1]
  by_cases h : ts = []
  · subst h
    have : (Str.join ", " []).length = 0 := rfl
    omega
  · have := join_length_add ts h
    omega
section
variable {prog : Program} {w : World} {h0 : Heap} {d L : Nat}
theorem fold_show {A : Around} {E : Value → Shared → Prop} (hu : A.units + d < cLine) : ∀ (l : List Value) (acc : Array Str) (n : Nat) (s : Shared) (Q : (Array Str × Nat) → Shared → Prop), (∀ x ∈ l, Shows prog w h0 d L x) → n + l.length * (L + 2) ≤ sizeLine → Kps h0 s.heap →
    (∀ h' tk ts, ts.length = l.length → (∀ t ∈ ts, Fine L t) → Kps s.heap h' → Q ⟨acc ++ ts.toArray, n + piled ts⟩ { s with heap := h', toks := tk }) → wpAny (model prog w) A (forIn l (⟨acc, n⟩ : (Array Str × Nat)) tupBody) Q E s := by
  intro l
  induction l with
  | nil =>
    intro acc n s Q _ _ _ h
    have h1 := h s.heap s.toks [] rfl (by simp) fun _ _ e => e
    simp only [List.forIn_nil]
    exact wpAny_pure (by simpa [piled] using h1)
  | cons x l ih =>
    intro acc n s Q hT hn hk h
    rw [List.length_cons, Nat.add_mul, Nat.one_mul] at hn
    rw [List.forIn_cons]
    refine wpAny_bind (wpAny_bind (hT x List.mem_cons_self (n + 1) (by omega) A E s _ hu hk fun h' tk t ht k1 => wpAny_pure ?_))
    have ht1 := ht.1
    refine ih (acc.push t) (n + (t.length + 2)) _ Q (fun y hy => hT y (List.mem_cons_of_mem _ hy)) (by omega) (fun b o e => k1 b o (hk b o e)) fun h2 tk2 ts hl hts k2 => ?_
    have h1 := h h2 tk2 (t :: ts) (by rw [List.length_cons, List.length_cons, hl]) (fun z hz => by
      rcases List.mem_cons.mp hz with e | hz
      · rw [e]; exact ht
      · exact hts z hz) fun b o e => k2 b o (k1 b o e)
    have e : n + piled (t :: ts) = n + (t.length + 2) + piled ts := by rw [piled_cons]; omega
    rw [e] at h1
    simpa using h1
theorem own_show {a : Addr} {o : Obj} {items : Array Value} {n : Nat} {A : Around} {s : Shared} {R : Result → Shared → Prop} {base : Nat} {id : String} {rest : List Value}
    (ha : h0.get? a = some o) (hd : o.data = .seq items n) (all : ∀ x ∈ items.toList, Shows prog w h0 d L x) (hcu : (A.under (.builtin id ⟨.ref a :: rest, []⟩)).units = A.units + 1) (hu : A.units + (d + 1) < cLine) (hk : Kps h0 s.heap)
    (hR : ∀ h' u tk t, Fine (items.size * (L + 2) + 5) t → Kps s.heap h' → R (.ok (.ret (.str t u))) { s with heap := h', toks := tk }) (hsz : base + (items.size * (L + 2) + 5) ≤ sizeLine) :
    wpOwn (model prog w) A (.builtin id ⟨.ref a :: rest, []⟩) (Builtin.tupleReprAt base ⟨[.ref a], []⟩) (fun fin s' => match fin with | .done f => R (.ok f) s' | .again c' => c'.quiet = true ∧ codeAny (model prog w) A c' R s') (fun e s' => R (.error e) s') s := by
  rw [tuple_repr_tree, tupleReprUnderWay_eq]
  refine wpOwn_of_wpAny (wpAny_bind (wpAny_bind (wpAny_stack_any fun st => wpAny_pure ?_)))
  cases st.tail.any (tupGuardF (.ref a)) with
  | true =>
    rw [if_pos rfl]
    refine wpAny_bind (wpAny_rule (wpAny_bind (wpAny_mkStr (wpAny_pure ?_) (show 5 ≤ sizeLine by decide))))
    exact hR s.heap _ _ _ ⟨show 5 ≤ _ by omega, by decide +kernel⟩ fun _ _ e => e
  | false =>
    rw [if_neg (by decide)]
    unfold tupleReprRest Builtin.Tuple.tupleItemsOf
    refine wpAny_bind (wpAny_bind (wpAny_seqItems (hk _ _ ha) hd (wpAny_pure ?_)))
    rw [← Array.forIn_toList]
    refine wpAny_bind (fold_show (by rw [hcu]; omega) _ _ _ _ _ all (by rw [Array.length_toList]; omega) hk fun h' tk ts hl hts k1 => ?_)
    have hl2 : ts.length = items.size := by rw [hl, Array.length_toList]
    have hp := piled_le hts
    have ht := text_le ts
    rw [hl2] at hp
    have e : ((("(" : String) : Str) ++ Str.join ", " ((#[] : Array Str) ++ ts.toArray).toList ++ (if items.size == 1 then ",)" else ")" : String)) = tupleText ts := by
      unfold tupleText
      rw [hl2]
      simp
    dsimp only
    rw [e]
    refine wpAny_bind (wpAny_mkStr (wpAny_pure ?_) (by omega))
    exact hR h' _ _ _ ⟨by omega, ok_text fun z hz => (hts z hz).2⟩ k1
theorem call_show {a : Addr} {o : Obj} {items : Array Value} {n : Nat} {A : Around} {E : Value → Shared → Prop} {s : Shared} {Q : Value → Shared → Prop}
    (ha : h0.get? a = some o) (hc : o.cls = .type "tuple") (hd : o.data = .seq items n) (all : ∀ x ∈ items.toList, Shows prog w h0 d L x) (hu : A.units + (d + 1) < cLine) (hk : Kps h0 s.heap)
    (hQ : ∀ h' u tk t, Fine (items.size * (L + 2) + 5) t → Kps s.heap h' → Q (.str t u) { s with heap := h', toks := tk }) (hsz : items.size * (L + 2) + 5 ≤ sizeLine) :
    wpAny (model prog w) A (call (.builtin "tuple.__repr__") [.ref a]) Q E s :=
  wpAny_call (codeAny_call_builtin_own (Code.quiet_builtin _ (by decide +kernel)) F.entry_tuple_repr (F.slot_tuple_repr.check _ _ _ _ _ _ _ _ ⟨o, hk _ _ ha, hc⟩ (F.args_tuple_repr_1 _)
    (own_show (base := 0) (R := callEnd Q E) ha hd all (units_under_tuple_repr _ _) hu hk hQ (by omega))))
theorem Shows.tuple {a : Addr} {o : Obj} {items : Array Value} {n : Nat} (ha : h0.get? a = some o) (hc : o.cls = .type "tuple") (hd : o.data = .seq items n) (all : ∀ x ∈ items.toList, Shows prog w h0 d L x) :
    Shows prog w h0 (d + 1) (items.size * (L + 2) + 5) (.ref a) := by
  intro base hb A E s Q hu hk hQ
  refine wpAny_pyReprUnder_ref (by omega) (wpAny_pyReprObjUnder_twin (twin := "tuple.__repr__.under") ⟨o, hk _ _ ha, hc⟩ F.slot_tuple_repr rfl (by omega) ?_)
  exact call_twin_own (F.quiet_tuple_repr_under _) F.entry_tuple_repr_under F.check_tuple_repr_under ⟨o, hk _ _ ha, hc⟩ F.slot_tuple_repr (F.args_tuple_repr_1 _)
    (own_show (base := base) (R := callEnd _ E) ha hd all (units_under_tuple_repr_under _ _) hu hk (fun h' u tk t ht k => ⟨⟨_, _, rfl⟩, _, _, rfl, hQ h' tk t ht k⟩) hb)
end
theorem str_show {prog : Program} {w : World} {d L : Nat} {a : Addr} {o : Obj} {items : Array Value} {n : Nat} {A : Around} {E : Value → Shared → Prop} {s : Shared} {Q : Value → Shared → Prop}
    (ha : s.heap.get? a = some o) (hc : o.cls = .type "tuple") (hd : o.data = .seq items n) (all : ∀ prog w, ∀ x ∈ items.toList, Shows prog w s.heap d L x) (hu : A.units + (d + 4) < cLine)
    (hQ : ∀ h' u tk t, Fine (items.size * (L + 2) + 5) t → Kps s.heap h' → Q (.str t u) { s with heap := h', toks := tk }) (hsz : items.size * (L + 2) + 5 ≤ sizeLine) :
    wpAny (model prog w) A (call (.type "str") [.ref a]) Q E s := by
  obtain ⟨h1, e1⟩ : ∃ h1, h1 = s.heap := ⟨_, rfl⟩
  rw [← e1] at ha all
  refine callType_new F.called_str (by decide) (F.typeCall_str_1 _) (F.newCall_str_1 _) (fun obj => F.args_object_init_2 obj _) F.entry_str_new
    (meets_str_new (S := fun A' R s' => A'.units + (d + 3) < cLine ∧ Kps h1 s'.heap ∧ ∀ h' u tk t, Fine (items.size * (L + 2) + 5) t → Kps s'.heap h' → R (.ok (.ret (.str t u))) { s' with heap := h', toks := tk })
      fun prog' w' A' R s' h => ?_) ?_
  · obtain ⟨h2, h3, h4⟩ := h
    have hT : s'.TypeIs (.ref a) "tuple" := ⟨o, h3 _ _ ha, hc⟩
    exact wpAny_strOf_slot rfl (by show A'.units + 1 + 1 < cLine; omega) hT F.slot_tuple_str F.slot_tuple_repr
      (call_show (h0 := h1) (d := d) (L := L) ha hc hd (all prog' w') (by show A'.units + 1 + 1 + (d + 1) < cLine; omega) h3 (fun h' u tk t hl k => ⟨t, u, rfl, h4 h' u tk t hl k⟩) hsz)
  · exact ⟨by show A.units + 1 + (d + 3) < cLine; omega, by rw [e1]; exact fun _ _ e => e, fun h' u tk t hl k => ⟨typeIs_str _ _ _, hQ h' u tk t hl k⟩⟩
/-- nested rows of short texts -/
def ShowB : Nat → D → Prop
  | 0, .str x => (reprText x).length ≤ 20 ∧ PyData.strOk (reprText x) = true
  | n + 1, .str x => (reprText x).length ≤ 20 ∧ PyData.strOk (reprText x) = true
  | n + 1, .tuple xs => xs.length ≤ 10 ∧ ∀ d ∈ xs, ShowB n d
  | _, _ => False
def Lb : Nat → Nat
  | 0 => 20
  | n + 1 => 10 * (Lb n + 2) + 5
theorem Lb_ge : ∀ n, 20 ≤ Lb n
  | 0 => Nat.le_refl _
  | n + 1 => by have := Lb_ge n; show 20 ≤ 10 * (Lb n + 2) + 5; omega
section
variable {X : Cx} {pins : List (Addr × Obj)} {σ : L2.St} {H : Hp} {s : Shared}
theorem shows_of (J : Inv X pins σ H s) : ∀ (n : Nat) (d : D) (v : V) (u : Value), n ≤ 4 → ShowB n d → Dp X.K H v d → RelV v u → ∀ prog w, Shows prog w s.heap n (Lb n) u := by
  intro n
  induction n with
  | zero =>
    intro d v u _ hb hd hr prog w
    cases d with
    | str x =>
      cases hd
      obtain ⟨t, rfl⟩ := (show ∃ t, u = Value.str x t from hr)
      exact shows_str hb.1 hb.2 (by decide)
    | _ => exact hb.elim
  | succ n ih =>
    intro d v u hn hb hd hr prog w
    have h20 := Lb_ge (n + 1)
    have big : Lb 5 ≤ sizeLine := by decide
    cases d with
    | str x =>
      cases hd
      obtain ⟨t, rfl⟩ := (show ∃ t, u = Value.str x t from hr)
      exact (shows_str (L := 20) hb.1 hb.2 (by decide)).more (Nat.zero_le _) h20
    | tuple xs =>
      obtain ⟨h1, h2⟩ := (show xs.length ≤ 10 ∧ ∀ d ∈ xs, ShowB n d from hb)
      cases hd with
      | tup hs hds =>
        rename_i a vs
        cases (show u = Value.ref a from hr)
        obtain ⟨its, rv, ⟨o, ho, hc, k, hd⟩, _⟩ := J.tuple hs
        have hl : its.length = xs.length := by rw [← rv.length, dps_len hds]
        have all : ∀ x ∈ its, Shows prog w s.heap n (Lb n) x := fun x hx => by
          obtain ⟨i, hi, e⟩ := List.mem_iff_getElem.mp hx
          have hx2 : i < xs.length := by omega
          obtain ⟨v2, e1, e2⟩ := dps_get hds (i := i) (d := xs[i]) (List.getElem?_eq_getElem hx2)
          obtain ⟨u2, e3, e4⟩ := rv.get e1
          rw [List.getElem?_eq_getElem hi] at e3
          cases e3
          rw [← e]
          exact ih _ v2 _ (by omega) (h2 _ (List.getElem_mem hx2)) e2 e4 prog w
        refine (Shows.tuple ho hc hd (by simpa using all)).more (Nat.le_refl _) ?_
        show its.toArray.size * (Lb n + 2) + 5 ≤ 10 * (Lb n + 2) + 5
        have : its.toArray.size ≤ 10 := by rw [List.size_toArray]; omega
        have := Nat.mul_le_mul_right (Lb n + 2) this
        omega
    | _ => exact hb.elim
/-- str(x) of a nested tuple: some text -/
theorem cr_strT (hu : X.A.units + 20 < cLine) : CallR X (.type "str") (fun xs H Q => ∃ (v : V) (ds : List D), xs = [v] ∧ Dp X.K H v (.tuple ds) ∧ ShowB 4 (.tuple ds) ∧ ∀ y : Str, PyData.strOk y = true → Q (.str y) H) := by
  intro pins s σ H xs us Q J r ⟨v, ds, ex, hd, hb, q⟩
  subst ex
  obtain ⟨u, eu, rx⟩ := vals1 r
  subst eu
  obtain ⟨h1, h2⟩ := (show ds.length ≤ 10 ∧ ∀ d ∈ ds, ShowB 3 d from hb)
  cases hd with
  | tup hs hds =>
    rename_i a vs
    cases (show u = Value.ref a from rx)
    obtain ⟨its, rv, ⟨o, ho, hc, k, hd⟩, _⟩ := J.tuple hs
    have hl : its.length = ds.length := by rw [← rv.length, dps_len hds]
    have all : ∀ prog w, ∀ x ∈ its, Shows prog w s.heap 3 (Lb 3) x := fun prog w x hx => by
      obtain ⟨i, hi, e⟩ := List.mem_iff_getElem.mp hx
      have hx2 : i < ds.length := by omega
      obtain ⟨v2, e1, e2⟩ := dps_get hds (i := i) (d := ds[i]) (List.getElem?_eq_getElem hx2)
      obtain ⟨u2, e3, e4⟩ := rv.get e1
      rw [List.getElem?_eq_getElem hi] at e3
      cases e3
      rw [← e]
      exact shows_of J 3 _ v2 _ (by decide) (h2 _ (List.getElem_mem hx2)) e2 e4 prog w
    refine str_show ho hc hd (d := 3) (L := Lb 3) (by simpa using all) (by omega) (fun h' u tk t hl2 kp => ⟨.str t, H, J.kept (t' := tk) kp, ⟨u, rfl⟩, q t hl2.2⟩) ?_
    have : its.toArray.size ≤ 10 := by rw [List.size_toArray]; omega
    have := Nat.mul_le_mul_right (Lb 3 + 2) this
    have : 10 * (Lb 3 + 2) + 5 ≤ sizeLine := by decide
    omega
end
end Cal
/-! WpB -/
namespace Cal
open PySem PySem.Spec PyProof.Rows L2 LamX
/-! ### the reading of the text -/
def brP (b : Bool) (A B : Prop) : Prop := match b with
  | true => A
  | false => B
theorem brS {b : Bool} {A B : Prop} (h1 : b = true → A) (h2 : b = false → B) : brP b A B := by
  cases b with
  | true => exact h1 rfl
  | false => exact h2 rfl
theorem brT {b : Bool} {A B : Prop} (h : b = true) (h1 : A) : brP b A B := by rw [h]; exact h1
theorem brF {b : Bool} {A B : Prop} (h : b = false) (h1 : B) : brP b A B := by rw [h]; exact h1
abbrev PoI := List Sv → (Ms → Prop) → Ms → Prop
structure Wps where
  E : Sc → Expr → List Sv → Ms → PoE → Er → Prop
  T : Sc → Expr → List Sv → Ms → PoT → Er → Prop
  I : Sc → Expr → Expr → List Sv → Ms → PoI → Er → Prop
def wps0 : Wps := ⟨fun _ _ _ _ _ _ => False, fun _ _ _ _ _ _ => False, fun _ _ _ _ _ _ _ => False⟩
/-- rows of expressions -/
def wpL (f : Expr → Ms → PoE → Prop) : List Expr → Ms → PoA → Prop
  | [], M, Q => Q [] M
  | e :: es, M, Q => f e M fun v M1 => wpL f es M1 fun vs M2 => Q (v :: vs) M2
/-- the slot of a name of the block -/
def visB (sc : Scope) (x : Str) : Bool := match sc.names.lookup x with
  | some .local => true
  | some .cell => true
  | some .free => true
  | _ => false
def slotV (S : Sc) (x : Str) : Option Nat := if visB S.sc x && !(x == ("__debug__" : Str)) && !(x == ("__classdict__" : Str)) then S.N.findIdx? (· == x) else none
def locB (S : Sc) (x : Str) : Bool := match S.sc.names.lookup x with
  | some .local => true
  | some .cell => S.fn x
  | _ => false
def slotL (S : Sc) (x : Str) : Option Nat := if locB S x then S.N.findIdx? (· == x) else none
def globB (S : Sc) (x : Str) : Bool := match S.sc.names.lookup x with
  | some .globalImplicit => !(x == ("__debug__" : Str))
  | _ => false
/-- a slot's value -/
def getD (ds : List Sv) (i : Nat) (Q : Sv → Prop) : Prop := match ds[i]? with
  | some .no => False
  | some r => Q r
  | none => False
/-- a list that changes, found among the others -/
def atM (M : Ms) (l : Addr) (Q : Ms → List Sv → Ms → Prop) : Prop := ∃ A rs C, M = A ++ (l, .lst rs) :: C ∧ Q A rs C
def mulP (i j : Int) : Prop := CMul i j ∨ CMulW i j
def fdivP (j : Int) : Prop := j ≠ 0 ∧ j.natAbs.log2 < 9000
def binW : Operator → Sv → Sv → Ms → PoE → Prop
  | .Add, .dat (.int i), .dat (.int j), M, Q => Q (I (i + j)) M
  | .Add, .dat (.str x), .dat (.str y), M, Q => x.length + y.length ≤ 1000 ∧ Q (.dat (.str (x ++ y))) M
  | .Add, .dat (.list xs), .dat (.list ys), M, Q => xs.length + ys.length ≤ 1000 ∧ Q (.dat (.list (xs ++ ys))) M
  | .Add, .dat (.tuple xs), .dat (.tuple ys), M, Q => xs.length + ys.length ≤ 1000 ∧ Q (.dat (.tuple (xs ++ ys))) M
  | .Add, .raw (.ref l), .dat (.list ys), M, Q => atM M l fun _ rs _ => ∃ xs, rs = dats xs ∧ xs.length + ys.length ≤ 1000 ∧ Q (.dat (.list (xs ++ ys))) M
  | .Sub, .dat (.int i), .dat (.int j), M, Q => Q (I (i - j)) M
  | .Sub, .dat (.bool a), .dat (.bool b), M, Q => Q (I (b2n a - b2n b)) M
  | .Mult, .dat (.int i), .dat (.int j), M, Q => mulP i j ∧ Q (I (i * j)) M
  | .FloorDiv, .dat (.int i), .dat (.int j), M, Q => fdivP j ∧ Q (I (i.fdiv j)) M
  | .Mod, .dat (.int i), .dat (.int j), M, Q => 0 < j ∧ Q (I (i % j)) M
  | .Pow, .dat (.int i), .dat (.int j), M, Q => CPow i j ∧ Q (I (i ^ j.toNat)) M
  | .LShift, .dat (.int i), .dat (.int j), M, Q => CPow i j ∧ Q (I (i * 2 ^ j.toNat)) M
  | .RShift, .dat (.int i), .dat (.int j), M, Q => 0 ≤ j ∧ Q (I (i / 2 ^ j.toNat)) M
  | .BitAnd, .dat (.int i), .dat (.int j), M, Q => Q (I (Builtin.bitAnd i j)) M
  | _, _, _, _, _ => False
/-- what a dict holds at a key -/
def dgetW (v vb : Sv) (M : Ms) (P : Option Sv → Prop) : Prop := match v with
  | .ptr .dk l => match vb with
    | .dat d => ∃ k es, keyD d = some k ∧ rdK M l es ∧ P (kvGet es k)
    | _ => False
  | _ => False
/-- a value read as data: itself, or a list that changes -/
def rdW (v : Sv) (M : Ms) (Q : D → Prop) : Prop := match v with
  | .dat d => Q d
  | .raw (.ref l) => atM M l fun _ rs _ => ∃ xs, rs = dats xs ∧ Q (.list xs)
  | _ => False
def eqB (neg : Bool) (d d' : D) : Bool := match neg with
  | false => PyData.eqv d d'
  | true => !PyData.eqv d d'
def inB (neg : Bool) (d : D) (xs : List D) : Bool := match neg with
  | false => xs.any fun z => PyData.eqv z d
  | true => !xs.any fun z => PyData.eqv z d
def eqW (neg : Bool) (a b : Sv) (M : Ms) (Q : PoT) : Prop := rdW a M fun d => rdW b M fun d' => SeqAt.shaped d = true ∧ SeqAt.shaped d' = true ∧ Q (eqB neg d d') M
def inW (neg : Bool) (a b : Sv) (M : Ms) (Q : PoT) : Prop := rdW a M fun d => rdW b M fun d' => match d' with
  | .list xs => SeqAt.shaped d = true ∧ SeqAt.shaped (.list xs) = true ∧ Q (inB neg d xs) M
  | .tuple xs => SeqAt.shaped d = true ∧ SeqAt.shaped (.tuple xs) = true ∧ Q (inB neg d xs) M
  | _ => False
def dEqB (neg : Bool) (es es' : List (L2.Key × Sv)) : Bool := match neg with
  | false => dEq es es'
  | true => !dEq es es'
/-- dicts of data are compared -/
def deqW (neg : Bool) (va vb : Sv) (M : Ms) (Q : PoT) : Prop := match va, vb with
  | .ptr .dk l, .ptr .dk l' => ∃ es es', rdK M l es ∧ rdK M l' es' ∧ DatE es ∧ DatE es' ∧ Q (dEqB neg es es') M
  | _, _ => False
def cmpW : CmpOp → Sv → Sv → Ms → PoT → Prop
  | .Lt, .dat (.int i), .dat (.int j), M, Q => Q (decide (i < j)) M
  | .LtE, .dat (.int i), .dat (.int j), M, Q => Q (decide (i ≤ j)) M
  | .Gt, .dat (.int i), .dat (.int j), M, Q => Q (decide (j < i)) M
  | .GtE, .dat (.int i), .dat (.int j), M, Q => Q (decide (j ≤ i)) M
  | .Eq, .ptr p l, b, M, Q => deqW false (.ptr p l) b M Q
  | .NotEq, .ptr p l, b, M, Q => deqW true (.ptr p l) b M Q
  | .Eq, a, b, M, Q => eqW false a b M Q
  | .NotEq, a, b, M, Q => eqW true a b M Q
  | .In, a, .ptr p l, M, Q => dgetW (.ptr p l) a M fun o => Q o.isSome M
  | .NotIn, a, .ptr p l, M, Q => dgetW (.ptr p l) a M fun o => Q (!o.isSome) M
  | .In, a, b, M, Q => inW false a b M Q
  | .NotIn, a, b, M, Q => inW true a b M Q
  | .Is, .dat d, .dat .none, M, Q => Q (isNon d) M
  | .IsNot, .dat d, .dat .none, M, Q => Q (!isNon d) M
  | _, _, _, _, _ => False
def intW (v : Sv) (Q : Int → Prop) : Prop := match v with
  | .dat (.int i) => Q i
  | _ => False
def boolW (v : Sv) (Q : Bool → Prop) : Prop := match v with
  | .dat (.bool b) => Q b
  | _ => False
def unW : UnaryOp → Sv → Ms → PoE → Prop
  | .USub, .dat (.int i), M, Q => Q (I (-i)) M
  | .Not, .dat (.bool b), M, Q => Q (B (!b)) M
  | _, _, _, _ => False
/-- an item -/
def ixW : Sv → Sv → Ms → PoE → Prop
  | .dat (.tuple xs), .dat (.int i), M, Q => ∃ d, atI xs i = some d ∧ Q (.dat d) M
  | .dat (.list xs), .dat (.int i), M, Q => ∃ d, atI xs i = some d ∧ Q (.dat d) M
  | .raw (.ref l), .dat (.int i), M, Q => atM M l fun _ rs _ => ∃ r, atI rs i = some r ∧ Q r M
  | .kn φ, .dat (.int i), M, Q => ∃ L t, Sv.kn φ = pairLS L t ∧ ((i = 0 ∧ Q (sLam L) M) ∨ (i = 1 ∧ Q (.dat (.str t)) M))
  | .ptr p l, vb, M, Q => dgetW (.ptr p l) vb M fun o => ∃ r, o = some r ∧ Q r M
  | .dat (.str x), .dat (.int i), M, Q => ∃ c, atI x.cps.toList i = some c ∧ x.length ≤ 1000 ∧ Q (.dat (.str ⟨#[c]⟩)) M
  | _, _, _, _ => False
/-- a part -/
def slW (v : Sv) (lo hi : Option Int) (M : Ms) (Q : PoE) : Prop := match v with
  | .dat (.list xs) => Q (.dat (.list (cutD xs lo hi))) M
  | .dat (.tuple xs) => Q (.dat (.tuple (cutD xs lo hi))) M
  | .raw (.ref l) => atM M l fun _ rs _ => ∃ xs, rs = dats xs ∧ Q (.dat (.list (cutD xs lo hi))) M
  | _ => False
/-- a row from behind -/
def rvW (v : Sv) (M : Ms) (Q : PoE) : Prop := match v with
  | .dat (.list xs) => Q (.dat (.list xs.reverse)) M
  | .dat (.tuple xs) => Q (.dat (.tuple xs.reverse)) M
  | .raw (.ref l) => atM M l fun _ rs _ => ∃ xs, rs = dats xs ∧ Q (.dat (.list xs.reverse)) M
  | _ => False
/-- a new list: known for ever, or one that changes -/
def lstW (rs : List Sv) (M : Ms) (Q : PoE) : Prop := rs.length ≤ 1000 ∧ ((∃ xs, rs = dats xs ∧ Q (.dat (.list xs)) M) ∨ ∀ l, Q (.raw (.ref l)) ((l, .lst rs) :: M))
def sNum (n : Nat) : Sv := .kn fun G v => ∃ d, v = .ref d ∧ G d = some (DNum d n)
/-- built-in functions, of values -/
def lenW (v : Sv) (M : Ms) (Q : PoE) : Prop := match v with
  | .kn φ => ∃ n : Nat, Sv.kn φ = sNum n ∧ n ≤ 1000 ∧ Q (I n) M
  | .dat (.list xs) => Q (I xs.length) M
  | .dat (.tuple xs) => Q (I xs.length) M
  | .raw (.ref l) => atM M l fun _ rs _ => Q (I rs.length) M
  | .ptr .dk l => ∃ A es C, M = A ++ (l, .dk es) :: C ∧ es.length ≤ 1000 ∧ Q (I es.length) M
  | _ => False
def listW (v : Sv) (M : Ms) (Q : PoE) : Prop := match v with
  | .dat (.list xs) => lstW (dats xs) M Q
  | .dat (.tuple xs) => lstW (dats xs) M Q
  | .raw (.ref l) => atM M l fun _ rs _ => lstW rs M Q
  | .ptr .dk l => ∃ es, rdK M l es ∧ lstW (dats (es.map fun p => keyS p.1)) M Q
  | _ => False
def tupleW (v : Sv) (M : Ms) (Q : PoE) : Prop := match v with
  | .dat (.list xs) => Q (.dat (.tuple xs)) M
  | .dat (.tuple xs) => Q (.dat (.tuple xs)) M
  | .raw (.ref l) => atM M l fun _ rs _ => ∃ xs, rs = dats xs ∧ Q (.dat (.tuple xs)) M
  | _ => False
def absI (i : Int) : Int := if i < 0 then -i else i
def minI (i j : Int) : Int := if j < i then j else i
def maxI (i j : Int) : Int := if j > i then j else i
def lenA (vs : List Sv) (M : Ms) (Q : PoE) : Prop := match vs with
  | [v] => lenW v M Q
  | _ => False
def absA (vs : List Sv) (M : Ms) (Q : PoE) : Prop := match vs with
  | [v] => intW v fun i => Q (I (absI i)) M
  | _ => False
def intA (vs : List Sv) (M : Ms) (Q : PoE) : Prop := match vs with
  | [.dat (.int i)] => Q (I i) M
  | [.dat (.bool b)] => Q (I (if b then 1 else 0)) M
  | _ => False
def listA (vs : List Sv) (M : Ms) (Q : PoE) : Prop := match vs with
  | [v] => listW v M Q
  | _ => False
def tupleA (vs : List Sv) (M : Ms) (Q : PoE) : Prop := match vs with
  | [v] => tupleW v M Q
  | _ => False
def rdI (v : Sv) (M : Ms) (P : List Int → Prop) : Prop := match v with
  | .dat (.list xs) => ∃ ns : List Int, xs = ns.map .int ∧ P ns
  | .raw (.ref l) => atM M l fun _ rs _ => ∃ ns : List Int, rs = dats (ns.map .int) ∧ P ns
  | _ => False
def sumA (vs : List Sv) (M : Ms) (Q : PoE) : Prop := match vs with
  | [v] => rdI v M fun ns => Q (I ns.sum) M
  | _ => False
/-- a dict of a list of pairs (row, 1) -/
def dictA (vs : List Sv) (M : Ms) (Q : PoE) : Prop := match vs with
  | [.dat (.list xs)] => ∃ ks : List NestedKey, xs = ks.map kp1 ∧ ks.length ≤ 1000 ∧ (∀ k ∈ ks, (∃ r, k = .tup r) ∧ k.depth ≤ 8) ∧ ∀ n : Nat, (∀ ws : List NestedKey, ws.Nodup → (∀ k, k ∈ ws ↔ k ∈ ks) → n = ws.length) → n ≤ 1000 → Q (sNum n) M
  | _ => False
def minA (vs : List Sv) (M : Ms) (Q : PoE) : Prop := match vs with
  | [v] => rdI v M fun ns => 0 < ns.length ∧ ∀ m ∈ ns, (∀ y ∈ ns, m ≤ y) → Q (I m) M
  | [v, u] => intW v fun i => intW u fun j => Q (I (minI i j)) M
  | _ => False
def maxA (vs : List Sv) (M : Ms) (Q : PoE) : Prop := match vs with
  | [v] => rdI v M fun ns => 0 < ns.length ∧ ∀ m ∈ ns, (∀ y ∈ ns, y ≤ m) → Q (I m) M
  | [v, u] => intW v fun i => intW u fun j => Q (I (maxI i j)) M
  | _ => False
def gcdA (vs : List Sv) (M : Ms) (Q : PoE) : Prop := match vs with
  | [v, u] => intW v fun i => intW u fun j => Q (I ((Nat.gcd i.natAbs j.natAbs : Nat) : Int)) M
  | _ => False
def undat : List Sv → Option (List D)
  | [] => some []
  | .dat d :: r => match undat r with
    | some xs => some (d :: xs)
    | none => none
  | _ :: _ => none
theorem undat_ok : ∀ {rs : List Sv} {xs : List D}, undat rs = some xs → rs = dats xs
  | [], xs, h => by cases h; rfl
  | .dat d :: r, xs, h => by
    unfold undat at h
    cases e : undat r with
    | none => rw [e] at h; cases h
    | some ys =>
      rw [e] at h
      cases h
      rw [undat_ok e]
      rfl
  | .no :: _, _, h => by cases h
  | .raw _ :: _, _, h => by cases h
  | .kn _ :: _, _, h => by cases h
  | .ptr _ _ :: _, _, h => by cases h
def tupW (rs : List Sv) (M : Ms) (Q : PoE) : Prop := match undat rs with
  | some xs => match Nat.ble xs.length 1000 with
    | true => Q (.dat (.tuple xs)) M
    | false => False
  | none => False
def dspW (rs : List Sv) (M : Ms) (Q : PoE) : Prop := match Nat.ble rs.length 1000 with
  | true => (match undat rs with
    | some xs => Q (.dat (.list xs)) M
    | none => False) ∨ ∀ l, Q (.raw (.ref l)) ((l, .lst rs) :: M)
  | false => False
def anyA (vs : List Sv) (M : Ms) (Q : PoE) : Prop := match vs with
  | [.dat (.list xs)] => ∃ bs : List Bool, xs = bs.map .bool ∧ Q (B (bs.any id)) M
  | _ => False
def rdL (v : Sv) (M : Ms) (P : List Sv → Prop) : Prop := match v with
  | .dat (.list xs) => P (dats xs)
  | .raw (.ref l) => atM M l fun _ rs _ => P rs
  | _ => False
/-- sorted, of ints: any row of them in order -/
def sortedA (vs : List Sv) (M : Ms) (Q : PoE) : Prop := match vs with
  | [.dat (.tuple xs)] => PySem.W.AllAlike xs ∧ PySem.W.Sortable xs ∧ xs.length ≤ 1000 ∧ (∀ d ∈ xs, d.depth ≤ 8) ∧ ∀ ys, ys = xs.mergeSort (PySem.W.dataLe false id) → lstW (dats ys) M Q
  | [v] => rdL v M fun rs => ∃ ns : List Int, rs = dats (ns.map .int) ∧ ∀ ms : List Int, ms.Perm ns → ms.Pairwise (· ≤ ·) → lstW (dats (ms.map .int)) M Q
  | _ => False
def bltL : List (Str × (List Sv → Ms → PoE → Prop)) := [("len", lenA), ("abs", absA), ("int", intA), ("list", listA), ("tuple", tupleA), ("min", minA), ("max", maxA), ("any", anyA), ("sorted", sortedA), ("sum", sumA), ("dict", dictA)]
/-! where dicts are gone through, more of them -/
/-- sorted, of any alike data -/
def sortedK (vs : List Sv) (M : Ms) (Q : PoE) : Prop := match vs with
  | [.dat (.tuple xs)] => sortedA [.dat (.tuple xs)] M Q
  | [v] => rdL v M fun rs => ∃ xs : List D, rs = dats xs ∧ PySem.W.AllAlike xs ∧ PySem.W.Sortable xs ∧ xs.length ≤ 1000 ∧ (∀ d ∈ xs, d.depth ≤ 8) ∧ ∀ ys, ys = xs.mergeSort (PySem.W.dataLe false id) → lstW (dats ys) M Q
  | _ => False
/-- dict of a list of pairs -/
def dictK (vs : List Sv) (M : Ms) (Q : PoE) : Prop := match vs with
  | [v] => rdL v M fun rs => ∃ ps : List (L2.Key × D), rs = dats (ps.map pairD) ∧ ∀ l, Q (.ptr .dk l) ((l, .dk (kvAll [] (ps.map fun p => (p.1, .dat p.2)))) :: M)
  | _ => False
def isiA (vs : List Sv) (M : Ms) (Q : PoE) : Prop := match vs with
  | [.dat d, .raw (.ty t)] => t = "tuple" ∧ Q (B (isTupD d)) M
  | _ => False
def strA (vs : List Sv) (M : Ms) (Q : PoE) : Prop := match vs with
  | [.dat (.str x)] => Q (.dat (.str x)) M
  | [.dat (.tuple xs)] => ShowB 4 (.tuple xs) ∧ ∀ y : Str, PyData.strOk y = true → Q (.dat (.str y)) M
  | _ => False
def bltK : List (Str × (List Sv → Ms → PoE → Prop)) := [("len", lenA), ("abs", absA), ("int", intA), ("list", listA), ("tuple", tupleA), ("min", minA), ("max", maxA), ("any", anyA), ("sorted", sortedK), ("sum", sumA), ("dict", dictK), ("isinstance", isiA), ("str", strA)]
def bltG (wk : Bool) : List (Str × (List Sv → Ms → PoE → Prop)) := match wk with
  | false => bltL
  | true => bltK
def notStar : Expr → Bool
  | .Starred .. => false
  | _ => true
/-- a slot is set; the row stays written out -/
def setK (ds : List Sv) (i : Nat) (r : Sv) (k : List Sv → Prop) : Prop := match ds, i with
  | [], _ => k []
  | x :: xs, 0 => k (r :: xs)
  | x :: xs, i + 1 => setK xs i r fun ys => k (x :: ys)
theorem setK_eq : ∀ (ds : List Sv) (i : Nat) (r : Sv) (k : List Sv → Prop), setK ds i r k = k (ds.set i r)
  | [], _, _, _ => rfl
  | _ :: _, 0, _, _ => rfl
  | x :: xs, i + 1, r, k => setK_eq xs i r fun ys => k (x :: ys)
/-- what is stored -/
def wpGL (f : Expr → Sv → List Sv → (List Sv → Prop) → Prop) : List Expr → List D → List Sv → (List Sv → Prop) → Prop
  | [], [], ds, Q => Q ds
  | e :: es, x :: xs, ds, Q => f e (.dat x) ds fun ds1 => wpGL f es xs ds1 Q
  | _, _, _, _ => False
def wpG (S : Sc) : Nat → Expr → Sv → List Sv → (List Sv → Prop) → Prop
  | 0, _, _, _, _ => False
  | n + 1, .Name x _, r, ds, Q => match slotL S x with
    | some i => setK ds i r Q
    | none => False
  | n + 1, .Tuple es _ _, .dat (.tuple xs), ds, Q => match es.all notStar && decide (es.length = xs.length) with
    | true => wpGL (wpG S n) es xs ds Q
    | false => False
  | n + 1, .Tuple es _ _, .dat (.list xs), ds, Q => match es.all notStar && decide (es.length = xs.length) with
    | true => wpGL (wpG S n) es xs ds Q
    | false => False
  | _, _, _, _, _ => False
def tgSl (S : Sc) : Nat → Expr → List Nat
  | 0, _ => []
  | n + 1, .Name x _ => match slotL S x with
    | some i => [i]
    | none => []
  | n + 1, .Tuple es _ _ => (es.map (tgSl S n)).flatten
  | _, _ => []
def subB (ts vs : List Nat) : Bool := ts.all fun t => vs.contains t
end Cal
/-! WpC -/
namespace Cal
open PySem PySem.Spec PyProof.Rows L2 LamX
def noE : Er := fun _ _ => False
def notCmpr : Expr → Bool
  | .ListComp .. => false
  | .SetComp .. => false
  | .DictComp .. => false
  | _ => true
def notSet : Expr → Bool
  | .Set .. => false
  | _ => true
def neg1 : Expr → Bool
  | .UnaryOp .USub (.Constant (.int i) _ _) _ => i == 1
  | _ => false
def notSlice : Expr → Bool
  | .Slice .. => false
  | _ => true
def plainBase : Expr → Bool
  | .Call _ [] _ _ => false
  | _ => true
def wpAndE (f : Expr → Ms → PoE → Prop) : List Expr → Ms → PoE → Prop
  | [], _, _ => False
  | [e], M, Q => f e M Q
  | e :: es, M, Q => f e M fun v M1 => boolW v fun b => brP b (wpAndE f es M1 Q) (Q (B false) M1)
def wpOrE (f : Expr → Ms → PoE → Prop) : List Expr → Ms → PoE → Prop
  | [], _, _ => False
  | [e], M, Q => f e M Q
  | e :: es, M, Q => f e M fun v M1 => boolW v fun b => brP b (Q (B true) M1) (wpOrE f es M1 Q)
def wpAndT (f : Expr → Ms → PoT → Prop) : List Expr → Ms → PoT → Prop
  | [], _, _ => False
  | [e], M, Q => f e M Q
  | e :: es, M, Q => f e M fun b M1 => brP b (wpAndT f es M1 Q) (Q false M1)
def wpOrT (f : Expr → Ms → PoT → Prop) : List Expr → Ms → PoT → Prop
  | [], _, _ => False
  | [e], M, Q => f e M Q
  | e :: es, M, Q => f e M fun b M1 => brP b (Q true M1) (wpOrT f es M1 Q)
def wpO (f : Expr → Ms → PoE → Prop) : Option Expr → Ms → (Option Int → Ms → Prop) → Prop
  | none, M, Q => Q none M
  | some e, M, Q => f e M fun v M1 => intW v fun i => Q (some i) M1
/-- methods of a list that changes -/
def tyL (v : Sv) (M : Ms) (P : Prop) : Prop := match v with
  | .raw (.ref l) => atM M l (fun _ _ _ => True) ∧ P
  | _ => False
def popW (v : Sv) (M : Ms) (Q : PoE) : Prop := match v with
  | .raw (.ref l) => atM M l fun A rs C => ∃ r, rs[rs.length - 1]? = some r ∧ Q r (A ++ (l, .lst rs.dropLast) :: C)
  | _ => False
def appendW (v : Sv) (r : Sv) (M : Ms) (Q : PoE) : Prop := match v with
  | .raw (.ref l) => atM M l fun A rs C => rs.length ≤ 1000 ∧ Q (.dat .none) (A ++ (l, .lst (rs ++ [r])) :: C)
  | _ => False
def mtL0 : List (Str × (Sv → Ms → PoE → Prop)) := [("pop", popW)]
def extendW (v : Sv) (r : Sv) (M : Ms) (Q : PoE) : Prop := match v, r with
  | .raw (.ref l), .raw (.ref b) => atM M b fun _ zs _ => atM M l fun A rs C => rs.length + zs.length ≤ 1000 ∧ Q (.dat .none) (A ++ (l, .lst (rs ++ zs)) :: C)
  | _, _ => False
def mtL1 : List (Str × (Sv → Sv → Ms → PoE → Prop)) := [("append", appendW), ("extend", extendW)]
def relS (sc scope : Scope) : Scope := { scope with names := scope.names.map fun (n, k) => if (k == .free && sc.kind == .function && sc.names.lookup n == some .cell) then (n, .cell) else (n, k) }
def inS (S : Sc) (scope : Scope) : Sc := ⟨S.N, relS S.sc scope, fun x => scope.names.lookup x == some .cell, false, S.tq, .no⟩
/-- .. that has kept lambdas called -/
def inK (S : Sc) (scope : Scope) (k : Kp) : Sc := ⟨S.N, relS S.sc scope, fun x => scope.names.lookup x == some .cell, false, S.tq, k⟩
/-- a lambda's body, told -/
def lamI (S : Sc) (scope : Scope) : Sc := ⟨S.N, scope, fun _ => false, false, false, .no⟩
def ownS (S : Sc) (scope : Scope) : List (Str × Nat) := scope.names.filterMap fun (n, k) => if (k == .local || k == .cell) then (S.N.findIdx? (· == n)).map (n, ·) else none
def wpIfs (f : Expr → Ms → PoT → Prop) : List Expr → Ms → PoT → Prop
  | [], M, Q => Q true M
  | [e], M, Q => f e M Q
  | _, _, _ => False
def isTupE : Expr → Bool
  | .Tuple .. => true
  | _ => false
/-- the items that are gone through -/
def itW (v : Sv) (M : Ms) (Q : PoI) : Prop := match v with
  | .dat (.list xs) => Q (dats xs) (fun _ => True) M
  | .dat (.tuple xs) => Q (dats xs) (fun _ => True) M
  | .raw (.ref l) => atM M l fun _ rs _ => Q rs (fun M' => ∃ A C, M' = A ++ (l, .lst rs) :: C) M
  | .ptr .dk l => ∃ A od kvs es C, M = A ++ (l, .fk od kvs es) :: C ∧ Q (dats (es.map fun p => keyS p.1)) (fun M' => ∃ A C, M' = A ++ (l, .fk od kvs es) :: C) M
  | _ => False
/-- things of classes -/
def fPut (f : Str) (r : Sv) : List (Str × Sv) → List (Str × Sv)
  | [] => [(f, r)]
  | (g, x) :: t => if g = f then (g, r) :: t else (g, x) :: fPut f r t
def obW (v : Sv) (M : Ms) (P : Ms → Addr → Addr → List (Str × Sv) → Ms → Prop) : Prop := match v with
  | .ptr .ob l => ∃ A c fs C, M = A ++ (l, .ob c fs) :: C ∧ P A l c fs C
  | _ => False
def fldW (g : Gi) (f : Str) (v : Sv) (M : Ms) (Q : PoE) : Prop := obW v M fun _ _ c fs _ => g.fl c f = true ∧ ∃ r, fs.lookup f = some r ∧ Q r M
/-- a dict is read alone while it is gone through -/
def lkW (M : Ms) (P : Ms → (Ms → (Ms → Prop) → Prop) → Prop) : Prop := ∃ A l es C, M = A ++ (l, .dk es) :: C ∧ ∀ od kvs, P (A ++ (l, .fk od kvs es) :: C) fun M' q => ∃ A' C', M' = A' ++ (l, .fk od kvs es) :: C' ∧ q (A' ++ (l, .dk es) :: C')
/-- d.pop(k), d.get(k), d.get(k, x) -/
def dkHere (v : Sv) (M : Ms) : Prop := match v with
  | .ptr .dk l => ∃ es, rdK M l es
  | _ => False
def dpopW (v u : Sv) (M : Ms) (Q : PoE) : Prop := match v with
  | .ptr .dk l => match u with
    | .dat d => ∃ k A es C r, keyD d = some k ∧ M = A ++ (l, .dk es) :: C ∧ kvGet es k = some r ∧ Q r (A ++ (l, .dk (kvDrop es k)) :: C)
    | _ => False
  | _ => False
def dget1W (v u : Sv) (M : Ms) (Q : PoE) : Prop := dgetW v u M fun o => Q (o.getD (.dat .none)) M
def dget2W (v u r : Sv) (M : Ms) (Q : PoE) : Prop := dgetW v u M fun o => Q (o.getD r) M
/-- o.m(..) of a thing of a class -/
def methW (g : Gi) (W : Wps) (S : Sc) (o : Expr) (m : Str) (es : List Expr) (ds : List Sv) (M : Ms) (Q : PoE) (Er' : Er) : Prop := match plainBase o && es.all notStar with
  | false => False
  | true => Nat.blt es.length 30 = true ∧ ∃ c s, g.mt c m es.length = some s ∧ W.E S o ds M (fun v M1 => obW v M1 fun _ _ c' fs _ => c' = c ∧ fs.lookup m = none ∧
      wpL (fun e M Q => W.E S e ds M Q Er') es M1 fun vs M2 => (v :: vs).length + s.dr.length = s.n ∧ s.T (v :: (vs ++ s.dr)) M2 Q Er') Er'
/-- o.m(e) where o is no list -/
def meth1W (g : Gi) (W : Wps) (S : Sc) (o : Expr) (m : Str) (e : Expr) (ds : List Sv) (M : Ms) (Q : PoE) (Er' : Er) : Prop :=
  if m = ("pop" : Str) then plainBase o = true ∧ notStar e = true ∧ W.E S o ds M (fun v M1 => dkHere v M1 ∧ W.E S e ds M1 (fun u M2 => dpopW v u M2 Q) Er') Er'
  else if m = ("get" : Str) then plainBase o = true ∧ notStar e = true ∧ W.E S o ds M (fun v M1 => dkHere v M1 ∧ W.E S e ds M1 (fun u M2 => dget1W v u M2 Q) Er') Er'
  else methW g W S o m [e] ds M Q Er'
def meth2W (g : Gi) (W : Wps) (S : Sc) (o : Expr) (m : Str) (e f : Expr) (ds : List Sv) (M : Ms) (Q : PoE) (Er' : Er) : Prop :=
  if m = ("get" : Str) then plainBase o = true ∧ notStar e = true ∧ notStar f = true ∧ W.E S o ds M (fun v M1 => dkHere v M1 ∧ W.E S e ds M1 (fun u M2 => W.E S f ds M2 (fun r M3 => dget2W v u r M3 Q) Er') Er') Er'
  else methW g W S o m [e, f] ds M Q Er'
/-- what is asked of a list comprehension -/
def lcP (U : Wps) (S' : Sc) (tg elt : Expr) (ifs : List Expr) (ds' : List Sv) (Q : PoE) (rs : List Sv) (Kp : Ms → Prop) (M1 : Ms) : Prop :=
  rs.length ≤ 1000 ∧ ∃ Inv : Nat → List Sv → Ms → Prop, Inv 0 [] M1 ∧ (∀ i acc M, i ≤ rs.length → Inv i acc M → Kp M ∧ acc.length ≤ i) ∧
    (∀ D i r acc M, rs[i]? = some r → Inv i acc M → wpG S' 9 tg r ds' fun ds' =>
      wpIfs (fun e M Q => U.T S' e ds' M Q noE) ifs ((D, .lst acc) :: M) fun b M2 => ∃ M3, M2 = (D, .lst acc) :: M3 ∧
        brP b (U.E S' elt ds' ((D, .lst acc) :: M3) (fun v M4 => ∃ M5, M4 = (D, .lst acc) :: M5 ∧ Inv (i + 1) (acc ++ [v]) M5) noE) (Inv (i + 1) acc M3)) ∧
    (∀ acc M, Inv rs.length acc M → lstW acc M Q)
/-- what is asked of a dict comprehension -/
def dcP (U : Wps) (S' : Sc) (tg kx vx : Expr) (ifs : List Expr) (ds' : List Sv) (Q : PoE) (rs : List Sv) (Kp : Ms → Prop) (M1 : Ms) : Prop :=
  rs.length ≤ 1000 ∧ ∃ Inv : Nat → List (L2.Key × Sv) → Ms → Prop, Inv 0 [] M1 ∧ (∀ i acc M, i ≤ rs.length → Inv i acc M → Kp M ∧ acc.length ≤ i) ∧
    (∀ D i r acc M, rs[i]? = some r → Inv i acc M → wpG S' 9 tg r ds' fun ds' =>
      wpIfs (fun e M Q => U.T S' e ds' M Q noE) ifs ((D, .dk acc) :: M) fun b M2 => ∃ M3, M2 = (D, .dk acc) :: M3 ∧
        brP b (U.E S' kx ds' ((D, .dk acc) :: M3) (fun kv M4 => ∃ M5 k, M4 = (D, .dk acc) :: M5 ∧ (match kv with | .dat d => keyD d = some k | _ => False) ∧
          U.E S' vx ds' ((D, .dk acc) :: M5) (fun v M6 => ∃ M7, M6 = (D, .dk acc) :: M7 ∧ Inv (i + 1) (kvPut acc k v) M7) noE) noE) (Inv (i + 1) acc M3)) ∧
    (∀ acc M l, Inv rs.length acc M → Q (.ptr .dk l) ((l, .dk acc) :: M))
/-- a dict's pairs, where all that it holds is data -/
def itemsD : List (L2.Key × Sv) → Option (List D)
  | [] => some []
  | p :: es => match p.2, itemsD es with
    | .dat d, some xs => some (.tuple [keyS p.1, d] :: xs)
    | _, _ => none
def itmW (v : Sv) (M : Ms) (Q : PoI) : Prop := match v with
  | .ptr .dk l => ∃ A od kvs es C xs, M = A ++ (l, .fk od kvs es) :: C ∧ itemsD es = some xs ∧ Q (dats xs) (fun M' => ∃ A C, M' = A ++ (l, .fk od kvs es) :: C) M
  | _ => False
/-- what else stands in an expression -/
def extE (g : Gi) (W : Wps) (S : Sc) (e : Expr) (ds : List Sv) (M : Ms) (Q : PoE) (Er' : Er) : Prop := match e with
  | .Attribute o f _ => match plainBase o with
    | true => W.E S o ds M (fun v M1 => fldW g f v M1 Q) Er'
    | false => False
  | .Dict [] [] _ => ∀ l, Q (.ptr .dk l) ((l, .dk []) :: M)
  | .DictComp kx vx [⟨tg, it, ifs, 0⟩] scope _ => match notSet it && blkC S.N S.sc scope (ownS S scope) && subB (tgSl (inS S scope) 9 tg) ((ownS S scope).map (·.2)) with
    | false => False
    | true => W.I S tg it ds M (dcP W (inS S scope) tg kx vx ifs (wipeD ds ((ownS S scope).map (·.2))) Q) Er' ∨
        lkW M fun M1 un => W.I S tg it ds M1 (dcP W (inS S scope) tg kx vx ifs (wipeD ds ((ownS S scope).map (·.2))) fun r M2 => un M2 (Q r)) Er'
  | .Call (.Attribute o m ap) [e, f] [] cp => match ap.endLine == cp.line with
    | true => meth2W g W S o m e f ds M Q Er'
    | false => False
  | .Call (.Attribute o m ap) (e :: f :: h :: es) [] cp => match ap.endLine == cp.line with
    | true => methW g W S o m (e :: f :: h :: es) ds M Q Er'
    | false => False
  | _ => False
def seqW (v : Sv) (Q : List D → Prop) : Prop := match v with
  | .dat (.list xs) => Q xs
  | .dat (.tuple xs) => Q xs
  | _ => False
def rngS (i : Int) (n : Nat) : List Sv := (List.range n).map fun k => I (i + (k : Nat))
def enuS (xs : List D) : List Sv := (List.range xs.length).map fun k => .dat (.tuple [.int (k : Nat), xs.getD k .none])
def zipD (xs ys : List D) : List D := (List.range (min xs.length ys.length)).map fun k => .tuple [xs.getD k .none, ys.getD k .none]
def tup2W (v u : Sv) (Q : List D → List D → Prop) : Prop := match v, u with
  | .dat (.tuple xs), .dat (.tuple ys) => Q xs ys
  | _, _ => False
/-- .. or of a tuple and a list -/
def zip2W (v u : Sv) (Q : List D → List D → Prop) : Prop := match v, u with
  | .dat (.tuple xs), .dat (.tuple ys) => Q xs ys
  | .dat (.tuple xs), .dat (.list ys) => Q xs ys
  | _, _ => False
/-- the least of a dict's values -/
def dvals (g : Gi) (x : Str) (es : List Expr) : Option Expr := match g.wk with
  | false => none
  | true => match x == ("min" : Str) && g.bi x with
    | false => none
    | true => match es with
      | [.Call (.Attribute o m ap) [] [] mp] => match m == ("values" : Str) && plainBase o && (ap.endLine == mp.line) with
        | true => some o
        | false => none
      | _ => none
def minvW (v : Sv) (M : Ms) (Q : PoE) : Prop := match v with
  | .ptr .dk l => ∃ (es : List (L2.Key × Sv)) (ns : List Int), rdK M l es ∧ es.map (·.2) = ns.map I ∧ ns ≠ [] ∧ ∀ m ∈ ns, (∀ j ∈ ns, m ≤ j) → Q (I m) M
  | _ => False
/-- a kind as a value -/
def kindW (g : Gi) (x : Str) (M : Ms) (Q : PoE) : Prop := match g.wk && (x == ("tuple" : Str)) && g.bi x with
  | true => Q (.raw (.ty "tuple")) M
  | false => False
/-- zip of two, counted -/
def zipA (g : Gi) (S : Sc) : Expr → Option (Expr × Expr)
  | .Call (.Name z _) [b, c] [] _ => match z == ("zip" : Str) && globB S z && g.bi z && notStar b && notStar c with
    | true => some (b, c)
    | false => none
  | _ => none
def rgP (i : Int) : Prop := -(2 ^ 62) ≤ i ∧ i < 2 ^ 62
/-- what is new may be forgotten (where dicts and things of classes are told) -/
def frgW (wk : Bool) (M : Ms) (P : Ms → Prop) : Prop := match wk with
  | false => P M
  | true => ∃ M2 : Ms, M2.Sublist M ∧ P M2
/-- the def that calls what it got, and tells which error came -/
def toldW (g : Gi) (W : Wps) (S : Sc) (x : Str) (es : List Expr) (ds : List Sv) (M : Ms) (Q : PoE) (Er' : Er) : Prop := match es with
  | [.Lambda params body scope _] => match globB S x && S.lam && lamSB S.sc scope with
    | false => False
    | true => Lsts M ∧ (∀ env, defaultsOf params env = ([], [])) ∧ (∀ (q : Str) (cl : List (Str × Addr)) (pm cv ctv : Value), bindArgs (PySem.W.kla_fn "<lambda>" q params body scope cl pm cv ctv) ⟨[], []⟩ = pure []) ∧
        W.E (lamI S scope) body ds M Q (fun c M1 => ∃ t, (c, t) ∈ g.es ∧ frgW g.wk M1 (Q (.dat (.str t))))
  | [.Subscript a b p] => match globB S x with
    | false => False
    | true => match S.kp with
      | .bl cs _ φ ds0 sc0 => W.E S (.Subscript a b p) ds M (fun v M1 => ∃ L : Lf, v = sLam L ∧ L.qual = g.lq ∧ lamSB sc0 L.scope = true ∧ L.cl = cloFrom cs L.scope.names [] ∧ (∃ j : Nat, ds[j]? = some (.kn φ)) ∧
          (∀ pm cv ctv : Value, bindArgs (PySem.W.kla_fn "<lambda>" L.qual L.params L.body L.scope L.cl pm cv ctv) ⟨[], []⟩ = pure []) ∧
          W.E (lamI S L.scope) L.body ds0 M1 Q (fun c M2 => ∃ t, (c, t) ∈ g.es ∧ frgW g.wk M2 (Q (.dat (.str t))))) Er'
      | _ => W.E S (.Subscript a b p) ds M (fun v M1 => ∃ L : Lf, v = sLam L ∧ L.qual = g.lq ∧ lamSB S.sc L.scope = true ∧ (∀ cells, cloFrom cells L.scope.names [] = L.cl) ∧
          (∀ pm cv ctv : Value, bindArgs (PySem.W.kla_fn "<lambda>" L.qual L.params L.body L.scope L.cl pm cv ctv) ⟨[], []⟩ = pure []) ∧
          W.E (lamI S L.scope) L.body ds M1 Q (fun c M2 => ∃ t, (c, t) ∈ g.es ∧ frgW g.wk M2 (Q (.dat (.str t))))) Er'
  | _ => False
def stepW (g : Gi) (W : Wps) : Wps where
  E := fun S e ds M Q Er' => match e with
    | .Constant c _ _ => match c with
      | .int i => Q (I i) M
      | .bool b => Q (B b) M
      | .str x => Q (.dat (.str x)) M
      | .none => Q (.dat .none) M
      | _ => False
    | .Name x _ => match slotV S x with
      | some i => getD ds i fun r => Q r M
      | none => match globB S x with
        | true => match g.gv x with
          | some r => Q r M
          | none => kindW g x M Q
        | false => False
    | .BinOp a op b _ => W.E S a ds M (fun va M1 => W.E S b ds M1 (fun vb M2 => binW op va vb M2 Q) Er') Er'
    | .UnaryOp .USub a _ => W.E S a ds M (fun v M1 => unW .USub v M1 Q) Er'
    | .UnaryOp .Not a _ => W.E S a ds M (fun v M1 => unW .Not v M1 Q) Er'
    | .Compare a [op] [b] _ => match behindInMarks op b with
      | false => W.E S a ds M (fun va M1 => W.E S b ds M1 (fun vb M2 => cmpW op va vb M2 fun c M3 => Q (B c) M3) Er') Er'
      | true => False
    | .Compare a [op, op'] [b, c] _ => match lastMarks [op, op'] [b, c] with
      | false => W.E S a ds M (fun va M1 => W.E S b ds M1 (fun vb M2 => cmpW op va vb M2 fun k M3 => brP k (W.E S c ds M3 (fun vc M4 => cmpW op' vb vc M4 fun k' M5 => Q (B k') M5) Er') (Q (B false) M3)) Er') Er'
      | true => False
    | .BoolOp .And es _ => wpAndE (fun e M Q => W.E S e ds M Q Er') es M Q
    | .BoolOp .Or es _ => wpOrE (fun e M Q => W.E S e ds M Q Er') es M Q
    | .IfExp c a b _ => W.T S c ds M (fun k M1 => brP k (W.E S a ds M1 Q Er') (W.E S b ds M1 Q Er')) Er'
    | .Tuple [.Lambda params body scope _, .Constant (.str t) _ _] _ _ => match S.lam with
      | true => match S.kp with
        | .df cs => Lsts M ∧ (∀ env, defaultsOf params env = ([], [])) ∧ lamSB S.sc scope = true ∧ Q (pairLS ⟨g.lq, params, body, scope, cloFrom cs scope.names []⟩ t) M
        | _ => Lsts M ∧ (∀ env, defaultsOf params env = ([], [])) ∧ (∀ cells, cloFrom cells scope.names [] = []) ∧ (∀ y ∈ scope.names, y.2 ≠ .free) ∧ Q (pairLS ⟨g.lq, params, body, scope, []⟩ t) M
      | false => False
    | .Tuple es _ _ => match es.all notStar with
      | false => False
      | true => wpL (fun e M Q => W.E S e ds M Q Er') es M fun vs M1 => tupW vs M1 Q
    | .List es _ => match es.all notStar with
      | false => False
      | true => wpL (fun e M Q => W.E S e ds M Q Er') es M fun vs M1 => dspW vs M1 Q
    | .Call (.Name x _) es [] _ => match S.tq && (x == ("_law_told" : Str)) with
      | true => toldW g W S x es ds M Q Er'
      | false => match es.all notStar with
        | false => False
        | true => match globB S x with
          | false => match slotV S x with
            | some i => match es with
              | [] => False
              | _ => getD ds i fun r => ∃ y s, r = .raw (.ref (g.fa y)) ∧ g.sg y es.length = some s ∧ wpL (fun e M Q => W.E S e ds M Q Er') es M fun vs M1 => vs.length + s.dr.length = s.n ∧ s.T (vs ++ s.dr) M1 Q Er'
            | none => False
          | true => match dvals g x es with
            | some o => W.E S o ds M (fun v M1 => minvW v M1 Q) Er'
            | none => match g.sg x es.length with
            | some s => wpL (fun e M Q => W.E S e ds M Q Er') es M fun vs M1 => vs.length + s.dr.length = s.n ∧ s.T (vs ++ s.dr) M1 Q Er'
            | none => match g.mkr x es.length with
              | some cs => wpL (fun e M Q => W.E S e ds M Q Er') es M fun vs M1 => vs.length + 1 + cs.2.dr.length = cs.2.n ∧ ∀ l, cs.2.T (.ptr .ob l :: (vs ++ cs.2.dr)) ((l, .ob cs.1 []) :: M1) (fun r M2 => r = .dat .none ∧ Q (.ptr .ob l) M2) Er'
              | none => match g.bi x with
              | true => match (bltG g.wk).lookup x with
                | some f => match es with
                  | [] => False
                  | _ => wpL (fun e M Q => W.E S e ds M Q Er') es M fun vs M1 => f vs M1 Q
                | none => False
              | false => match g.gc x with
                | true => match es with
                  | [] => False
                  | _ => wpL (fun e M Q => W.E S e ds M Q Er') es M fun vs M1 => gcdA vs M1 Q
                | false => False
    | .Call (.Attribute o m ap) [] [] cp => match plainBase o && (ap.endLine == cp.line) with
      | true => match mtL0.lookup m with
        | some f => W.E S o ds M (fun v M1 => tyL v M1 (f v M1 Q)) Er'
        | none => methW g W S o m [] ds M Q Er'
      | false => False
    | .Call (.Attribute o m ap) [e] [] cp => match notStar e && plainBase o && (ap.endLine == cp.line) with
      | true => match mtL1.lookup m with
        | some f => W.E S o ds M (fun v M1 => tyL v M1 (W.E S e ds M1 (fun u M2 => f v u M2 Q) Er')) Er'
        | none => meth1W g W S o m e ds M Q Er'
      | false => False
    | .Subscript a (.Slice lo hi none _) _ => W.E S a ds M (fun v M1 => wpO (fun e M Q => W.E S e ds M Q Er') lo M1 fun l M2 => wpO (fun e M Q => W.E S e ds M Q Er') hi M2 fun h M3 => slW v l h M3 Q) Er'
    | .Subscript a (.Slice none none (some e) _) _ => match neg1 e with
      | true => W.E S a ds M (fun v M1 => rvW v M1 Q) Er'
      | false => False
    | .Subscript a b _ => match notSlice b with
      | true => W.E S a ds M (fun va M1 => W.E S b ds M1 (fun vb M2 => ixW va vb M2 Q) Er') Er'
      | false => False
    | .ListComp elt [⟨tg, it, ifs, 0⟩] scope _ => match notSet it && blkC S.N S.sc scope (ownS S scope) && subB (tgSl (inS S scope) 9 tg) ((ownS S scope).map (·.2)) with
      | false => False
      | true => match S.kp with
        | .df cs => ∃ j, (getD (wipeD ds ((ownS S scope).map (·.2))) j fun _ => True) ∧ ∀ (tau : L2.St) (φ : Hp → V → Prop), W.I S tg it ds M (fun rs Kp M1 => rs.length ≤ 1000 ∧ ∃ Inv : Nat → List Sv → Ms → Prop, Inv 0 [] M1 ∧ (∀ i acc M, i ≤ rs.length → Inv i acc M → Kp M ∧ acc.length ≤ i) ∧
            (∀ D i r acc M, rs[i]? = some r → Inv i acc M → wpG (inK S scope (.bl cs tau φ ds S.sc)) 9 tg r ((wipeD ds ((ownS S scope).map (·.2))).set j (.kn φ)) fun ds' =>
              wpIfs (fun e M Q => W.T (inK S scope (.bl cs tau φ ds S.sc)) e ds' M Q noE) ifs ((D, .lst acc) :: M) fun b M2 => ∃ M3, M2 = (D, .lst acc) :: M3 ∧
                brP b (W.E (inK S scope (.bl cs tau φ ds S.sc)) elt ds' ((D, .lst acc) :: M3) (fun v M4 => ∃ M5, M4 = (D, .lst acc) :: M5 ∧ Inv (i + 1) (acc ++ [v]) M5) noE) (Inv (i + 1) acc M3)) ∧
            (∀ acc M, Inv rs.length acc M → lstW acc M Q)) Er'
        | _ => match g.wk with
          | false => W.I S tg it ds M (fun rs Kp M1 => rs.length ≤ 1000 ∧ ∃ Inv : Nat → List Sv → Ms → Prop, Inv 0 [] M1 ∧ (∀ i acc M, i ≤ rs.length → Inv i acc M → Kp M ∧ acc.length ≤ i) ∧
            (∀ D i r acc M, rs[i]? = some r → Inv i acc M → wpG (inS S scope) 9 tg r (wipeD ds ((ownS S scope).map (·.2))) fun ds' =>
              wpIfs (fun e M Q => W.T (inS S scope) e ds' M Q noE) ifs ((D, .lst acc) :: M) fun b M2 => ∃ M3, M2 = (D, .lst acc) :: M3 ∧
                brP b (W.E (inS S scope) elt ds' ((D, .lst acc) :: M3) (fun v M4 => ∃ M5, M4 = (D, .lst acc) :: M5 ∧ Inv (i + 1) (acc ++ [v]) M5) noE) (Inv (i + 1) acc M3)) ∧
            (∀ acc M, Inv rs.length acc M → lstW acc M Q)) Er'
          | true => W.I S tg it ds M (lcP W (inS S scope) tg elt ifs (wipeD ds ((ownS S scope).map (·.2))) Q) Er' ∨
              lkW M fun M1 un => W.I S tg it ds M1 (lcP W (inS S scope) tg elt ifs (wipeD ds ((ownS S scope).map (·.2))) fun r M2 => un M2 (Q r)) Er'
    | e => extE g W S e ds M Q Er'
  T := fun S e ds M Q Er' => match e with
    | .UnaryOp .Not a _ => W.T S a ds M (fun b M1 => Q (!b) M1) Er'
    | .BoolOp .And es _ => wpAndT (fun e M Q => W.T S e ds M Q Er') es M Q
    | .BoolOp .Or es _ => wpOrT (fun e M Q => W.T S e ds M Q Er') es M Q
    | .IfExp .. => False
    | .Compare a [op] [b] _ => match behindInMarks op b with
      | false => W.E S a ds M (fun va M1 => W.E S b ds M1 (fun vb M2 => cmpW op va vb M2 Q) Er') Er'
      | true => False
    | .Compare a [op, op'] [b, c] _ => match lastMarks [op, op'] [b, c] with
      | false => W.E S a ds M (fun va M1 => W.E S b ds M1 (fun vb M2 => cmpW op va vb M2 fun k M3 => brP k (W.E S c ds M3 (fun vc M4 => cmpW op' vb vc M4 Q) Er') (Q false M3)) Er') Er'
      | true => False
    | .Compare .. => False
    | e => W.E S e ds M (fun v M1 => boolW v fun b => Q b M1) Er'
  I := fun S tg e ds M Q Er' => match e with
    | .Call (.Name x _) [a] [] _ =>
      if x == ("range" : Str) then (match notStar a && globB S x && g.bi x with
        | true => W.E S a ds M (fun v M1 => intW v fun j => rgP j ∧ Q (rngS 0 j.toNat) (fun _ => True) M1) Er'
        | false => False)
      else if x == ("enumerate" : Str) then (match notStar a && globB S x && g.bi x && isTupE tg with
        | true => match zipA g S a with
          | some (b, c) => W.E S b ds M (fun v M1 => W.E S c ds M1 (fun u M2 => tup2W v u fun xs ys => Q (enuS (zipD xs ys)) (fun _ => True) M2) Er') Er'
          | none => W.E S a ds M (fun v M1 => seqW v fun xs => Q (enuS xs) (fun _ => True) M1) Er'
        | false => False)
      else W.E S e ds M (fun v M1 => itW v M1 Q) Er'
    | .Call (.Name x _) [a, b] [] _ =>
      if x == ("range" : Str) then (match notStar a && notStar b && globB S x && g.bi x with
        | true => W.E S a ds M (fun v M1 => W.E S b ds M1 (fun u M2 => intW v fun i => intW u fun j => rgP i ∧ rgP j ∧ Q (rngS i (j - i).toNat) (fun _ => True) M2) Er') Er'
        | false => False)
      else if x == ("zip" : Str) then (match notStar a && notStar b && globB S x && g.bi x && isTupE tg with
        | true => W.E S a ds M (fun v M1 => W.E S b ds M1 (fun u M2 => zip2W v u fun xs ys => Q (dats (zipD xs ys)) (fun _ => True) M2) Er') Er'
        | false => False)
      else W.E S e ds M (fun v M1 => itW v M1 Q) Er'
    | .Call (.Attribute o m ap) [] [] cp => match m == ("items" : Str) && isTupE tg && plainBase o && (ap.endLine == cp.line) with
      | true => W.E S o ds M (fun v M1 => itmW v M1 Q) Er'
      | false => W.E S (.Call (.Attribute o m ap) [] [] cp) ds M (fun v M1 => itW v M1 Q) Er'
    | e => W.E S e ds M (fun v M1 => itW v M1 Q) Er'
def wps (g : Gi) : Nat → Wps
  | 0 => wps0
  | n + 1 => stepW g (wps g n)
def wq (g : Gi) : Wps := stepW g (wps g 39)
/-! ### statements -/
structure Kt where
  nx : List Sv → Ms → Prop
  rt : Sv → Ms → Prop
  bk : List Sv → Ms → Prop
  ct : List Sv → Ms → Prop
  er : Er
abbrev Nx := List Sv → Ms → Prop
abbrev StF := Stmt → List Sv → Ms → Nx → PoE → Nx → Nx → Er → Prop
def wpSs (f : StF) : List Stmt → List Sv → Ms → Nx → PoE → Nx → Nx → Er → Prop
  | [], ds, M, nx, _, _, _, _ => nx ds M
  | st :: ss, ds, M, nx, rt, bk, ct, er => f st ds M (fun ds1 M1 => wpSs f ss ds1 M1 nx rt bk ct er) rt bk ct er
def isNames (ts : List Expr) : Bool := ts.all fun
  | .Name .. => true
  | _ => false
def isTupV : Expr → Bool
  | .Tuple .. => true
  | _ => false
/-- may two stores be exchanged -/
def swT (S : Sc) (ts vs : List Expr) : Option (Option (List Str)) :=
  if ts.length == 2 && vs.length == 2 && vs.all notStar then
    let line := (ts.head?.map (·.pos.line)).getD 0
    let names := ts.filterMap fun
      | .Name id pos => if S.sc.names.lookup id == some .local && pos.line == line then some id else none
      | _ => none
    if names.length != ts.length || names.eraseDups.length != names.length then some none
    else if vs.all (foldedForSure 8) then some none
    else if vs.all (constantsAlone 8) then none
    else some (some names)
  else if ts.length == 3 && vs.length == 3 && vs.all notStar then
    let line := (ts.head?.map (·.pos.line)).getD 0
    let names := ts.filterMap fun
      | .Name id pos => if S.sc.names.lookup id == some .local && pos.line == line then some id else none
      | _ => none
    if names.length != ts.length then some none else none
  else if !(ts.length == 2 || ts.length == 3) || vs.length != ts.length then some none
  else none
/-- a dict's place is written -/
def dputW (va vb r : Sv) (M : Ms) (P : Ms → Prop) : Prop := match va with
  | .ptr .dk l => match vb with
    | .dat d => ∃ k A es C, keyD d = some k ∧ M = A ++ (l, .dk es) :: C ∧ es.length ≤ 1000 ∧ P (A ++ (l, .dk (kvPut es k r)) :: C)
    | _ => False
  | _ => False
def setW (va vb r : Sv) (ds : List Sv) (M : Ms) (nx : List Sv → Ms → Prop) : Prop := match va with
  | .raw (.ref l) => intW vb fun i => atM M l fun A rs C => ∃ j, ixN rs.length i = some j ∧ nx ds (A ++ (l, .lst (rs.set j r)) :: C)
  | .ptr p l => dputW (.ptr p l) vb r M (nx ds)
  | _ => False
def augW (r : Sv) (P : Int → Prop) : Prop := match r with
  | .dat (.int b) => P b
  | _ => False
/-- in a def whose kept lambdas capture, no comprehension is given a name -/
def asgB (k : Kp) (e : Expr) : Bool := match k with
  | .df _ => notCmpr e
  | _ => true
/-- names set, one after the other -/
def setNs (S : Sc) : List Expr → List Sv → List Sv → (List Sv → Prop) → Prop
  | [], [], ds, Q => Q ds
  | .Name x _ :: ts, r :: rs, ds, Q => match slotL S x with
    | some i => setK ds i r fun ds1 => setNs S ts rs ds1 Q
    | none => False
  | _, _, _, _ => False
def forW (g : Gi) (S : Sc) (f : StF) (tg it : Expr) (body : List Stmt) (ds : List Sv) (M : Ms) (nx : Nx) (rt : PoE) (er : Er) : Prop :=
  (wq g).I S tg it ds M (fun rs Kp M1 => ∃ Inv : Nat → List Sv → Ms → Prop, Inv 0 ds M1 ∧ (∀ i ds M, i ≤ rs.length → Inv i ds M → Kp M) ∧
          (∀ i r ds M, rs[i]? = some r → Inv i ds M → wpG S 9 tg r ds fun ds' => wpSs f body ds' M (Inv (i + 1)) rt nx (Inv (i + 1)) er) ∧ (∀ ds M, Inv rs.length ds M → nx ds M)) er
/-- what else stands as a statement -/
def extS (g : Gi) (S : Sc) (st : Stmt) (ds : List Sv) (M : Ms) (nx : Nx) (er : Er) : Prop := match st with
  | .Assign [.Attribute o fl _] e _ => match notCmpr e with
    | true => (wq g).E S e ds M (fun r M1 => (wq g).E S o ds M1 (fun v M2 => obW v M2 fun A l c fs C => g.fl c fl = true ∧ fs.length ≤ 900 ∧ nx ds (A ++ (l, .ob c (fPut fl r fs)) :: C)) er) er
    | false => False
  | .AugAssign (.Attribute o fl _) .Add e _ => (wq g).E S o ds M (fun v M1 => obW v M1 fun _ l c fs _ => g.fl c fl = true ∧ ∃ i, fs.lookup fl = some (I i) ∧
      (wq g).E S e ds M1 (fun r M2 => augW r fun j => ∃ A2 fs2 C2, M2 = A2 ++ (l, .ob c fs2) :: C2 ∧ fs2.length ≤ 900 ∧ nx ds (A2 ++ (l, .ob c (fPut fl (I (i + j)) fs2)) :: C2)) er) er
  | .AugAssign (.Subscript a b _) .Add e _ => match notSlice b with
    | true => (wq g).E S a ds M (fun va M1 => (wq g).E S b ds M1 (fun vb M2 => dgetW va vb M2 fun o => ∃ i, o = some (I i) ∧ (wq g).E S e ds M2 (fun r M3 => augW r fun j => dputW va vb (I (i + j)) M3 (nx ds)) er) er) er
    | false => False
  | _ => False
def stepS (g : Gi) (S : Sc) (f : StF) (st : Stmt) (ds : List Sv) (M : Ms) (nx : Nx) (rt : PoE) (bk ct : Nx) (er : Er) : Prop := match st with
    | .Pass _ => nx ds M
    | .Break _ => bk ds M
    | .Continue _ => ct ds M
    | .Return (some e) _ => (wq g).E S e ds M rt er
    | .Return none _ => rt (.dat .none) M
    | .Expr e _ => match notCmpr e with
      | true => (wq g).E S e ds M (fun _ M1 => nx ds M1) er
      | false => False
    | .If c a b _ => (wq g).T S c ds M (fun t M1 => brP t (wpSs f a ds M1 nx rt bk ct er) (wpSs f b ds M1 nx rt bk ct er)) er
    | .Assign [.Name x _] e _ => match slotL S x with
      | some i => match asgB S.kp e with
        | true => (wq g).E S e ds M (fun r M1 => setK ds i r fun ds1 => nx ds1 M1) er
        | false => False
      | none => False
    | .Assign [.Tuple ts k2 p2] e _ => match notCmpr e with
      | false => False
      | true => match isTupV e with
        | false => (wq g).E S e ds M (fun r M1 => wpG S 9 (.Tuple ts k2 p2) r ds fun ds1 => nx ds1 M1) er
        | true => match e with
          | .Tuple vs _ _ => match swT S ts vs with
            | some none => match g.wk with
              | false => (∀ env : Env, swappedStores [.Tuple ts k2 p2] e { env with scope := S.sc } = pure none) ∧ (wq g).E S e ds M (fun r M1 => wpG S 9 (.Tuple ts k2 p2) r ds fun ds1 => nx ds1 M1) er
              | true => (∀ env : Env, swappedStores [.Tuple ts k2 p2] e { env with scope := S.sc } = pure none) ∧ vs.all notStar = true ∧ ts.all notStar = true ∧ wpL (fun e M Q => (wq g).E S e ds M Q er) vs M fun rs M1 => Nat.ble rs.length 1000 = true ∧ setNs S ts rs ds fun ds1 => nx ds1 M1
            | some (some _) => match ts, vs with
              | [.Name x _, .Name y _], [a, b] => match slotL S x, slotL S y with
                | some i, some j => match !(decide (i = j)) && notStar a && notStar b && (S.sc.names.lookup x == some .local) && (S.sc.names.lookup y == some .local) with
                  | true => (∀ env : Env, swappedStores [.Tuple ts k2 p2] e { env with scope := S.sc } = pure (some [x, y])) ∧
                    (wq g).E S a ds M (fun va M1 => (wq g).E S b ds M1 (fun vb M2 => setK ds i va fun ds1 => setK ds1 j vb fun ds2 => nx ds2 M2) er) er
                  | false => False
                | _, _ => False
              | _, _ => False
            | _ => False
          | _ => False
    | .Assign [.Subscript a b p] e _ => match notCmpr e && notSlice b with
      | true => (wq g).E S e ds M (fun r M1 => (wq g).E S a ds M1 (fun va M2 => (wq g).E S b ds M2 (fun vb M3 => setW va vb r ds M3 nx) er) er) er
      | false => False
    | .AugAssign (.Name x _) .Add e _ => match slotL S x with
      | some i => getD ds i fun r0 => match r0 with
        | .dat (.int a) => (wq g).E S e ds M (fun r M1 => augW r fun b => setK ds i (I (a + b)) fun ds1 => nx ds1 M1) er
        | _ => False
      | none => False
    | .For tg it body [] _ => match notSet it with
      | true => match g.wk with
        | false => (wq g).I S tg it ds M (fun rs Kp M1 => ∃ Inv : Nat → List Sv → Ms → Prop, Inv 0 ds M1 ∧ (∀ i ds M, i ≤ rs.length → Inv i ds M → Kp M) ∧
            (∀ i r ds M, rs[i]? = some r → Inv i ds M → wpG S 9 tg r ds fun ds' => wpSs f body ds' M (Inv (i + 1)) rt nx (Inv (i + 1)) er) ∧ (∀ ds M, Inv rs.length ds M → nx ds M)) er
        | true => forW g S f tg it body ds M nx rt er ∨ lkW M fun M1 un => forW g S f tg it body ds M1 (fun ds2 M2 => un M2 (nx ds2)) (fun r M2 => un M2 (rt r)) er
      | false => False
    | .While c body [] _ => ∃ Inv : Nat → List Sv → Ms → Prop, (∃ m, Inv m ds M) ∧ ∀ m ds M, Inv m ds M → (wq g).T S c ds M (fun t M1 => brP t (wpSs f body ds M1 (fun ds M => ∃ m', m' < m ∧ Inv m' ds M) rt nx (fun ds M => ∃ m', m' < m ∧ Inv m' ds M) er) (nx ds M1)) er
    | .Raise (some (.Call (.Name x _) [.Constant (.str _) _ _] [] _)) none _ => match globB S x with
      | true => match g.ex x with
        | some c => er c M
        | none => False
      | false => False
    | st => extS g S st ds M nx er
def wpS (g : Gi) (S : Sc) : Nat → StF
  | 0 => fun _ _ _ _ _ _ _ _ => False
  | n + 1 => stepS g S (wpS g S n)
def wpB (g : Gi) (S : Sc) (ss : List Stmt) (ds : List Sv) (M : Ms) (Q : PoE) (E : Er) : Prop := wpSs (wpS g S 40) ss ds M (fun _ M1 => Q (.dat .none) M1) Q (fun _ _ => False) (fun _ _ => False) E
end Cal
/-! WpD -/
namespace Cal
open PySem PySem.Spec PyProof.Rows L2 LamX
/-! ### the operations are as read -/
section
variable {X : Cx} {T : Tb}
/-- a value is so, in a state -/
structure Va (K : PySem.W.Frag) (T : Tb) (M : Ms) (G H : Hp) : Prop where
  w : Wt K T M G H
theorem okE.self {K : PySem.W.Frag} {M : Ms} {G H : Hp} {Q : PoE} {q : VK} {r : Sv} {v : V} (ok : okE K T G Q q) (w : Wt K T M G H) (hq : Q r M) (hv : Vk K G v r) : q v H := ok r M v G H hq (Same.refl _) w hv
theorem okE.newT {K : PySem.W.Frag} {M : Ms} {G H : Hp} {Q : PoE} {q : VK} {xs : List D} {vs : List V} (ok : okE K T G Q q) (w : Wt K T M G H) (hq : Q (.dat (.tuple xs)) M) (hv : DpAll K G vs xs) {p : Addr} (hp : H p = none) : q (.ref p) (upd H p (.tup vs)) := by
  obtain ⟨g, w2⟩ := w.new hp (.tup vs)
  exact ok _ M _ _ _ hq g w2 (Dp.tup (SqT.of upd_same) (dpsUp g xs hv))
theorem okE.newL {K : PySem.W.Frag} {M : Ms} {G H : Hp} {Q : PoE} {q : VK} {xs : List D} {vs : List V} (ok : okE K T G Q q) (w : Wt K T M G H) (hq : Q (.dat (.list xs)) M) (hv : DpAll K G vs xs) {p : Addr} (hp : H p = none) : q (.ref p) (upd H p (.lst vs)) := by
  obtain ⟨g, w2⟩ := w.new hp (.lst vs)
  exact ok _ M _ _ _ hq g w2 (Dp.lst (SqL.of upd_same) (dpsUp g xs hv))
theorem okE.newM {K : PySem.W.Frag} {M : Ms} {G H : Hp} {Q : PoE} {q : VK} {rs : List Sv} {vs : List V} (ok : okE K T G Q q) (w : Wt K T M G H) (hq : ∀ l, Q (.raw (.ref l)) ((l, .lst rs) :: M)) (hv : Vks K G vs rs) {p : Addr} (hp : H p = none) : q (.ref p) (upd H p (.lst vs)) :=
  ok _ _ _ G _ (hq p) (Same.refl _) (w.mnew hp (m := .lst rs) hv) rfl
theorem lstW_ok {K : PySem.W.Frag} {M : Ms} {G H : Hp} {Q : PoE} {q : VK} {rs : List Sv} {vs : List V} (h : lstW rs M Q) (ok : okE K T G Q q) (w : Wt K T M G H) (hv : Vks K G vs rs) {p : Addr} (hp : H p = none) : q (.ref p) (upd H p (.lst vs)) := by
  obtain ⟨_, h⟩ := h
  rcases h with ⟨xs, e, h⟩ | h
  · subst e
    exact ok.newL w h (vks_dats hv) hp
  · exact ok.newM w h hv hp
theorem atM_lst {K : PySem.W.Frag} {M : Ms} {G H : Hp} {l : Addr} {P : Ms → List Sv → Ms → Prop} (h : atM M l P) (w : Wt K T M G H) : ∃ A rs C vs, M = A ++ (l, .lst rs) :: C ∧ P A rs C ∧ H l = some (.lst vs) ∧ Vks K G vs rs ∧ G l = none := by
  obtain ⟨A, rs, C, rfl, h⟩ := h
  obtain ⟨vs, h1, h2, h3⟩ := w.lst
  exact ⟨A, rs, C, vs, rfl, h, h1, h2, h3⟩
/-- read as data, in the heap as it stands -/
theorem rdW_ok {K : PySem.W.Frag} {M : Ms} {G H : Hp} {v : V} {r : Sv} {P : D → Prop} (h : rdW r M P) (w : Wt K T M G H) (hv : Vk K G v r) : ∃ d, Dp K H v d ∧ P d := by
  unfold rdW at h
  split at h
  · exact ⟨_, dpUp w.w.ex _ hv, h⟩
  · obtain ⟨A, rs, C, vs, e, ⟨xs, e2, h⟩, h1, h2, h3⟩ := atM_lst h w
    subst e2
    have hv' : v = .ref _ := hv
    subst hv'
    exact ⟨_, Dp.lst (SqL.of h1) (dpsUp w.w.ex xs (vks_dats h2)), h⟩
  · exact h.elim
def rBin (K : PySem.W.Frag) (T : Tb) (op : Operator) : R2 := fun x y H q => ∃ va vb M G Q, binW op va vb M Q ∧ Wt K T M G H ∧ Vk K G x va ∧ Vk K G y vb ∧ okE K T G Q q
theorem op_bin {op : Operator} : OpR X (binaryOp op) (rBin X.K T op) := by
  intro pins s σ H x y v u q I rx ry h
  obtain ⟨va, vb, M, G, Q, hb, w, hx, hy, ok⟩ := h
  unfold binW at hb
  split at hb
  · cases vk_int hx; cases vk_int hy
    exact op_add pins s σ H _ _ v u q I rx ry ⟨_, _, rfl, rfl, ok.self w hb (.int _)⟩
  · cases vk_str hx; cases vk_str hy
    exact op_add_str pins s σ H _ _ v u q I rx ry ⟨_, _, rfl, rfl, Nat.le_of_lt (small1000 hb.1), ok.self w hb.2 (.str _)⟩
  · obtain ⟨p, vs, rfl, h1, h2⟩ := vk_lst hx
    obtain ⟨p', vs', rfl, h3, h4⟩ := vk_lst hy
    exact op_catD pins s σ H _ _ v u q I rx ry ⟨p, p', vs, vs', rfl, rfl, w.w.ex.seq h1, w.w.ex.seq h3, by rw [dps_len h2, dps_len h4]; exact Nat.le_of_lt (small1000 hb.1), fun p hp => ok.newL w hb.2 (dps_app h2 h4) hp⟩
  · obtain ⟨p, vs, rfl, h1, h2⟩ := vk_tup hx
    obtain ⟨p', vs', rfl, h3, h4⟩ := vk_tup hy
    refine op_catA pins s σ H _ _ v u q I rx ry ⟨p, p', vs, vs', rfl, rfl, seqT w.w.ex h1, seqT w.w.ex h3, by rw [dps_len h2, dps_len h4]; exact Nat.le_of_lt (small1000 hb.1), fun e => ?_, fun _ e => ?_, fun _ _ p hp => ok.newT w hb.2 (dps_app h2 h4) hp⟩
    · subst e
      cases h2
      exact ok.self (r := .dat (.tuple _)) w (by simpa using hb.2) (Dp.tup h3 h4)
    · subst e
      cases h4
      exact ok.self (r := .dat (.tuple _)) w (by simpa using hb.2) (Dp.tup h1 h2)
  · obtain ⟨p', vs', rfl, h3, h4⟩ := vk_lst hy
    obtain ⟨A, rs, C, vs, e, ⟨xs, e2, hz, h⟩, h1, h2, _⟩ := atM_lst hb w
    subst e2
    have hx' : x = .ref _ := hx
    subst hx'
    have h5 := vks_dats h2
    exact op_catD pins s σ H _ _ v u q I rx ry ⟨_, p', vs, vs', rfl, rfl, SqL.of h1, w.w.ex.seq h3, by rw [dps_len h5, dps_len h4]; exact Nat.le_of_lt (small1000 hz), fun p hp => ok.newL w h (dps_app h5 h4) hp⟩
  · cases vk_int hx; cases vk_int hy
    exact op_sub pins s σ H _ _ v u q I rx ry ⟨_, _, rfl, rfl, ok.self w hb (.int _)⟩
  · rw [vk_bl hx] at rx
    rw [vk_bl hy] at ry
    exact op_subBB pins s σ H _ _ v u q I rx ry ⟨_, _, rfl, rfl, ok.self w hb (.int _)⟩
  · cases vk_int hx; cases vk_int hy
    rcases hb.1 with hc | hc
    · exact op_mul pins s σ H _ _ v u q I rx ry ⟨_, _, rfl, rfl, hc, ok.self w hb.2 (.int _)⟩
    · exact op_mulW pins s σ H _ _ v u q I rx ry ⟨_, _, rfl, rfl, hc, ok.self w hb.2 (.int _)⟩
  · cases vk_int hx; cases vk_int hy
    have ho : OpR X (binaryOp .FloorDiv) (rI (fun _ j => fdivP j) fun i j => .int (i.fdiv j)) := opI fun _ _ _ _ _ _ _ hc q => floordiv_int hc.1 q (.inl (PyProof.noPylong_of_log2 hc.2))
    exact ho pins s σ H _ _ v u q I rx ry ⟨_, _, rfl, rfl, hb.1, ok.self w hb.2 (.int _)⟩
  · cases vk_int hx; cases vk_int hy
    exact op_mod pins s σ H _ _ v u q I rx ry ⟨_, _, rfl, rfl, hb.1, ok.self w hb.2 (.int _)⟩
  · cases vk_int hx; cases vk_int hy
    exact op_pow pins s σ H _ _ v u q I rx ry ⟨_, _, rfl, rfl, hb.1, ok.self w hb.2 (.int _)⟩
  · cases vk_int hx; cases vk_int hy
    exact op_shl pins s σ H _ _ v u q I rx ry ⟨_, _, rfl, rfl, hb.1, ok.self w hb.2 (.int _)⟩
  · cases vk_int hx; cases vk_int hy
    exact op_shr pins s σ H _ _ v u q I rx ry ⟨_, _, rfl, rfl, hb.1, ok.self w hb.2 (.int _)⟩
  · cases vk_int hx; cases vk_int hy
    exact op_and pins s σ H _ _ v u q I rx ry ⟨_, _, rfl, rfl, ok.self w hb (.int _)⟩
  · exact hb.elim
def rUn (K : PySem.W.Frag) (T : Tb) (op : UnaryOp) : V → Hp → VK → Prop := fun x H q => ∃ va M G Q, unW op va M Q ∧ Wt K T M G H ∧ Vk K G x va ∧ okE K T G Q q
/-- comparisons: a bool comes -/
def okB (K : PySem.W.Frag) (T : Tb) (G : Hp) (Q : PoT) (q : VK) : Prop := ∀ b M' G' H', Q b M' → Same G G' → Wt K T M' G' H' → q (.bl b) H'
def rCmp (K : PySem.W.Frag) (T : Tb) (op : CmpOp) : R2 := fun x y H q => ∃ va vb M G Q, cmpW op va vb M Q ∧ Wt K T M G H ∧ Vk K G x va ∧ Vk K G y vb ∧ okB K T G Q q
theorem okB.self {K : PySem.W.Frag} {M : Ms} {G H : Hp} {Q : PoT} {q : VK} {b : Bool} (ok : okB K T G Q q) (w : Wt K T M G H) (hq : Q b M) : q (.bl b) H := ok b M G H hq (Same.refl _) w
theorem op_inA (hu : X.A.units + 65 < cLine) {neg : Bool} : OpR X (compareOp (match neg with | false => .In | true => .NotIn)) (fun x y H Q => ∃ d e, Dp X.K H x d ∧ Dp X.K H y e ∧ SeqAt.shaped d = true ∧ SeqAt.shaped e = true ∧ ∃ xs, (e = .list xs ∨ e = .tuple xs) ∧ Q (.bl (inB neg d xs)) H) := by
  intro pins s σ H x y v u Q I rx ry h
  obtain ⟨d, e, hd, he, sd, se, xs, hxs, q⟩ := h
  obtain ⟨as, r1⟩ := Dp.reads I d x v hd rx
  obtain ⟨bs, r2⟩ := Dp.reads I e y u he ry
  rcases hxs with e1 | e1
  · subst e1
    cases neg with
    | false => exact SeqAt.in_list_reads r2 r1 (SeqAt.canLay_of_shaped se) (SeqAt.canLay_of_shaped sd) (room_in_shaped sd hu) ⟨.bl _, H, I, rfl, q⟩
    | true => exact SeqAt.notIn_list_reads r2 r1 (SeqAt.canLay_of_shaped se) (SeqAt.canLay_of_shaped sd) (room_in_shaped sd hu) ⟨.bl _, H, I, rfl, q⟩
  · subst e1
    cases neg with
    | false => exact SeqAt.in_tuple_reads r2 r1 (SeqAt.canLay_of_shaped se) (SeqAt.canLay_of_shaped sd) (room_in_shaped sd hu) ⟨.bl _, H, I, rfl, q⟩
    | true => exact SeqAt.notIn_tuple_reads r2 r1 (SeqAt.canLay_of_shaped se) (SeqAt.canLay_of_shaped sd) (room_in_shaped sd hu) ⟨.bl _, H, I, rfl, q⟩
theorem inW_ok {K : PySem.W.Frag} {neg : Bool} {va vb : Sv} {M : Ms} {Q : PoT} {G H : Hp} {x y : V} {q : VK} (h : inW neg va vb M Q) (w : Wt K T M G H) (hx : Vk K G x va) (hy : Vk K G y vb) (ok : okB K T G Q q) :
    ∃ d e, Dp K H x d ∧ Dp K H y e ∧ SeqAt.shaped d = true ∧ SeqAt.shaped e = true ∧ ∃ xs, (e = .list xs ∨ e = .tuple xs) ∧ q (.bl (inB neg d xs)) H := by
  obtain ⟨d, hd, h⟩ := rdW_ok h w hx
  obtain ⟨e, he, h⟩ := rdW_ok h w hy
  refine ⟨d, e, hd, he, ?_⟩
  split at h
  · exact ⟨h.1, h.2.1, _, .inl rfl, ok.self w h.2.2⟩
  · exact ⟨h.1, h.2.1, _, .inr rfl, ok.self w h.2.2⟩
  · exact h.elim
theorem dgetW_ok {K : PySem.W.Frag} {va vb : Sv} {M : Ms} {P : Option Sv → Prop} {G H : Hp} {x y : V} (h : dgetW va vb M P) (w : Wt K T M G H) (hx : Vk K G x va) (hy : Vk K G y vb) :
    ∃ a o ro, x = .ref a ∧ DGet H a y o ∧ P ro ∧ ((∃ v r, o = some v ∧ ro = some r ∧ Vk K G v r) ∨ (o = none ∧ ro = none)) := by
  unfold dgetW at h
  split at h
  · split at h
    · obtain ⟨k, es, hk, hr, hp⟩ := h
      obtain ⟨kvs, h1, h2⟩ := rdK_ok hr w
      have ey := keyD_ok hk hy
      subst ey
      have hx' : x = .ref _ := hx
      exact ⟨_, valV kvs k, _, hx', .inl ⟨kvs, k, h1, rfl, rfl⟩, hp, h2.get⟩
    · exact h.elim
  · exact h.elim
theorem deqW_ok {K : PySem.W.Frag} {neg : Bool} {va vb : Sv} {M : Ms} {Q : PoT} {G H : Hp} {x y : V} (h : deqW neg va vb M Q) (w : Wt K T M G H) (hx : Vk K G x va) (hy : Vk K G y vb) :
    ∃ a b kvs kvs' es es', x = .ref a ∧ y = .ref b ∧ Rd H a (.dK kvs) ∧ Rd H b (.dK kvs') ∧ Kvs K G kvs es ∧ Kvs K G kvs' es' ∧ DatE es ∧ DatE es' ∧ Q (dEqB neg es es') M := by
  unfold deqW at h
  split at h
  · obtain ⟨es, es', h1, h2, d1, d2, q⟩ := h
    obtain ⟨kvs, r1, k1⟩ := rdK_ok h1 w
    obtain ⟨kvs', r2, k2⟩ := rdK_ok h2 w
    exact ⟨_, _, kvs, kvs', es, es', hx, hy, r1, r2, k1, k2, d1, d2, q⟩
  · exact h.elim
theorem op_cmp (hu : X.A.units + 65 < cLine) {op : CmpOp} : OpR X (compareOp op) (rCmp X.K T op) := by
  intro pins s σ H x y v u q I rx ry h
  obtain ⟨va, vb, M, G, Q, hb, w, hx, hy, ok⟩ := h
  unfold cmpW at hb
  split at hb
  · cases vk_int hx; cases vk_int hy
    exact op_lt pins s σ H _ _ v u q I rx ry ⟨_, _, rfl, rfl, ok.self w hb⟩
  · cases vk_int hx; cases vk_int hy
    exact op_le pins s σ H _ _ v u q I rx ry ⟨_, _, rfl, rfl, ok.self w hb⟩
  · cases vk_int hx; cases vk_int hy
    exact op_gt pins s σ H _ _ v u q I rx ry ⟨_, _, rfl, rfl, ok.self w hb⟩
  · cases vk_int hx; cases vk_int hy
    exact op_ge pins s σ H _ _ v u q I rx ry ⟨_, _, rfl, rfl, ok.self w hb⟩
  · obtain ⟨a, b, kvs, kvs', es, es', rfl, rfl, r1, r2, k1, k2, d1, d2, hq⟩ := deqW_ok hb w hx hy
    cases rx
    cases ry
    exact deq_ok I w.w.ex hu r1 r2 k1 k2 d1 d2 (ok.self w hq)
  · obtain ⟨a, b, kvs, kvs', es, es', rfl, rfl, r1, r2, k1, k2, d1, d2, hq⟩ := deqW_ok hb w hx hy
    cases rx
    cases ry
    exact dne_ok I w.w.ex hu r1 r2 k1 k2 d1 d2 (ok.self w hq)
  · obtain ⟨d, hd, h⟩ := rdW_ok hb w hx
    obtain ⟨e, he, h⟩ := rdW_ok h w hy
    exact op_eqD (by omega) pins s σ H _ _ v u q I rx ry ⟨d, e, hd, he, h.1, h.2.1, ok.self w h.2.2⟩
  · obtain ⟨d, hd, h⟩ := rdW_ok hb w hx
    obtain ⟨e, he, h⟩ := rdW_ok h w hy
    exact op_neD (by omega) pins s σ H _ _ v u q I rx ry ⟨d, e, hd, he, h.1, h.2.1, ok.self w h.2.2⟩
  · obtain ⟨a, o, ro, rfl, g, hq, e⟩ := dgetW_ok hb w hy hx
    cases ry
    refine d_in (by omega) I g rx fun s' I' => ⟨.bl _, H, I', rfl, ok.self w ?_⟩
    rcases e with ⟨_, _, e1, e2, _⟩ | ⟨e1, e2⟩ <;> rw [e1] <;> rw [e2] at hq <;> exact hq
  · obtain ⟨a, o, ro, rfl, g, hq, e⟩ := dgetW_ok hb w hy hx
    cases ry
    refine d_notIn (by omega) I g rx fun s' I' => ⟨.bl _, H, I', rfl, ok.self w ?_⟩
    rcases e with ⟨_, _, e1, e2, _⟩ | ⟨e1, e2⟩ <;> rw [e1] <;> rw [e2] at hq <;> exact hq
  · exact op_inA (neg := false) hu pins s σ H _ _ v u q I rx ry (inW_ok hb w hx hy ok)
  · exact op_inA (neg := true) hu pins s σ H _ _ v u q I rx ry (inW_ok hb w hx hy ok)
  · have h' : Dp X.K G y .none := hy
    cases h'
    exact op_isN pins s σ H _ _ v u q I rx ry ⟨rfl, by rw [vk_non hx]; exact ok.self w hb⟩
  · have h' : Dp X.K G y .none := hy
    cases h'
    exact op_notN pins s σ H _ _ v u q I rx ry ⟨rfl, by rw [vk_non hx]; exact ok.self w hb⟩
  · exact hb.elim
def rIx (K : PySem.W.Frag) (T : Tb) : R2 := fun x y H q => ∃ va vb M G Q, ixW va vb M Q ∧ Wt K T M G H ∧ Vk K G x va ∧ Vk K G y vb ∧ okE K T G Q q
theorem ix_all (hu : X.A.units + 65 < cLine) : IxR X (rIx X.K T) := by
  intro value slice pins s σ H x y v u q I rx ry h hs
  obtain ⟨va, vb, M, G, Q, hb, w, hx, hy, ok⟩ := h
  unfold ixW at hb
  split at hb
  · cases vk_int hy
    obtain ⟨d, e, h⟩ := hb
    obtain ⟨p, vs, rfl, h1, h2⟩ := vk_tup hx
    obtain ⟨z, e1, e2⟩ := dps_at h2 e
    exact ix_tup value slice pins s σ H _ _ v u q I rx ry ⟨p, vs, _, z, rfl, rfl, seqT w.w.ex h1, e1, ok.self w h e2⟩ hs
  · cases vk_int hy
    obtain ⟨d, e, h⟩ := hb
    obtain ⟨p, vs, rfl, h1, h2⟩ := vk_lst hx
    obtain ⟨z, e1, e2⟩ := dps_at h2 e
    exact ix_list value slice pins s σ H _ _ v u q I rx ry ⟨p, vs, _, z, rfl, rfl, w.w.ex.seq h1, e1, ok.self w h e2⟩ hs
  · cases vk_int hy
    obtain ⟨A, rs, C, vs, e, ⟨r, e2, h⟩, h1, h2, _⟩ := atM_lst hb w
    have hx' : x = .ref _ := hx
    subst hx'
    unfold atI at e2
    obtain ⟨j, q1, q2⟩ := Option.bind_eq_some_iff.mp e2
    obtain ⟨z, z1, z2⟩ := vks_at h2 q2
    exact ix_list value slice pins s σ H _ _ v u q I rx ry ⟨_, vs, _, z, rfl, rfl, SqL.of h1, by unfold atI; rw [h2.len, q1]; exact z1, ok.self w h z2⟩ hs
  · cases vk_int hy
    obtain ⟨L, t, e, h⟩ := hb
    rw [e] at hx
    obtain ⟨p, f, c', rfl, h1, h2, h3⟩ := vk_pairLS hx
    have hT := SqT.of (K := X.K) (w.w.ex _ _ h1)
    rcases h with ⟨rfl, h⟩ | ⟨rfl, h⟩
    · exact ix_tup value slice pins s σ H _ _ v u q I rx ry ⟨p, _, _, .ref f, rfl, rfl, hT, rfl, ok.self w h ⟨G, Same.refl _, f, c', rfl, h2, h3⟩⟩ hs
    · exact ix_tup value slice pins s σ H _ _ v u q I rx ry ⟨p, _, _, .str t, rfl, rfl, hT, rfl, ok.self w h (.str _)⟩ hs
  · obtain ⟨a, o, ro, rfl, g, ⟨r, er, hq⟩, e⟩ := dgetW_ok hb w hx hy
    cases rx
    rcases e with ⟨z, r', e1, e2, e3⟩ | ⟨e1, e2⟩
    · rw [er] at e2
      cases e2
      rw [e1] at g
      exact tail_any (dict_typeIs I g) PySem.F.slot_dict_getitem.lookup (d_getItem (by omega) I g ry fun w' s' I' r' => ⟨z, H, I', r', ok.self w hq e3⟩) hs
    · rw [er] at e2
      cases e2
  · cases vk_str hx; cases vk_int hy
    obtain ⟨c, e, hz, h⟩ := hb
    exact ix_str value slice pins s σ H _ _ v u q I rx ry ⟨_, _, c, rfl, rfl, Nat.le_of_lt (small1000 hz), e, ok.self w h (.str _)⟩ hs
  · exact hb.elim
def rSl (K : PySem.W.Frag) (T : Tb) : V → Option Int → Option Int → Hp → VK → Prop := fun x lo hi H q => ∃ va M G Q, slW va lo hi M Q ∧ Wt K T M G H ∧ Vk K G x va ∧ okE K T G Q q
theorem cut_dps {K : PySem.W.Frag} {G : Hp} {vs : List V} {xs : List D} (h : DpAll K G vs xs) (lo hi : Option Int) : DpAll K G (cutV vs lo hi) (cutD xs lo hi) := by
  unfold cutV cutD
  rw [dps_len h]
  exact dps_take _ (dps_drop _ h)
theorem sl_all : SlR X (rSl X.K T) := by
  intro pins s σ H x v vl vu lo hi sl q I rx hs pl pu h
  obtain ⟨va, M, G, Q, hb, w, hx, ok⟩ := h
  unfold slW at hb
  split at hb
  · obtain ⟨p, vs, rfl, h1, h2⟩ := vk_lst hx
    exact sl_list pins s σ H _ v vl vu lo hi sl q I rx hs pl pu ⟨p, vs, rfl, w.w.ex.seq h1, fun p hp => ok.newL w hb (cut_dps h2 lo hi) hp⟩
  · rename_i xs
    obtain ⟨p, vs, rfl, h1, h2⟩ := vk_tup hx
    refine sl_tupA pins s σ H _ v vl vu lo hi sl q I rx hs pl pu ⟨p, vs, rfl, seqT w.w.ex h1, fun e => ?_, fun _ p hp => ok.newT w hb (cut_dps h2 lo hi) hp⟩
    have e2 : cutD xs lo hi = xs := by
      unfold cutD
      rw [← dps_len h2, e.1, e.2, List.drop_zero, Nat.sub_zero, dps_len h2, List.take_length]
    rw [e2] at hb
    exact ok.self (r := .dat (.tuple xs)) w hb (Dp.tup h1 h2)
  · obtain ⟨A, rs, C, vs, e, ⟨xs, e2, h⟩, h1, h2, _⟩ := atM_lst hb w
    subst e2
    have hx' : x = .ref _ := hx
    subst hx'
    exact sl_list pins s σ H _ v vl vu lo hi sl q I rx hs pl pu ⟨_, vs, rfl, SqL.of h1, fun p hp => ok.newL w h (cut_dps (vks_dats h2) lo hi) hp⟩
  · exact hb.elim
end
end Cal
/-! WpLc -/
namespace Cal
open PySem PySem.Spec PyProof.Rows L2 LamX
/-! a row made turn by turn, whose block may rely on what its def knew at the block's birth -/
section
variable {X : Cx} {pins : List (Addr × Obj)} {σ : L2.St} {b3 : Shared} {G3 : Hp} {its : List Addr}
/-- the block is born at b3: the def's own facts hold there, its iterator stands at its -/
structure Born (X : Cx) (pins : List (Addr × Obj)) (σ : L2.St) (b3 : Shared) (G3 : Hp) (its : List Addr) : Prop where
  inv : Inv X pins σ G3 b3
  own : ∀ b ∈ its, FpOk X pins G3 b ∧ b < b3.heap.objs.size
/-- in each state of the block the def's own facts hold still -/
theorem Born.back (bn : Born X pins σ b3 G3 its) {scope : Scope} {ce : Env} {pz : List (Addr × Obj)} {τ : L2.St} {H' : Hp} {s' : Shared} (J : Inv (X.blk b3 G3 scope ce its) pz τ H' s') : Inv X pins σ H' s' := by
  refine bn.inv.call' (ch := its) J.os J.base J.hok J.bare fun b hb => ?_
  obtain ⟨_, nl, _, yg, nc, np⟩ := (bn.own b hb).1
  exact ⟨yg, nl, nc, np⟩
/-- the iterator's objects, as the block sees them -/
theorem its_ok {scope : Scope} {ce : Env} {τ : L2.St} {H' : Hp} {s' : Shared} (J : Inv (X.blk b3 G3 scope ce its) [] τ H' s') (hn : ∀ b ∈ its, H' b = none) : ∀ b ∈ its, FpOk (X.blk b3 G3 scope ce its) [] H' b := by
  intro b hb
  refine ⟨hn b hb, (J.ok.exf b hb).1, J.ok.exfs b hb, .inl hb, fun x c e => (J.ok.exf b hb).2 x c e, fun p hp => ?_⟩
  have hp : p ∈ ([] : List (Addr × Obj)) ++ [] := hp
  simp at hp
/-- what stands between two turns -/
def Btw (X : Cx) (b3 : Shared) (G3 : Hp) (scope : Scope) (ce : Env) (its : List Addr) (τ : L2.St) (tn : Nat → Heap → Prop) (W : Nat → Nat → Hp → Prop) (n : Nat) (s' : Shared) : Prop :=
  ∃ i H', Inv (X.blk b3 G3 scope ce its) [] τ H' s' ∧ tn i s'.heap ∧ (∀ b ∈ its, H' b = none) ∧ W i n H'
theorem btw_next {scope : Scope} {ce : Env} {tg : Expr} {J : It} {it : Addr} {tn : Nat → Heap → Prop} {W : Nat → Nat → Hp → Prop} {vs : List Nat} {τ σ8 : L2.St} {i n : Nat} {s7 s' : Shared} {H' : Hp} {P : Program} {w : World} {K : PySem.W.Frag}
    (T : Turn P w K tg J its it tn) (at7 : tn (i + 1) s7.heap) (J8 : Inv (X.blk b3 G3 scope ce its) ([] ++ pinsAt its s7.heap) σ8 H' s') (hw : wipe σ8 vs = τ) (nx : ∃ m, m < n ∧ W (i + 1) m H') : ∃ m, m < n ∧ Btw X b3 G3 scope ce its τ tn W m s' := by
  obtain ⟨m, hm, w'⟩ := nx
  have kept : ∀ b ∈ its, ∀ o, s7.heap.get? b = some o → s'.heap.get? b = some o ∧ H' b = none := by
    intro b hb o e
    have z := J8.pin (b, o) (List.mem_append_right _ (List.mem_append_right _ (mem_pinsAt hb e)))
    exact ⟨z.1, z.2.1⟩
  refine ⟨m, hm, i + 1, H', ?_, T.keep _ _ _ at7 fun b hb o e => (kept b hb o e).1, fun b hb => ?_, w'⟩
  · refine (J8.unpinned (pins := [])).weak (by rw [← hw, wipe_length]) fun j v e => ?_
    rw [← hw] at e
    exact (wipe_some e).1
  · obtain ⟨o, e, _⟩ := T.obj _ _ at7 b hb
    exact (kept b hb o e).2
/-- the names that a block captures have cells -/
theorem caught {own : List (Str × Nat)} {scope : Scope} (ok : BlkOk X.N X.env.scope scope own) (xo : X.Ok) : ∀ y ∈ scope.names, y.2 = .free → ∃ c, X.env.cells.lookup y.1 = some c := by
  intro y hy e
  exact xo.has _ (ok.free y hy e)
theorem lc_born {s : Shared} {H : Hp} {Q : VK} {elt tg iter : Expr} {ifs : List Expr} {scope : Scope} {own : List (Str × Nat)} {pos : Pos} {wi : TI} {g : TG} {tt : TT} {te : TE} (calm : X.calm = true) (nd : X.N.Nodup) (I : Inv X pins σ H s) (hi : PI X tg iter wi) (ok : BlkOk X.N X.env.scope scope own)
    (parts : ∀ (b3 : Shared) (G3 : Hp) (C : Addr) (cl : List (Str × Addr)) (its : List Addr), Born X pins σ b3 G3 its →
      PG (X.blk b3 G3 scope (compEnvC scope cl C X.env) its) tg g ∧ PTs (X.blk b3 G3 scope (compEnvC scope cl C X.env) its) ifs tt ∧ PE (X.blk b3 G3 scope (compEnvC scope cl C X.env) its) elt te)
    (hs : ∀ x, foldedSetIterable iter X.env x = pure x) (h : tLc wi g tt te (own.map (·.2)) σ H Q) :
    wpAny (model X.prog X.w) X.A (eval (.ListComp elt [⟨tg, iter, ifs, 0⟩] scope pos) X.env) (EP X pins σ Q) X.xe s := by
  rw [eval_ListComp]
  refine wpAny_comprehension_free (use := none) rfl hs (closure_ok (caught ok I.ok)) ok.kind (fun y hy e => by rw [ok.uniq y hy, e]) ?_
  refine thn (hi.run pins s σ H _ I h) fun xv s1 came => thn came fun itv s2 ⟨it, its, tn, J, H2, eit, I2, T, at0, own2, q⟩ => ?_
  subst eit
  -- the new row
  refine wpAny_newObj_type (newEnv_comp ?_) (Nat.zero_le _)
  obtain ⟨b3, e3⟩ : ∃ b3 : Shared, b3 = { s2 with heap := s2.heap.push { cls := .type "list", data := .seq ([] : List Value).toArray } } := ⟨_, rfl⟩
  have eh : b3.heap = s2.heap.push { cls := .type "list", data := .seq ([] : List Value).toArray } := by rw [e3]
  have fresh : H2 s2.heap.objs.size = none := I2.hok.fresh (Nat.le_refl _)
  obtain ⟨W, ⟨m0, w0⟩, turns⟩ := q _ fresh
  have bn : Born X pins σ b3 (upd H2 s2.heap.objs.size (.lst [])) its := by
    constructor
    · rw [e3]
      exact I2.laid (t' := s2.toks) (fun b o e => Heap.get?_push_of_some _ e) (Nat.le_refl _) ⟨Nat.zero_le _, [], 0, .nil, Heap.get?_push_size _ rfl⟩
    · intro b hb
      obtain ⟨o, e, _⟩ := T.obj _ _ at0 b hb
      have lt := Heap.lt_size e
      refine ⟨⟨?_, (own2 b hb).2⟩, ?_⟩
      · rw [upd_ne (Nat.ne_of_lt lt)]
        exact (own2 b hb).1
      · rw [eh, Heap.size_push]
        exact Nat.lt_succ_of_lt lt
  have at3 : tn 0 b3.heap := T.keep _ _ _ at0 fun b _ o e => by
    rw [eh]
    exact Heap.get?_push_of_some _ e
  rw [← e3]
  -- the block's own names
  obtain ⟨ce, ece⟩ : ∃ ce : Env, ce = compEnvC scope (cellsFrom (b3.heap.objs.size + 1) scope.names (cloFrom X.env.cells scope.names [])) b3.heap.objs.size X.env := ⟨_, rfl⟩
  have I4 := block_start bn.inv ok nd bn.own
  obtain ⟨pg, pt, pe⟩ := parts b3 _ b3.heap.objs.size (cellsFrom (b3.heap.objs.size + 1) scope.names (cloFrom X.env.cells scope.names [])) its bn
  rw [← ece] at I4 pg pt pe
  have here : ce.locals = b3.heap.objs.size := by
    rw [ece]
    rfl
  obtain ⟨s4, e4⟩ : ∃ s4 : Shared, s4 = { b3 with heap := pushCells (b3.heap.push { cls := .type "dict", data := .dict #[] }) scope.names } := ⟨_, rfl⟩
  rw [← e4] at I4
  have at4 : tn 0 s4.heap := T.keep _ _ _ at3 fun b _ o e => by
    rw [e4]
    exact pushCells_keeps _ _ _ _ (Heap.get?_push_of_some _ e)
  obtain ⟨G3, eG⟩ : ∃ G3 : Hp, G3 = upd H2 s2.heap.objs.size (.lst []) := ⟨_, rfl⟩
  rw [← eG] at bn I4 pg pt pe w0
  have walk : codeAny (model X.prog X.w) X.A (.compLoop (.ListComp elt [⟨tg, iter, ifs, 0⟩] scope pos) 0 (.ref it) (.ref s2.heap.objs.size) ce) (compPost (model X.prog X.w) X.A X.xe none (EP X pins σ Q) (.ref s2.heap.objs.size) b3.heap.objs.size) s4 := by
    refine compLoop_any (Btw X b3 G3 scope ce its (wipe σ (own.map (·.2))) tn W) ?_ m0 ⟨0, G3, I4, at4, fun b hb => (bn.own b hb).1.1, w0⟩
    intro n s5 ⟨i, H5, I5, at5, n5, w5⟩
    rcases turns i n H5 w5 with ⟨halt, res⟩ | ⟨go, Nx, hNx, step⟩
    · refine thnF (T.done (X.blk b3 G3 scope ce its) rfl rfl rfl calm i [] s5 _ H5 (fun _ _ => False) I5 (its_ok I5 n5) at5 halt) fun r s6 ⟨er, I6⟩ => ?_
      subst er
      obtain ⟨m, nsm, _⟩ := I6.loc
      have nsm : s6.heap.Ns ce.locals m := nsm
      have fr : H5 ce.locals = none := I6.free
      rw [here] at nsm fr
      obtain ⟨f0, f1, _, f3, f4, f5⟩ := bn.inv.fpOk (Nat.le_refl _) fr
      refine ⟨m, nsm, fun h'' sb => ⟨.ref s2.heap.objs.size, H5, ?_, rfl, res⟩⟩
      exact (bn.back I6).turned (t' := s6.toks) (fun b o hb e => (sb.2 b hb).trans e) f0 f1 f3 f4 f5
    · refine thnF (T.item (X.blk b3 G3 scope ce its) rfl rfl rfl calm i [] s5 _ H5 (fun _ _ => False) I5 (its_ok I5 n5) at5 go) fun r s6 ⟨u, er, h6⟩ => ?_
      subst er
      refine thnF h6 fun _ s7 ⟨x, H7, I7, r7, y7, at7, n7⟩ => ?_
      have I7p := I7.pinned (its_ok I7 n7) (T.obj _ _ at7)
      refine thnF (pg.run _ s7 _ H7 x u _ I7p r7 (step x H7 y7)) fun _ s8 ⟨σ8, H8, I8, hw8, q8⟩ => ?_
      refine thnF (pt.run _ s8 σ8 H8 _ I8 q8) fun b s9 ⟨H9, I9, q9⟩ => ?_
      cases b with
      | false =>
        rw [if_neg (by decide)] at q9 ⊢
        exact btw_next T at7 I9 hw8 (hNx _ q9)
      | true =>
        rw [if_pos rfl] at q9 ⊢
        refine thnF (pe.run _ s9 σ8 H9 _ I9 q9) fun z s10 ⟨yv, H10, I10, r10, acc, hD, hz, nx⟩ => ?_
        exact app_ok (X := X.blk b3 G3 scope ce its) I10 hD hz r10 fun s11 I11 => btw_next T at7 I11 hw8 (hNx _ nx)
  show codeAny _ _ (.compStart (.ListComp elt [⟨tg, iter, ifs, 0⟩] scope pos) 0 (.ref it) (.ref s2.heap.objs.size) (compEnvC scope (cellsFrom (b3.heap.objs.size + 1) scope.names (cloFrom X.env.cells scope.names [])) b3.heap.objs.size X.env)) (compPost (model X.prog X.w) X.A X.xe none (EP X pins σ Q) (.ref s2.heap.objs.size) b3.heap.objs.size) _
  rw [← ece, ← e4]
  exact codeAny_compStart_list walk (T.self X.A 0 _ _ _ at4 walk)
end
end Cal
/-! WpE -/
namespace Cal
open PySem PySem.Spec PyProof.Rows L2 LamX
/-! ### calls -/
structure FnP (P : Program) (w : World) (K : PySem.W.Frag) (mg : Str → Option Value) (base : Heap) (T : Tb) (k : Nat) (x : Str) (s : Sig) : Prop where
  ex : ∃ f fd ps us dvs, FnOk P w K mg base (L2.CX P w) k f fd ps (spP K T s) ∧ mg x = some (.ref f) ∧ PySem.W.keepIn K (.ref f) = true ∧ Binds K fd ps us ∧ Vals dvs us ∧ ∀ G, Vks K G dvs s.dr
theorem FnP.up {P : Program} {w : World} {K : PySem.W.Frag} {mg : Str → Option Value} {base : Heap} {T : Tb} {k k' : Nat} {x : Str} {s : Sig} (h : FnP P w K mg base T k x s) (l : k ≤ k') : FnP P w K mg base T k' x s := by
  obtain ⟨f, fd, ps, us, dvs, F, r⟩ := h.ex
  exact ⟨f, fd, ps, us, dvs, F.mono l, r⟩
/-- a method's promise; a maker's -/
structure MtP (P : Program) (w : World) (K : PySem.W.Frag) (mg : Str → Option Value) (base : Heap) (T : Tb) (k : Nat) (c : Addr) (m : Str) (s : Sig) : Prop where
  ex : ∃ f fd ps us dvs, FnOk P w K mg base (L2.CX P w) k f fd ps (spP K T s) ∧ Cls K c ∧ Meth K c m f ∧ Binds K fd ps us ∧ Vals dvs us ∧ ∀ G, Vks K G dvs s.dr
structure MkP (P : Program) (w : World) (K : PySem.W.Frag) (mg : Str → Option Value) (base : Heap) (T : Tb) (k : Nat) (x : Str) (c : Addr) (s : Sig) : Prop where
  ex : ∃ k' f fd ps us dvs, k' + 1 ≤ k ∧ FnOk P w K mg base (L2.CX P w) k' f fd ps (spP K T s) ∧ Mk K c f ∧ mg x = some (.ref c) ∧ Binds K fd ps us ∧ Vals dvs us ∧ ∀ G, Vks K G dvs s.dr
structure GiOk (g : Gi) (P : Program) (w : World) (K : PySem.W.Frag) (mg : Str → Option Value) (base : Heap) : Prop where
  sg : ∀ x n s, g.sg x n = some s → FnP P w K mg base g.T g.k x s
  fa : ∀ x n s, g.sg x n = some s → mg x = some (.ref (g.fa x))
  gv : ∀ x r, g.gv x = some r → ∃ v u, mg x = some u ∧ RelV v u ∧ ∀ G, Vk K G v r
  bi : ∀ x, g.bi x = true → mg x = none
  gc : ∀ x, g.gc x = true → mg x = some (.builtin "math.gcd")
  ex : ∀ x c, g.ex x = some c → c = He.ga K x ∧ mg x = some (.ref c) ∧ (He.Fa.exc x).ok K = true
  fl : ∀ c f, g.fl c f = true → Cls K c ∧ NoAttr K c f := by intro c f h; cases h
  mt : ∀ c m n s, g.mt c m n = some s → MtP P w K mg base g.T g.k c m s := by intro c m n s h; cases h
  mkr : ∀ x n c s, g.mkr x n = some (c, s) → MkP P w K mg base g.T g.k x c s := by intro x n c s h; cases h
/-- the def that calls what it got, as it stands -/
structure ToldK (g : Gi) (K : PySem.W.Frag) (mg : Str → Option Value) : Prop where
  ex : ∃ (params : Arguments) (body : List Stmt) (scope : Scope) (a : Addr) (fd : FuncData), FunD K "_law_told" "_law_told" params body scope [] [] a fd ∧ mg "_law_told" = some (.ref a) ∧ FnScope ["what"] ["what"] scope ∧ Vis scope "what" ∧
    (∀ (kV doc pm : Value) (an : Option Addr) (cdv ct : Value) (us : List Value), us.length = (["what"] : List Str).length → bindArgs (PySem.W.fnOf "_law_told" "_law_told" params body scope .none kV doc pm an cdv ct) ⟨us, []⟩ = pure ((["what"] : List Str).zip us)) ∧
    ∀ X : Cx, X.K = K → X.mg = mg → ∀ cdg, GivesTo X ["what"] "_law_told" scope a cdg body "what" g.lq (TT9 K g.es)
structure ToldAt (g : Gi) (X : Cx) : Prop where
  k : ToldK g X.K X.mg
  q : X.env.qual ++ "<lambda>" = g.lq
  r : Room (g.k + 2) X.A
structure LamB (g : Gi) (X : Cx) : Prop where
  ex : ∃ c P, TabB X.base X.mg c P ∧ X.env.code = .ref c ∧ (P, g.lq) ∈ g.T ∧ ∀ p ∈ g.T, p.1 = P → p.2 = g.lq
  q : X.env.qual ++ "<lambda>" = g.lq
/-- X is a block that Y bore -/
structure KeptIn (X : Cx) (cs : List (Str × Addr)) (tau : L2.St) (φ : Hp → V → Prop) (ds : List Sv) (sc : Scope) : Prop where
  ex : ∃ (Y : Cx) (pins : List (Addr × Obj)) (b3 : Shared) (G3 : Hp) (scope : Scope) (ce : Env) (its : List Addr), X = Y.blk b3 G3 scope ce its ∧ Born Y pins tau b3 G3 its ∧ Y.env.cells = cs ∧ Y.env.scope = sc ∧ ce.qual = Y.env.qual
  sl : ∀ G, (∃ G0 v, Same G0 G ∧ φ G0 v) → Sl X.K G tau ds
structure Xo (g : Gi) (S : Sc) (X : Cx) (W : WX) : Prop where
  ok : GiOk g X.prog X.w X.K X.mg X.base
  N : X.N = S.N
  sc : X.env.scope = S.sc
  fn : ∀ x, S.fn x = true → X.fn x = true
  nd : X.N.Nodup
  calm : X.calm = true
  room : Room g.k X.A
  tk : Takes X W
  lam : S.lam = true → LamB g X
  told : S.tq = true → ToldAt g X
  kd : ∀ cs, S.kp = .df cs → X.env.cells = cs
  kb : ∀ cs tau φ ds sc, S.kp = .bl cs tau φ ds sc → KeptIn X cs tau φ ds sc
theorem Xo.units {g : Gi} {S : Sc} {X : Cx} {W : WX} (o : Xo g S X W) : X.A.units + 65 < cLine := by
  have := o.room.un
  omega
section
variable {X : Cx}
theorem run_fnD {CX : CXT} {k : Nat} {f : Addr} {fd : FuncData} {ps : List Str} {sp : Sp} {E : L2.St → XK} {pins : List (Addr × Obj)} {σ : L2.St} {H : Hp} {s : Shared} {Q : VK} {us ds : List Value} {vs dvs : List V} (F : FnOk X.prog X.w X.K X.mg X.base CX k f fd ps sp) (hr : Room k X.A) (hb : Binds X.K fd ps ds) (hd : Vals dvs ds)
    (hx : PassesAt CX X σ (E σ)) (I : Inv X pins σ H s) (r : Vals vs us) (h : sp (vs ++ dvs) H Q (E σ)) : wpAny (model X.prog X.w) X.A (call (.ref f) us) (EP X pins σ Q) X.xe s := by
  have hr2 := r.append hd
  have hl : (us ++ ds).length = ps.length := by rw [← hr2.length]; exact F.len _ _ _ _ h
  refine wpAny_call (codeAny_mono (F.run X.A X.stack s H ⟨us, []⟩ (us ++ ds) (vs ++ dvs) Q (E σ) hr I.env0 (hb s us I.kIn hl) hr2 h) fun r s' hq => ?_)
  cases r with
  | error e => exact hx pins H s e s' I hq
  | ok fl =>
    cases fl with
    | ret u => exact I.after hq
    | next => exact False.elim hq
    | brk => exact False.elim hq
    | cont => exact False.elim hq
theorem pe_callD {CX : CXT} {k : Nat} {f : Addr} {fd : FuncData} {ps : List Str} {sp : Sp} {E : L2.St → XK} {x : Str} {p pos : Pos} {e : Expr} {es : List Expr} {t : TA} {ds : List Value} {dvs : List V} (F : FnOk X.prog X.w X.K X.mg X.base CX k f fd ps sp) (hr : Room k X.A) (hg : Gl X x) (hm : X.mg x = some (.ref f)) (hk : PySem.W.keepIn X.K (.ref f) = true) (hb : Binds X.K fd ps ds) (hd : Vals dvs ds)
    (hx : ∀ σ, PassesAt CX X σ (E σ)) (ha : PA X (e :: es) t) (hdb : (x == ("__debug__" : Str)) = false) (he : starEach (e :: es) X.env = (false, eval e X.env) :: starEach es X.env) (hpl : (backTo pos (starEach es X.env)).any (·.1) = false) :
    PE X (.Call (.Name x p) (e :: es) [] pos) (fun σ H Q => t σ H fun vs H1 => sp (vs ++ dvs) H1 Q (E σ)) := by
  refine ⟨fun pins s σ H Q I h => ?_⟩
  refine wpAny_Call_Name_kw (ld_glob I hg hm ?_ hdb)
  refine PySem.W.callWith_K (h₀ := X.base) I.ok.mod.kin hk (thn (ha.run pos pins s σ H _ I h) fun us s1 ⟨vs, H1, I1, r, q⟩ => ⟨I1.kIn, ?_⟩) he hpl
  exact run_fnD F hr hb hd (hx σ) I1 r q
theorem pe_callDL {CX : CXT} {k i : Nat} {f : Addr} {fd : FuncData} {ps : List Str} {sp : Sp} {E : L2.St → XK} {x : Str} {p pos : Pos} {e : Expr} {es : List Expr} {t : TA} {ds : List Value} {dvs : List V} (F : FnOk X.prog X.w X.K X.mg X.base CX k f fd ps sp) (hr : Room k X.A) (hN : X.N[i]? = some x) (hv : Vis X.env.scope x) (hk : PySem.W.keepIn X.K (.ref f) = true) (hb : Binds X.K fd ps ds) (hd : Vals dvs ds)
    (hx : ∀ σ, PassesAt CX X σ (E σ)) (ha : PA X (e :: es) t) (hdb : (x == ("__debug__" : Str)) = false) (hcd : (x == ("__classdict__" : Str)) = false) (he : starEach (e :: es) X.env = (false, eval e X.env) :: starEach es X.env) (hpl : (backTo pos (starEach es X.env)).any (·.1) = false) :
    PE X (.Call (.Name x p) (e :: es) [] pos) (fun σ H Q => σ[i]? = some (some (.ref f)) ∧ t σ H fun vs H1 => sp (vs ++ dvs) H1 Q (E σ)) := by
  refine ⟨fun pins s σ H Q J ⟨hs, h⟩ => ?_⟩
  refine wpAny_Call_Name_kw (thn ((pe_var (pos := p) hN hv hdb hcd).run pins s σ H (fun v H1 => v = .ref f ∧ H1 = H) J ⟨.ref f, hs, rfl, rfl⟩) fun u s1 ⟨v, H1, I1, r1, q1⟩ => ?_)
  obtain ⟨rfl, rfl⟩ := q1
  obtain rfl : u = Value.ref f := r1
  refine PySem.W.callWith_K (h₀ := X.base) I1.ok.mod.kin hk (thn (ha.run pos pins s1 σ H1 _ I1 h) fun us s2 ⟨vs, H2, I2, r, q⟩ => ⟨I2.kIn, ?_⟩) he hpl
  exact run_fnD F hr hb hd (hx σ) I2 r q
theorem pe_callD0 {CX : CXT} {k : Nat} {f : Addr} {fd : FuncData} {ps : List Str} {sp : Sp} {E : L2.St → XK} {x : Str} {p pos : Pos} {ds : List Value} {dvs : List V} (F : FnOk X.prog X.w X.K X.mg X.base CX k f fd ps sp) (hr : Room k X.A) (hg : Gl X x) (hm : X.mg x = some (.ref f)) (hk : PySem.W.keepIn X.K (.ref f) = true) (hb : Binds X.K fd ps ds) (hd : Vals dvs ds)
    (hx : ∀ σ, PassesAt CX X σ (E σ)) (hdb : (x == ("__debug__" : Str)) = false) : PE X (.Call (.Name x p) [] [] pos) (fun σ H Q => sp dvs H Q (E σ)) := by
  refine ⟨fun pins s σ H Q I h => ?_⟩
  refine wpAny_Call_Name_kw (ld_glob I hg hm ?_ hdb)
  refine PySem.W.callWith_K0 I.kIn hk ?_
  exact run_fnD F hr hb hd (hx σ) I .nil h
end
/-! ### names -/
theorem findIdx_at : ∀ {N : List Str} {x : Str} {i : Nat}, N.findIdx? (· == x) = some i → N[i]? = some x := fun {N x i} h => by
  obtain ⟨h1, h2, _⟩ := List.findIdx?_eq_some_iff_getElem.mp h
  rw [List.getElem?_eq_getElem h1]
  exact congrArg some (eq_of_beq h2)
theorem slotV_ok {S : Sc} {x : Str} {i : Nat} (h : slotV S x = some i) : S.N[i]? = some x ∧ Vis S.sc x ∧ (x == ("__debug__" : Str)) = false ∧ (x == ("__classdict__" : Str)) = false := by
  unfold slotV at h
  split at h
  · rename_i hc
    simp only [Bool.and_eq_true, Bool.not_eq_true'] at hc
    refine ⟨findIdx_at h, ?_, hc.1.2, hc.2⟩
    have hv := hc.1.1
    unfold visB at hv
    unfold Vis
    split at hv
    · exact .inl (by assumption)
    · exact .inr (.inl (by assumption))
    · exact .inr (.inr (by assumption))
    · cases hv
  · cases h
theorem slotL_ok {S : Sc} {x : Str} {i : Nat} (h : slotL S x = some i) : S.N[i]? = some x ∧ L2.Loc S.sc x ∧ (S.fn x = true ∨ S.sc.names.lookup x = some .local) := by
  unfold slotL at h
  split at h
  · rename_i hc
    refine ⟨findIdx_at h, ?_⟩
    unfold locB at hc
    unfold L2.Loc
    split at hc
    · exact ⟨.inl (by assumption), .inr (by assumption)⟩
    · exact ⟨.inr (by assumption), .inl hc⟩
    · cases hc
  · cases h
section
variable {g : Gi} {S : Sc} {X : Cx} {W : WX}
theorem Xo.gl (o : Xo g S X W) {x : Str} (h : globB S x = true) : Gl X x ∧ (x == ("__debug__" : Str)) = false := by
  unfold globB at h
  split at h
  · rename_i hl
    refine ⟨?_, by simpa using h⟩
    show X.env.scope.names.lookup x = some .globalImplicit
    rw [o.sc]
    exact hl
  · cases h
theorem Xo.vis (o : Xo g S X W) {x : Str} (h : Vis S.sc x) : Vis X.env.scope x := by rw [o.sc]; exact h
theorem Xo.loc (o : Xo g S X W) {x : Str} (h : L2.Loc S.sc x) : L2.Loc X.env.scope x := by rw [o.sc]; exact h
theorem Xo.at (o : Xo g S X W) {x : Str} {i : Nat} (h : S.N[i]? = some x) : X.N[i]? = some x := by rw [o.N]; exact h
theorem Xo.hf (o : Xo g S X W) {x : Str} (h : S.fn x = true ∨ S.sc.names.lookup x = some .local) : X.fn x = true ∨ X.env.scope.names.lookup x = some .local := by
  rw [o.sc]
  exact h.imp (o.fn x) id
end
theorem star_one {e : Expr} {es : List Expr} {env : Env} (h : notStar e = true) : starEach (e :: es) env = (false, eval e env) :: starEach es env := by
  cases e <;> first | rfl | cases h
theorem star_all {pos : Pos} {env : Env} : ∀ {es : List Expr}, es.all notStar = true → (backTo pos (starEach es env)).any (·.1) = false
  | [], _ => rfl
  | e :: es, h => by
    rw [List.all_cons, Bool.and_eq_true] at h
    rw [star_one h.1]
    show (false || (backTo pos (starEach es env)).any (·.1)) = false
    rw [star_all h.2]
    rfl
section
variable {X : Cx}
theorem pa_ex {es : List Expr} {ι : Type} {p : ι → Prop} {t : ι → TA} (h : ∀ i, p i → PA X es (t i)) : PA X es (fun σ H Q => ∃ i, p i ∧ t i σ H Q) := ⟨fun pos pins s σ H Q I ⟨i, hp, q⟩ => (h i hp).run pos pins s σ H Q I q⟩
theorem po_ex {e : Option Expr} {ι : Type} {p : ι → Prop} {t : ι → TO} (h : ∀ i, p i → PO X e (t i)) : PO X e (fun σ H Q => ∃ i, p i ∧ t i σ H Q) := ⟨fun pins s σ H Q I ⟨i, hp, q⟩ => (h i hp).run pins s σ H Q I q⟩
variable {T : Tb} {W : WX} {ds : List Sv} {M : Ms} {Q : PoE} {E : Er} {a b e : Expr} {es : List Expr} {pos : Pos}
/-- rows of expressions are as read -/
theorem wpL_ok {f : Expr → Ms → PoE → Prop} (hf : ∀ e M Q, f e M Q → PE X e (tE X.K T W ds M Q E)) : ∀ {es : List Expr} {M : Ms} {Q : PoA}, es.all notStar = true → wpL f es M Q → PA X es (tA X.K T W ds M Q E)
  | [], M, Q, _, h => pa_mono pa_nil fun σ H q ⟨G, w, s, ok, er⟩ => ok [] M [] G H h (Same.refl _) w .nil
  | e :: es, M, Q, hs, h => by
    rw [List.all_cons, Bool.and_eq_true] at hs
    refine pa_mono (pa_cons (hf e M _ h) (pa_ex (ι := Sv × Ms) (p := fun z => wpL f es z.2 fun vs M2 => Q (z.1 :: vs) M2) (t := fun z => tA X.K T W ds z.2 (fun vs M2 => Q (z.1 :: vs) M2) E) fun z hz => wpL_ok hf hs.2 hz) (star_one hs.1)) fun σ H q ⟨G, w, s, ok, er⟩ => ?_
    refine ⟨G, w, s, fun v M1 x G1 H1 hv sg w1 hx => ⟨(v, M1), hv, G1, w1, s.up sg, fun vs M2 xs G2 H2 hq sg2 w2 hxs => ?_, er.up sg⟩, er⟩
    exact ok (v :: vs) M2 (x :: xs) G2 H2 hq (sg.trans sg2) w2 (.cons (hx.up sg2) hxs)
/-- the second of two -/
abbrev tSec (K : PySem.W.Frag) (T : Tb) (W : WX) (ds : List Sv) (P : Sv → Ms → Prop) (Qf : Sv → PoE) (E : Er) : TE := fun σ H q => ∃ z : Sv × Ms, P z.1 z.2 ∧ tE K T W ds z.2 (Qf z.1) E σ H q
theorem pe_sec {P : Sv → Ms → Prop} {Qf : Sv → PoE} (h : ∀ v M1, P v M1 → PE X e (tE X.K T W ds M1 (Qf v) E)) : PE X e (tSec X.K T W ds P Qf E) := pe_ex (ι := Sv × Ms) (p := fun z => P z.1 z.2) (t := fun z => tE X.K T W ds z.2 (Qf z.1) E) fun z hz => h z.1 z.2 hz
theorem tOp_of {K : PySem.W.Frag} {r2 : R2} {P : Sv → Ms → Prop} {Qf : Sv → PoE} {σ : L2.St} {H : Hp} {q : VK} (hop : ∀ va vb M2 G x y H q, Qf va vb M2 → Wt K T M2 G H → Vk K G x va → Vk K G y vb → okE K T G Q q → r2 x y H q) (h : tE K T W ds M Q E σ H q) :
    tOp r2 (tE K T W ds M P E) (tSec K T W ds P Qf E) σ H q := by
  obtain ⟨G, w, s, ok, er⟩ := h
  exact ⟨G, w, s, fun va M1 x G1 H1 hB sg w1 hx => ⟨(va, M1), hB, G1, w1, s.up sg, fun vb M2 y G2 H2 hQ sg2 w2 hy => hop va vb M2 G2 x y H2 q hQ w2 (hx.up sg2) hy (ok.up (sg.trans sg2)), er.up sg⟩, er⟩
/-- one after another: what the first gives goes to a further reading -/
theorem tE_then {K : PySem.W.Frag} {Q1 : PoE} {σ : L2.St} {H : Hp} {q q1 : VK} (h : tE K T W ds M Q E σ H q) (hq : ∀ r M' v G' H', Q1 r M' → Wt K T M' G' H' → Vk K G' v r → okE K T G' Q q → q1 v H') : tE K T W ds M Q1 E σ H q1 := by
  obtain ⟨G, w, s, ok, er⟩ := h
  exact ⟨G, w, s, fun r M' v G' H' h1 sg w' hv => hq r M' v G' H' h1 w' hv (ok.up sg), er⟩
end
end Cal
/-! WpF -/
namespace Cal
open PySem PySem.Spec PyProof.Rows L2 LamX
/-! ### built-in functions, displays, methods -/
def rB (K : PySem.W.Frag) (T : Tb) (W : List Sv → Ms → PoE → Prop) : List V → Hp → VK → Prop := fun vs H q => ∃ rs M G Q, W rs M Q ∧ Wt K T M G H ∧ Vks K G vs rs ∧ okE K T G Q q
section
variable {X : Cx} {T : Tb}
theorem ints_of {K : PySem.W.Frag} {G : Hp} : ∀ {vs : List V} {ns : List Int}, DpAll K G vs (ns.map .int) → vs = ns.map V.int
  | [], [], _ => rfl
  | [], b :: bs, h => by cases h
  | v :: vs, [], h => by cases h
  | v :: vs, b :: bs, .cons h hs => by rw [ints_of hs, vk_int (G := G) h]; rfl
theorem rdI_ok {K : PySem.W.Frag} {M : Ms} {G H : Hp} {v : V} {r : Sv} {P : List Int → Prop} (h : rdI r M P) (w : Wt K T M G H) (hv : Vk K G v r) : ∃ p ns, v = .ref p ∧ SqL K H p (ns.map V.int) ∧ P ns := by
  unfold rdI at h
  split at h
  · obtain ⟨ns, rfl, h⟩ := h
    obtain ⟨p, vs, rfl, h1, h2⟩ := vk_lst hv
    have e := ints_of h2
    subst e
    exact ⟨p, ns, rfl, w.w.ex.seq h1, h⟩
  · obtain ⟨A, rs, C, vs, e, ⟨ns, e2, h⟩, h1, h2, _⟩ := atM_lst h w
    have hv' : v = .ref _ := hv
    subst hv' e2
    have e := ints_of (vks_dats h2)
    subst e
    exact ⟨_, ns, rfl, SqL.of h1, h⟩
  · exact h.elim
theorem call_lenN : CallR X (.builtin "len") (fun xs H Q => ∃ (d : Addr) (n : Nat), xs = [.ref d] ∧ H d = some (DNum d n) ∧ n ≤ 1000 ∧ Q (.int n) H) := by
  intro pins s σ H xs us Q I r q
  obtain ⟨d, n, ex, hd, hn, q⟩ := q
  subst ex
  obtain ⟨u, eu, rx⟩ := vals1 r
  subst eu
  cases rx
  obtain ⟨⟨lo, o, es, ep, ho, hx, hdt, hk⟩, _, _⟩ := I.hok d _ hd
  exact call_len_num lo ⟨o, ho, hx.1⟩ ⟨o, es, ep, ho, hdt, hk⟩ hn ⟨.int n, H, I.tok _, ⟨_, rfl⟩, q⟩
theorem cb_sum (hc : X.calm = true) : CallR X (.builtin "sum") (rB X.K T sumA) := by
  intro pins s σ H xs us q J r ⟨rs, M, G, Q, h', w, hv, ok⟩
  unfold sumA at h'
  split at h'
  · obtain ⟨v, rfl, hv1⟩ := vks1 hv
    obtain ⟨p, ns, rfl, hs, hq⟩ := rdI_ok h' w hv1
    exact cr_sum hc pins s σ H _ us q J r ⟨p, ns, rfl, hs, ok.self w hq (.int _)⟩
  · exact h'.elim
theorem cb_dict (hc : X.calm = true) (hu : X.A.units + 65 < cLine) : CallR X (.type "dict") (rB X.K T dictA) := by
  intro pins s σ H xs us q J r ⟨rs, M, G, Q, h', w, hv, ok⟩
  unfold dictA at h'
  split at h'
  · obtain ⟨v, rfl, hv1⟩ := vks1 hv
    obtain ⟨ks, rfl, hl, hk, h'⟩ := h'
    obtain ⟨p, vs, rfl, h1, h2⟩ := vk_lst hv1
    refine cr_dictN hc (by omega) pins s σ H _ us q J r ⟨p, vs, ks, rfl, w.w.ex.seq h1, dpsUp w.w.ex _ h2, hl, hk, fun d n hn hn2 hd => ?_⟩
    obtain ⟨g, w2⟩ := w.new hd (DNum d n) (by intro ps z; unfold DNum at z; cases z)
    exact ok _ M _ _ _ (h' n hn hn2) g w2 ⟨_, Same.refl _, d, rfl, upd_same⟩
  · exact h'.elim
theorem cb_len : CallR X (.builtin "len") (rB X.K T lenA) := by
  intro pins s σ H xs us q J r ⟨rs, M, G, Q, h', w, hv, ok⟩
  unfold lenA at h'
  split at h'
  · obtain ⟨v, rfl, hv1⟩ := vks1 hv
    unfold lenW at h'
    split at h'
    · obtain ⟨n, e, hn, h'⟩ := h'
      rw [e] at hv1
      obtain ⟨G0, g0, d, rfl, hd⟩ := hv1
      exact call_lenN pins s σ H _ us q J r ⟨d, n, rfl, w.w.ex _ _ (g0 _ _ hd), hn, ok.self w h' (.int _)⟩
    · obtain ⟨p, vs, rfl, h1, h2⟩ := vk_lst hv1
      exact call_len_seq pins s σ H _ us q J r ⟨p, vs, rfl, .inl (w.w.ex.seq h1), by rw [dps_len h2]; exact ok.self w h' (.int _)⟩
    · obtain ⟨p, vs, rfl, h1, h2⟩ := vk_tup hv1
      exact call_len_seq pins s σ H _ us q J r ⟨p, vs, rfl, .inr (seqT w.w.ex h1), by rw [dps_len h2]; exact ok.self w h' (.int _)⟩
    · obtain ⟨A, rs, C, vs, e, h3, h1, h2, _⟩ := atM_lst h' w
      have hx' : v = .ref _ := hv1
      subst hx'
      exact call_len_seq pins s σ H _ us q J r ⟨_, vs, rfl, .inl (SqL.of h1), by rw [h2.len]; exact ok.self w h3 (.int _)⟩
    · obtain ⟨A, es, C, e, hz, h3⟩ := h'
      have w2 := w
      rw [e] at w2
      obtain ⟨kvs, h1, h4, _⟩ := dk_at w2
      have hx' : v = .ref _ := hv1
      subst hx'
      exact call_lenD pins s σ H _ us q J r ⟨_, kvs, rfl, h1, by rw [h4.len]; exact ok.self w h3 (.int _)⟩
    · exact h'.elim
  · exact h'.elim
theorem cb_abs : CallR X (.builtin "abs") (rB X.K T absA) := by
  intro pins s σ H xs us q J r ⟨rs, M, G, Q, h', w, hv, ok⟩
  unfold absA at h'
  split at h'
  · obtain ⟨v, rfl, hv1⟩ := vks1 hv
    unfold intW at h'
    split at h'
    · cases vk_int hv1
      exact call_abs pins s σ H _ us q J r ⟨_, rfl, ok.self w h' (.int _)⟩
    · exact h'.elim
  · exact h'.elim
theorem cb_min (hc : X.calm = true) : CallR X (.builtin "min") (rB X.K T minA) := by
  intro pins s σ H xs us q J r ⟨rs, M, G, Q, h', w, hv, ok⟩
  unfold minA at h'
  split at h'
  · obtain ⟨v, rfl, hv1⟩ := vks1 hv
    obtain ⟨p, ns, rfl, hs, h0, hq⟩ := rdI_ok h' w hv1
    exact cr_min hc pins s σ H _ us q J r ⟨p, ns, rfl, hs, h0, fun m hm hy => ok.self w (hq m hm hy) (.int _)⟩
  · obtain ⟨v, u, rfl, hv1, hv2⟩ := vks2 hv
    unfold intW at h'
    split at h'
    · split at h'
      · cases vk_int hv1
        cases vk_int hv2
        exact call_min2 hc pins s σ H _ us q J r ⟨_, _, rfl, ok.self w h' (.int _)⟩
      · exact h'.elim
    · exact h'.elim
  · exact h'.elim
theorem cb_max (hc : X.calm = true) : CallR X (.builtin "max") (rB X.K T maxA) := by
  intro pins s σ H xs us q J r ⟨rs, M, G, Q, h', w, hv, ok⟩
  unfold maxA at h'
  split at h'
  · obtain ⟨v, rfl, hv1⟩ := vks1 hv
    obtain ⟨p, ns, rfl, hs, h0, hq⟩ := rdI_ok h' w hv1
    exact cr_max hc pins s σ H _ us q J r ⟨p, ns, rfl, hs, h0, fun m hm hy => ok.self w (hq m hm hy) (.int _)⟩
  · obtain ⟨v, u, rfl, hv1, hv2⟩ := vks2 hv
    unfold intW at h'
    split at h'
    · split at h'
      · cases vk_int hv1
        cases vk_int hv2
        exact call_max2 hc pins s σ H _ us q J r ⟨_, _, rfl, ok.self w h' (.int _)⟩
      · exact h'.elim
    · exact h'.elim
  · exact h'.elim
theorem cb_int : CallR X (.type "int") (rB X.K T intA) := by
  intro pins s σ H xs us q J r ⟨rs, M, G, Q, h', w, hv, ok⟩
  unfold intA at h'
  split at h'
  · obtain ⟨v, rfl, hv1⟩ := vks1 hv
    cases vk_int hv1
    exact call_int1 pins s σ H _ us q J r (.inl ⟨_, rfl, ok.self w h' (.int _)⟩)
  · obtain ⟨v, rfl, hv1⟩ := vks1 hv
    cases vk_bl hv1
    exact call_int1 pins s σ H _ us q J r (.inr ⟨_, rfl, ok.self w h' (.int _)⟩)
  · exact h'.elim
theorem keys_dps {K : PySem.W.Frag} {G : Hp} : ∀ {kvs : List (L2.Key × V)} {es : List (L2.Key × Sv)}, Kvs K G kvs es → Vks K G (kvs.map fun kv => kV kv.1) (dats (es.map fun p => keyS p.1))
  | _, _, .nil => .nil
  | (k, v) :: kvs, (k2, r) :: es, .cons h t => by
    have h1 : k = k2 := h.1
    subst h1
    refine .cons ?_ (keys_dps t)
    cases k with
    | inl i => exact Dp.int i
    | inr x => exact Dp.str x
theorem cb_list (hc : X.calm = true) : CallR X (.type "list") (rB X.K T listA) := by
  intro pins s σ H xs us q J r ⟨rs, M, G, Q, h', w, hv, ok⟩
  unfold listA at h'
  split at h'
  · obtain ⟨v, rfl, hv1⟩ := vks1 hv
    unfold listW at h'
    split at h'
    · obtain ⟨p, vs, rfl, h1, h2⟩ := vk_lst hv1
      exact call_list_of pins s σ H _ us q J r ⟨p, vs, rfl, .inl (w.w.ex.seq h1), fun l hl => lstW_ok h' ok w (dps_vks h2) hl⟩
    · obtain ⟨p, vs, rfl, h1, h2⟩ := vk_tup hv1
      exact call_list_of pins s σ H _ us q J r ⟨p, vs, rfl, .inr (seqT w.w.ex h1), fun l hl => lstW_ok h' ok w (dps_vks h2) hl⟩
    · obtain ⟨A, rs, C, vs, e, h3, h1, h2, _⟩ := atM_lst h' w
      have hx' : v = .ref _ := hv1
      subst hx'
      exact call_list_of pins s σ H _ us q J r ⟨_, vs, rfl, .inl (SqL.of h1), fun l hl => lstW_ok h3 ok w h2 hl⟩
    · obtain ⟨es, hr, h3⟩ := h'
      obtain ⟨kvs, h1, h4⟩ := rdK_ok hr w
      have hx' : v = .ref _ := hv1
      subst hx'
      exact call_listD hc pins s σ H _ us q J r ⟨_, kvs, rfl, h1, fun p hp => lstW_ok h3 ok w (keys_dps h4) hp⟩
    · exact h'.elim
  · exact h'.elim
theorem cb_tuple : CallR X (.type "tuple") (rB X.K T tupleA) := by
  intro pins s σ H xs us q J r ⟨rs, M, G, Q, h', w, hv, ok⟩
  unfold tupleA at h'
  split at h'
  · obtain ⟨v, rfl, hv1⟩ := vks1 hv
    unfold tupleW at h'
    split at h'
    · obtain ⟨p, vs, rfl, h1, h2⟩ := vk_lst hv1
      exact call_tuple_of pins s σ H _ us q J r ⟨p, vs, rfl, .inl ⟨w.w.ex.seq h1, fun l hl => ok.newT w h' h2 hl⟩⟩
    · obtain ⟨p, vs, rfl, h1, h2⟩ := vk_tup hv1
      exact call_tuple_of pins s σ H _ us q J r ⟨p, vs, rfl, .inr ⟨seqT w.w.ex h1, ok.self w h' hv1⟩⟩
    · obtain ⟨A, rs, C, vs, e, ⟨xs, e2, h3⟩, h1, h2, _⟩ := atM_lst h' w
      have hx' : v = .ref _ := hv1
      subst hx' e2
      exact call_tuple_of pins s σ H _ us q J r ⟨_, vs, rfl, .inl ⟨SqL.of h1, fun l hl => ok.newT w h3 (vks_dats h2) hl⟩⟩
    · exact h'.elim
  · exact h'.elim
theorem bools_of {K : PySem.W.Frag} {G : Hp} : ∀ {vs : List V} {bs : List Bool}, DpAll K G vs (bs.map .bool) → vs = bs.map V.bl
  | [], [], _ => rfl
  | [], b :: bs, h => by cases h
  | v :: vs, [], h => by cases h
  | v :: vs, b :: bs, .cons h hs => by rw [bools_of hs, vk_bl (G := G) h]; rfl
theorem of_ints {K : PySem.W.Frag} {G : Hp} : ∀ {ns : List Int}, DpAll K G (ns.map V.int) (ns.map .int)
  | [] => .nil
  | n :: ns => .cons (.int n) of_ints
theorem cb_any (hc : X.calm = true) : CallR X (.builtin "any") (rB X.K T anyA) := by
  intro pins s σ H xs us q J r ⟨rs, M, G, Q, h', w, hv, ok⟩
  unfold anyA at h'
  split at h'
  · obtain ⟨v, rfl, hv1⟩ := vks1 hv
    obtain ⟨bs, rfl, h'⟩ := h'
    obtain ⟨p, vs, rfl, h1, h2⟩ := vk_lst hv1
    have e := bools_of h2
    subst e
    exact cr_any hc pins s σ H _ us q J r ⟨p, bs, rfl, w.w.ex.seq h1, ok.self w h' (.bl _)⟩
  · exact h'.elim
theorem cb_sorted (hu : X.A.units + 65 < cLine) : CallR X (.builtin "sorted") (rB X.K T sortedA) := by
  intro pins s σ H xs us q J r ⟨rs, M, G, Q, h', w, hv, ok⟩
  unfold sortedA at h'
  split at h'
  · obtain ⟨v, rfl, hv1⟩ := vks1 hv
    obtain ⟨ha, hs, hl, hd, h'⟩ := h'
    obtain ⟨p, vs, rfl, h1, h2⟩ := vk_tup hv1
    refine cr_sortTup pins s σ H _ us q J r ⟨p, vs, _, G, rfl, seqT w.w.ex h1, w.w.ex, h2, ha, hs, hl, fun d hd2 => (by have := hd d hd2; omega), fun ws l hwl hw hl2 => lstW_ok (h' _ rfl) ok w (dps_vks hw) hl2⟩
  · obtain ⟨v, rfl, hv1⟩ := vks1 hv
    unfold rdL at h'
    split at h'
    · obtain ⟨p, vs, rfl, h1, h2⟩ := vk_lst hv1
      obtain ⟨ns, e, h'⟩ := h'
      have e2 := ints_of (K := X.K) (G := G) (ns := ns) (by have h3 := vks_dats (K := X.K) (G := G) (xs := ns.map .int) (vs := vs) (by rw [← e]; exact dps_vks h2); exact h3)
      subst e2
      exact cr_sortedI pins s σ H _ us q J r ⟨p, ns, rfl, w.w.ex.seq h1, fun ms l hp hs hl => lstW_ok (h' ms hp hs) ok w (dps_vks of_ints) hl⟩
    · obtain ⟨A, rs, C, vs, e, ⟨ns, e2, h3⟩, h1, h2, _⟩ := atM_lst h' w
      have hx' : v = .ref _ := hv1
      subst hx' e2
      have e2 := ints_of (vks_dats h2)
      subst e2
      exact cr_sortedI pins s σ H _ us q J r ⟨_, ns, rfl, SqL.of h1, fun ms l hp hs hl => lstW_ok (h3 ms hp hs) ok w (dps_vks of_ints) hl⟩
    · exact h'.elim
  · exact h'.elim
variable {W : WX} {ds : List Sv} {M : Ms} {Q : PoE} {E : Er} {a b e : Expr} {es : List Expr} {pos p : Pos}
theorem tB_of {K : PySem.W.Frag} {Wb : List Sv → Ms → PoE → Prop} {σ : L2.St} {H : Hp} {q : VK} (h : tE K T W ds M Q E σ H q) : tCB (rB K T Wb) (tA K T W ds M (fun vs M1 => Wb vs M1 Q) E) σ H q := by
  obtain ⟨G, w, s, ok, er⟩ := h
  exact ⟨G, w, s, fun rs M1 vs G1 H1 hb sg w1 hv => ⟨rs, M1, G1, Q, hb, w1, hv, ok.up sg⟩, er⟩
theorem cb_gcd : CallR X (.builtin "math.gcd") (rB X.K T gcdA) := by
  intro pins s σ H xs us q J r ⟨rs, M, G, Q, h', w, hv, ok⟩
  unfold gcdA at h'
  split at h'
  · obtain ⟨v, u, rfl, hv1, hv2⟩ := vks2 hv
    unfold intW at h'
    split at h'
    · split at h'
      · cases vk_int hv1
        cases vk_int hv2
        exact cr_gcd pins s σ H _ us q J r ⟨_, _, rfl, ok.self w h' (.int _)⟩
      · exact h'.elim
    · exact h'.elim
  · exact h'.elim
theorem lookup_mem {α : Type} : ∀ {l : List (Str × α)} {x : Str} {f : α}, l.lookup x = some f → (x, f) ∈ l
  | (y, g) :: l, x, f, h => by
    rw [List.lookup_cons] at h
    split at h
    · rename_i e
      cases h
      rw [eq_of_beq e]
      exact List.mem_cons_self
    · exact List.mem_cons_of_mem _ (lookup_mem h)
theorem rdL_ok {K : PySem.W.Frag} {v : V} {r : Sv} {M : Ms} {P : List Sv → Prop} {G H : Hp} (h : rdL r M P) (w : Wt K T M G H) (hv : Vk K G v r) : ∃ p vs rs, v = .ref p ∧ SqL K H p vs ∧ Vks K G vs rs ∧ P rs := by
  unfold rdL at h
  split at h
  · obtain ⟨p, vs, rfl, h1, h2⟩ := vk_lst hv
    exact ⟨p, vs, _, rfl, w.w.ex.seq h1, dps_vks h2, h⟩
  · obtain ⟨A, rs, C, vs, e, h3, h1, h2, _⟩ := atM_lst h w
    have hx' : v = .ref _ := hv
    exact ⟨_, vs, rs, hx', SqL.of h1, h2, h3⟩
  · exact h.elim
theorem cb_sortedK (hu : X.A.units + 65 < cLine) : CallR X (.builtin "sorted") (rB X.K T sortedK) := by
  intro pins s σ H xs us q J r ⟨rs, M, G, Q, h', w, hv, ok⟩
  unfold sortedK at h'
  split at h'
  · exact cb_sorted hu pins s σ H xs us q J r ⟨_, M, G, Q, h', w, hv, ok⟩
  · obtain ⟨v, rfl, hv1⟩ := vks1 hv
    obtain ⟨p, vs, rs, rfl, h1, h2, xs, e, ha, hs, hl, hd, h'⟩ := rdL_ok h' w hv1
    subst e
    exact cr_sortLst pins s σ H _ us q J r ⟨p, vs, xs, G, rfl, h1, w.w.ex, vks_dats h2, ha, hs, hl, fun d hd2 => (by have := hd d hd2; omega), fun ws l hwl hw hl2 => lstW_ok (h' _ rfl) ok w (dps_vks hw) hl2⟩
  · exact h'.elim
theorem pairs_up {K : PySem.W.Frag} {G H : Hp} (sg : Same G H) : ∀ {qs : List Addr} {kvs : List (L2.Key × V)}, Paired (fun p (kv : L2.Key × V) => SqT K G p [kV kv.1, kv.2]) qs kvs → Paired (fun p (kv : L2.Key × V) => SqT K H p [kV kv.1, kv.2]) qs kvs
  | _, _, .nil => .nil
  | _, _, .cons h t => .cons (seqT sg h) (pairs_up sg t)
theorem cb_dictK (hc : X.calm = true) : CallR X (.type "dict") (rB X.K T dictK) := by
  intro pins s σ H xs us q J r ⟨rs, M, G, Q, h', w, hv, ok⟩
  unfold dictK at h'
  split at h'
  · obtain ⟨v, rfl, hv1⟩ := vks1 hv
    obtain ⟨p, vs, rs, rfl, h1, h2, ps, e, h'⟩ := rdL_ok h' w hv1
    subst e
    obtain ⟨qs, kvs, e, h3, h4⟩ := pairsD_split (vks_dats h2)
    subst e
    exact call_dictP hc pins s σ H _ us q J r ⟨p, qs, kvs, rfl, h1, pairs_up w.w.ex h3, fun l hl => ok _ _ _ G _ (h' l) (Same.refl _) (w.mnew hl (m := .dk _) (Kvs.merge h4 .nil)) rfl⟩
  · exact h'.elim
theorem cb_isi : CallR X (.builtin "isinstance") (rB X.K T isiA) := by
  intro pins s σ H xs us q J r ⟨rs, M, G, Q, h', w, hv, ok⟩
  unfold isiA at h'
  split at h'
  · obtain ⟨v, u, rfl, hv1, hv2⟩ := vks2 hv
    obtain ⟨rfl, h'⟩ := h'
    have hu : u = .ty "tuple" := hv2
    subst hu
    exact cr_isiTup pins s σ H _ us q J r ⟨v, _, rfl, dpUp w.w.ex _ hv1, ok.self w h' (.bl _)⟩
  · exact h'.elim
theorem cb_str (hu : X.A.units + 65 < cLine) : CallR X (.type "str") (rB X.K T strA) := by
  intro pins s σ H xs us q J r ⟨rs, M, G, Q, h', w, hv, ok⟩
  unfold strA at h'
  split at h'
  · obtain ⟨v, rfl, hv1⟩ := vks1 hv
    have hs : Dp X.K G v (.str _) := hv1
    cases hs
    exact _root_.SkE.call_str_str pins s σ H _ us q J r ⟨_, rfl, ok.self w h' (.str _)⟩
  · obtain ⟨v, rfl, hv1⟩ := vks1 hv
    exact cr_strT (by omega) pins s σ H _ us q J r ⟨v, _, rfl, dpUp w.w.ex _ hv1, h'.1, fun y hy => ok.self w (h'.2 y hy) (.str _)⟩
  · exact h'.elim
theorem blt_ok {x : Str} {f : List Sv → Ms → PoE → Prop} (hu : X.A.units + 65 < cLine) (hc : X.calm = true) (hg : Gl X x) (hdb : (x == ("__debug__" : Str)) = false) (hm : X.mg x = none) (hf : bltL.lookup x = some f) (ha : PA X (e :: es) (tA X.K T W ds M (fun vs M1 => f vs M1 Q) E)) (hs : (e :: es).all notStar = true) :
    PE X (.Call (.Name x p) (e :: es) [] pos) (tE X.K T W ds M Q E) := by
  rw [List.all_cons, Bool.and_eq_true] at hs
  have h1 := star_one (es := es) (env := X.env) hs.1
  have h2 := star_all (pos := pos) (env := X.env) hs.2
  have hm2 := lookup_mem hf
  simp only [bltL, List.mem_cons, Prod.mk.injEq, List.not_mem_nil, or_false] at hm2
  rcases hm2 with ⟨e1, e2⟩ | ⟨e1, e2⟩ | ⟨e1, e2⟩ | ⟨e1, e2⟩ | ⟨e1, e2⟩ | ⟨e1, e2⟩ | ⟨e1, e2⟩ | ⟨e1, e2⟩ | ⟨e1, e2⟩ | ⟨e1, e2⟩ | ⟨e1, e2⟩ <;> subst e1 e2
  · exact pe_mono (pe_callB cb_len hg hm PySem.boot_len ha (by decide) hdb h1 h2) fun σ H q h => tB_of h
  · exact pe_mono (pe_callB cb_abs hg hm (by decide +kernel) ha (by decide) hdb h1 h2) fun σ H q h => tB_of h
  · exact pe_mono (pe_callTy cb_int hg hm (by decide +kernel) ha (by decide) hdb h1 h2) fun σ H q h => tB_of h
  · exact pe_mono (pe_callTy (cb_list hc) hg hm (by decide +kernel) ha (by decide) hdb h1 h2) fun σ H q h => tB_of h
  · exact pe_mono (pe_callTy cb_tuple hg hm (by decide +kernel) ha (by decide) hdb h1 h2) fun σ H q h => tB_of h
  · exact pe_mono (pe_callB (cb_min hc) hg hm (by decide +kernel) ha (by decide) hdb h1 h2) fun σ H q h => tB_of h
  · exact pe_mono (pe_callB (cb_max hc) hg hm (by decide +kernel) ha (by decide) hdb h1 h2) fun σ H q h => tB_of h
  · exact pe_mono (pe_callB (cb_any hc) hg hm (by decide +kernel) ha (by decide) hdb h1 h2) fun σ H q h => tB_of h
  · exact pe_mono (pe_callB (cb_sorted hu) hg hm (by decide +kernel) ha (by decide) hdb h1 h2) fun σ H q h => tB_of h
  · exact pe_mono (pe_callB (cb_sum hc) hg hm (by decide +kernel) ha (by decide) hdb h1 h2) fun σ H q h => tB_of h
  · exact pe_mono (pe_callTy (cb_dict hc hu) hg hm PyProof.Rows.boot_dict ha (by decide) hdb h1 h2) fun σ H q h => tB_of h
theorem bltK_ok {x : Str} {f : List Sv → Ms → PoE → Prop} (hu : X.A.units + 65 < cLine) (hc : X.calm = true) (hg : Gl X x) (hdb : (x == ("__debug__" : Str)) = false) (hm : X.mg x = none) (hf : bltK.lookup x = some f) (ha : PA X (e :: es) (tA X.K T W ds M (fun vs M1 => f vs M1 Q) E)) (hs : (e :: es).all notStar = true) :
    PE X (.Call (.Name x p) (e :: es) [] pos) (tE X.K T W ds M Q E) := by
  rw [List.all_cons, Bool.and_eq_true] at hs
  have h1 := star_one (es := es) (env := X.env) hs.1
  have h2 := star_all (pos := pos) (env := X.env) hs.2
  have hm2 := lookup_mem hf
  simp only [bltK, List.mem_cons, Prod.mk.injEq, List.not_mem_nil, or_false] at hm2
  rcases hm2 with ⟨e1, e2⟩ | ⟨e1, e2⟩ | ⟨e1, e2⟩ | ⟨e1, e2⟩ | ⟨e1, e2⟩ | ⟨e1, e2⟩ | ⟨e1, e2⟩ | ⟨e1, e2⟩ | ⟨e1, e2⟩ | ⟨e1, e2⟩ | ⟨e1, e2⟩ | ⟨e1, e2⟩ | ⟨e1, e2⟩ <;> subst e1 e2
  · exact pe_mono (pe_callB cb_len hg hm PySem.boot_len ha (by decide) hdb h1 h2) fun σ H q h => tB_of h
  · exact pe_mono (pe_callB cb_abs hg hm (by decide +kernel) ha (by decide) hdb h1 h2) fun σ H q h => tB_of h
  · exact pe_mono (pe_callTy cb_int hg hm (by decide +kernel) ha (by decide) hdb h1 h2) fun σ H q h => tB_of h
  · exact pe_mono (pe_callTy (cb_list hc) hg hm (by decide +kernel) ha (by decide) hdb h1 h2) fun σ H q h => tB_of h
  · exact pe_mono (pe_callTy cb_tuple hg hm (by decide +kernel) ha (by decide) hdb h1 h2) fun σ H q h => tB_of h
  · exact pe_mono (pe_callB (cb_min hc) hg hm (by decide +kernel) ha (by decide) hdb h1 h2) fun σ H q h => tB_of h
  · exact pe_mono (pe_callB (cb_max hc) hg hm (by decide +kernel) ha (by decide) hdb h1 h2) fun σ H q h => tB_of h
  · exact pe_mono (pe_callB (cb_any hc) hg hm (by decide +kernel) ha (by decide) hdb h1 h2) fun σ H q h => tB_of h
  · exact pe_mono (pe_callB (cb_sortedK hu) hg hm (by decide +kernel) ha (by decide) hdb h1 h2) fun σ H q h => tB_of h
  · exact pe_mono (pe_callB (cb_sum hc) hg hm (by decide +kernel) ha (by decide) hdb h1 h2) fun σ H q h => tB_of h
  · exact pe_mono (pe_callTy (cb_dictK hc) hg hm PyProof.Rows.boot_dict ha (by decide) hdb h1 h2) fun σ H q h => tB_of h
  · exact pe_mono (pe_callB cb_isi hg hm (by decide +kernel) ha (by decide) hdb h1 h2) fun σ H q h => tB_of h
  · exact pe_mono (pe_callTy (cb_str hu) hg hm (by decide +kernel) ha (by decide) hdb h1 h2) fun σ H q h => tB_of h
theorem bltG_ok {wk : Bool} {x : Str} {f : List Sv → Ms → PoE → Prop} (hu : X.A.units + 65 < cLine) (hc : X.calm = true) (hg : Gl X x) (hdb : (x == ("__debug__" : Str)) = false) (hm : X.mg x = none) (hf : (bltG wk).lookup x = some f) (ha : PA X (e :: es) (tA X.K T W ds M (fun vs M1 => f vs M1 Q) E)) (hs : (e :: es).all notStar = true) :
    PE X (.Call (.Name x p) (e :: es) [] pos) (tE X.K T W ds M Q E) := by
  cases wk with
  | false => exact blt_ok hu hc hg hdb hm hf ha hs
  | true => exact bltK_ok hu hc hg hdb hm hf ha hs
theorem gcd_ok {x : Str} (hg : Gl X x) (hdb : (x == ("__debug__" : Str)) = false) (hm : X.mg x = some (.builtin "math.gcd")) (ha : PA X (e :: es) (tA X.K T W ds M (fun vs M1 => gcdA vs M1 Q) E)) (hs : (e :: es).all notStar = true) :
    PE X (.Call (.Name x p) (e :: es) [] pos) (tE X.K T W ds M Q E) := by
  rw [List.all_cons, Bool.and_eq_true] at hs
  exact pe_mono (pe_callBfun cb_gcd hg hm ha hdb (star_one hs.1) (star_all hs.2)) fun σ H q h => tB_of h
end
end Cal
/-! WpG -/
namespace Cal
open PySem PySem.Spec PyProof.Rows L2 LamX
section
variable {X : Cx} {T : Tb} {W : WX} {ds : List Sv} {M : Ms} {Q : PoE} {E : Er} {a b e : Expr} {es : List Expr} {pos p : Pos}
/-! ### methods -/
theorem tyL_ok {K : PySem.W.Frag} {v : Sv} {M : Ms} {P : Prop} {G H : Hp} {x : V} (h : tyL v M P) (w : Wt K T M G H) (hv : Vk K G x v) : tyV K "list" x H ∧ P := by
  unfold tyL at h
  split at h
  · obtain ⟨A, rs, C, vs, e, _, h1, h2, _⟩ := atM_lst h.1 w
    have hx' : x = .ref _ := hv
    subst hx'
    exact ⟨.inl ⟨rfl, _, SqL.of h1⟩, h.2⟩
  · exact h.elim
def rM0 (K : PySem.W.Frag) (T : Tb) (f : Sv → Ms → PoE → Prop) : V → List V → Hp → VK → Prop := fun v vs H q => vs = [] ∧ ∃ r M G Q, f r M Q ∧ Wt K T M G H ∧ Vk K G v r ∧ okE K T G Q q
def rM1 (K : PySem.W.Frag) (T : Tb) (f : Sv → Sv → Ms → PoE → Prop) : V → List V → Hp → VK → Prop := fun v vs H q => ∃ u, vs = [u] ∧ ∃ r r1 M G Q, f r r1 M Q ∧ Wt K T M G H ∧ Vk K G v r ∧ Vk K G u r1 ∧ okE K T G Q q
theorem vks_drop {K : PySem.W.Frag} {G : Hp} : ∀ {vs : List V} {rs : List Sv}, Vks K G vs rs → Vks K G vs.dropLast rs.dropLast
  | _, _, .nil => .nil
  | _, _, .cons h .nil => .nil
  | _, _, .cons h (.cons h2 t) => .cons h (vks_drop (.cons h2 t))
theorem mt_pop0 : MtR X "list.pop" (rM0 X.K T popW) := by
  intro pins s σ H x xs v us q J rx rs h
  obtain ⟨rfl, r, M, G, Q, h, w, hv, ok⟩ := h
  unfold popW at h
  split at h
  · obtain ⟨A, rs', C, vs, e, ⟨r, e2, hq⟩, h1, h2, _⟩ := atM_lst h w
    have hx' : x = .ref _ := hv
    subst hx' e
    obtain ⟨y, y1, y2⟩ := vks_at h2 e2
    exact mt_pop pins s σ H _ _ v us q J rx rs ⟨_, vs, y, rfl, rfl, h1, by rw [h2.len]; exact y1, ok _ _ _ G _ hq (Same.refl _) (w.mput (m' := .lst _) (vks_drop h2)) y2⟩
  · exact h.elim
theorem mt_app1 : MtR X "list.append" (rM1 X.K T appendW) := by
  intro pins s σ H x xs v us q J rx rs h
  obtain ⟨u, rfl, r, r1, M, G, Q, h, w, hv, hu, ok⟩ := h
  unfold appendW at h
  split at h
  · obtain ⟨A, rs', C, vs, e, ⟨hz, hq⟩, h1, h2, _⟩ := atM_lst h w
    have hx' : x = .ref _ := hv
    subst hx' e
    exact mt_append pins s σ H _ _ v us q J rx rs ⟨_, vs, u, rfl, rfl, h1, by rw [h2.len]; exact small1000 hz, ok (.dat .none) _ _ G _ hq (Same.refl _) (w.mput (m' := .lst _) (h2.app (.cons hu .nil))) Dp.non⟩
  · exact h.elim
theorem mt_ext1 : MtR X "list.extend" (rM1 X.K T extendW) := by
  intro pins s σ H x xs v us q J rx rs h
  obtain ⟨u, rfl, r, r1, M, G, Q, h, w, hv, hu, ok⟩ := h
  unfold extendW at h
  split at h
  · obtain ⟨_, zs, _, ws, _, h, h3, h4, _⟩ := atM_lst h w
    obtain ⟨A, rs', C, vs, e, ⟨hz, hq⟩, h1, h2, _⟩ := atM_lst h w
    have hx' : x = .ref _ := hv
    have hu' : u = .ref _ := hu
    subst hx' hu' e
    exact mt_extend pins s σ H _ _ v us q J rx rs ⟨_, _, vs, ws, rfl, rfl, h1, h3, by rw [h2.len, h4.len]; exact Nat.le_of_lt (small1000 hz), ok (.dat .none) _ _ G _ hq (Same.refl _) (w.mput (m' := .lst _) (h2.app h4)) Dp.non⟩
  · exact h.elim
theorem base_ok {o : Expr} {m : Str} {env : Env} (h : plainBase o = true) : attributeBase o m env (eval o env) = eval o env := by
  cases o with
  | Call f es ks p =>
    cases es with
    | nil => cases h
    | cons e es => cases f <;> rfl
  | _ => rfl
theorem m0_ok {m : Str} {ap cp : Pos} {f : Sv → Ms → PoE → Prop} {o : Expr} (hb : plainBase o = true) (hl : (ap.endLine == cp.line) = true) (hf : mtL0.lookup m = some f) (ho : PE X o (tE X.K T W ds M (fun v M1 => tyL v M1 (f v M1 Q)) E)) : PE X (.Call (.Attribute o m ap) [] [] cp) (tE X.K T W ds M Q E) := by
  have hm2 := lookup_mem hf
  simp only [mtL0, List.mem_cons, Prod.mk.injEq, List.not_mem_nil, or_false] at hm2
  obtain ⟨e1, e2⟩ := hm2
  subst e1 e2
  refine pe_mono (pe_bm0 PySem.F.plainAttrs_list PySem.F.slot_list_pop PySem.F.type_list_pop (mt_pop0 (T := T)) ho (base_ok hb) hl) fun σ H q ⟨G, w, s, ok, er⟩ => ⟨G, w, s, fun v M1 x G1 H1 h sg w1 hx => ?_, er⟩
  obtain ⟨ty, h⟩ := tyL_ok h w1 hx
  exact ⟨ty, rfl, v, M1, G1, Q, h, w1, hx, ok.up sg⟩
theorem m1_ok {m : Str} {ap cp : Pos} {f : Sv → Sv → Ms → PoE → Prop} {o : Expr} {P : Sv → Ms → Prop} (hs : notStar e = true) (hb : plainBase o = true) (hl : (ap.endLine == cp.line) = true) (hf : mtL1.lookup m = some f) (ho : PE X o (tE X.K T W ds M (fun v M1 => tyL v M1 (P v M1)) E))
    (he : ∀ v M1, P v M1 → PE X e (tE X.K T W ds M1 (fun u M2 => f v u M2 Q) E)) : PE X (.Call (.Attribute o m ap) [e] [] cp) (tE X.K T W ds M Q E) := by
  have hm2 := lookup_mem hf
  simp only [mtL1, List.mem_cons, Prod.mk.injEq, List.not_mem_nil, or_false] at hm2
  have h1 := star_one (es := []) (env := X.env) hs
  rcases hm2 with ⟨e1, e2⟩ | ⟨e1, e2⟩ <;> subst e1 e2
  · have ha := pa_cons (pe_sec (X := X) (T := T) (W := W) (ds := ds) (E := E) (P := P) (Qf := fun v u M2 => appendW v u M2 Q) he) pa_nil (star_one hs)
    refine pe_mono (pe_bm PySem.F.plainAttrs_list PySem.F.slot_list_append PySem.F.type_list_append (mt_app1 (T := T)) ho ha (base_ok hb) (by rw [h1]; rfl) hl h1 rfl) fun σ H q ⟨G, w, s, ok, er⟩ => ⟨G, w, s, fun v M1 x G1 H1 h sg w1 hx => ?_, er⟩
    obtain ⟨ty, h⟩ := tyL_ok h w1 hx
    exact ⟨ty, (v, M1), h, G1, w1, s.up sg, fun u M2 y G2 H2 hf sg2 w2 hy => ⟨y, rfl, v, u, M2, G2, Q, hf, w2, hx.up sg2, hy, ok.up (sg.trans sg2)⟩, er.up sg⟩
  · have ha := pa_cons (pe_sec (X := X) (T := T) (W := W) (ds := ds) (E := E) (P := P) (Qf := fun v u M2 => extendW v u M2 Q) he) pa_nil (star_one hs)
    refine pe_mono (pe_bm PySem.F.plainAttrs_list PySem.F.slot_list_extend PySem.F.type_list_extend (mt_ext1 (T := T)) ho ha (base_ok hb) (by rw [h1]; rfl) hl h1 rfl) fun σ H q ⟨G, w, s, ok, er⟩ => ⟨G, w, s, fun v M1 x G1 H1 h sg w1 hx => ?_, er⟩
    obtain ⟨ty, h⟩ := tyL_ok h w1 hx
    exact ⟨ty, (v, M1), h, G1, w1, s.up sg, fun u M2 y G2 H2 hf sg2 w2 hy => ⟨y, rfl, v, u, M2, G2, Q, hf, w2, hx.up sg2, hy, ok.up (sg.trans sg2)⟩, er.up sg⟩
end
/-! ### targets -/
def tGx (K : PySem.W.Frag) (T : Tb) (r : Sv) (ds : List Sv) (Qg : List Sv → Prop) (ts : List Nat) : TG := fun v σ H q => ∃ M G, Wt K T M G H ∧ Sl K G σ ds ∧ Vk K G v r ∧ ∀ ds' σ', Qg ds' → Sl K G σ' ds' → Chg ts σ σ' → q σ' H
def tGxs (K : PySem.W.Frag) (T : Tb) (rs : List Sv) (ds : List Sv) (Qg : List Sv → Prop) (ts : List Nat) : TGs := fun vs σ H q => ∃ M G, Wt K T M G H ∧ Sl K G σ ds ∧ Vks K G vs rs ∧ ∀ ds' σ', Qg ds' → Sl K G σ' ds' → Chg ts σ σ' → q σ' H
theorem pgs_ex {X : Cx} {es : List Expr} {ι : Type} {p : ι → Prop} {t : ι → TGs} (h : ∀ i, p i → PGs X es (t i)) : PGs X es (fun v σ H Q => ∃ i, p i ∧ t i v σ H Q) := ⟨fun pins s σ H v u Q I r ⟨i, hp, q⟩ => (h i hp).run pins s σ H v u Q I r q⟩
theorem asg_one {e : Expr} {es : List Expr} {env : Env} (h : notStar e = true) : assignEach (e :: es) env = (false, assign e env) :: assignEach es env := by
  cases e <;> first | rfl | cases h
theorem asg_all {env : Env} : ∀ {es : List Expr}, es.all notStar = true → (assignEach es env).length = es.length ∧ (assignEach es env).findIdx? (·.1) = none
  | [], _ => ⟨rfl, rfl⟩
  | e :: es, h => by
    rw [List.all_cons, Bool.and_eq_true] at h
    obtain ⟨h1, h2⟩ := asg_all (env := env) h.2
    rw [asg_one h.1]
    refine ⟨by rw [List.length_cons, List.length_cons, h1], ?_⟩
    rw [List.findIdx?_cons, h2]
    rfl
structure Xn (S : Sc) (X : Cx) : Prop where
  N : X.N = S.N
  sc : X.env.scope = S.sc
  fn : ∀ x, S.fn x = true → X.fn x = true
  nd : X.N.Nodup
  calm : X.calm = true
theorem Xo.n {g : Gi} {S : Sc} {X : Cx} {W : WX} (o : Xo g S X W) : Xn S X := ⟨o.N, o.sc, o.fn, o.nd, o.calm⟩
section
variable {S : Sc} {X : Cx} {T : Tb}
theorem wpGL_ok (o : Xn S X) {f : Expr → Sv → List Sv → (List Sv → Prop) → Prop} {tg : Expr → List Nat} (hf : ∀ e r ds Q, f e r ds Q → PG X e (tGx X.K T r ds Q (tg e))) : ∀ {es : List Expr} {xs : List D} {ds : List Sv} {Q : List Sv → Prop}, es.all notStar = true → wpGL f es xs ds Q → PGs X es (tGxs X.K T (dats xs) ds Q ((es.map tg).flatten))
  | [], [], ds, Q, _, h => pgs_mono pgs_nil fun vs σ H q ⟨M, G, w, s, hv, k⟩ => ⟨by cases hv; rfl, k ds σ h s fun _ _ => rfl⟩
  | [], _ :: _, ds, Q, _, h => h.elim
  | _ :: _, [], ds, Q, _, h => h.elim
  | e :: es, x :: xs, ds, Q, hs, h => by
    rw [List.all_cons, Bool.and_eq_true] at hs
    refine pgs_mono (pgs_cons (hf e (.dat x) ds _ h) (pgs_ex (ι := List Sv) (p := fun ds1 => wpGL f es xs ds1 Q) (t := fun ds1 => tGxs X.K T (dats xs) ds1 Q ((es.map tg).flatten)) fun ds1 h1 => wpGL_ok o hf hs.2 h1) (by rw [asg_one hs.1]; rfl)) fun vs σ H q ⟨M, G, w, s, hv, k⟩ => ?_
    cases hv with
    | cons hv1 hv2 =>
      refine ⟨_, _, rfl, M, G, w, s, hv1, fun ds1 σ1 h1 s1 c1 => ⟨ds1, h1, M, G, w, s1, hv2, fun ds2 σ2 h2 s2 c2 => k ds2 σ2 h2 s2 fun us hu => ?_⟩⟩
      exact (c2 us fun t ht => hu t (by rw [List.map_cons, List.flatten_cons]; exact List.mem_append_right _ ht)).trans (c1 us fun t ht => hu t (by rw [List.map_cons, List.flatten_cons]; exact List.mem_append_left _ ht))
theorem wpG_ok (o : Xn S X) : ∀ (n : Nat) (e : Expr) (r : Sv) (ds : List Sv) (Q : List Sv → Prop), wpG S n e r ds Q → PG X e (tGx X.K T r ds Q (tgSl S n e)) := by
  intro n
  induction n with
  | zero => intro e r ds Q h; unfold wpG at h; exact h.elim
  | succ n ih =>
    intro e r ds Q h
    unfold wpG at h
    split at h
    · cases ‹_ = _›
    · rename_i m x ps e1
      cases e1
      split at h
      · rename_i i hi
        obtain ⟨h1, h2, h3⟩ := slotL_ok hi
        have et : tgSl S (n + 1) (.Name x ps) = [i] := by
          unfold tgSl
          rw [hi]
        rw [et]
        refine pg_mono (pg_name (i := i) o.nd (by rw [o.N]; exact h1) (by rw [o.sc]; exact h2) (by rw [o.sc]; exact h3.imp (o.fn x) id)) fun v σ H q ⟨M, G, w, s, hv, k⟩ => k _ _ (by rw [setK_eq] at h; exact h) (s.set i hv) fun vs hvs => (wipe_put vs).1 (hvs i (by simp))
      · exact h.elim
    · rename_i m es k ps xs e1
      cases e1
      split at h
      · rename_i hc
        simp only [Bool.and_eq_true, decide_eq_true_eq] at hc
        obtain ⟨a1, a2⟩ := asg_all (env := X.env) hc.1
        have hh := wpGL_ok (T := T) o ih hc.1 h
        refine pg_mono (pg_tup o.calm hh a1 a2) fun v σ H q ⟨M, G, w, s, hv, k⟩ => ?_
        obtain ⟨p, vs, e, h1, h2⟩ := vk_tup hv
        exact ⟨p, vs, e, seqT w.w.ex h1, by rw [dps_len h2]; exact hc.2.symm, M, G, w, s, dps_vks h2, k⟩
      · exact h.elim
    · rename_i m es k ps xs e1
      cases e1
      split at h
      · rename_i hc
        simp only [Bool.and_eq_true, decide_eq_true_eq] at hc
        obtain ⟨a1, a2⟩ := asg_all (env := X.env) hc.1
        have hh := wpGL_ok (T := T) o ih hc.1 h
        refine pg_mono (pg_unl o.calm hh a1 a2) fun v σ H q ⟨M, G, w, s, hv, k⟩ => ?_
        obtain ⟨p, vs, e, h1, h2⟩ := vk_lst hv
        exact ⟨p, vs, e, w.w.ex.seq h1, by rw [dps_len h2]; exact hc.2.symm, M, G, w, s, dps_vks h2, k⟩
      · exact h.elim
    · exact h.elim
end
end Cal
/-! WpH -/
namespace Cal
open PySem PySem.Spec PyProof.Rows L2 LamX
/-! ### what is gone through -/
structure Src (K : PySem.W.Frag) (T : Tb) (J : It) (G1 : Hp) (rs : List Sv) (Kp : Ms → Prop) : Prop where
  go : ∀ i M G H, i < rs.length → Same G1 G → Wt K T M G H → Kp M → J.go i H
  stop : ∀ M G H, Same G1 G → Wt K T M G H → Kp M → J.stop rs.length H
  yld : ∀ i M G H x H', i < rs.length → Same G1 G → Wt K T M G H → Kp M → J.yld i H x H' → ∃ G' r, rs[i]? = some r ∧ Same G G' ∧ Wt K T M G' H' ∧ Vk K G' x r
  up : ∀ p M, Kp M → Kp (p :: M) := by exact fun _ _ h => h
def tI (K : PySem.W.Frag) (T : Tb) (W : WX) (ds : List Sv) (M : Ms) (Q : PoI) (E : Er) : TI := fun σ H R => ∃ G, Wt K T M G H ∧ Sl K G σ ds ∧ (∀ rs Kp M' G1 H1 J, Q rs Kp M' → Same G G1 → Wt K T M' G1 H1 → Src K T J G1 rs Kp → R J H1) ∧ erE K T G E W
section
variable {K : PySem.W.Frag} {T : Tb} {G1 : Hp} {a : Addr}
theorem dats_get {xs : List D} {i : Nat} {d : D} (h : xs[i]? = some d) : (dats xs)[i]? = some (.dat d) := by
  unfold dats
  rw [List.getElem?_map, h]
  rfl
theorem dats_len (xs : List D) : (dats xs).length = xs.length := by unfold dats; rw [List.length_map]
theorem src_list {vs : List V} {xs : List D} (h1 : SqL K G1 a vs) (h2 : DpAll K G1 vs xs) : Src K T (Itl K a) G1 (dats xs) (fun _ => True) where
  go := fun i M G H hi sg w _ => by
    rw [dats_len, ← dps_len h2] at hi
    exact ⟨vs, vs[i], (sg.trans w.w.ex).seq h1, List.getElem?_eq_getElem hi⟩
  stop := fun M G H sg w _ => ⟨vs, (sg.trans w.w.ex).seq h1, by rw [dats_len, dps_len h2]; exact Nat.le_refl _⟩
  yld := fun i M G H x H' hi sg w _ ⟨e, hy⟩ => by
    subst e
    rw [dats_len] at hi
    obtain ⟨v, e1, e2⟩ := dps_get h2 (List.getElem?_eq_getElem hi)
    have e3 := hy vs ((sg.trans w.w.ex).seq h1)
    rw [e1] at e3
    cases e3
    exact ⟨G, _, dats_get (List.getElem?_eq_getElem hi), Same.refl _, w, dpUp sg _ e2⟩
theorem src_tup {vs : List V} {xs : List D} (h1 : SqT K G1 a vs) (h2 : DpAll K G1 vs xs) : Src K T (Itt K a) G1 (dats xs) (fun _ => True) where
  go := fun i M G H hi sg w _ => by
    rw [dats_len, ← dps_len h2] at hi
    exact ⟨vs, vs[i], seqT (sg.trans w.w.ex) h1, List.getElem?_eq_getElem hi⟩
  stop := fun M G H sg w _ => ⟨vs, seqT (sg.trans w.w.ex) h1, by rw [dats_len, dps_len h2]; exact Nat.le_refl _⟩
  yld := fun i M G H x H' hi sg w _ ⟨e, hy⟩ => by
    subst e
    rw [dats_len] at hi
    obtain ⟨v, e1, e2⟩ := dps_get h2 (List.getElem?_eq_getElem hi)
    have e3 := hy vs (seqT (sg.trans w.w.ex) h1)
    rw [e1] at e3
    cases e3
    exact ⟨G, _, dats_get (List.getElem?_eq_getElem hi), Same.refl _, w, dpUp sg _ e2⟩
theorem src_raw {rs : List Sv} : Src K T (Itl K a) G1 rs (fun M => ∃ A C, M = A ++ (a, .lst rs) :: C) where
  go := fun i M G H hi sg w ⟨A, C, e⟩ => by
    subst e
    obtain ⟨vs, h1, h2, _⟩ := w.lst
    rw [← h2.len] at hi
    exact ⟨vs, vs[i], SqL.of h1, List.getElem?_eq_getElem hi⟩
  stop := fun M G H sg w ⟨A, C, e⟩ => by
    subst e
    obtain ⟨vs, h1, h2, _⟩ := w.lst
    exact ⟨vs, SqL.of h1, by rw [h2.len]; exact Nat.le_refl _⟩
  yld := fun i M G H x H' hi sg w ⟨A, C, e⟩ ⟨e2, hy⟩ => by
    subst e e2
    obtain ⟨vs, h1, h2, _⟩ := w.lst
    obtain ⟨v, z1, z2⟩ := vks_at h2 (List.getElem?_eq_getElem hi)
    have e3 := hy vs (SqL.of h1)
    rw [z1] at e3
    cases e3
    exact ⟨G, _, List.getElem?_eq_getElem hi, Same.refl _, w, z2⟩
  up := fun p M ⟨A, C, e⟩ => ⟨p :: A, C, by rw [e]; rfl⟩
theorem fk_at {M : Ms} {A C : Ms} {G H : Hp} {l : Addr} {od : Obj} {kvs : List (L2.Key × V)} {es : List (L2.Key × Sv)} (w : Wt K T (A ++ (l, .fk od kvs es) :: C) G H) : H l = some (.frz od (.dK kvs)) ∧ Kvs K G kvs es := by
  obtain ⟨⟨o, h1, h2⟩, h3⟩ := w.w.mu (l, .fk od kvs es) (List.mem_append_right _ List.mem_cons_self)
  obtain ⟨e2, h4⟩ := h2.fk_of
  rw [e2] at h1
  exact ⟨h1, h4⟩
theorem keys_at {es : List (L2.Key × Sv)} {i : Nat} {p : L2.Key × Sv} (h : es[i]? = some p) : (dats (es.map fun p => keyS p.1))[i]? = some (.dat (keyS p.1)) := by
  unfold dats
  rw [List.getElem?_map, List.getElem?_map, h]
  rfl
theorem src_keys {od : Obj} {kvs : List (L2.Key × V)} {es : List (L2.Key × Sv)} : Src K T (Itk a od kvs) G1 (dats (es.map fun p => keyS p.1)) (fun M => ∃ A C, M = A ++ (a, .fk od kvs es) :: C) where
  go := fun i M G H hi sg w ⟨A, C, e⟩ => by
    subst e
    obtain ⟨h1, h2⟩ := fk_at (M := []) w
    rw [dats_len, List.length_map, ← h2.len] at hi
    exact ⟨h1, hi⟩
  stop := fun M G H sg w ⟨A, C, e⟩ => by
    subst e
    obtain ⟨h1, h2⟩ := fk_at (M := []) w
    exact ⟨h1, by rw [dats_len, List.length_map, h2.len]; exact Nat.le_refl _⟩
  yld := fun i M G H x H' hi sg w ⟨A, C, e⟩ ⟨e2, k, v, hk, hx⟩ => by
    subst e e2
    obtain ⟨h1, h2⟩ := fk_at (M := []) w
    obtain ⟨p, hp, e3, _⟩ := paired_get h2 hk
    have e3 : k = p.1 := e3
    subst e3
    refine ⟨G, _, keys_at hp, Same.refl _, w, ?_⟩
    rw [hx]
    cases p.1 with
    | inl i => exact Dp.int i
    | inr z => exact Dp.str z
  up := fun p M ⟨A, C, e⟩ => ⟨p :: A, C, by rw [e]; rfl⟩
theorem items_at : ∀ {es : List (L2.Key × Sv)} {xs : List D} {i : Nat} {p : L2.Key × Sv}, itemsD es = some xs → es[i]? = some p → ∃ d, p.2 = .dat d ∧ xs[i]? = some (.tuple [keyS p.1, d])
  | [], _, _, _, _, h => by simp at h
  | q :: es, xs, i, p, h, e => by
    unfold itemsD at h
    split at h
    · rename_i d xs' e1 e2
      cases h
      cases i with
      | zero =>
        simp at e
        subst e
        exact ⟨d, e1, rfl⟩
      | succ i =>
        simp only [List.getElem?_cons_succ] at e ⊢
        exact items_at e2 e
    · cases h
theorem items_len : ∀ {es : List (L2.Key × Sv)} {xs : List D}, itemsD es = some xs → xs.length = es.length
  | [], _, h => by cases h; rfl
  | q :: es, xs, h => by
    unfold itemsD at h
    split at h
    · rename_i d xs' e1 e2
      cases h
      rw [List.length_cons, List.length_cons, items_len e2]
    · cases h
theorem keyV {K : PySem.W.Frag} {G : Hp} (k : L2.Key) : Dp K G (kV k) (keyS k) := by
  cases k with
  | inl i => exact Dp.int i
  | inr z => exact Dp.str z
theorem src_items {od : Obj} {kvs : List (L2.Key × V)} {es : List (L2.Key × Sv)} {xs : List D} (hx : itemsD es = some xs) : Src K T (Iti a od kvs) G1 (dats xs) (fun M => ∃ A C, M = A ++ (a, .fk od kvs es) :: C) where
  go := fun i M G H hi sg w ⟨A, C, e⟩ => by
    subst e
    obtain ⟨h1, h2⟩ := fk_at (M := []) w
    rw [dats_len, items_len hx, ← h2.len] at hi
    exact ⟨h1, hi⟩
  stop := fun M G H sg w ⟨A, C, e⟩ => by
    subst e
    obtain ⟨h1, h2⟩ := fk_at (M := []) w
    exact ⟨h1, by rw [dats_len, items_len hx, h2.len]; exact Nat.le_refl _⟩
  yld := fun i M G H x H' hi sg w ⟨A, C, e⟩ ⟨P, k, v, hk, hy, hn, e2⟩ => by
    subst e hy e2
    obtain ⟨h1, h2⟩ := fk_at (M := []) w
    obtain ⟨p, hp, e3, hv⟩ := paired_get h2 hk
    have e3 : k = p.1 := e3
    subst e3
    obtain ⟨d, ed, hd⟩ := items_at hx hp
    have hv : Vk K G v p.2 := hv
    rw [ed] at hv
    obtain ⟨g, w2⟩ := w.new hn (.tup [kV p.1, v])
    exact ⟨_, _, dats_get hd, g, w2, Dp.tup (SqT.of upd_same) (.cons (keyV p.1) (.cons (dpUp g _ hv) .nil))⟩
  up := fun p M ⟨A, C, e⟩ => ⟨p :: A, C, by rw [e]; rfl⟩
theorem rng_get {i : Int} {n k : Nat} (h : k < n) : (rngS i n)[k]? = some (I (i + (k : Nat))) := by
  unfold rngS
  rw [List.getElem?_map, List.getElem?_range h]
  rfl
theorem rng_len {i : Int} {n : Nat} : (rngS i n).length = n := by unfold rngS; rw [List.length_map, List.length_range]
theorem src_rng {i : Int} {n : Nat} : Src K T (Itr i n) G1 (rngS i n) (fun _ => True) where
  go := fun k M G H hk sg w _ => by rw [rng_len] at hk; exact hk
  stop := fun M G H sg w _ => by rw [rng_len]; exact Nat.le_refl _
  yld := fun k M G H x H' hk sg w _ ⟨e, hy⟩ => by
    subst e hy
    rw [rng_len] at hk
    exact ⟨G, _, rng_get hk, Same.refl _, w, Dp.int _⟩
theorem enu_len {xs : List D} : (enuS xs).length = xs.length := by unfold enuS; rw [List.length_map, List.length_range]
theorem enu_get {xs : List D} {k : Nat} {d : D} (h : xs[k]? = some d) : (enuS xs)[k]? = some (.dat (.tuple [.int (k : Nat), d])) := by
  unfold enuS
  have hk := (List.getElem?_eq_some_iff.mp h).1
  have e : xs.getD k .none = d := by rw [List.getD_eq_getElem?_getD, h]; rfl
  rw [List.getElem?_map, List.getElem?_range hk, ← e]
  rfl
theorem src_enuL {vs : List V} {xs : List D} (h1 : SqL K G1 a vs) (h2 : DpAll K G1 vs xs) : Src K T (Ite K a) G1 (enuS xs) (fun _ => True) where
  go := fun i M G H hi sg w _ => by
    rw [enu_len, ← dps_len h2] at hi
    exact ⟨vs, vs[i], (sg.trans w.w.ex).seq h1, List.getElem?_eq_getElem hi⟩
  stop := fun M G H sg w _ => ⟨vs, (sg.trans w.w.ex).seq h1, by rw [enu_len, dps_len h2]; exact Nat.le_refl _⟩
  yld := fun i M G H x H' hi sg w _ ⟨P, y, e1, hn, e2, hy⟩ => by
    subst e1 e2
    rw [enu_len] at hi
    obtain ⟨v, z1, z2⟩ := dps_get h2 (List.getElem?_eq_getElem hi)
    have e3 := hy vs ((sg.trans w.w.ex).seq h1)
    rw [z1] at e3
    cases e3
    obtain ⟨g, w2⟩ := w.new hn (.tup [.int (i : Nat), y])
    exact ⟨_, _, enu_get (List.getElem?_eq_getElem hi), g, w2, Dp.tup (SqT.of upd_same) (.cons (.int _) (.cons (dpUp (sg.trans g) _ z2) .nil))⟩
end
section
variable {X : Cx} {T : Tb} {W : WX} {ds : List Sv} {M : Ms} {E : Er} {tg a b e : Expr} {es : List Expr} {pos p : Pos}
/-- by what a value is: one of two ways of going through -/
theorem pi_or {wi wi' : TI} {it : Expr} (h : PI X tg it wi) (h' : PI X tg it wi') : PI X tg it (fun σ H R => wi σ H R ∨ wi' σ H R) := ⟨fun pins s σ H R I q => by
  rcases q with q | q
  · exact h.run pins s σ H R I q
  · exact h'.run pins s σ H R I q⟩
theorem pi_mono {wi wi' : TI} {it : Expr} (h : PI X tg it wi) (k : ∀ σ H R, wi' σ H R → wi σ H R) : PI X tg it wi' := ⟨fun pins s σ H R I q => h.run pins s σ H R I (k σ H R q)⟩
def iSeq (K : PySem.W.Frag) (tl : TE) : TI := fun σ H R => tl σ H fun x H1 => ∃ a, x = .ref a ∧ ((∃ xs, SqL K H1 a xs ∧ R (Itl K a) H1) ∨ (∃ xs, SqT K H1 a xs ∧ R (Itt K a) H1) ∨ ∃ o kvs, H1 a = some (.frz o (.dK kvs)) ∧ R (Itk a o kvs) H1)
theorem pi_seq {l : Expr} {tl : TE} (hl : PE X l tl) : PI X tg l (iSeq X.K tl) := by
  refine ⟨fun pins s σ H R J h => ?_⟩
  refine thn (hl.run pins s σ H _ J h) fun v s1 ⟨x, H1, I1, r1, q1⟩ => ?_
  obtain ⟨a, e, ⟨xs, hq, q⟩ | ⟨xs, hq, q⟩ | ⟨o, kvs, hq, q⟩⟩ := q1
  · subst e
    cases r1
    obtain ⟨its, rv, p, hz⟩ := I1.list hq
    refine wpAny_pyIter_list p.isList ?_
    refine ⟨s1.heap.objs.size, [s1.heap.objs.size], _, _, H1, rfl, I1.kept (t' := s1.toks) fun b o e => Heap.get?_push_of_some _ e, turn_list a _, ⟨_, Heap.get?_push_size _ rfl, rfl, rfl⟩, fun b hb => ?_, q⟩
    have e : b = s1.heap.objs.size := by simpa using hb
    subst e
    exact I1.fpOk (Nat.le_refl _) (I1.hok.fresh (Nat.le_refl _))
  · subst e
    cases r1
    obtain ⟨its, rv, p, hz⟩ := I1.tuple hq
    refine wpAny_pyIter_tuple (show s1.heap.IsTuple a its.toArray from p) ?_
    refine ⟨s1.heap.objs.size, [s1.heap.objs.size], _, _, H1, rfl, I1.kept (t' := s1.toks) fun b o e => Heap.get?_push_of_some _ e, turn_tuple a _, ⟨_, Heap.get?_push_size _ rfl, rfl, rfl⟩, fun b hb => ?_, q⟩
    have e : b = s1.heap.objs.size := by simpa using hb
    subst e
    exact I1.fpOk (Nat.le_refl _) (I1.hok.fresh (Nat.le_refl _))
  · subst e
    cases r1
    obtain ⟨hs, hgd, hx, es, ep, vs, hdt, hsz, kv, hm⟩ := I1.frzK hq
    refine iter_keys hs hgd hx hdt (pi_one (tk := s1.toks) I1 _ (turn_keys _ hdt) ⟨_, Heap.get?_push_size _ rfl, rfl, ?_⟩ q)
    rw [hsz] <;> rfl
theorem pi_val {Q : PoI} (h : PE X e (tE X.K T W ds M (fun v M1 => itW v M1 Q) E)) : PI X tg e (tI X.K T W ds M Q E) := pi_mono (pi_seq h) fun σ H R ⟨G, w, s, k, er⟩ => ⟨G, w, s, fun v M' x G1 H1 hi sg w1 hx => by
  have hi : itW v M' Q := hi
  unfold itW at hi
  split at hi
  · obtain ⟨p, vs, rfl, h1, h2⟩ := vk_lst hx
    exact ⟨p, rfl, .inl ⟨vs, w1.w.ex.seq h1, k _ _ _ _ _ _ hi sg w1 (src_list h1 h2)⟩⟩
  · obtain ⟨p, vs, rfl, h1, h2⟩ := vk_tup hx
    exact ⟨p, rfl, .inr (.inl ⟨vs, seqT w1.w.ex h1, k _ _ _ _ _ _ hi sg w1 (src_tup h1 h2)⟩)⟩
  · obtain ⟨A, rs, C, vs, e, h3, h1, h2, _⟩ := atM_lst hi w1
    have hx' : x = .ref _ := hx
    subst hx'
    exact ⟨_, rfl, .inl ⟨vs, SqL.of h1, k _ _ _ _ _ _ h3 sg w1 src_raw⟩⟩
  · obtain ⟨A, od, kvs, es, C, e, h3⟩ := hi
    have hx' : x = .ref _ := hx
    subst hx'
    have w2 := w1
    rw [e] at w2
    obtain ⟨h1, h2⟩ := fk_at (M := []) w2
    exact ⟨_, rfl, .inr (.inr ⟨od, kvs, h1, k _ _ _ _ _ _ h3 sg w1 src_keys⟩)⟩
  · exact hi.elim, er⟩
theorem pi_itm {o : Expr} {ap cp : Pos} {Q : PoI} (ht : isTupE tg = true) (hp : plainBase o = true) (hl : (ap.endLine == cp.line) = true) (h : PE X o (tE X.K T W ds M (fun v M1 => itmW v M1 Q) E)) : PI X tg (.Call (.Attribute o "items" ap) [] [] cp) (tI X.K T W ds M Q E) := by
  cases tg with
  | Tuple elts kk tpos =>
    refine pi_mono (pi_items h (base_ok hp) hl) fun σ H R ⟨G, w, s, k, er⟩ => ⟨G, w, s, fun v M' x G1 H1 hi sg w1 hx => ?_, er⟩
    have hi : itmW v M' Q := hi
    unfold itmW at hi
    split at hi
    · obtain ⟨A, od, kvs, es, C, xs, e, hxs, h3⟩ := hi
      have hx' : x = .ref _ := hx
      subst hx'
      have w2 := w1
      rw [e] at w2
      obtain ⟨h1, h2⟩ := fk_at (M := []) w2
      exact ⟨_, od, kvs, rfl, h1, k _ _ _ _ _ _ h3 sg w1 (src_items hxs)⟩
    · exact hi.elim
  | _ => cases ht
theorem pi_r1 {Q : PoI} (hg : Gl X "range") (hm : X.mg "range" = none) (hs : notStar a = true) (h : PE X a (tE X.K T W ds M (fun v M1 => intW v fun j => rgP j ∧ Q (rngS 0 j.toNat) (fun _ => True) M1) E)) : PI X tg (.Call (.Name "range" p) [a] [] pos) (tI X.K T W ds M Q E) :=
  pi_mono (pi_range1 hg hm (pa_cons h pa_nil (star_one hs)) (by rw [star_one hs]; rfl)) fun σ H R ⟨G, w, s, k, er⟩ => ⟨G, w, s, fun v M' x G1 H1 hi sg w1 hx => by
    have hi : intW v (fun j => rgP j ∧ Q (rngS 0 j.toNat) (fun _ => True) M') := hi
    unfold intW at hi
    split at hi
    · cases vk_int hx
      exact ⟨_, rfl, hi.1.1, hi.1.2, k _ _ _ _ _ _ hi.2 sg w1 src_rng⟩
    · exact hi.elim, er⟩
theorem pi_r2 {Q : PoI} {P : Sv → Ms → Prop} (hg : Gl X "range") (hm : X.mg "range" = none) (hs : notStar a = true) (hs2 : notStar b = true) (h : PE X a (tE X.K T W ds M P E))
    (h2 : ∀ v M1, P v M1 → PE X b (tE X.K T W ds M1 (fun u M2 => intW v fun i => intW u fun j => rgP i ∧ rgP j ∧ Q (rngS i (j - i).toNat) (fun _ => True) M2) E)) : PI X tg (.Call (.Name "range" p) [a, b] [] pos) (tI X.K T W ds M Q E) :=
  pi_mono (pi_range2 hg hm (pa_cons h (pa_cons (pe_sec (P := P) (Qf := fun v u M2 => intW v fun i => intW u fun j => rgP i ∧ rgP j ∧ Q (rngS i (j - i).toNat) (fun _ => True) M2) h2) pa_nil (star_one hs2)) (star_one hs)) (by rw [star_one hs, star_one hs2]; rfl) (by rw [star_one hs2]; rfl)) fun σ H R ⟨G, w, s, k, er⟩ =>
    ⟨G, w, s, fun v M' x G1 H1 hi sg w1 hx => ⟨(v, M'), hi, G1, w1, s.up sg, fun u M2 y G2 H2 hi2 sg2 w2 hy => by
      have hx2 := hx.up sg2
      have hi2 : intW v (fun i => intW u fun j => rgP i ∧ rgP j ∧ Q (rngS i (j - i).toNat) (fun _ => True) M2) := hi2
      unfold intW at hi2
      split at hi2
      · split at hi2
        · cases vk_int hx2
          cases vk_int hy
          exact ⟨_, _, rfl, ⟨hi2.1.1, hi2.1.2, hi2.2.1.1, hi2.2.1.2⟩, k _ _ _ _ _ _ hi2.2.2 (sg.trans sg2) w2 src_rng⟩
        · exact hi2.elim
      · exact hi2.elim, er.up sg⟩, er⟩
end
end Cal
/-! WpI -/
namespace Cal
open PySem PySem.Spec PyProof.Rows L2 LamX
structure WOk (g : Gi) (U : Wps) : Prop where
  E : ∀ {S : Sc} {X : Cx} {W : WX} {e : Expr} {ds : List Sv} {M : Ms} {Q : PoE} {Er' : Er}, Xo g S X W → U.E S e ds M Q Er' → PE X e (tE X.K g.T W ds M Q Er')
  T : ∀ {S : Sc} {X : Cx} {W : WX} {e : Expr} {ds : List Sv} {M : Ms} {Q : PoT} {Er' : Er}, Xo g S X W → U.T S e ds M Q Er' → PT X e (tT X.K g.T W ds M Q Er')
  I : ∀ {S : Sc} {X : Cx} {W : WX} {tg e : Expr} {ds : List Sv} {M : Ms} {Q : PoI} {Er' : Er}, Xo g S X W → U.I S tg e ds M Q Er' → PI X tg e (tI X.K g.T W ds M Q Er')
abbrev W0 : WX := fun _ _ _ _ => False
theorem erE0 {K : PySem.W.Frag} {T : Tb} {G : Hp} : erE K T G noE W0 := fun _ _ _ _ _ h => h.elim
section
variable {g : Gi} {U : Wps} {S : Sc} {X : Cx} {W : WX} {ds : List Sv} {M : Ms} {Q : PoE} {Er' : Er} {a b c e elt tg it : Expr} {es ifs : List Expr} {scope : Scope} {pos p : Pos}
theorem Xo.inner (o : Xo g S X W) (scope : Scope) (s : Shared) (H : Hp) (C : Addr) (cl : List (Str × Addr)) (fp : List Addr) : Xo g (inS S scope) (X.blk s H scope (compEnvC scope cl C X.env) fp) W0 where
  ok := o.ok
  N := o.N
  sc := by
    show relabel scope X.env = relS S.sc scope
    unfold relabel relS
    rw [← o.sc]
    rfl
  fn := fun x h => h
  nd := o.nd
  calm := o.calm
  room := o.room
  tk := L2.takes0
  lam := fun h => (nomatch h)
  told := fun h => ⟨(o.told h).k, (o.told h).q, (o.told h).r⟩
  kd := fun _ h => (nomatch h)
  kb := fun _ _ _ _ _ h => (nomatch h)
/-- .. that has kept lambdas called -/
theorem Xo.innerK (o : Xo g S X W) {cs : List (Str × Addr)} (hk : S.kp = .df cs) {pins : List (Addr × Obj)} {σ : L2.St} (scope : Scope) (s : Shared) (H : Hp) (C : Addr) (cl : List (Str × Addr)) (fp : List Addr) (bn : Born X pins σ s H fp) :
    Xo g (inK S scope (.bl cs σ (fun G _ => Sl X.K G σ ds) ds S.sc)) (X.blk s H scope (compEnvC scope cl C X.env) fp) W0 where
  ok := o.ok
  N := o.N
  sc := (o.inner scope s H C cl fp).sc
  fn := fun x h => h
  nd := o.nd
  calm := o.calm
  room := o.room
  tk := L2.takes0
  lam := fun h => (nomatch h)
  told := fun h => ⟨(o.told h).k, (o.told h).q, (o.told h).r⟩
  kd := fun _ h => (nomatch h)
  kb := fun cs' tau φ ds' sc e => by
    cases e
    exact ⟨⟨X, pins, s, H, scope, _, fp, rfl, bn, o.kd _ hk, o.sc, rfl⟩, fun G ⟨G0, v, e, h⟩ => Sl.up e h⟩
theorem pts_one' {t : TT} (h : PT X c t) : PTs X [c] t := pts_one h
theorem wpIfs_ok {f : Expr → Ms → PoT → Prop} {Z : Cx} (hf : ∀ e M Q, f e M Q → PT Z e (tT Z.K g.T W0 ds M Q noE)) : ∀ {es : List Expr} {M : Ms} {Q : PoT}, wpIfs f es M Q → PTs Z es (tT Z.K g.T W0 ds M Q noE)
  | [], M, Q, h => ⟨fun pins s σ H q I ⟨G, w, sl, ok, er⟩ => pts_nil.run pins s σ H q I (ok true M G H h (Same.refl _) w)⟩
  | [e], M, Q, h => pts_one (hf e M Q h)
  | _ :: _ :: _, M, Q, h => h.elim
abbrev uG (K : PySem.W.Frag) (T : Tb) (S' : Sc) (tg : Expr) : TG := fun v σ H q => ∃ z : Sv × List Sv × (List Sv → Prop), wpG S' 9 tg z.1 z.2.1 z.2.2 ∧ tGx K T z.1 z.2.1 z.2.2 (tgSl S' 9 tg) v σ H q
abbrev uT (K : PySem.W.Frag) (T : Tb) (U : Wps) (S' : Sc) (ifs : List Expr) : TT := fun σ H q => ∃ z : List Sv × Ms × PoT, wpIfs (fun e M Q => U.T S' e z.1 M Q noE) ifs z.2.1 z.2.2 ∧ tT K T W0 z.1 z.2.1 z.2.2 noE σ H q
abbrev uE (K : PySem.W.Frag) (T : Tb) (U : Wps) (S' : Sc) (elt : Expr) : TE := fun σ H q => ∃ z : List Sv × Ms × PoE, U.E S' elt z.1 z.2.1 z.2.2 noE ∧ tE K T W0 z.1 z.2.1 z.2.2 noE σ H q
theorem sub_of {ts vs : List Nat} (h : subB ts vs = true) : ∀ t ∈ ts, t ∈ vs := fun t ht => by
  unfold subB at h
  rw [List.all_eq_true] at h
  simpa using h t ht
theorem lc_run {S' : Sc} {own : List (Str × Nat)} {K : PySem.W.Frag} (hsub : subB (tgSl S' 9 tg) (own.map (·.2)) = true) {σ : L2.St} {H : Hp} {q : VK} {dz : List Sv} (hz : ∀ G, Sl K G σ ds → Sl K G (wipe σ (own.map (·.2))) dz)
    (h : tE K g.T W ds M Q Er' σ H q) : tLc (tI K g.T W ds M (lcP U S' tg elt ifs dz Q) Er') (uG K g.T S' tg) (uT K g.T U S' ifs) (uE K g.T U S' elt) (own.map (·.2)) σ H q := by
  obtain ⟨G, w, s, ok, er⟩ := h
  refine ⟨G, w, s, fun rs Kp M1 G1 H1 J hl sg w1 src D hD => ?_, er⟩
  obtain ⟨hlen, Inv, h0, hk, hstep, hend⟩ := hl
  refine ⟨fun i m H => m = rs.length - i ∧ i ≤ rs.length ∧ ∃ acc M Gi, Inv i acc M ∧ Same G1 Gi ∧ Wt K g.T ((D, .lst acc) :: M) Gi H, ⟨rs.length, by simp, Nat.zero_le _, [], M1, G1, h0, Same.refl _, w1.mnew hD (m := .lst []) .nil⟩, ?_⟩
  rintro i m Hi ⟨rfl, hi, acc, Mi, Gi, hinv, sgi, wi⟩
  obtain ⟨hkp, hal⟩ := hk i acc Mi hi hinv
  have hkp2 := src.up (D, .lst acc) Mi hkp
  by_cases hlt : i < rs.length
  · refine .inr ⟨src.go i _ Gi Hi hlt sgi wi hkp2, fun H' => ∃ acc M Gi, Inv (i + 1) acc M ∧ Same G1 Gi ∧ Wt K g.T ((D, .lst acc) :: M) Gi H', fun H' ⟨acc', M', G', z1, z2, z3⟩ => ⟨rs.length - (i + 1), by omega, rfl, by omega, acc', M', G', z1, z2, z3⟩, fun x H' hy => ?_⟩
    obtain ⟨G', r, hr, sg', w', hx⟩ := src.yld i _ Gi Hi x H' hlt sgi wi hkp2 hy
    have s' := hz _ (s.up (sg.trans (sgi.trans sg')))
    refine ⟨(r, _, _), hstep D i r acc Mi hr hinv, _, G', w', s', hx, fun ds2 σ2 hq s2 chg => ⟨(chg _ (sub_of hsub)).trans wipe_idem, (ds2, _, _), hq, G', w', s2, fun b M2 G2 H2 hb sg2 w2 => ?_, erE0⟩⟩
    obtain ⟨M3, rfl, hb⟩ := hb
    cases b with
    | true =>
      refine iteT ⟨(ds2, (D, .lst acc) :: M3, _), hb, G2, w2, s2.up sg2, fun v M4 y G4 H4 hv sg4 w4 hy4 => ?_, erE0⟩
      obtain ⟨M5, rfl, hinv5⟩ := hv
      obtain ⟨vs', q1, q2, _⟩ := Wt.lst (A := []) w4
      exact ⟨vs', q1, by rw [q2.len]; exact small1000 (by omega), acc ++ [v], M5, G4, hinv5, sgi.trans (sg'.trans (sg2.trans sg4)), Wt.mput (A := []) w4 (m' := .lst (acc ++ [v])) (q2.app (.cons hy4 .nil))⟩
    | false => exact iteF ⟨acc, M3, G2, hb, sgi.trans (sg'.trans sg2), w2⟩
  · have e : i = rs.length := by omega
    subst e
    refine .inl ⟨src.stop _ Gi Hi sgi wi hkp2, ?_⟩
    obtain ⟨_, hl⟩ := hend acc Mi hinv
    obtain ⟨vs', q1, q2, q3⟩ := Wt.lst (A := []) wi
    rcases hl with ⟨xs, e, hq⟩ | hq
    · subst e
      obtain ⟨g2, w2⟩ := Wt.freeze (A := []) wi q1
      exact ok _ Mi _ _ _ hq (sg.trans (sgi.trans g2)) w2 (Dp.lst (SqL.of upd_same) (dpsUp g2 xs (vks_dats q2)))
    · exact ok _ _ _ _ _ (hq D) (sg.trans sgi) wi rfl
theorem lc_ok (hU : WOk g U) (o : Xo g S X W) (h1 : notSet it = true) (h2 : blkC S.N S.sc scope (ownS S scope) = true) (h3 : subB (tgSl (inS S scope) 9 tg) ((ownS S scope).map (·.2)) = true)
    (h : U.I S tg it ds M (lcP U (inS S scope) tg elt ifs (wipeD ds ((ownS S scope).map (·.2))) Q) Er') : PE X (.ListComp elt [⟨tg, it, ifs, 0⟩] scope pos) (tE X.K g.T W ds M Q Er') := by
  refine pe_mono (pe_lc (own := ownS S scope) o.calm o.nd (hU.I o h) (blkOk_by (by rw [o.N, o.sc]; exact h2))
    (g := uG X.K g.T (inS S scope) tg) (tt := uT X.K g.T U (inS S scope) ifs) (te := uE X.K g.T U (inS S scope) elt)
    (fun s H C cl fp => pg_ex (ι := Sv × List Sv × (List Sv → Prop)) (p := fun z => wpG (inS S scope) 9 tg z.1 z.2.1 z.2.2) (t := fun z => tGx X.K g.T z.1 z.2.1 z.2.2 (tgSl (inS S scope) 9 tg)) fun z hz => wpG_ok (o.inner scope s H C cl fp).n 9 tg _ _ _ hz)
    (fun s H C cl fp => pts_ex (ι := List Sv × Ms × PoT) (p := fun z => wpIfs (fun e M Q => U.T (inS S scope) e z.1 M Q noE) ifs z.2.1 z.2.2) (t := fun z => tT X.K g.T W0 z.1 z.2.1 z.2.2 noE) fun z hz => wpIfs_ok (Z := X.blk s H scope (compEnvC scope cl C X.env) fp) (fun e M Q he => hU.T (o.inner scope s H C cl fp) he) hz)
    (fun s H C cl fp => pe_ex (ι := List Sv × Ms × PoE) (p := fun z => U.E (inS S scope) elt z.1 z.2.1 z.2.2 noE) (t := fun z => tE X.K g.T W0 z.1 z.2.1 z.2.2 noE) fun z hz => hU.E (o.inner scope s H C cl fp) hz)
    (fun x => by cases it <;> first | rfl | cases h1)) fun σ H q hq => lc_run h3 (fun G s => s.wipe _) hq
theorem sl_known {K : PySem.W.Frag} {G : Hp} {σ : L2.St} {dz : List Sv} {j : Nat} {r : Sv} (s : Sl K G σ dz) (hj : getD dz j fun _ => True) (hr : ∀ v, Vk K G v r) : Sl K G σ (dz.set j r) := by
  obtain ⟨r0, e1, e2⟩ : ∃ r0, dz[j]? = some r0 ∧ r0 ≠ .no := by
    unfold getD at hj
    split at hj
    · exact hj.elim
    · rename_i r0 hno
      exact ⟨_, by assumption, by intro z; subst z; exact absurd rfl (by assumption)⟩
    · exact hj.elim
  obtain ⟨v, z1, _⟩ := s.val e1 e2
  have e : σ.set j (some v) = σ := by
    refine List.ext_getElem? fun k => ?_
    by_cases hk : j = k
    · subst hk
      rw [z1]
      exact List.getElem?_set_self (List.getElem?_eq_some_iff.mp z1).1
    · exact List.getElem?_set_ne hk
  rw [← e]
  exact s.set j (hr v)
theorem tgSl_kp (S : Sc) (scope : Scope) (k : Kp) : ∀ (n : Nat) (tg : Expr), tgSl (inK S scope k) n tg = tgSl (inS S scope) n tg := by
  have e0 : ∀ x, slotL (inK S scope k) x = slotL (inS S scope) x := fun x => rfl
  intro n
  induction n with
  | zero => intro tg; rfl
  | succ n ih =>
    intro tg
    cases tg with
    | Name x p => simp only [tgSl, e0]
    | Tuple es q p =>
      have e : tgSl (inK S scope k) n = tgSl (inS S scope) n := funext ih
      simp only [tgSl, e]
    | _ => rfl
theorem lcK_ok (hU : WOk g U) (o : Xo g S X W) {cs : List (Str × Addr)} (hk : S.kp = .df cs) (h1 : notSet it = true) (h2 : blkC S.N S.sc scope (ownS S scope) = true) (h3 : subB (tgSl (inS S scope) 9 tg) ((ownS S scope).map (·.2)) = true) {j : Nat} (hj : getD (wipeD ds ((ownS S scope).map (·.2))) j fun _ => True)
    (h : ∀ (tau : L2.St) (φ : Hp → V → Prop), U.I S tg it ds M (lcP U (inK S scope (.bl cs tau φ ds S.sc)) tg elt ifs ((wipeD ds ((ownS S scope).map (·.2))).set j (.kn φ)) Q) Er') : PE X (.ListComp elt [⟨tg, it, ifs, 0⟩] scope pos) (tE X.K g.T W ds M Q Er') := by
  refine ⟨fun pins s σ H q I hq => ?_⟩
  have h3 : subB (tgSl (inK S scope (.bl cs σ (fun G _ => Sl X.K G σ ds) ds S.sc)) 9 tg) ((ownS S scope).map (·.2)) = true := (congrArg (fun z => subB z _) (tgSl_kp S scope _ 9 tg)).trans h3
  refine lc_born (own := ownS S scope) (g := uG X.K g.T (inK S scope (.bl cs σ (fun G _ => Sl X.K G σ ds) ds S.sc)) tg) (tt := uT X.K g.T U (inK S scope (.bl cs σ (fun G _ => Sl X.K G σ ds) ds S.sc)) ifs) (te := uE X.K g.T U (inK S scope (.bl cs σ (fun G _ => Sl X.K G σ ds) ds S.sc)) elt)
    o.calm o.nd I (hU.I o (h σ fun G _ => Sl X.K G σ ds)) (blkOk_by (by rw [o.N, o.sc]; exact h2)) (fun b3 G3 C cl its bn => ?_) (fun x => by cases it <;> first | rfl | cases h1)
    (lc_run (S' := inK S scope (.bl cs σ (fun G _ => Sl X.K G σ ds) ds S.sc)) h3 (fun G s => sl_known (s.wipe _) hj fun v => ⟨G, Same.refl _, s⟩) hq)
  have o2 := o.innerK (ds := ds) hk scope b3 G3 C cl its bn
  refine ⟨?_, ?_, ?_⟩
  · exact pg_ex (ι := Sv × List Sv × (List Sv → Prop)) (p := fun z => wpG _ 9 tg z.1 z.2.1 z.2.2) (t := fun z => tGx X.K g.T z.1 z.2.1 z.2.2 (tgSl _ 9 tg)) fun z hz => wpG_ok o2.n 9 tg _ _ _ hz
  · exact pts_ex (ι := List Sv × Ms × PoT) (p := fun z => wpIfs (fun e M Q => U.T _ e z.1 M Q noE) ifs z.2.1 z.2.2) (t := fun z => tT X.K g.T W0 z.1 z.2.1 z.2.2 noE) fun z hz => wpIfs_ok (Z := X.blk b3 G3 scope (compEnvC scope cl C X.env) its) (fun e M Q he => hU.T o2 he) hz
  · exact pe_ex (ι := List Sv × Ms × PoE) (p := fun z => U.E _ elt z.1 z.2.1 z.2.2 noE) (t := fun z => tE X.K g.T W0 z.1 z.2.1 z.2.2 noE) fun z hz => hU.E o2 hz
end
end Cal
/-! WpJ -/
namespace Cal
open PySem PySem.Spec PyProof.Rows L2 LamX
section
variable {X : Cx} {T : Tb} {W : WX} {ds : List Sv} {M : Ms} {Q : PoE} {E : Er} {a b c e : Expr} {es : List Expr} {pos : Pos}
theorem tE_self {K : PySem.W.Frag} {σ : L2.St} {H : Hp} {q : VK} {r : Sv} {v : V} (h : tE K T W ds M Q E σ H q) (hq : Q r M) (hv : ∀ G, Vk K G v r) : q v H := by
  obtain ⟨G, w, s, ok, er⟩ := h
  exact ok.self w hq (hv G)
theorem boolW_ok {K : PySem.W.Frag} {G : Hp} {v : V} {r : Sv} {P : Bool → Prop} (h : boolW r P) (hv : Vk K G v r) : ∃ b, r = B b ∧ v = .bl b ∧ P b := by
  unfold boolW at h
  split at h
  · exact ⟨_, rfl, vk_bl hv, h⟩
  · exact h.elim
theorem intW_ok {K : PySem.W.Frag} {G : Hp} {v : V} {r : Sv} {P : Int → Prop} (h : intW r P) (hv : Vk K G v r) : ∃ i, v = .int i ∧ P i := by
  unfold intW at h
  split at h
  · exact ⟨_, vk_int hv, h⟩
  · exact h.elim
/-- the second of two, by the memory alone -/
abbrev tSecM (K : PySem.W.Frag) (T : Tb) (W : WX) (ds : List Sv) (P : Ms → Prop) (Q : PoE) (E : Er) : TE := fun σ H q => ∃ M1 : Ms, P M1 ∧ tE K T W ds M1 Q E σ H q
theorem pe_secM {P : Ms → Prop} (h : ∀ M1, P M1 → PE X e (tE X.K T W ds M1 Q E)) : PE X e (tSecM X.K T W ds P Q E) := pe_ex (ι := Ms) (p := P) (t := fun M1 => tE X.K T W ds M1 Q E) h
abbrev tSecT (K : PySem.W.Frag) (T : Tb) (W : WX) (ds : List Sv) (P : Ms → Prop) (Q : PoT) (E : Er) : TT := fun σ H q => ∃ M1 : Ms, P M1 ∧ tT K T W ds M1 Q E σ H q
theorem pw_ex {e : Expr} {ι : Type} {p : ι → Prop} {t : ι → TT} (h : ∀ i, p i → PW X e (t i)) : PW X e (fun σ H Q => ∃ i, p i ∧ t i σ H Q) := ⟨fun wh pins s σ H Q I ⟨i, hp, q⟩ => (h i hp).run wh pins s σ H Q I q⟩
theorem pw_secT {P : Ms → Prop} {Q : PoT} (h : ∀ M1, P M1 → PW X e (tT X.K T W ds M1 Q E)) : PW X e (tSecT X.K T W ds P Q E) := pw_ex (ι := Ms) (p := P) (t := fun M1 => tT X.K T W ds M1 Q E) h
theorem wpAndE_ok {f : Expr → Ms → PoE → Prop} (hf : ∀ e M Q, f e M Q → PE X e (tE X.K T W ds M Q E)) : ∀ {es : List Expr} {M : Ms} {Q : PoE}, wpAndE f es M Q → PE X (.BoolOp .And es pos) (tE X.K T W ds M Q E)
  | [], M, Q, h => h.elim
  | [e], M, Q, h => pe_one (hf e M Q h)
  | e :: e2 :: es, M, Q, h => by
    refine pe_mono (pe_and (hf e M _ h) (pe_secM (P := fun M1 => wpAndE f (e2 :: es) M1 Q) fun M1 h1 => wpAndE_ok hf h1)) fun σ H q ⟨G, w, s, ok, er⟩ => ⟨G, w, s, fun v M1 x G1 H1 hb sg w1 hx => ?_, er⟩
    obtain ⟨k, _, e1, hb⟩ := boolW_ok hb hx
    subst e1
    refine ⟨k, rfl, ?_⟩
    cases k with
    | true => exact iteT ⟨M1, hb, G1, w1, s.up sg, ok.up sg, er.up sg⟩
    | false => exact iteF ((ok.up sg).self w1 hb (.bl _))
theorem wpOrE_ok {f : Expr → Ms → PoE → Prop} (hf : ∀ e M Q, f e M Q → PE X e (tE X.K T W ds M Q E)) : ∀ {es : List Expr} {M : Ms} {Q : PoE}, wpOrE f es M Q → PE X (.BoolOp .Or es pos) (tE X.K T W ds M Q E)
  | [], M, Q, h => h.elim
  | [e], M, Q, h => pe_one (hf e M Q h)
  | e :: e2 :: es, M, Q, h => by
    refine pe_mono (pe_or (hf e M _ h) (pe_secM (P := fun M1 => wpOrE f (e2 :: es) M1 Q) fun M1 h1 => wpOrE_ok hf h1)) fun σ H q ⟨G, w, s, ok, er⟩ => ⟨G, w, s, fun v M1 x G1 H1 hb sg w1 hx => ?_, er⟩
    obtain ⟨k, _, e1, hb⟩ := boolW_ok hb hx
    subst e1
    refine ⟨k, rfl, ?_⟩
    cases k with
    | true => exact iteT ((ok.up sg).self w1 hb (.bl _))
    | false => exact iteF ⟨M1, hb, G1, w1, s.up sg, ok.up sg, er.up sg⟩
theorem wpAndT_ok {f : Expr → Ms → PoT → Prop} (hf : ∀ e M Q, f e M Q → PT X e (tT X.K T W ds M Q E)) : ∀ {es : List Expr} {M : Ms} {Q : PoT}, wpAndT f es M Q → PW X (.BoolOp .And es pos) (tT X.K T W ds M Q E)
  | [], M, Q, h => h.elim
  | [e], M, Q, h => pw_and1 (hf e M Q h)
  | e :: e2 :: es, M, Q, h => by
    refine pw_mono (pw_and (hf e M _ h) (pw_secT (P := fun M1 => wpAndT f (e2 :: es) M1 Q) fun M1 h1 => wpAndT_ok hf h1)) fun σ H q ⟨G, w, s, ok, er⟩ => ⟨G, w, s, fun k M1 G1 H1 hb sg w1 => ?_, er⟩
    cases k with
    | true => exact iteT ⟨M1, hb, G1, w1, s.up sg, ok.up sg, er.up sg⟩
    | false => exact iteF (ok _ _ _ _ hb sg w1)
theorem wpOrT_ok {f : Expr → Ms → PoT → Prop} (hf : ∀ e M Q, f e M Q → PT X e (tT X.K T W ds M Q E)) : ∀ {es : List Expr} {M : Ms} {Q : PoT}, wpOrT f es M Q → PW X (.BoolOp .Or es pos) (tT X.K T W ds M Q E)
  | [], M, Q, h => h.elim
  | [e], M, Q, h => pw_or1 (hf e M Q h)
  | e :: e2 :: es, M, Q, h => by
    refine pw_mono (pw_or (hf e M _ h) (pw_secT (P := fun M1 => wpOrT f (e2 :: es) M1 Q) fun M1 h1 => wpOrT_ok hf h1)) fun σ H q ⟨G, w, s, ok, er⟩ => ⟨G, w, s, fun k M1 G1 H1 hb sg w1 => ?_, er⟩
    cases k with
    | true => exact iteT (ok _ _ _ _ hb sg w1)
    | false => exact iteF ⟨M1, hb, G1, w1, s.up sg, ok.up sg, er.up sg⟩
/-- optional ints -/
def tOo (K : PySem.W.Frag) (T : Tb) (W : WX) (ds : List Sv) (M : Ms) (Q : Option Int → Ms → Prop) (E : Er) : TO := fun σ H q => ∃ G, Wt K T M G H ∧ Sl K G σ ds ∧ (∀ o M' G' H', Q o M' → Same G G' → Wt K T M' G' H' → q o H') ∧ erE K T G E W
theorem wpO_ok {f : Expr → Ms → PoE → Prop} (hf : ∀ e M Q, f e M Q → PE X e (tE X.K T W ds M Q E)) : ∀ {o : Option Expr} {M : Ms} {Q : Option Int → Ms → Prop}, wpO f o M Q → PO X o (tOo X.K T W ds M Q E)
  | none, M, Q, h => po_mono po_none fun σ H q ⟨G, w, s, ok, er⟩ => ok none M G H h (Same.refl _) w
  | some e, M, Q, h => po_mono (po_some (hf e M _ h)) fun σ H q ⟨G, w, s, ok, er⟩ => ⟨G, w, s, fun v M1 x G1 H1 hi sg w1 hx => by
    obtain ⟨i, e1, hi⟩ := intW_ok hi hx
    exact ⟨i, e1, ok _ _ _ _ hi sg w1⟩, er⟩
theorem slice_ok {o : Expr} {lo hi : Option Expr} {p2 : Pos} {P1 : Sv → Ms → Prop} {P2 : Sv → Option Int → Ms → Prop} (h0 : PE X o (tE X.K T W ds M P1 E)) (h1 : ∀ v M1, P1 v M1 → PO X lo (tOo X.K T W ds M1 (P2 v) E))
    (h2 : ∀ v l M2, P2 v l M2 → PO X hi (tOo X.K T W ds M2 (fun h M3 => slW v l h M3 Q) E)) : PE X (.Subscript o (.Slice lo hi none p2) pos) (tE X.K T W ds M Q E) := by
  refine pe_mono (pe_slice (sl_all (T := T)) h0 (po_ex (ι := Sv × Ms) (p := fun z => P1 z.1 z.2) (t := fun z => tOo X.K T W ds z.2 (P2 z.1) E) fun z hz => h1 z.1 z.2 hz)
    (po_ex (ι := Sv × Option Int × Ms) (p := fun z => P2 z.1 z.2.1 z.2.2) (t := fun z => tOo X.K T W ds z.2.2 (fun h M3 => slW z.1 z.2.1 h M3 Q) E) fun z hz => h2 z.1 z.2.1 z.2.2 hz)) fun σ H q ⟨G, w, s, ok, er⟩ => ?_
  refine ⟨G, w, s, fun v M1 x G1 H1 hv sg w1 hx => ⟨(v, M1), hv, G1, w1, s.up sg, fun l M2 G2 H2 hl sg2 w2 => ⟨(v, l, M2), hl, G2, w2, s.up (sg.trans sg2), fun h M3 G3 H3 hh sg3 w3 => ?_, er.up (sg.trans sg2)⟩, er.up sg⟩, er⟩
  exact ⟨v, M3, G3, Q, hh, w3, hx.up (sg2.trans sg3), ok.up (sg.trans (sg2.trans sg3))⟩
end
theorem plainIx_ok {b : Expr} (h : notSlice b = true) : PlainIx b := by
  cases b <;> first | exact fun _ _ => rfl | cases h
end Cal
/-! WpRv -/
/-! a tuple from behind -/
namespace Cal
open PySem PySem.Spec PyProof.Rows L2
theorem adjust_back (n : Nat) : Builtin.Slice.sliceAdjust none none (-1) (n : Int) = ((n : Int) - 1, -1) := rfl
theorem places_back (n : Nat) : Builtin.Slice.slicePlaces ((n : Int) - 1) (-1) (-1) = n := by
  unfold Builtin.Slice.slicePlaces
  have h1 : ¬ ((-1 : Int) > 0) := by decide
  have e : (- -1 : Int) = 1 := by decide
  simp only [h1, if_false, e, Int.ediv_one]
  split <;> omega
theorem fm_congr {α β : Type} {f g : α → Option β} : ∀ {l : List α}, (∀ a ∈ l, f a = g a) → l.filterMap f = l.filterMap g
  | [], _ => rfl
  | a :: l, h => by
    rw [List.filterMap_cons, List.filterMap_cons, h a List.mem_cons_self, fm_congr fun b hb => h b (List.mem_cons_of_mem _ hb)]
theorem pick_back (xs : Array Value) : ((List.range xs.size).filterMap fun (k : Nat) => xs[(((xs.size : Int) - 1) + (k : Int) * (-1)).toNat]?) = xs.toList.reverse := by
  apply List.ext_getElem?
  intro i
  have e : (List.range xs.size).filterMap (fun (k : Nat) => xs[(((xs.size : Int) - 1) + (k : Int) * (-1)).toNat]?) = (List.range xs.size).map fun k => xs.getD (xs.size - 1 - k) .none := by
    rw [← List.filterMap_eq_map]
    refine fm_congr fun k hk => ?_
    have hk := List.mem_range.mp hk
    have e2 : (((xs.size : Int) - 1) + (k : Int) * (-1)).toNat = xs.size - 1 - k := by omega
    have h3 : xs.size - 1 - k < xs.size := by omega
    rw [e2]
    simp [Array.getD, h3]
  rw [e, List.getElem?_map]
  by_cases hi : i < xs.size
  · have h3 : xs.size - 1 - i < xs.size := by omega
    rw [List.getElem?_range hi, List.getElem?_reverse (by simpa using hi)]
    simp [Array.getD, h3]
  · rw [List.getElem?_eq_none (by simpa using hi), List.getElem?_eq_none (by simpa using hi)]
    rfl
section
variable {prog : Program} {w : World} {A : Around} {E : Value → Shared → Prop} {s : Shared}
theorem applied_back {sl : Addr} {vl vu vs : Value} {n : Nat} {Q : Int × Int × Nat → Shared → Prop} (hs : s.heap.IsSliceOf sl vl vu vs) (pl : IsPart vl none) (pu : IsPart vu none) (ps : IsPart vs (some (-1)))
    (h : Q ((n : Int) - 1, -1, n) s) : wpAny (model prog w) A (Builtin.Slice.sliceApplied (.ref sl) (pure (n : Int))) Q E s := by
  obtain ⟨os, hos, hcs, hds⟩ := id hs
  unfold Builtin.Slice.sliceApplied Builtin.Slice.sliceFields
  refine wpAny_bind (wpAny_bind (wpAny_field hos hds (x := vl) rfl (wpAny_bind (wpAny_field hos hds (x := vu) rfl (wpAny_bind (wpAny_field hos hds (x := vs) rfl (wpAny_pure ?_)))))))
  refine wpAny_bind (HT.slicePart_ ps ?_)
  show wpAny _ _ (if ((-1 : Int) == 0) = true then _ else _) _ _ s
  rw [if_neg (by decide)]
  refine wpAny_bind (HT.slicePart_ pl (wpAny_bind (HT.slicePart_ pu (wpAny_bind (wpAny_pure ?_)))))
  show wpAny _ _ (pure ((n : Int) - 1, (-1 : Int), Builtin.Slice.slicePlaces ((n : Int) - 1) (-1) (-1))) _ _ s
  rw [places_back]
  exact wpAny_pure h
theorem item_back {t sl : Addr} {items : Array Value} {vl vu vs : Value} {Q : Value → Shared → Prop} (ht : IsTup s.heap t items) (hs : s.heap.IsSliceOf sl vl vu vs) (pl : IsPart vl none) (pu : IsPart vu none) (ps : IsPart vs (some (-1)))
    (h : Q (.ref s.heap.objs.size) { s with heap := s.heap.push { cls := .type "tuple", data := .seq items.toList.reverse.toArray } })
    (hsz : items.size ≤ sizeLine) : wpAny (model prog w) A (getItem (.ref t) (.ref sl)) Q E s := by
  have htake : sizeOk (.seq items.toList.reverse.toArray) := by
    show items.toList.reverse.toArray.size ≤ sizeLine
    rw [List.size_toArray, List.length_reverse, Array.length_toList]
    exact hsz
  obtain ⟨os, hos, hcs, hds⟩ := id hs
  have hTs : s.TypeIs (.ref sl) "slice" := ⟨os, hos, hcs⟩
  unfold getItem
  try with_reducible refine wpAny_holding ?_
  first | refine wpAny_bind (wpAny_pure ?_) | skip
  refine wpAny_bind (wpAny_sequenceKey ht.typeIs (by decide) ?_)
  refine wpAny_bind (wpAny_callSpecial?_slot (name := Str.ofString "__getitem__") ht.typeIs PyProof.Rows.slot_tuple_getitem
    (wpAny_call_entry PyProof.Rows.slot_tuple_getitem ht.typeIs entry_tuple_getitem ?_ (args_tuple_getitem _ _)))
  show wpAny _ _ (Builtin.Tuple.tupleItemsOf (.ref t) >>= _) _ _ s
  refine wpAny_bind (tupleItemsOf_ ht ?_)
  refine wpAny_bind (wpAny_typeOf hTs ?_)
  rw [if_pos (by decide)]
  refine wpAny_bind (applied_back hs pl pu ps ?_)
  have hno : ¬ ((((items.size : Int) - 1) == 0 && (-1 : Int) == 1 && items.size == items.size) = true) := by
    intro q
    rw [Bool.and_eq_true, Bool.and_eq_true] at q
    exact absurd q.1.2 (by decide)
  show wpAny _ _ (if (((items.size : Int) - 1) == 0 && (-1 : Int) == 1 && items.size == items.size) = true then _ else _) _ _ s
  rw [if_neg hno, pick_back]
  first
    | exact wpAny_bind (m := Builtin.Tuple.tupleExact _) (wpAny_newObj_type (wpAny_pure ⟨_, rfl, wpAny_pure h⟩) htake)
    | exact wpAny_bind (m := Builtin.Tuple.tupleExact _) (wpAny_newObj_type (wpAny_bind (wpAny_pure (wpAny_pure ⟨_, rfl, wpAny_pure h⟩))) htake)
    | exact wpAny_bind (wpAny_bind (m := Builtin.Tuple.tupleExact _) (wpAny_newObj_type (wpAny_pure (wpAny_pure ⟨_, rfl, wpAny_pure h⟩)) htake))
    | exact wpAny_bind (wpAny_bind (m := Builtin.Tuple.tupleExact _) (wpAny_newObj_type (wpAny_pure ⟨_, rfl, wpAny_pure h⟩) htake))
end
section
variable {X : Cx} {K : PySem.W.Frag} {T : Tb} {W : WX} {ds : List Sv} {M : Ms} {Er' : Er}
def tRv (K : PySem.W.Frag) (te : TE) : TE := fun σ H Q => te σ H fun x H1 => ∃ a xs, x = .ref a ∧ ((SqL K H1 a xs ∧ ∀ p, H1 p = none → Q (.ref p) (upd H1 p (.lst xs.reverse))) ∨ (SqT K H1 a xs ∧ ∀ p, H1 p = none → Q (.ref p) (upd H1 p (.tup xs.reverse))))
theorem pe_rv {e : Expr} {te : TE} {k : Nat} {p1 p2 p3 pos : Pos} (he : PE X e te) : PE X (.Subscript e (.Slice none none (some (.UnaryOp .USub (.Constant (.int 1) k p1) p2)) p3) pos) (tRv X.K te) := by
  refine ⟨fun pins s σ H Q I h => ?_⟩
  refine Subscript_ (thn (he.run pins s σ H _ I h) fun v s1 ⟨x, H1, I1, r1, q1⟩ => ?_)
  obtain ⟨a, xs, ex, q⟩ := q1
  subst ex
  cases r1
  have hst : PO X (some (.UnaryOp .USub (.Constant (.int 1) k p1) p2)) (tPart (tUn (rU fun i => .int (-i)) (tC (.int 1)))) := po_some (pe_un un_neg pe_int)
  refine wpAny_Slice (thn (po_none.run pins s1 σ H1 (fun o H2 => o = none ∧ H2 = H1) I1 ⟨rfl, rfl⟩) fun vl s2 ⟨l, H2, I2, pl, el, e2⟩ => ?_)
  subst el e2
  refine thn (po_none.run pins s2 σ H2 (fun o H3 => o = none ∧ H3 = H2) I2 ⟨rfl, rfl⟩) fun vu s3 ⟨u, H3, I3, pu, eu, e3⟩ => ?_
  subst eu e3
  refine thn (hst.run pins s3 σ H3 (fun o H4 => o = some (-1) ∧ H4 = H3) I3 ⟨1, rfl, -1, rfl, rfl, rfl⟩) fun vs s4 ⟨o, H4, I4, ps, eo, e4⟩ => ?_
  subst eo e4
  have I5 : Inv X pins σ H4 { s4 with heap := s4.heap.push { cls := .type "slice", data := .fields #[vl, vu, vs] } } := I4.kept (t' := s4.toks) fun b ob q => Heap.get?_push_of_some _ q
  show wpAny (model X.prog X.w) X.A (subscriptTail e (.Slice none none (some (.UnaryOp .USub (.Constant (.int 1) k p1) p2)) p3) (.ref a) (.ref s4.heap.objs.size)) (EP X pins σ Q) X.xe { s4 with heap := s4.heap.push { cls := .type "slice", data := .fields #[vl, vu, vs] } }
  rcases q with ⟨hx, q⟩ | ⟨hx, q⟩
  · obtain ⟨its, r, ht, hz⟩ := I5.list hx
    have hlen := r.length
    refine tail_any (ops := [.ref a, .ref s4.heap.objs.size]) ht.isList.typeIs (PySem.slot_list_getitem.lookup) ?_ (by with_unfolding_all rfl)
    refine wpAny_getItem_list_slice ht.isList (Heap.IsSliceOf.new _ vl vu vs) pl pu ps (by decide) ?_ (by rw [List.size_toArray]; omega)
    rw [PySem.W.krv_pick]
    refine ⟨.ref _, _, I5.laid (t' := s4.toks) (o := .lst xs.reverse) (fun b ob q => Heap.get?_push_of_some _ q) (Nat.le_refl _) ?_, rfl, q _ (I5.hok.fresh (Nat.le_refl _))⟩
    exact ⟨by rw [List.length_reverse]; exact hz, _, 0, r.reverse, Heap.get?_push_size _ rfl⟩
  · obtain ⟨its, r, ht, hz⟩ := I5.tuple hx
    have hlen := r.length
    refine tail_any (ops := [.ref a, .ref s4.heap.objs.size]) ht.typeIs (PyProof.Rows.slot_tuple_getitem.lookup) ?_ (by with_unfolding_all rfl)
    refine item_back ht (Heap.IsSliceOf.new _ vl vu vs) pl pu ps ?_ (by rw [List.size_toArray]; omega)
    refine ⟨.ref _, _, I5.laid (t' := s4.toks) (o := .tup xs.reverse) (fun b ob q => Heap.get?_push_of_some _ q) (Nat.le_refl _) ?_, rfl, q _ (I5.hok.fresh (Nat.le_refl _))⟩
    exact ⟨by rw [List.length_reverse]; exact hz, _, r.reverse, IsTup.new _ _⟩
theorem rev_dps {K : PySem.W.Frag} {G : Hp} : ∀ {xs : List D} {vs : List V}, DpAll K G vs xs → DpAll K G vs.reverse xs.reverse
  | _, _, .nil => .nil
  | _, _, .cons h r => by
    rw [List.reverse_cons, List.reverse_cons]
    exact dps_app (rev_dps r) (.cons h .nil)
theorem rvW_ok {e : Expr} {Q : PoE} {k : Nat} {p1 p2 p3 pos : Pos} (h : PE X e (tE X.K T W ds M (fun v M1 => rvW v M1 Q) Er')) : PE X (.Subscript e (.Slice none none (some (.UnaryOp .USub (.Constant (.int 1) k p1) p2)) p3) pos) (tE X.K T W ds M Q Er') := by
  refine pe_mono (pe_rv h) fun σ H q ⟨G, w, s, ok, er⟩ => ⟨G, w, s, fun v M1 x G1 H1 hb sg w1 hx => ?_, er⟩
  have ok2 := ok.up sg
  replace hb : rvW v M1 Q := hb
  unfold rvW at hb
  split at hb
  · obtain ⟨p, vs, rfl, h1, h2⟩ := vk_lst hx
    exact ⟨p, vs, rfl, .inl ⟨w1.w.ex.seq h1, fun p hp => ok2.newL w1 hb (rev_dps h2) hp⟩⟩
  · obtain ⟨p, vs, rfl, h1, h2⟩ := vk_tup hx
    exact ⟨p, vs, rfl, .inr ⟨seqT w1.w.ex h1, fun p hp => ok2.newT w1 hb (rev_dps h2) hp⟩⟩
  · obtain ⟨A, rs, C, vs, e, ⟨xs, e2, h⟩, h1, h2, _⟩ := atM_lst hb w1
    subst e2
    have hx' : x = .ref _ := hx
    subst hx'
    exact ⟨_, vs, rfl, .inl ⟨SqL.of h1, fun p hp => ok2.newL w1 h (rev_dps (vks_dats h2)) hp⟩⟩
  · exact hb.elim
theorem rv_ok {e z : Expr} {Q : PoE} {p3 pos : Pos} (hz : neg1 z = true) (h : PE X e (tE X.K T W ds M (fun v M1 => rvW v M1 Q) Er')) : PE X (.Subscript e (.Slice none none (some z) p3) pos) (tE X.K T W ds M Q Er') := by
  unfold neg1 at hz
  split at hz
  · have e1 := eq_of_beq hz
    subst e1
    exact rvW_ok h
  · cases hz
end
end Cal
/-! WpOb -/
namespace Cal
open PySem PySem.Spec PyProof.Rows L2 LamX
/-! things of classes, dicts: their expressions are as read -/
section
variable {X : Cx} {CX : CXT} {k : Nat} {f C : Addr} {fd : FuncData} {ps : List Str} {sp : Sp} {dvs : List V} {us0 : List Value} {E : L2.St → XK}
theorem run_makeD {pins : List (Addr × Obj)} {σ : L2.St} {H : Hp} {s : Shared} {Q : VK} {us : List Value} {vs : List V} (M : Mk X.K C f) (F : FnOk X.prog X.w X.K X.mg X.base CX k f fd ps sp) (hr : Room (k + 1) X.A) (hb : Binds X.K fd ps us0) (hd : Vals dvs us0)
    (hx : PassesAt CX X σ (E σ)) (J : Inv X pins σ H s) (r : Vals vs us) (h : ∀ x dx, H x = none → H dx = none → dx ≠ x → sp (.ref x :: (vs ++ dvs)) (upd (upd H dx (.own x)) x (.ins C dx [])) (fun v H2 => v = .non ∧ Q (.ref x) H2) (E σ)) :
    wpAny (model X.prog X.w) X.A (call (.ref C) us) (EP X pins σ Q) X.xe s := by
  have made := Inv.made (C := C) J
  have asked := h _ _ (J.hok.fresh (Nat.le_succ _)) (J.hok.fresh (Nat.le_refl _)) (Nat.ne_of_lt (Nat.lt_succ_self s.heap.objs.size))
  have vals : Vals (V.ref (s.heap.objs.size + 1) :: (vs ++ dvs)) (Value.ref (s.heap.objs.size + 1) :: (us ++ us0)) := .cons rfl (r.append hd)
  have hl : (Value.ref (s.heap.objs.size + 1) :: us ++ us0).length = ps.length := (vals.length.symm.trans (F.len _ _ _ _ asked))
  have body := F.run _ X.stack _ _ ⟨Value.ref (s.heap.objs.size + 1) :: us, []⟩ (Value.ref (s.heap.objs.size + 1) :: (us ++ us0)) _ _ (E σ) (hr.make C us []) (made.env0.make C us []) (hb _ (Value.ref (s.heap.objs.size + 1) :: us) made.kIn hl) vals asked
  refine wpAny_call (make_map (f := f) J.kIn M.makes M.init (beq_iff_eq.mp M.fn) (codeAny_mono body fun res s' hq => ?_))
  cases res with
  | error e => exact hx pins _ _ e s' made hq
  | ok fl =>
    cases fl with
    | ret u =>
      obtain ⟨v, H', J3, rv, ev, q3⟩ := made.after hq
      subst ev
      exact ⟨rv, V.ref (s.heap.objs.size + 1), H', J3, rfl, q3⟩
    | next => exact hq.elim
    | brk => exact hq.elim
    | cont => exact hq.elim
def tMakeD (C : Addr) (sp : Sp) (dvs : List V) (E : L2.St → XK) (t : TA) : TE := fun σ H Q => t σ H fun vs H1 => ∀ x dx, H1 x = none → H1 dx = none → dx ≠ x → sp (.ref x :: (vs ++ dvs)) (upd (upd H1 dx (.own x)) x (.ins C dx [])) (fun v H2 => v = .non ∧ Q (.ref x) H2) (E σ)
theorem pe_makeD {x : Str} {p pos : Pos} {es : List Expr} {t : TA} (M : Mk X.K C f) (F : FnOk X.prog X.w X.K X.mg X.base CX k f fd ps sp) (hr : Room (k + 1) X.A) (hg : Gl X x) (hm : X.mg x = some (.ref C)) (hb : Binds X.K fd ps us0) (hd : Vals dvs us0) (hx : ∀ σ, PassesAt CX X σ (E σ))
    (ha : PA X es t) (h0 : es = [] → ∀ σ H (q : List V → Hp → Prop), t σ H q → q [] H) (hdb : (x == ("__debug__" : Str)) = false) (hs : es.all notStar = true) : PE X (.Call (.Name x p) es [] pos) (tMakeD C sp dvs E t) := by
  refine ⟨fun pins s σ H Q J h => ?_⟩
  refine wpAny_Call_Name_kw (ld_glob J hg hm ?_ hdb)
  cases es with
  | nil =>
    refine PySem.W.callWith_K0 J.kIn M.kp ?_
    exact run_makeD (us := []) (vs := []) M F hr hb hd (hx σ) J .nil (h0 rfl σ H _ h)
  | cons e es =>
    rw [List.all_cons, Bool.and_eq_true] at hs
    exact PySem.W.callWith_K (h₀ := X.base) J.ok.mod.kin M.kp (thn (ha.run pos pins s σ H _ J h) fun us s1 ⟨vs, H1, J1, r, q⟩ => ⟨J1.kIn, run_makeD M F hr hb hd (hx σ) J1 r q⟩) (star_one hs.1) (star_all hs.2)
theorem few_ok {es : List Expr} {env : Env} {pos : Pos} (hs : es.all notStar = true) (hl : es.length < 30) : methodCallForm (es.length + ([] : List Keyword).length) (backTo pos (starEach es env)) (backToKw pos (keywordEach [] env)) = true := by
  have h1 := star_all (pos := pos) (env := env) hs
  unfold methodCallForm
  rw [Bool.and_eq_true, Bool.and_eq_true]
  refine ⟨⟨?_, rfl⟩, ?_⟩
  · rw [List.any_eq_false] at h1
    rw [List.all_eq_true]
    intro x hx
    have := h1 x hx
    cases q : x.1 with
    | false => rfl
    | true => rw [q] at this; exact absurd rfl this
  · simp [backToKw, keywordEach]
    omega
theorem meth_eval {o : Expr} {m : Str} {apos pos : Pos} {es : List Expr} {env : Env} (hp : plainBase o = true) (hs : es.all notStar = true) (hl : es.length < 30) (hline : (apos.endLine == pos.line) = true) : ∃ pl : Sem Bool, eval (.Call (.Attribute o m apos) es [] pos) env = (do
      let ov ← eval o env
      standAt apos.atName
      let (f, first) ← holding [ov] (getMethod ov m pl)
      callWith pos f first (backTo pos (starEach es env)) (backToKw pos (keywordEach [] env))) := by
  refine ⟨plainOf o env, ?_⟩
  rw [arm_eval_Call, base_ok hp]
  simp only [mcall_line (few_ok hs hl) hline]
def tMethD (C : Addr) (m : Str) (sp : Sp) (dvs : List V) (E : L2.St → XK) (ta : TE) (t : TA) : TE := fun σ H Q => ta σ H fun x H1 => ∃ a dx fs, x = .ref a ∧ H1 a = some (.ins C dx fs) ∧ fs.lookup m = none ∧ t σ H1 fun vs H2 => sp (x :: (vs ++ dvs)) H2 Q (E σ)
theorem pe_methD {o : Expr} {m : Str} {apos pos : Pos} {es : List Expr} {ta : TE} {t : TA} (he : PE X o ta) (c : Cls X.K C) (hm : Meth X.K C m f) (F : FnOk X.prog X.w X.K X.mg X.base CX k f fd ps sp) (hr : Room k X.A) (hb : Binds X.K fd ps us0) (hd : Vals dvs us0) (hx : ∀ σ, PassesAt CX X σ (E σ))
    (ha : PA X es t) (h0 : es = [] → ∀ σ H (q : List V → Hp → Prop), t σ H q → q [] H) (hp : plainBase o = true) (hs : es.all notStar = true) (h30 : es.length < 30) (hline : (apos.endLine == pos.line) = true) : PE X (.Call (.Attribute o m apos) es [] pos) (tMethD C m sp dvs E ta t) := by
  refine ⟨fun pins s σ H Q J h => ?_⟩
  obtain ⟨pl, hev⟩ := meth_eval (m := m) (apos := apos) (pos := pos) (es := es) (env := X.env) hp hs h30 hline
  refine PySem.W.methodCall_KW (pl := pl) (thn (he.run pins s σ H _ J h) fun u s1 ⟨x, H1, J1, rx, a, dx, fs, ex, ea, l, q⟩ => ?_) hev
  subst ex
  obtain rfl : u = Value.ref a := rx
  refine getmeth_ok J1 ea c hm l ?_
  cases es with
  | nil =>
    exact PySem.W.callWith_K0 (first := [.ref a]) J1.kIn hm.kp (run_fnD (us := [.ref a]) (vs := [.ref a]) F hr hb hd (hx σ) J1 (.cons rfl .nil) (h0 rfl σ H1 _ q))
  | cons e es =>
    rw [List.all_cons, Bool.and_eq_true] at hs
    exact PySem.W.callWith_K (first := [.ref a]) (h₀ := X.base) J.ok.mod.kin hm.kp (thn (ha.run pos pins s1 σ H1 _ J1 q) fun us s2 ⟨vs, H2, J2, r, q2⟩ => ⟨J2.kIn, run_fnD (us := .ref a :: us) (vs := .ref a :: vs) F hr hb hd (hx σ) J2 (.cons rfl r) q2⟩) (star_one hs.1) (star_all hs.2)
end
end Cal
/-! WpOc -/
namespace Cal
open PySem PySem.Spec PyProof.Rows L2 LamX
/-! the further expressions are as read -/
section
variable {K : PySem.W.Frag} {T : Tb} {M : Ms} {G H : Hp}
theorem lookup_kvs {f : Str} : ∀ {fs' : List (Str × V)} {fs : List (Str × Sv)}, Kvs K G fs' fs → (∃ v r, fs'.lookup f = some v ∧ fs.lookup f = some r ∧ Vk K G v r) ∨ (fs'.lookup f = none ∧ fs.lookup f = none)
  | _, _, .nil => .inr ⟨rfl, rfl⟩
  | (k, v) :: fs', (k2, r) :: fs, .cons h t => by
    have h1 : k = k2 := h.1
    subst h1
    rw [List.lookup_cons, List.lookup_cons]
    cases hk : f == k with
    | true => exact .inl ⟨v, r, rfl, rfl, h.2⟩
    | false => exact lookup_kvs t
theorem obW_ok {v : Sv} {x : V} {P : Ms → Addr → Addr → List (Str × Sv) → Ms → Prop} (h : obW v M P) (w : Wt K T M G H) (hx : Vk K G x v) : ∃ A l c fs C dx fs', v = .ptr .ob l ∧ x = .ref l ∧ M = A ++ (l, .ob c fs) :: C ∧ P A l c fs C ∧ H l = some (.ins c dx fs') ∧ Kvs K G fs' fs := by
  unfold obW at h
  split at h
  · obtain ⟨A, c, fs, C, e, hp⟩ := h
    have w2 := w
    rw [e] at w2
    obtain ⟨dx, fs', h1, h2, _⟩ := ob_at w2
    exact ⟨A, _, c, fs, C, dx, fs', rfl, hx, e, hp, h1, h2⟩
  · exact h.elim
theorem dkHere_ok {v : Sv} {x : V} (h : dkHere v M) (w : Wt K T M G H) (hx : Vk K G x v) : ∃ a, x = .ref a ∧ IsD H a := by
  unfold dkHere at h
  split at h
  · obtain ⟨es, h⟩ := h
    obtain ⟨kvs, h1, _⟩ := rdK_ok h w
    exact ⟨_, hx, .inl ⟨kvs, h1⟩⟩
  · exact h.elim
end
section
variable {g : Gi} {U : Wps} {S : Sc} {X : Cx} {W : WX} {ds : List Sv} {M : Ms} {Q : PoE} {Er' : Er} {a b c e o f : Expr} {es : List Expr} {pos p ap cp : Pos}
theorem fld_ok (ok : GiOk g X.prog X.w X.K X.mg X.base) {f : Str} (hp : plainBase o = true) (h : PE X o (tE X.K g.T W ds M (fun v M1 => fldW g f v M1 Q) Er')) : PE X (.Attribute o f pos) (tE X.K g.T W ds M Q Er') := by
  refine pe_mono (pe_fld h (base_ok hp)) fun σ H q ⟨G, w, s, ok2, er⟩ => ⟨G, w, s, fun v M1 x G1 H1 hf sg w1 hx => ?_, er⟩
  have hf : fldW g f v M1 Q := hf
  unfold fldW at hf
  obtain ⟨A, l, c, fs, C, dx, fs', rfl, rfl, e, ⟨hfl, r, hr, hq⟩, h1, h2⟩ := obW_ok hf w1 hx
  obtain ⟨k1, k2⟩ := ok.fl c f hfl
  rcases lookup_kvs (f := f) h2 with ⟨y, r', e1, e2, e3⟩ | ⟨_, e2⟩
  · rw [hr] at e2
    cases e2
    exact ⟨l, c, dx, fs', y, rfl, h1, k1, k2, e1, (ok2.up sg).self w1 hq e3⟩
  · rw [hr] at e2
    cases e2
theorem dnew_ok (h : ∀ l, Q (.ptr .dk l) ((l, .dk []) :: M)) : PE X (.Dict [] [] pos) (tE X.K g.T W ds M Q Er') := by
  refine pe_mono pe_dnewK fun σ H q ⟨G, w, s, ok, er⟩ l hl => ?_
  exact ok _ _ _ G _ (h l) (Same.refl _) (w.mnew hl (m := .dk []) .nil) rfl
theorem mtP_call {c : Addr} {m : Str} {s : Sig} (o2 : Xo g S X W) (hm : MtP X.prog X.w X.K X.mg X.base g.T g.k c m s) (hp : plainBase o = true) (hs : es.all notStar = true) (h30 : es.length < 30) (hline : (ap.endLine == cp.line) = true) {fE : Expr → Ms → PoE → Prop} (hE : ∀ e M Q, fE e M Q → PE X e (tE X.K g.T W ds M Q Er'))
    (ho : PE X o (tE X.K g.T W ds M (fun v M1 => obW v M1 fun _ _ c' fs _ => c' = c ∧ fs.lookup m = none ∧ wpL fE es M1 fun vs M2 => (v :: vs).length + s.dr.length = s.n ∧ s.T (v :: (vs ++ s.dr)) M2 Q Er') Er')) : PE X (.Call (.Attribute o m ap) es [] cp) (tE X.K g.T W ds M Q Er') := by
  obtain ⟨fa, fd, ps, us, dvs, F, hc, hmt, hb, hd, hv⟩ := hm.ex
  have ha : PA X es (fun σ H q => ∃ z : Sv × Ms, wpL fE es z.2 (fun vs M2 => (z.1 :: vs).length + s.dr.length = s.n ∧ s.T (z.1 :: (vs ++ s.dr)) M2 Q Er') ∧ tA X.K g.T W ds z.2 (fun vs M2 => (z.1 :: vs).length + s.dr.length = s.n ∧ s.T (z.1 :: (vs ++ s.dr)) M2 Q Er') Er' σ H q) :=
    pa_ex (ι := Sv × Ms) (p := fun z => wpL fE es z.2 (fun vs M2 => (z.1 :: vs).length + s.dr.length = s.n ∧ s.T (z.1 :: (vs ++ s.dr)) M2 Q Er')) (t := fun z => tA X.K g.T W ds z.2 (fun vs M2 => (z.1 :: vs).length + s.dr.length = s.n ∧ s.T (z.1 :: (vs ++ s.dr)) M2 Q Er') Er') fun z hz => wpL_ok hE hs hz
  refine pe_mono (pe_methD (E := WE W) ho hc hmt F o2.room hb hd (passAt o2.tk) ha (fun e0 σ H q hq => ?_) hp hs h30 hline) fun σ H q ⟨G, w, sl, ok, er⟩ => ⟨G, w, sl, fun v M1 x G1 H1 hob sg w1 hx => ?_, er⟩
  · subst e0
    obtain ⟨z, hz, G, w, sl, ok, er⟩ := hq
    exact ok [] z.2 [] G H hz (Same.refl _) w .nil
  · obtain ⟨A, l, c', fs, C, dx, fs', rfl, rfl, e, ⟨hcc, hl, hw⟩, h1, h2⟩ := obW_ok hob w1 hx
    subst hcc
    have hl' : fs'.lookup m = none := by
      rcases lookup_kvs (f := m) h2 with ⟨y, r', e1, e2, _⟩ | ⟨e1, _⟩
      · rw [hl] at e2; cases e2
      · exact e1
    refine ⟨l, dx, fs', rfl, h1, hl', (.ptr .ob l, M1), hw, G1, w1, sl.up sg, fun vs M2 us G2 H2 hT sg2 w2 hvs => ?_, er.up sg⟩
    refine ⟨G2, .ptr .ob l :: (vs ++ s.dr), M2, Q, Er', ?_, w2, .cons (Vk.up sg2 hx) (hvs.app (hv G2)), hT.2, ok.up (sg.trans sg2), fun c M' G' H' he sg3 w' => er c M' G' H' σ he (sg.trans (sg2.trans sg3)) w'⟩
    show (us ++ dvs).length + 1 = s.n
    rw [List.length_append, hvs.len, (hv G2).len]
    have := hT.1
    rw [List.length_cons] at this
    omega
theorem make_ok (o2 : Xo g S X W) {x : Str} {c : Addr} {s : Sig} (hm : MkP X.prog X.w X.K X.mg X.base g.T g.k x c s) (hg : Gl X x) (hdb : (x == ("__debug__" : Str)) = false) (hs : es.all notStar = true) {fE : Expr → Ms → PoE → Prop} (hE : ∀ e M Q, fE e M Q → PE X e (tE X.K g.T W ds M Q Er'))
    (h : wpL fE es M fun vs M1 => vs.length + 1 + s.dr.length = s.n ∧ ∀ l, s.T (.ptr .ob l :: (vs ++ s.dr)) ((l, .ob c []) :: M1) (fun r M2 => r = .dat .none ∧ Q (.ptr .ob l) M2) Er') : PE X (.Call (.Name x p) es [] pos) (tE X.K g.T W ds M Q Er') := by
  obtain ⟨k', fa, fd, ps, us, dvs, hk, F, hmk, hmg, hb, hd, hv⟩ := hm.ex
  refine pe_mono (pe_makeD (E := WE W) hmk F (o2.room.mono hk) hg hmg hb hd (passAt o2.tk) (wpL_ok hE hs h) (fun e0 σ H q hq => ?_) hdb hs) fun σ H q ⟨G, w, sl, ok, er⟩ => ⟨G, w, sl, fun vs M1 us G1 H1 hT sg w1 hvs y dx hy hdx hne => ?_, er⟩
  · subst e0
    obtain ⟨G, w, sl, ok, er⟩ := hq
    exact ok [] M [] G H h (Same.refl _) w .nil
  · have w2 : Wt X.K g.T M1 G1 (upd H1 dx (.own y)) := by
      refine ⟨⟨fun b u e => ?_, fun q hq => ?_, w1.w.nd, w1.w.nt⟩, w1.t.ext fun b u e => ?_⟩
      · rw [upd_ne (ne_of_none (w1.w.ex b u e) hdx)]; exact w1.w.ex b u e
      · obtain ⟨⟨u, e1, e2⟩, e3⟩ := w1.w.mu q hq
        rw [upd_ne (ne_of_none e1 hdx)]; exact ⟨⟨u, e1, e2⟩, e3⟩
      · rw [upd_ne (ne_of_none e hdx)]; exact e
    have w3 := w2.mnew (p := y) (by rw [upd_ne hne.symm]; exact hy) (m := .ob c []) (o := .ins c dx []) ⟨rfl, .nil⟩
    refine ⟨G1, .ptr .ob y :: (vs ++ s.dr), _, _, Er', ?_, w3, .cons rfl (hvs.app (hv G1)), hT.2 y, fun r M' v G' H' hr sg2 w' hv' => ?_, fun c M' G' H' he sg3 w' => er c M' G' H' σ he (sg.trans sg3) w'⟩
    · show (us ++ dvs).length + 1 = s.n
      rw [List.length_append, hvs.len, (hv G1).len]
      have := hT.1
      omega
    · obtain ⟨rfl, hq⟩ := hr
      exact ⟨by cases (show Dp X.K G' v .none from hv'); rfl, ok _ _ _ G' _ hq (sg.trans sg2) w' rfl⟩
theorem methW_ok (hU : WOk g U) (o2 : Xo g S X W) {m : Str} (hline : (ap.endLine == cp.line) = true) (h : methW g U S o m es ds M Q Er') : PE X (.Call (.Attribute o m ap) es [] cp) (tE X.K g.T W ds M Q Er') := by
  unfold methW at h
  split at h
  · exact h.elim
  · rename_i hc
    simp only [Bool.and_eq_true] at hc
    obtain ⟨h30, c, s, hs, h⟩ := h
    exact mtP_call o2 (o2.ok.mt c m _ s hs) hc.1 hc.2 (Nat.blt_eq.mp h30) hline (fun e M Q h => hU.E o2 h) (hU.E o2 h)
theorem few1 {env : Env} {pos : Pos} (hs : notStar e = true) : ((backTo pos (starEach [e] env)).all (fun x => !x.1) && (backToKw pos (keywordEach [] env)).all (fun x => x.1.isSome)
    && decide (([e] : List Expr).length + ([] : List Keyword).length + (if ([] : List Keyword).isEmpty then 0 else 1) < 30)) = true := by
  rw [star_one hs]
  rfl
theorem m1_of {m : Str} (hp : plainBase o = true) (hs : notStar e = true) (hline : (ap.endLine == cp.line) = true) : M1 X o m ap e cp :=
  ⟨base_ok hp, few1 hs, hline, by rw [star_one hs]; rfl⟩
theorem m2_of {m : Str} (hp : plainBase o = true) (hs : notStar e = true) (hs2 : notStar f = true) (hline : (ap.endLine == cp.line) = true) : M2 X o m ap e f cp :=
  ⟨base_ok hp, by rw [star_one hs, star_one hs2]; rfl, hline, by rw [star_one hs, star_one hs2]; rfl⟩
theorem dpop_ok (o2 : Xo g S X W) {P : Sv → Ms → Prop} (hp : plainBase o = true) (hs : notStar e = true) (hline : (ap.endLine == cp.line) = true) (ho : PE X o (tE X.K g.T W ds M (fun v M1 => dkHere v M1 ∧ P v M1) Er')) (he : ∀ v M1, P v M1 → PE X e (tE X.K g.T W ds M1 (fun u M2 => dpopW v u M2 Q) Er')) :
    PE X (.Call (.Attribute o "pop" ap) [e] [] cp) (tE X.K g.T W ds M Q Er') := by
  refine pe_mono (pe_dpop1 ho (pe_sec (P := P) (Qf := fun v u M2 => dpopW v u M2 Q) he) (m1_of hp hs hline)) fun σ H q ⟨G, w, s, ok, er⟩ => ⟨G, w, s, fun v M1 x G1 H1 hv sg w1 hx => ?_, er⟩
  obtain ⟨a, ea, hd⟩ := dkHere_ok hv.1 w1 hx
  refine ⟨a, ea, hd, (v, M1), hv.2, G1, w1, s.up sg, fun u M2 y G2 H2 hq sg2 w2 hy => ?_, er.up sg⟩
  have hq : dpopW v u M2 Q := hq
  unfold dpopW at hq
  split at hq
  · split at hq
    · obtain ⟨k, A, es, C, r, hk, e2, hg, hq⟩ := hq
      have ey := keyD_ok hk hy
      have hx2 : x = .ref _ := hx
      rw [hx2] at ea
      cases ea
      have w3 := w2
      rw [e2] at w3
      obtain ⟨kvs, h1, h2, _⟩ := dk_at w3
      obtain ⟨z, z1, z2⟩ := h2.some hg
      exact ⟨kvs, k, z, h1, ey, z1, ok _ _ _ G2 _ hq (sg.trans sg2) (w3.dput h2.drop) z2⟩
    · exact hq.elim
  · exact hq.elim
theorem dget1_ok (o2 : Xo g S X W) {P : Sv → Ms → Prop} (hp : plainBase o = true) (hs : notStar e = true) (hline : (ap.endLine == cp.line) = true) (ho : PE X o (tE X.K g.T W ds M (fun v M1 => dkHere v M1 ∧ P v M1) Er')) (he : ∀ v M1, P v M1 → PE X e (tE X.K g.T W ds M1 (fun u M2 => dget1W v u M2 Q) Er')) :
    PE X (.Call (.Attribute o "get" ap) [e] [] cp) (tE X.K g.T W ds M Q Er') := by
  have hu := o2.units
  refine pe_mono (pe_dget1 (by omega) ho (pe_sec (P := P) (Qf := fun v u M2 => dget1W v u M2 Q) he) (m1_of hp hs hline)) fun σ H q ⟨G, w, s, ok, er⟩ => ⟨G, w, s, fun v M1 x G1 H1 hv sg w1 hx => ?_, er⟩
  obtain ⟨a, ea, hd⟩ := dkHere_ok hv.1 w1 hx
  refine ⟨a, ea, hd, (v, M1), hv.2, G1, w1, s.up sg, fun u M2 y G2 H2 hq sg2 w2 hy => ?_, er.up sg⟩
  have hq : dget1W v u M2 Q := hq
  unfold dget1W at hq
  obtain ⟨a2, o3, ro, ea2, g3, hq, e3⟩ := dgetW_ok hq w2 (hx.up sg2) hy
  rw [ea] at ea2
  cases ea2
  refine ⟨o3, g3, ?_⟩
  rcases e3 with ⟨z, r, e4, e5, e6⟩ | ⟨e4, e5⟩
  · rw [e4]; rw [e5] at hq; exact (ok.up (sg.trans sg2)).self w2 hq e6
  · rw [e4]; rw [e5] at hq; exact (ok.up (sg.trans sg2)).self w2 hq Dp.non
theorem dget2_ok (o2 : Xo g S X W) {P : Sv → Ms → Prop} {P2 : Sv → Sv → Ms → Prop} (hp : plainBase o = true) (hs : notStar e = true) (hs2 : notStar f = true) (hline : (ap.endLine == cp.line) = true) (ho : PE X o (tE X.K g.T W ds M (fun v M1 => dkHere v M1 ∧ P v M1) Er')) (he : ∀ v M1, P v M1 → PE X e (tE X.K g.T W ds M1 (fun u M2 => P2 v u M2) Er'))
    (hf : ∀ v u M2, P2 v u M2 → PE X f (tE X.K g.T W ds M2 (fun r M3 => dget2W v u r M3 Q) Er')) : PE X (.Call (.Attribute o "get" ap) [e, f] [] cp) (tE X.K g.T W ds M Q Er') := by
  have hu := o2.units
  refine pe_mono (pe_dget2 (by omega) ho (pe_sec (P := P) (Qf := fun v u M2 => P2 v u M2) he) (pe_ex (ι := Sv × Sv × Ms) (p := fun z => P2 z.1 z.2.1 z.2.2) (t := fun z => tE X.K g.T W ds z.2.2 (fun r M3 => dget2W z.1 z.2.1 r M3 Q) Er') fun z hz => hf z.1 z.2.1 z.2.2 hz) (m2_of hp hs hs2 hline)) fun σ H q ⟨G, w, s, ok, er⟩ => ⟨G, w, s, fun v M1 x G1 H1 hv sg w1 hx => ?_, er⟩
  obtain ⟨a, ea, hd⟩ := dkHere_ok hv.1 w1 hx
  refine ⟨a, ea, hd, (v, M1), hv.2, G1, w1, s.up sg, fun u M2 y G2 H2 hq sg2 w2 hy => ⟨(v, u, M2), hq, G2, w2, s.up (sg.trans sg2), fun r M3 z G3 H3 hq3 sg3 w3 hz => ?_, er.up (sg.trans sg2)⟩, er.up sg⟩
  have hq3 : dget2W v u r M3 Q := hq3
  unfold dget2W at hq3
  obtain ⟨a2, o3, ro, ea2, g3, hq3, e3⟩ := dgetW_ok hq3 w3 (hx.up (sg2.trans sg3)) (hy.up sg3)
  rw [ea] at ea2
  cases ea2
  refine ⟨o3, g3, ?_⟩
  rcases e3 with ⟨z, r, e4, e5, e6⟩ | ⟨e4, e5⟩
  · rw [e4]; rw [e5] at hq3; exact (ok.up (sg.trans (sg2.trans sg3))).self w3 hq3 e6
  · rw [e4]; rw [e5] at hq3; exact (ok.up (sg.trans (sg2.trans sg3))).self w3 hq3 hz
theorem meth1_ok (hU : WOk g U) (o2 : Xo g S X W) {m : Str} (hline : (ap.endLine == cp.line) = true) (h : meth1W g U S o m e ds M Q Er') : PE X (.Call (.Attribute o m ap) [e] [] cp) (tE X.K g.T W ds M Q Er') := by
  unfold meth1W at h
  split at h
  · rename_i em
    subst em
    exact dpop_ok o2 h.1 h.2.1 hline (hU.E o2 h.2.2) fun v M1 h1 => hU.E o2 h1
  · split at h
    · rename_i em
      subst em
      exact dget1_ok o2 h.1 h.2.1 hline (hU.E o2 h.2.2) fun v M1 h1 => hU.E o2 h1
    · exact methW_ok hU o2 hline h
theorem meth2_ok (hU : WOk g U) (o2 : Xo g S X W) {m : Str} (hline : (ap.endLine == cp.line) = true) (h : meth2W g U S o m e f ds M Q Er') : PE X (.Call (.Attribute o m ap) [e, f] [] cp) (tE X.K g.T W ds M Q Er') := by
  unfold meth2W at h
  split at h
  · rename_i em
    subst em
    exact dget2_ok (P2 := fun v u M2 => U.E S f ds M2 (fun r M3 => dget2W v u r M3 Q) Er') o2 h.1 h.2.1 h.2.2.1 hline (hU.E o2 h.2.2.2) (fun v M1 h1 => hU.E o2 h1) fun v u M2 h2 => hU.E o2 h2
  · exact methW_ok hU o2 hline h
/-- a dict is locked while an expression goes through it -/
theorem lkE_ok {e : Expr} (h : lkW M fun M1 un => PE X e (tE X.K g.T W ds M1 (fun r M2 => un M2 (Q r)) Er')) : PE X e (tE X.K g.T W ds M Q Er') := by
  obtain ⟨A, l, es, C, e0, h⟩ := h
  refine pe_mono (pe_lock (pe_ex (ι := Obj × List (L2.Key × V)) (p := fun _ => True) (t := fun z => tE X.K g.T W ds (A ++ (l, .fk z.1 z.2 es) :: C) (fun r M2 => ∃ A' C', M2 = A' ++ (l, .fk z.1 z.2 es) :: C' ∧ Q r (A' ++ (l, .dk es) :: C')) Er') fun z _ => h z.1 z.2)) fun σ H q ⟨G, w, s, ok, er⟩ => ?_
  rw [e0] at w
  obtain ⟨kvs, k1, k2, k3⟩ := dk_at w
  refine ⟨l, .dK kvs, k1, trivial, fun od => ⟨(od, kvs), trivial, G, ?_, s, fun r M' v G' H' hr sg w' hv => ?_, er⟩⟩
  · exact w.mset k1 ⟨fun _ z => (nomatch z), fun _ z => (nomatch z)⟩ (m' := .fk od kvs es) ⟨⟨rfl, rfl⟩, k2⟩
  · obtain ⟨A', C', rfl, hn⟩ := hr
    obtain ⟨z1, z2⟩ := fk_at (M := []) w'
    exact ⟨z1, ok _ _ _ _ _ hn sg (w'.mset z1 ⟨fun _ z => (nomatch z), fun _ z => (nomatch z)⟩ (m' := .dk es) z2) hv⟩
theorem lcL_ok {elt tg it : Expr} {ifs : List Expr} {scope : Scope} (hU : WOk g U) (o : Xo g S X W) (h1 : notSet it = true) (h2 : blkC S.N S.sc scope (ownS S scope) = true) (h3 : subB (tgSl (inS S scope) 9 tg) ((ownS S scope).map (·.2)) = true)
    (h : lkW M fun M1 un => U.I S tg it ds M1 (lcP U (inS S scope) tg elt ifs (wipeD ds ((ownS S scope).map (·.2))) fun r M2 => un M2 (Q r)) Er') : PE X (.ListComp elt [⟨tg, it, ifs, 0⟩] scope pos) (tE X.K g.T W ds M Q Er') := by
  obtain ⟨A, l, es, C, e0, h⟩ := h
  exact lkE_ok ⟨A, l, es, C, e0, fun od kvs => lc_ok hU o h1 h2 h3 (h od kvs)⟩
theorem dc_run {S' : Sc} {own : List (Str × Nat)} {K : PySem.W.Frag} {tg kx vx : Expr} {ifs : List Expr} (hsub : subB (tgSl S' 9 tg) (own.map (·.2)) = true) {σ : L2.St} {H : Hp} {q : VK} {dz : List Sv} (hz : ∀ G, Sl K G σ ds → Sl K G (wipe σ (own.map (·.2))) dz)
    (h : tE K g.T W ds M Q Er' σ H q) : tDc (tI K g.T W ds M (dcP U S' tg kx vx ifs dz Q) Er') (uG K g.T S' tg) (uT K g.T U S' ifs) (uE K g.T U S' kx) (uE K g.T U S' vx) (own.map (·.2)) σ H q := by
  obtain ⟨G, w, s, ok, er⟩ := h
  refine ⟨G, w, s, fun rs Kp M1 G1 H1 J hl sg w1 src D hD => ?_, er⟩
  obtain ⟨hlen, Inv, h0, hk, hstep, hend⟩ := hl
  refine ⟨fun i m H => m = rs.length - i ∧ i ≤ rs.length ∧ ∃ acc M Gi, Inv i acc M ∧ Same G1 Gi ∧ Wt K g.T ((D, .dk acc) :: M) Gi H, ⟨rs.length, by simp, Nat.zero_le _, [], M1, G1, h0, Same.refl _, w1.mnew hD (m := .dk []) .nil⟩, ?_⟩
  rintro i m Hi ⟨rfl, hi, acc, Mi, Gi, hinv, sgi, wi⟩
  obtain ⟨hkp, hal⟩ := hk i acc Mi hi hinv
  have hkp2 := src.up (D, .dk acc) Mi hkp
  by_cases hlt : i < rs.length
  · refine .inr ⟨src.go i _ Gi Hi hlt sgi wi hkp2, fun H' => ∃ acc M Gi, Inv (i + 1) acc M ∧ Same G1 Gi ∧ Wt K g.T ((D, .dk acc) :: M) Gi H', fun H' ⟨acc', M', G', z1, z2, z3⟩ => ⟨rs.length - (i + 1), by omega, rfl, by omega, acc', M', G', z1, z2, z3⟩, fun x H' hy => ?_⟩
    obtain ⟨G', r, hr, sg', w', hx⟩ := src.yld i _ Gi Hi x H' hlt sgi wi hkp2 hy
    have s' := hz _ (s.up (sg.trans (sgi.trans sg')))
    refine ⟨(r, _, _), hstep D i r acc Mi hr hinv, _, G', w', s', hx, fun ds2 σ2 hq s2 chg => ⟨(chg _ (sub_of hsub)).trans wipe_idem, (ds2, _, _), hq, G', w', s2, fun b M2 G2 H2 hb sg2 w2 => ?_, erE0⟩⟩
    obtain ⟨M3, rfl, hb⟩ := hb
    cases b with
    | true =>
      refine iteT ⟨(ds2, (D, .dk acc) :: M3, _), hb, G2, w2, s2.up sg2, fun kv M4 y G4 H4 hkv sg4 w4 hy4 => ?_, erE0⟩
      obtain ⟨M5, k, rfl, hkd, hv⟩ := hkv
      refine ⟨(ds2, (D, .dk acc) :: M5, _), hv, G4, w4, (s2.up sg2).up sg4, fun v M6 z G6 H6 hinv6 sg6 w6 hz6 => ?_, erE0⟩
      obtain ⟨M7, rfl, hinv7⟩ := hinv6
      obtain ⟨kvs', q1, q2, _⟩ := dk_at (A := []) w6
      have ey : y = kV k := by
        cases kv with
        | dat d => exact keyD_ok hkd hy4
        | _ => exact hkd.elim
      exact ⟨kvs', k, ey, q1, by rw [q2.len]; exact small1000 (by omega), kvPut acc k v, M7, G6, hinv7, sgi.trans (sg'.trans (sg2.trans (sg4.trans sg6))), Wt.dput (A := []) w6 (q2.put hz6)⟩
    | false => exact iteF ⟨acc, M3, G2, hb, sgi.trans (sg'.trans sg2), w2⟩
  · have e : i = rs.length := by omega
    subst e
    exact .inl ⟨src.stop _ Gi Hi sgi wi hkp2, ok _ _ _ _ _ (hend acc Mi D hinv) (sg.trans sgi) wi rfl⟩
theorem dc_ok {kx vx tg it : Expr} {ifs : List Expr} {scope : Scope} (hU : WOk g U) (o : Xo g S X W) (h1 : notSet it = true) (h2 : blkC S.N S.sc scope (ownS S scope) = true) (h3 : subB (tgSl (inS S scope) 9 tg) ((ownS S scope).map (·.2)) = true)
    (h : U.I S tg it ds M (dcP U (inS S scope) tg kx vx ifs (wipeD ds ((ownS S scope).map (·.2))) Q) Er') : PE X (.DictComp kx vx [⟨tg, it, ifs, 0⟩] scope pos) (tE X.K g.T W ds M Q Er') := by
  refine pe_mono (pe_dc (own := ownS S scope) o.calm o.nd (hU.I o h) (blkOk_by (by rw [o.N, o.sc]; exact h2))
    (g := uG X.K g.T (inS S scope) tg) (tt := uT X.K g.T U (inS S scope) ifs) (tk := uE X.K g.T U (inS S scope) kx) (tv := uE X.K g.T U (inS S scope) vx)
    (fun s H C cl fp => pg_ex (ι := Sv × List Sv × (List Sv → Prop)) (p := fun z => wpG (inS S scope) 9 tg z.1 z.2.1 z.2.2) (t := fun z => tGx X.K g.T z.1 z.2.1 z.2.2 (tgSl (inS S scope) 9 tg)) fun z hz => wpG_ok (o.inner scope s H C cl fp).n 9 tg _ _ _ hz)
    (fun s H C cl fp => pts_ex (ι := List Sv × Ms × PoT) (p := fun z => wpIfs (fun e M Q => U.T (inS S scope) e z.1 M Q noE) ifs z.2.1 z.2.2) (t := fun z => tT X.K g.T W0 z.1 z.2.1 z.2.2 noE) fun z hz => wpIfs_ok (Z := X.blk s H scope (compEnvC scope cl C X.env) fp) (fun e M Q he => hU.T (o.inner scope s H C cl fp) he) hz)
    (fun s H C cl fp => pe_ex (ι := List Sv × Ms × PoE) (p := fun z => U.E (inS S scope) kx z.1 z.2.1 z.2.2 noE) (t := fun z => tE X.K g.T W0 z.1 z.2.1 z.2.2 noE) fun z hz => hU.E (o.inner scope s H C cl fp) hz)
    (fun s H C cl fp => pe_ex (ι := List Sv × Ms × PoE) (p := fun z => U.E (inS S scope) vx z.1 z.2.1 z.2.2 noE) (t := fun z => tE X.K g.T W0 z.1 z.2.1 z.2.2 noE) fun z hz => hU.E (o.inner scope s H C cl fp) hz)
    (fun x => by cases it <;> first | rfl | cases h1)) fun σ H q hq => dc_run h3 (fun G s => s.wipe _) hq
theorem ext_ok (hU : WOk g U) (o2 : Xo g S X W) (h : extE g U S e ds M Q Er') : PE X e (tE X.K g.T W ds M Q Er') := by
  unfold extE at h
  split at h
  · split at h
    · rename_i hp
      exact fld_ok o2.ok hp (hU.E o2 h)
    · exact h.elim
  · exact dnew_ok h
  · split at h
    · exact h.elim
    · rename_i hc
      simp only [Bool.and_eq_true] at hc
      rcases h with h | ⟨A, l, es, C, e0, h⟩
      · exact dc_ok hU o2 hc.1.1 hc.1.2 hc.2 h
      · exact lkE_ok ⟨A, l, es, C, e0, fun od kvs => dc_ok hU o2 hc.1.1 hc.1.2 hc.2 (h od kvs)⟩
  · split at h
    · rename_i hl
      exact meth2_ok hU o2 hl h
    · exact h.elim
  · split at h
    · rename_i hl
      exact methW_ok hU o2 hl h
    · exact h.elim
  · exact h.elim
end
end Cal
/-! WpK -/
namespace Cal
open PySem PySem.Spec PyProof.Rows L2 LamX
section
variable {g : Gi} {U : Wps} {S : Sc} {X : Cx} {W : WX} {ds : List Sv} {M : Ms} {Q : PoE} {Er' : Er} {pos p : Pos}
theorem usub_ok {a : Expr} {T : Tb} (h : PE X a (tE X.K T W ds M (fun v M1 => unW .USub v M1 Q) Er')) : PE X (.UnaryOp .USub a pos) (tE X.K T W ds M Q Er') := by
  refine pe_mono (pe_un un_neg h) fun σ H q ⟨G, w, s, ok, er⟩ => ⟨G, w, s, fun v M1 x G1 H1 hb sg w1 hx => ?_, er⟩
  have hb : unW .USub v M1 Q := hb
  unfold unW at hb
  split at hb
  · cases vk_int hx
    exact ⟨_, rfl, (ok.up sg).self w1 hb (.int _)⟩
  · rename_i e; cases e
  · exact hb.elim
theorem not_ok {a : Expr} {T : Tb} (h : PE X a (tE X.K T W ds M (fun v M1 => unW .Not v M1 Q) Er')) : PE X (.UnaryOp .Not a pos) (tE X.K T W ds M Q Er') := by
  refine pe_mono (pe_not h) fun σ H q ⟨G, w, s, ok, er⟩ => ⟨G, w, s, fun v M1 x G1 H1 hb sg w1 hx => ?_, er⟩
  have hb : unW .Not v M1 Q := hb
  unfold unW at hb
  split at hb
  · rename_i e; cases e
  · cases vk_bl hx
    exact ⟨_, rfl, (ok.up sg).self w1 hb (.bl _)⟩
  · exact hb.elim
theorem okB_of {K : PySem.W.Frag} {T : Tb} {G : Hp} {q : VK} (ok : okE K T G Q q) : okB K T G (fun c M3 => Q (B c) M3) q := fun b M' G' H' hb sg w => ok (B b) M' (.bl b) G' H' hb sg w (.bl b)
theorem cmp_ok {op : CmpOp} {a b : Expr} {T : Tb} {P : Sv → Ms → Prop} (hu : X.A.units + 65 < cLine) (hm : behindInMarks op b = false) (ha : PE X a (tE X.K T W ds M P Er')) (hb : ∀ va M1, P va M1 → PE X b (tE X.K T W ds M1 (fun vb M2 => cmpW op va vb M2 fun c M3 => Q (B c) M3) Er')) :
    PE X (.Compare a [op] [b] pos) (tE X.K T W ds M Q Er') :=
  pe_mono (pe_cmpR (op_cmp (T := T) hu) ha (pe_sec (Qf := fun va vb M2 => cmpW op va vb M2 fun c M3 => Q (B c) M3) hb) hm) fun σ H q h => tOp_of (fun va vb M2 G x y H q hq w hx hy ok => ⟨va, vb, M2, G, _, hq, w, hx, hy, okB_of ok⟩) h
theorem tTest_of {K : PySem.W.Frag} {T : Tb} {r2 : R2} {P : Sv → Ms → Prop} {Qf : Sv → PoE} {Qt : PoT} {σ : L2.St} {H : Hp} {q : Bool → Hp → Prop} (hop : ∀ va vb M2 G x y H (q : VK), Qf va vb M2 → Wt K T M2 G H → Vk K G x va → Vk K G y vb → okB K T G Qt q → r2 x y H q) (h : tT K T W ds M Qt Er' σ H q) :
    tTest (tOp r2 (tE K T W ds M P Er') (tSec K T W ds P Qf Er')) σ H q := by
  obtain ⟨G, w, s, ok, er⟩ := h
  exact ⟨G, w, s, fun va M1 x G1 H1 hB sg w1 hx => ⟨(va, M1), hB, G1, w1, s.up sg, fun vb M2 y G2 H2 hQ sg2 w2 hy => hop va vb M2 G2 x y H2 _ hQ w2 (hx.up sg2) hy fun b M3 G3 H3 hb sg3 w3 => ⟨b, rfl, ok b M3 G3 H3 hb (sg.trans (sg2.trans sg3)) w3⟩, er.up sg⟩, er⟩
theorem cmpT_ok {op : CmpOp} {a b : Expr} {T : Tb} {P : Sv → Ms → Prop} {Qt : PoT} (hu : X.A.units + 65 < cLine) (hm : behindInMarks op b = false) (ha : PE X a (tE X.K T W ds M P Er')) (hb : ∀ va M1, P va M1 → PE X b (tE X.K T W ds M1 (fun vb M2 => cmpW op va vb M2 Qt) Er')) :
    PT X (.Compare a [op] [b] pos) (tT X.K T W ds M Qt Er') :=
  pt_mono (pt_cmpR (op_cmp (T := T) hu) ha (pe_sec (Qf := fun va vb M2 => cmpW op va vb M2 Qt) hb) hm) fun σ H q h => tTest_of (fun va vb M2 G x y H q hq w hx hy ok => ⟨va, vb, M2, G, _, hq, w, hx, hy, ok⟩) h
/-- a op b op' c -/
theorem chain_run {op op' : CmpOp} {T : Tb} {K : PySem.W.Frag} {P : Sv → Ms → Prop} {Qb : PoT} {Pc : Sv → Ms → Prop} {σ : L2.St} {H : Hp} {q : VK} (hq : ∀ G : Hp, True) {G : Hp} (w : Wt K T M G H) (s : Sl K G σ ds) (ok : okB K T G Qb q) (er : erE K T G Er' W) :
    tChain (rCmp K T op) (rCmp K T op') (tE K T W ds M P Er') (tSec K T W ds P (fun va vb M2 => cmpW op va vb M2 fun k M3 => brP k (Pc vb M3) (Qb false M3)) Er') (tSec K T W ds Pc (fun vb vc M4 => cmpW op' vb vc M4 Qb) Er') σ H q := by
  refine ⟨G, w, s, fun va M1 x G1 H1 hB sg w1 hx => ⟨(va, M1), hB, G1, w1, s.up sg, fun vb M2 y G2 H2 hQ sg2 w2 hy => ⟨va, vb, M2, G2, _, hQ, w2, hx.up sg2, hy, fun k M3 G3 H3 hk sg3 w3 => ⟨k, rfl, ?_⟩⟩, er.up sg⟩, er⟩
  cases k with
  | true => exact iteT ⟨(vb, M3), hk, G3, w3, s.up (sg.trans (sg2.trans sg3)), fun vc M4 z G4 H4 hc sg4 w4 hz => ⟨vb, vc, M4, G4, Qb, hc, w4, hy.up (sg3.trans sg4), hz, fun b M5 G5 H5 hb sg5 w5 => ok b M5 G5 H5 hb (sg.trans (sg2.trans (sg3.trans (sg4.trans sg5)))) w5⟩, er.up (sg.trans (sg2.trans sg3))⟩
  | false => exact iteF (ok false M3 G3 H3 hk (sg.trans (sg2.trans sg3)) w3)
theorem chain_ok {op op' : CmpOp} {a b c : Expr} {T : Tb} {P Pc : Sv → Ms → Prop} (hu : X.A.units + 65 < cLine) (hm : lastMarks [op, op'] [b, c] = false) (ha : PE X a (tE X.K T W ds M P Er'))
    (hb : ∀ va M1, P va M1 → PE X b (tE X.K T W ds M1 (fun vb M2 => cmpW op va vb M2 fun k M3 => brP k (Pc vb M3) (Q (B false) M3)) Er')) (hc : ∀ vb M3, Pc vb M3 → PE X c (tE X.K T W ds M3 (fun vc M4 => cmpW op' vb vc M4 fun k M5 => Q (B k) M5) Er')) :
    PE X (.Compare a [op, op'] [b, c] pos) (tE X.K T W ds M Q Er') :=
  pe_mono (pe_chain (op_cmp (T := T) hu) (op_cmp (T := T) hu) ha (pe_sec (Qf := fun va vb M2 => cmpW op va vb M2 fun k M3 => brP k (Pc vb M3) (Q (B false) M3)) hb) (pe_sec (Qf := fun vb vc M4 => cmpW op' vb vc M4 fun k M5 => Q (B k) M5) hc) hm)
    fun σ H q ⟨G, w, s, ok, er⟩ => chain_run (Qb := fun k M5 => Q (B k) M5) (fun _ => trivial) w s (okB_of ok) er
theorem chainT_ok {op op' : CmpOp} {a b c : Expr} {T : Tb} {P Pc : Sv → Ms → Prop} {Qt : PoT} (hu : X.A.units + 65 < cLine) (hm : lastMarks [op, op'] [b, c] = false) (ha : PE X a (tE X.K T W ds M P Er'))
    (hb : ∀ va M1, P va M1 → PE X b (tE X.K T W ds M1 (fun vb M2 => cmpW op va vb M2 fun k M3 => brP k (Pc vb M3) (Qt false M3)) Er')) (hc : ∀ vb M3, Pc vb M3 → PE X c (tE X.K T W ds M3 (fun vc M4 => cmpW op' vb vc M4 Qt) Er')) :
    PT X (.Compare a [op, op'] [b, c] pos) (tT X.K T W ds M Qt Er') :=
  pt_mono (pt_chain (op_cmp (T := T) hu) (op_cmp (T := T) hu) ha (pe_sec (Qf := fun va vb M2 => cmpW op va vb M2 fun k M3 => brP k (Pc vb M3) (Qt false M3)) hb) (pe_sec (Qf := fun vb vc M4 => cmpW op' vb vc M4 Qt) hc) hm)
    fun σ H q ⟨G, w, s, ok, er⟩ => chain_run (Qb := Qt) (fun _ => trivial) w s (fun b M' G' H' hb sg w' => ⟨b, rfl, ok b M' G' H' hb sg w'⟩) er
theorem call_ok (o : Xo g S X W) {x : Str} {es : List Expr} {s : Sig} (hs : es.all notStar = true) (hg : Gl X x) (hdb : (x == ("__debug__" : Str)) = false) (hf : FnP X.prog X.w X.K X.mg X.base g.T g.k x s)
    {f : Expr → Ms → PoE → Prop} (hE : ∀ e M Q, f e M Q → PE X e (tE X.K g.T W ds M Q Er')) (h : wpL f es M (fun vs M1 => vs.length + s.dr.length = s.n ∧ s.T (vs ++ s.dr) M1 Q Er')) : PE X (.Call (.Name x p) es [] pos) (tE X.K g.T W ds M Q Er') := by
  obtain ⟨fa, fd, ps, us, dvs, F, h1, h2, h3, h4, h5⟩ := hf.ex
  have key : ∀ (σ : L2.St) (H : Hp) (q : VK) (rs : List Sv) (M1 : Ms) (vs : List V) (G : Hp), rs.length + s.dr.length = s.n → s.T (rs ++ s.dr) M1 Q Er' → Wt X.K g.T M1 G H → Vks X.K G vs rs → okE X.K g.T G Q q → erE X.K g.T G Er' W → spP X.K g.T s (vs ++ dvs) H q (WE W σ) := fun σ H q rs M1 vs G hl hT w hv ok er =>
    ⟨G, rs ++ s.dr, M1, Q, Er', by rw [List.length_append, hv.len, (h5 G).len]; exact hl, w, hv.app (h5 G), hT, ok, fun c M' G' H' he sg w' => er c M' G' H' σ he sg w'⟩
  cases es with
  | nil =>
    refine pe_mono (pe_callD0 (E := WE W) F o.room hg h1 h2 h3 h4 (passAt o.tk) hdb) fun σ H q ⟨G, w, sl, ok, er⟩ => ?_
    have h' : ([] : List Sv).length + s.dr.length = s.n ∧ s.T ([] ++ s.dr) M Q Er' := h
    exact key σ H q [] M [] G h'.1 h'.2 w .nil ok er
  | cons e es =>
    have ha := wpL_ok hE hs h
    rw [List.all_cons, Bool.and_eq_true] at hs
    refine pe_mono (pe_callD (E := WE W) F o.room hg h1 h2 h3 h4 (passAt o.tk) ha hdb (star_one hs.1) (star_all hs.2)) fun σ H q ⟨G, w, sl, ok, er⟩ => ?_
    exact ⟨G, w, sl, fun rs M1 vs G1 H1 ⟨hl, hT⟩ sg w1 hv => key σ H1 q rs M1 vs G1 hl hT w1 hv (ok.up sg) (er.up sg), er⟩
theorem callL_ok (o : Xo g S X W) {x y : Str} {es : List Expr} {s : Sig} {i : Nat} (hs : es.all notStar = true) (hne : es ≠ []) (hi : slotV S x = some i) (hd : ds[i]? = some (.raw (.ref (g.fa y)))) (hf : FnP X.prog X.w X.K X.mg X.base g.T g.k y s) (hfa : X.mg y = some (.ref (g.fa y)))
    {f : Expr → Ms → PoE → Prop} (hE : ∀ e M Q, f e M Q → PE X e (tE X.K g.T W ds M Q Er')) (h : wpL f es M (fun vs M1 => vs.length + s.dr.length = s.n ∧ s.T (vs ++ s.dr) M1 Q Er')) : PE X (.Call (.Name x p) es [] pos) (tE X.K g.T W ds M Q Er') := by
  obtain ⟨h1, h2, h3, h4⟩ := slotV_ok hi
  obtain ⟨fa, fd, ps, us, dvs, F, m2, m3, m4, m5, m6⟩ := hf.ex
  have ea : fa = g.fa y := by
    rw [hfa] at m2
    exact (Value.ref.inj (Option.some.inj m2)).symm
  subst ea
  cases es with
  | nil => exact absurd rfl hne
  | cons e es =>
    have ha := wpL_ok hE hs h
    rw [List.all_cons, Bool.and_eq_true] at hs
    refine pe_mono (pe_callDL (E := WE W) F o.room (o.at h1) (o.vis h2) m3 m4 m5 (passAt o.tk) ha h3 h4 (star_one hs.1) (star_all hs.2)) fun σ H q ⟨G, w, sl, ok, er⟩ => ?_
    obtain ⟨v, z1, z2⟩ := sl.val hd (by intro z; cases z)
    have z2' : v = .ref (g.fa y) := z2
    subst z2'
    exact ⟨z1, G, w, sl, fun rs M1 vs G1 H1 ⟨hl, hT⟩ sg w1 hv => ⟨G1, rs ++ s.dr, M1, Q, Er', by rw [List.length_append, hv.len, (m6 G1).len]; exact hl, w1, hv.app (m6 G1), hT, ok.up sg, fun c M' G' H' he sg2 w' => er c M' G' H' σ he (sg.trans sg2) w'⟩, er⟩
theorem kind_ok {T : Tb} (o : Xo g S X W) {x : Str} (hg : Gl X x) (hdb : (x == ("__debug__" : Str)) = false) (h : kindW g x M Q) : PE X (.Name x p) (tE X.K T W ds M Q Er') := by
  unfold kindW at h
  split at h
  · rename_i hc
    simp only [Bool.and_eq_true] at hc
    have ex := eq_of_beq hc.1.2
    subst ex
    exact pe_mono (pe_bltn (v := .ty "tuple") hg (o.ok.bi _ hc.2) PyProof.Rows.boot_tuple rfl) fun σ H q hq => tE_self hq h fun _ => rfl
  · exact h.elim
theorem ints_snd {K : PySem.W.Frag} {G : Hp} : ∀ {kvs : List (L2.Key × V)} {es : List (L2.Key × Sv)} {is : List Int}, Kvs K G kvs es → es.map (·.2) = is.map I → kvs.map (·.2) = is.map V.int
  | _, _, [], .nil, _ => rfl
  | _, _, _ :: _, .nil, h => by cases h
  | _, _, [], .cons _ _, h => by cases h
  | (k, v) :: kvs, (k2, r) :: es, i :: is, .cons h t, e => by
    rw [List.map_cons, List.map_cons] at e
    injection e with e1 e2
    have e1 : r = I i := e1
    have h2 : Vk K G v r := h.2
    rw [e1] at h2
    rw [List.map_cons, List.map_cons, ints_snd t e2, show v = .int i from vk_int h2]
theorem dvals_ok (o2 : Xo g S X W) {x : Str} {es : List Expr} {o : Expr} (hg : Gl X x) (hv : dvals g x es = some o) (hE : U.E S o ds M (fun v M1 => minvW v M1 Q) Er' → PE X o (tE X.K g.T W ds M (fun v M1 => minvW v M1 Q) Er')) (h : U.E S o ds M (fun v M1 => minvW v M1 Q) Er') : PE X (.Call (.Name x p) es [] pos) (tE X.K g.T W ds M Q Er') := by
  unfold dvals at hv
  split at hv
  · cases hv
  split at hv
  · cases hv
  rename_i hx
  rw [Bool.and_eq_true] at hx
  split at hv
  · split at hv
    · rename_i hc
      simp only [Bool.and_eq_true] at hc
      cases hv
      have ex := eq_of_beq hx.1
      have em := eq_of_beq hc.1.1
      subst ex em
      refine pe_mono (pe_minV o2.calm hg (o2.ok.bi _ hx.2) (hE h) (base_ok hc.1.2) hc.2) fun σ H q ⟨G, w, s, ok, er⟩ => ⟨G, w, s, fun v M1 x G1 H1 hm sg w1 hx => ?_, er⟩
      have hm : minvW v M1 Q := hm
      unfold minvW at hm
      split at hm
      · obtain ⟨es, is, hr, hi, hne, hq⟩ := hm
        obtain ⟨kvs, r1, k1⟩ := rdK_ok hr w1
        exact ⟨_, kvs, is, hx, r1, ints_snd k1 hi, hne, fun m h1 h2 => (ok.up sg).self w1 (hq m h1 h2) (.int _)⟩
      · exact hm.elim
    · cases hv
  · cases hv
theorem findI {ds : List Sv} {i : Nat} {P : Sv → Prop} (h : getD ds i P) : ∃ r, ds[i]? = some r ∧ r ≠ .no ∧ P r := by
  unfold getD at h
  split at h
  · exact h.elim
  · rename_i r hr
    exact ⟨_, by assumption, by intro z; subst z; exact absurd rfl (by assumption), h⟩
  · exact h.elim
end
/-- told(arg), where arg comes to be such a lambda -/
theorem pe_toldX {X : Cx} {es : List (Addr × Str)} {x a : Str} {g : Addr} {k : Nat} {pg : Arguments} {bg : List Stmt} {sg : Scope} {dV kV doc pm cdv ct oc : Value} {an od : Option Addr} {osl : Array (Option Value)} {Ng : List Str} {arg : Expr} {ta : TE} {p pos : Pos}
    (hg : Gl X x) (hm : X.mg x = some (.ref g)) (hk : PySem.W.keepIn X.K (.ref g) = true)
    (lk : X.K.lookup g = some ⟨oc, od, .func (PySem.W.fnOf x x pg bg sg dV kV doc pm an cdv ct), osl⟩) (hcg : PySem.W.codeIn X.K cdv x = true) (hb : L2.Binds X.K (PySem.W.fnOf x x pg bg sg dV kV doc pm an cdv ct) [a] []) (Sg : FnScope Ng [a] sg) (hNg : Ng[0]? = some a) (hva : Vis sg a)
    (hG : GivesTo X Ng x sg g cdv bg a (X.env.qual ++ "<lambda>") (TT9 X.K es)) (harg : PE X arg ta) (hr : Room (k + 2) X.A)
    (hdb : (x == ("__debug__" : Str)) = false) (hd : (a == ("__debug__" : Str)) = false) (hcd : (a == ("__classdict__" : Str)) = false) (he : starEach (arg :: []) X.env = (false, eval arg X.env) :: starEach [] X.env) :
    PE X (.Call (.Name x p) [arg] [] pos) (fun σ H Q => ta σ H fun v H1 => ∃ (L : Lf) (f c' : Addr), v = .ref f ∧ LamS X.env.scope L.scope ∧ L.qual = X.env.qual ++ "<lambda>" ∧ cloFrom X.env.cells L.scope.names [] = L.cl ∧
      (∀ pm cv ctv, bindArgs (PySem.W.kla_fn "<lambda>" L.qual L.params L.body L.scope L.cl pm cv ctv) ⟨[], []⟩ = pure []) ∧ H1 c' = some (CodeO c' (X.env.qual ++ "<lambda>")) ∧ H1 f = some (LamO f L c') ∧
      ∃ t : XK → TE, (∀ (A : Around) (outer : List Env) (s : Shared) (H : Hp) (E : XK) (f c' : Addr), Room k (A.deeper (lamEnv X L.scope s.heap.objs.size f c')) → PE (lamCx X A outer s H E L.scope f c') L.body (t E)) ∧ TT9 X.K es (fun E H' Q' => H' f = some (LamO f L c') ∧ t E σ H' Q') H1 Q) := by
  refine ⟨fun pins s σ H Q I h => ?_⟩
  refine wpAny_Call_Name_kw (ld_glob I hg hm ?_ hdb)
  refine PySem.W.callWith_K (h₀ := X.base) I.ok.mod.kin hk ?_ he (by rfl)
  rw [he]
  show wpAny _ _ (spliced ((false, eval arg X.env) :: backTo pos (starEach [] X.env))) _ _ s
  refine Calls.spliced_cons (thn (harg.run pins s σ H _ I h) fun u s' ⟨v, H1, I1, r1, L, f, c', ev, Ls, hq, hcl, hbind, hco, hlo, t, hbody, hT⟩ => ?_)
  subst ev
  obtain rfl : u = Value.ref f := r1
  refine Calls.spliced_nil ⟨I1.kIn, ?_⟩
  have rc : codeAny (model X.prog X.w) X.A (.call (.ref g) ⟨[.ref f], []⟩) (CR C8.CX0 X.stack X.prog X.w H1 s' Q C8.E0) s' := by
    refine run_ofS (N := Ng) (ps := [a]) (us := [.ref f]) (vs := [.ref f]) lk hcg Sg hr I1.env0 (hb s' [.ref f] I1.kIn rfl) (.cons rfl .nil) rfl fun hr' => ?_
    obtain ⟨t', ht', hq'⟩ := hG f c' s' H1 Q (fun E H' Q' => H' f = some (LamO f L c') ∧ t E σ H' Q') (fun W pn xe E p1 p2 tk hW => pe_actK (i := 0) I1 Ls hq hcl hbind tk hW hr' (fun A outer s H hr2 => hbody A outer s H E f c' hr2) hNg hva hd hcd) hco hT
    exact ⟨t', ht'.nox, hq'⟩
  refine wpAny_call (codeAny_mono rc fun r s2 hq => ?_)
  cases r with
  | error e => exact (show False from hq).elim
  | ok fl =>
    cases fl with
    | ret u => exact I1.after hq
    | next => exact False.elim hq
    | brk => exact False.elim hq
    | cont => exact False.elim hq
/-- told(arg) in a block that Y bore, where arg comes to be a lambda that Y made -/
theorem pe_toldY {Y : Cx} {pinsY : List (Addr × Obj)} {tau : L2.St} {b3 : Shared} {G3 : Hp} {bsc : Scope} {ce : Env} {its : List Addr} (bn : Born Y pinsY tau b3 G3 its) {es : List (Addr × Str)} {x a : Str} {g : Addr} {k : Nat} {pg : Arguments} {bg : List Stmt} {sg : Scope} {dV kV doc pm cdv ct oc : Value} {an od : Option Addr} {osl : Array (Option Value)} {Ng : List Str} {arg : Expr} {ta : TE} {p pos : Pos}
    (hg : Gl (Y.blk b3 G3 bsc ce its) x) (hm : Y.mg x = some (.ref g)) (hk : PySem.W.keepIn Y.K (.ref g) = true)
    (lk : Y.K.lookup g = some ⟨oc, od, .func (PySem.W.fnOf x x pg bg sg dV kV doc pm an cdv ct), osl⟩) (hcg : PySem.W.codeIn Y.K cdv x = true) (hb : L2.Binds Y.K (PySem.W.fnOf x x pg bg sg dV kV doc pm an cdv ct) [a] []) (Sg : FnScope Ng [a] sg) (hNg : Ng[0]? = some a) (hva : Vis sg a)
    (hG : GivesTo (Y.blk b3 G3 bsc ce its) Ng x sg g cdv bg a (Y.env.qual ++ "<lambda>") (TT9 Y.K es)) (harg : PE (Y.blk b3 G3 bsc ce its) arg ta) (hr : Room (k + 2) Y.A)
    (hdb : (x == ("__debug__" : Str)) = false) (hd : (a == ("__debug__" : Str)) = false) (hcd : (a == ("__classdict__" : Str)) = false) (he : starEach (arg :: []) ce = (false, eval arg ce) :: starEach [] ce) :
    PE (Y.blk b3 G3 bsc ce its) (.Call (.Name x p) [arg] [] pos) (fun σ H Q => ta σ H fun v H1 => ∃ (L : Lf) (f c' : Addr), v = .ref f ∧ LamS Y.env.scope L.scope ∧ L.qual = Y.env.qual ++ "<lambda>" ∧ cloFrom Y.env.cells L.scope.names [] = L.cl ∧
      (∀ pm cv ctv, bindArgs (PySem.W.kla_fn "<lambda>" L.qual L.params L.body L.scope L.cl pm cv ctv) ⟨[], []⟩ = pure []) ∧ H1 c' = some (CodeO c' (Y.env.qual ++ "<lambda>")) ∧ H1 f = some (LamO f L c') ∧
      ∃ t : XK → TE, (∀ (A : Around) (outer : List Env) (s : Shared) (H : Hp) (E : XK) (f c' : Addr), Room k (A.deeper (lamEnv Y L.scope s.heap.objs.size f c')) → PE (lamCx Y A outer s H E L.scope f c') L.body (t E)) ∧ TT9 Y.K es (fun E H' Q' => H' f = some (LamO f L c') ∧ t E tau H' Q') H1 Q) := by
  refine ⟨fun pins s σ H Q I h => ?_⟩
  refine wpAny_Call_Name_kw (ld_glob I hg hm ?_ hdb)
  refine PySem.W.callWith_K (h₀ := Y.base) I.ok.mod.kin hk ?_ he (by rfl)
  have he : starEach (arg :: []) (Y.blk b3 G3 bsc ce its).env = (false, eval arg ce) :: starEach [] ce := he
  rw [he]
  show wpAny _ _ (spliced ((false, eval arg ce) :: backTo pos (starEach [] ce))) _ _ s
  refine Calls.spliced_cons (thn (harg.run pins s σ H _ I h) fun u s' ⟨v, H1, I1, r1, L, f, c', ev, Ls, hq, hcl, hbind, hco, hlo, t, hbody, hT⟩ => ?_)
  subst ev
  obtain rfl : u = Value.ref f := r1
  refine Calls.spliced_nil ⟨I1.kIn, ?_⟩
  have rc : codeAny (model Y.prog Y.w) Y.A (.call (.ref g) ⟨[.ref f], []⟩) (CR C8.CX0 Y.stack Y.prog Y.w H1 s' Q C8.E0) s' := by
    refine run_ofS (N := Ng) (ps := [a]) (us := [.ref f]) (vs := [.ref f]) lk hcg Sg hr I1.env0 (hb s' [.ref f] I1.kIn rfl) (.cons rfl .nil) rfl fun hr' => ?_
    obtain ⟨t', ht', hq'⟩ := hG f c' s' H1 Q (fun E H' Q' => H' f = some (LamO f L c') ∧ t E tau H' Q') (fun W pn xe E p1 p2 tk hW => pe_actK (X := Y) (σ := tau) (i := 0) (bn.back I1) Ls hq hcl hbind tk hW hr' (fun A outer s H hr2 => hbody A outer s H E f c' hr2) hNg hva hd hcd) hco hT
    exact ⟨t', ht'.nox, hq'⟩
  refine wpAny_call (codeAny_mono rc fun r s2 hq => ?_)
  cases r with
  | error e => exact (show False from hq).elim
  | ok fl =>
    cases fl with
    | ret u => exact I1.after hq
    | next => exact False.elim hq
    | brk => exact False.elim hq
    | cont => exact False.elim hq
/-- (lambda: .., text) -/
theorem pair_ok {g : Gi} {S : Sc} {X : Cx} {W : WX} {ds : List Sv} {M : Ms} {Q : PoE} {Er' : Er} {params : Arguments} {body : Expr} {scope : Scope} {t : Str} {p0 p1 p3 : Pos} {j kk : Nat} {c P : Addr} (o : Xo g S X W) (hM : Lsts M) (TB : TabB X.base X.mg c P) (hcode : X.env.code = .ref c) (hm : (P, g.lq) ∈ g.T) (hu : ∀ p ∈ g.T, p.1 = P → p.2 = g.lq) (hq : X.env.qual ++ "<lambda>" = g.lq)
    (hd : defaultsOf params X.env = ([], [])) (hfree : ∀ pins σ H s, Inv X pins σ H s → ∀ y ∈ scope.names, y.2 = .free → ∃ c, X.env.cells.lookup y.1 = some c) {cl : List (Str × Addr)} (hcl : cloFrom X.env.cells scope.names [] = cl) (h : Q (pairLS ⟨g.lq, params, body, scope, cl⟩ t) M) :
    PE X (.Tuple [.Lambda params body scope p0, .Constant (.str t) j p1] kk p3) (tE X.K g.T W ds M Q Er') := by
  refine pe_mono (pe_tup (xa_cons (xw_lam hM TB hcode (by rw [hq]; exact hm) (by rw [hq]; exact hu) hd hfree) (xa_cons (xw_pd hM pd_str) xa_nil))) fun σ H q ⟨G, w, s, ok, er⟩ => ⟨G, w.w, w.t, s, fun vs G' H' g' w' t' hv => ⟨by rw [hv.len]; show 2 ≤ sizeLine; decide, fun a ha => ?_⟩⟩
  have p2 := Po.new w' ha (.tup vs)
  cases hv with
  | cons h1 h2 =>
    cases h2 with
    | cons h2 h3 =>
      cases h3
      obtain ⟨f, c', rfl, k1, k2⟩ := vk_sLam h1
      have e2 := vk_str h2
      subst e2
      refine ok _ M _ _ _ h (g'.trans p2.g) ⟨p2.w, tabs_po hM t' w' p2⟩ ⟨_, Same.refl _, a, f, c', rfl, upd_same, ?_, ?_⟩
      · rw [upd_ne (ne_of_none (w'.ex _ _ k1) ha), k1, hq, hcl]
      · rw [upd_ne (ne_of_none (w'.ex _ _ k2) ha), k2, hq]
theorem Wt.sub {K : PySem.W.Frag} {T : Tb} {M M2 : Ms} {G H : Hp} (s : M2.Sublist M) (w : Wt K T M G H) : Wt K T M2 G H :=
  ⟨⟨w.w.ex, fun q hq => w.w.mu q (s.mem hq), w.w.nd.sublist (s.map _), w.w.nt⟩, w.t⟩
theorem frg_ok {K : PySem.W.Frag} {T : Tb} {wk : Bool} {M : Ms} {P : Ms → Prop} {G H : Hp} (h : frgW wk M P) (w : Wt K T M G H) : ∃ M2, P M2 ∧ Wt K T M2 G H := by
  cases wk with
  | false => exact ⟨M, h, w⟩
  | true =>
    obtain ⟨M2, s, h⟩ := h
    exact ⟨M2, h, w.sub s⟩
theorem told_ok {g : Gi} {U : Wps} {S : Sc} {X : Cx} {W : WX} {ds : List Sv} {M : Ms} {Q : PoE} {Er' : Er} {x : Str} {p pos : Pos} {es : List Expr} (hU : WOk g U) (o : Xo g S X W) (ht : S.tq = true) (hx : x = ("_law_told" : Str))
    (h : toldW g U S x es ds M Q Er') : PE X (.Call (.Name x p) es [] pos) (tE X.K g.T W ds M Q Er') := by
  subst hx
  obtain ⟨⟨params0, body0, scope0, a, fd, FD, hm, Sf, hv, hbd, hG⟩, hq, hr⟩ := o.told ht
  have hb := FD.bindsN hbd
  have hk := FD.kp
  obtain ⟨oc, od, dV, kV, doc, pm, an, cdv, ct, osl, rfl, lk, hcg, _, _⟩ := FD.ex
  have hG2 : GivesTo X ["what"] "_law_told" scope0 a cdv body0 "what" (X.env.qual ++ "<lambda>") (TT9 X.K g.es) := by rw [hq]; exact hG X rfl rfl cdv
  have body : ∀ (scope : Scope) (e : Expr) (M : Ms), U.E (lamI S scope) e ds M Q (fun c M1 => ∃ t, (c, t) ∈ g.es ∧ frgW g.wk M1 (Q (.dat (.str t)))) → ∀ (A : Around) (outer : List Env) (s : Shared) (H : Hp) (E : XK) (f c' : Addr), Room g.k (A.deeper (lamEnv X scope s.heap.objs.size f c')) → PE (lamCx X A outer s H E scope f c') e (tE X.K g.T (wE E) ds M Q (fun c M1 => ∃ t, (c, t) ∈ g.es ∧ frgW g.wk M1 (Q (.dat (.str t))))) := fun scope e M h A outer s H E f c' hr => hU.E (S := lamI S scope) ⟨o.ok, o.N, rfl, fun _ z => (nomatch z), o.nd, rfl, hr, takes_of rfl rfl rfl rfl, fun z => (nomatch z), fun z => (nomatch z), fun _ z => (nomatch z), fun _ _ _ _ _ z => (nomatch z)⟩ h
  unfold toldW at h
  split at h
  · rename_i pr bd sco lps
    split at h
    · exact h.elim
    · rename_i hc
      simp only [Bool.and_eq_true] at hc
      obtain ⟨c, P, TB, hcode, hmT, hu⟩ := (o.lam hc.1.2).ex
      obtain ⟨hM, hd, hbind, h⟩ := h
      have Ls : LamS X.env.scope sco := by rw [o.sc]; exact lamS_by hc.2
      refine pe_mono (pe_lamcall (k := g.k) (t := fun E => tE X.K g.T (wE E) ds M Q (fun c M1 => ∃ t, (c, t) ∈ g.es ∧ frgW g.wk M1 (Q (.dat (.str t))))) (o.gl hc.1.1).1 hm hk lk hcg hb Sf rfl hv hG2 TB hcode (by rw [hq]; exact hmT) (by rw [hq]; exact hu) hr Ls (hd _) hbind (fun A outer s H E f c' hr2 => body sco bd M h A outer s H E f c' hr2)) fun σ H q ⟨G, w, s, ok, er⟩ => ?_
      exact ⟨w.t, fun H1 eN T1 => ⟨G, ⟨wo_ext hM w.w eN, T1⟩, s, ok, fun c M' G' H' σ' ⟨t, ht, hq⟩ sg w' => (frg_ok hq w').elim fun M2 hz => ⟨(c, t), ht, rfl, ok _ _ _ _ _ hz.1 sg hz.2 (.str _)⟩⟩⟩
  · split at h
    · exact h.elim
    · rename_i sa sb sp hg
      have gl := (o.gl hg).1
      have hdb : (("_law_told" : Str) == ("__debug__" : Str)) = false := by decide
      split at h
      · rename_i cs tau φ ds0 sc0 hkp
        have hkb := o.kb _ _ _ _ _ hkp
        obtain ⟨⟨Y, pinsY, b3, G3, bsc, ce, its, eX, bn, ecs, esc, eq0⟩, hsl⟩ := hkb
        subst eX
        have hqY : Y.env.qual ++ "<lambda>" = g.lq := by
          have z : ce.qual ++ "<lambda>" = g.lq := hq
          rw [eq0] at z
          exact z
        have hG3 : GivesTo (Y.blk b3 G3 bsc ce its) ["what"] "_law_told" scope0 a cdv body0 "what" (Y.env.qual ++ "<lambda>") (TT9 Y.K g.es) := by rw [hqY]; exact hG _ rfl rfl cdv
        have bodyY : ∀ (scope : Scope) (e : Expr) (M : Ms), U.E (lamI S scope) e ds0 M Q (fun c M1 => ∃ t, (c, t) ∈ g.es ∧ frgW g.wk M1 (Q (.dat (.str t)))) → ∀ (A : Around) (outer : List Env) (s : Shared) (H : Hp) (E : XK) (f c' : Addr), Room g.k (A.deeper (lamEnv Y scope s.heap.objs.size f c')) → PE (lamCx Y A outer s H E scope f c') e (tE Y.K g.T (wE E) ds0 M Q (fun c M1 => ∃ t, (c, t) ∈ g.es ∧ frgW g.wk M1 (Q (.dat (.str t))))) := fun scope e M h A outer s H E f c' hr => hU.E (S := lamI S scope) ⟨o.ok, o.N, rfl, fun _ z => (nomatch z), o.nd, rfl, hr, takes_of rfl rfl rfl rfl, fun z => (nomatch z), fun z => (nomatch z), fun _ z => (nomatch z), fun _ _ _ _ _ z => (nomatch z)⟩ h
        refine ⟨fun pins s σ H q I ⟨G, w, sl, ok, er⟩ => ?_⟩
        refine (pe_mono (pe_toldY (k := g.k) (es := g.es) bn gl hm hk lk hcg hb Sf rfl hv hG3 (hU.E o h) hr hdb (by decide) (by decide) rfl) (t' := tE Y.K g.T W ds M Q Er') fun σ H q ⟨G, w, s, ok, er⟩ => ⟨G, w, s, fun v M1 x G1 H1 hQ sg w1 hv1 => ?_, er⟩).run pins s σ H q I ⟨G, w, sl, ok, er⟩
        obtain ⟨L, e, hql, hls, hcl, ⟨j, hj⟩, hbind, hB⟩ := hQ
        subst e
        obtain ⟨f, c', rfl, h1, h2⟩ := vk_sLam hv1
        obtain ⟨vj, _, G0, e0, e1⟩ := (s.up sg).val hj (by intro z; cases z)
        refine ⟨L, f, c', rfl, by rw [esc]; exact lamS_by hls, hql.trans hqY.symm, by rw [ecs]; exact hcl.symm, hbind, by rw [hqY, ← hql]; exact w1.w.ex _ _ h2, w1.w.ex _ _ h1, fun E => tE Y.K g.T (wE E) ds0 M1 Q (fun c M1 => ∃ t, (c, t) ∈ g.es ∧ frgW g.wk M1 (Q (.dat (.str t)))), fun A outer s H E f c' hr2 => bodyY _ _ M1 hB A outer s H E f c' hr2, ?_⟩
        exact ⟨w1.w.ex _ _ h1, G1, w1, hsl G1 ⟨G0, vj, e0, e1⟩, ok.up sg, fun c M' G' H' σ' ⟨t, ht, hq⟩ sg' w' => (frg_ok hq w').elim fun M2 hz => ⟨(c, t), ht, rfl, (ok.up sg) _ _ _ _ _ hz.1 sg' hz.2 (.str _)⟩⟩
      · refine ⟨fun pins s σ H q I ⟨G, w, sl, ok, er⟩ => ?_⟩
        refine (pe_mono (pe_toldX (k := g.k) (es := g.es) gl hm hk lk hcg hb Sf rfl hv hG2 (hU.E o h) hr hdb (by decide) (by decide) rfl) (t' := tE X.K g.T W ds M Q Er') fun σ H q ⟨G, w, s, ok, er⟩ => ⟨G, w, s, fun v M1 x G1 H1 hQ sg w1 hv1 => ?_, er⟩).run pins s σ H q I ⟨G, w, sl, ok, er⟩
        obtain ⟨L, e, hql, hls, hcl, hbind, hB⟩ := hQ
        subst e
        obtain ⟨f, c', rfl, h1, h2⟩ := vk_sLam hv1
        refine ⟨L, f, c', rfl, by rw [o.sc]; exact lamS_by hls, hql.trans hq.symm, hcl _, hbind, by rw [hq, ← hql]; exact w1.w.ex _ _ h2, w1.w.ex _ _ h1, fun E => tE X.K g.T (wE E) ds M1 Q (fun c M1 => ∃ t, (c, t) ∈ g.es ∧ frgW g.wk M1 (Q (.dat (.str t)))), fun A outer s H E f c' hr2 => body _ _ M1 hB A outer s H E f c' hr2, ?_⟩
        exact ⟨w1.w.ex _ _ h1, G1, w1, s.up sg, ok.up sg, fun c M' G' H' σ' ⟨t, ht, hq⟩ sg' w' => (frg_ok hq w').elim fun M2 hz => ⟨(c, t), ht, rfl, (ok.up sg) _ _ _ _ _ hz.1 sg' hz.2 (.str _)⟩⟩
  · exact h.elim
section
variable {g : Gi} {U : Wps}
theorem stepE_ok (hU : WOk g U) {S : Sc} {X : Cx} {W : WX} {e : Expr} {ds : List Sv} {M : Ms} {Q : PoE} {Er' : Er} (o : Xo g S X W) (h : (stepW g U).E S e ds M Q Er') : PE X e (tE X.K g.T W ds M Q Er') := by
  have hE : ∀ (e : Expr) (M : Ms) (Q : PoE), U.E S e ds M Q Er' → PE X e (tE X.K g.T W ds M Q Er') := fun e M Q h => hU.E o h
  unfold stepW at h
  dsimp only at h
  split at h
  · split at h
    · exact pe_mono pe_int fun σ H q hq => tE_self hq h fun _ => .int _
    · exact pe_mono pe_bl fun σ H q hq => tE_self hq h fun _ => .bl _
    · exact pe_mono pe_str fun σ H q hq => tE_self hq h fun _ => .str _
    · exact pe_mono pe_non fun σ H q hq => tE_self hq h fun _ => Dp.non
    · exact h.elim
  · rename_i x ps
    split at h
    · rename_i i hi
      obtain ⟨h1, h2, h3, h4⟩ := slotV_ok hi
      obtain ⟨r, e1, e2, h⟩ := findI h
      refine pe_mono (pe_var (o.at h1) (o.vis h2) h3 h4) fun σ H q ⟨G, w, s, ok, er⟩ => ?_
      obtain ⟨v, z1, z2⟩ := s.val e1 e2
      exact ⟨v, z1, ok.self w h z2⟩
    · split at h
      · rename_i hg
        obtain ⟨g1, g2⟩ := o.gl hg
        split at h
        · rename_i r hr
          obtain ⟨v, u, m1, m2, m3⟩ := o.ok.gv x r hr
          exact pe_mono (pe_glob g1 m1 m2 g2) fun σ H q hq => tE_self hq h m3
        · exact kind_ok o g1 g2 h
      · exact h.elim
  · exact pe_mono (pe_op (op_bin (T := g.T)) (hU.E o h) (pe_sec (P := fun va M1 => U.E S _ ds M1 (fun vb M2 => binW _ va vb M2 Q) Er') (Qf := fun va vb M2 => binW _ va vb M2 Q) fun va M1 h1 => hU.E o h1)) fun σ H q hq => tOp_of (fun va vb M2 G x y H q hq w hx hy ok => ⟨va, vb, M2, G, _, hq, w, hx, hy, ok⟩) hq
  · exact usub_ok (hU.E o h)
  · exact not_ok (hU.E o h)
  · split at h
    · rename_i hm
      exact cmp_ok o.units hm (hU.E o h) fun va M1 h1 => hU.E o h1
    · exact h.elim
  · split at h
    · rename_i hm
      exact chain_ok (Pc := fun vb M3 => U.E S _ ds M3 (fun vc M4 => cmpW _ vb vc M4 fun k' M5 => Q (B k') M5) Er') o.units hm (hU.E o h) (fun va M1 h1 => hU.E o h1) fun vb M3 h3 => hU.E o h3
    · exact h.elim
  · exact wpAndE_ok hE h
  · exact wpOrE_ok hE h
  · rename_i c a b ps
    refine pe_mono (pe_ifExp (hU.T o h) (pe_secM (P := fun M1 => U.E S a ds M1 Q Er') fun M1 h1 => hU.E o h1) (pe_secM (P := fun M1 => U.E S b ds M1 Q Er') fun M1 h1 => hU.E o h1)) fun σ H q ⟨G, w, s, ok, er⟩ => ⟨G, w, s, fun k M1 G1 H1 hb sg w1 => ?_, er⟩
    cases k with
    | true => exact iteT ⟨M1, hb, G1, w1, s.up sg, ok.up sg, er.up sg⟩
    | false => exact iteF ⟨M1, hb, G1, w1, s.up sg, ok.up sg, er.up sg⟩
  · rename_i params body scope p0 t p1 p2 p3 p4
    split at h
    · rename_i hl
      obtain ⟨c, P, TB, hcode, hmT, hu⟩ := (o.lam hl).ex
      have hqq := (o.lam hl).q
      split at h
      · rename_i cs hkp
        obtain ⟨hM, hd, hls, h⟩ := h
        have Ls : LamS X.env.scope scope := by rw [o.sc]; exact lamS_by hls
        exact pair_ok o hM TB hcode hmT hu hqq (hd _) (fun _ _ _ _ I => Ls.has I.ok) (by rw [o.kd _ hkp]) h
      · obtain ⟨hM, hd, hcl, hfree, h⟩ := h
        exact pair_ok o hM TB hcode hmT hu hqq (hd _) (fun _ _ _ _ _ y hy e => absurd e (hfree y hy)) (hcl _) h
    · exact h.elim
  · split at h
    · exact h.elim
    · rename_i es k ps hno hs
      refine pe_mono (pe_tup (wpL_ok hE hs h)) fun σ H q ⟨G, w, s, ok, er⟩ => ⟨G, w, s, fun rs M1 vs G1 H1 hq sg w1 hv => ?_, er⟩
      have hk : tupW rs M1 Q := hq
      clear hq
      unfold tupW at hk
      split at hk
      · rename_i xs hx
        split at hk
        · rename_i hz
          have e1 := undat_ok hx
          subst e1
          have hd := vks_dats hv
          exact ⟨by rw [dps_len hd]; exact Nat.le_of_lt (small1000 (Nat.le_of_ble_eq_true hz)), fun p hp => (ok.up sg).newT w1 hk hd hp⟩
        · exact hk.elim
      · exact hk.elim
  · split at h
    · exact h.elim
    · rename_i es ps hs
      refine pe_mono (pe_lst (wpL_ok hE hs h)) fun σ H q ⟨G, w, s, ok, er⟩ => ⟨G, w, s, fun rs M1 vs G1 H1 hq sg w1 hv => ?_, er⟩
      have hk : dspW rs M1 Q := hq
      clear hq
      unfold dspW at hk
      split at hk
      · rename_i hz
        refine ⟨by rw [hv.len]; exact Nat.le_of_lt (small1000 (Nat.le_of_ble_eq_true hz)), fun p hp => ?_⟩
        rcases hk with hk | hk
        · split at hk
          · rename_i xs hx
            have e1 := undat_ok hx
            subst e1
            exact (ok.up sg).newL w1 hk (vks_dats hv) hp
          · exact hk.elim
        · exact (ok.up sg).newM w1 hk hv hp
      · exact hk.elim
  · rename_i x ps es ps2
    split at h
    · rename_i hq
      simp only [Bool.and_eq_true] at hq
      exact told_ok hU o hq.1 (eq_of_beq hq.2) h
    split at h
    · exact h.elim
    · rename_i hs
      split at h
      · split at h
        · rename_i i hi
          split at h
          · exact h.elim
          · rename_i hne
            obtain ⟨r, e1, e2, y, s, er, hsg, h⟩ := findI h
            subst er
            exact callL_ok o hs (fun z => hne z) hi e1 (o.ok.sg _ _ _ hsg) (o.ok.fa _ _ _ hsg) hE h
        · exact h.elim
      · rename_i hg
        obtain ⟨g1, g2⟩ := o.gl hg
        split at h
        · rename_i oo hv
          exact dvals_ok o g1 hv (fun h => hU.E o h) h
        split at h
        · rename_i s hsg
          exact call_ok o hs g1 g2 (o.ok.sg _ _ _ hsg) hE h
        · split at h
          · rename_i cs hcs
            exact make_ok o (o.ok.mkr x _ cs.1 cs.2 hcs) g1 g2 hs hE h
          split at h
          · rename_i hbi
            split at h
            · rename_i f hf
              split at h
              · exact h.elim
              · rename_i hne
                cases es with
                | nil => exact (hne rfl).elim
                | cons e es => exact bltG_ok o.units o.calm g1 g2 (o.ok.bi _ hbi) hf (wpL_ok hE hs h) hs
            · exact h.elim
          · split at h
            · rename_i hgc
              split at h
              · exact h.elim
              · rename_i hne
                cases es with
                | nil => exact (hne rfl).elim
                | cons e es => exact gcd_ok g1 g2 (o.ok.gc _ hgc) (wpL_ok hE hs h) hs
            · exact h.elim
  · split at h
    · rename_i hc
      simp only [Bool.and_eq_true] at hc
      split at h
      · rename_i f hf
        exact m0_ok hc.1 hc.2 hf (hU.E o h)
      · exact methW_ok hU o hc.2 h
    · exact h.elim
  · split at h
    · rename_i hc
      simp only [Bool.and_eq_true] at hc
      split at h
      · rename_i f hf
        exact m1_ok hc.1.1 hc.1.2 hc.2 hf (hU.E o h) fun v M1 h1 => hU.E o h1
      · exact meth1_ok hU o hc.2 h
    · exact h.elim
  · exact slice_ok (hU.E o h) (fun v M1 h1 => wpO_ok hE h1) fun v l M2 h2 => wpO_ok hE h2
  · split at h
    · rename_i hs
      exact rv_ok hs (hU.E o h)
    · exact h.elim
  · split at h
    · rename_i hs
      exact pe_mono (pe_ix (ix_all (T := g.T) o.units) (hU.E o h) (pe_sec (Qf := fun va vb M2 => ixW va vb M2 Q) fun va M1 h1 => hU.E o h1) (plainIx_ok hs)) fun σ H q hq => tOp_of (fun va vb M2 G x y H q hq w hx hy ok => ⟨va, vb, M2, G, _, hq, w, hx, hy, ok⟩) hq
    · exact h.elim
  · split at h
    · exact h.elim
    · rename_i hc
      simp only [Bool.and_eq_true] at hc
      split at h
      · rename_i cs hkp
        obtain ⟨j, hj, h⟩ := h
        exact lcK_ok hU o hkp hc.1.1 hc.1.2 hc.2 hj h
      · split at h
        · exact lc_ok hU o hc.1.1 hc.1.2 hc.2 h
        · rcases h with h | h
          · exact lc_ok hU o hc.1.1 hc.1.2 hc.2 h
          · exact lcL_ok hU o hc.1.1 hc.1.2 hc.2 h
  · exact ext_ok hU o h
theorem stepT_ok (hU : WOk g U) {S : Sc} {X : Cx} {W : WX} {e : Expr} {ds : List Sv} {M : Ms} {Q : PoT} {Er' : Er} (o : Xo g S X W) (h : (stepW g U).T S e ds M Q Er') : PT X e (tT X.K g.T W ds M Q Er') := by
  have hT : ∀ (e : Expr) (M : Ms) (Q : PoT), U.T S e ds M Q Er' → PT X e (tT X.K g.T W ds M Q Er') := fun e M Q h => hU.T o h
  unfold stepW at h
  dsimp only at h
  split at h
  · exact pt_mono (pt_not (hU.T o h)) fun σ H q ⟨G, w, s, ok, er⟩ => ⟨G, w, s, fun b M1 G1 H1 hb sg w1 => ok _ _ _ _ hb sg w1, er⟩
  · exact (wpAndT_ok hT h).pt
  · exact (wpOrT_ok hT h).pt
  · exact h.elim
  · split at h
    · rename_i hm
      exact cmpT_ok o.units hm (hU.E o h) fun va M1 h1 => hU.E o h1
    · exact h.elim
  · split at h
    · rename_i hm
      exact chainT_ok (Pc := fun vb M3 => U.E S _ ds M3 (fun vc M4 => cmpW _ vb vc M4 Q) Er') o.units hm (hU.E o h) (fun va M1 h1 => hU.E o h1) fun vb M3 h3 => hU.E o h3
    · exact h.elim
  · exact h.elim
  · rename_i h1 h2 h3 h4 h5 h6 h7
    refine pt_mono (pt_val (hU.E o h) (fun wh => ?_)) fun σ H q ⟨G, w, s, ok, er⟩ => ⟨G, w, s, fun v M1 x G1 H1 hb sg w1 hx => ?_, er⟩
    · cases e with
      | UnaryOp op a p => cases op <;> first | rfl | exact absurd rfl (h1 _ _)
      | BoolOp op es p => cases op <;> first | exact absurd rfl (h2 _ _) | exact absurd rfl (h3 _ _)
      | IfExp => exact absurd rfl (h4 _ _ _ _)
      | Compare => exact absurd rfl (h7 _ _ _ _)
      | _ => rfl
    · obtain ⟨b, _, e1, hb⟩ := boolW_ok hb hx
      exact ⟨b, e1, ok _ _ _ _ hb sg w1⟩
end
end Cal
/-! WpL -/
/-! enumerate of a tuple: after the pattern of the library's for a list -/
namespace Cal
open PySem PySem.Spec PyProof.Rows L2 LamX
open PySem.Sem (wp)
open PySem.AutoSeq1 (wpAny_loadPart')
theorem enu_newT (l : Addr) (items : Array Value) (n : Nat) (dct : Option Addr) (sl : Array (Option Value)) :
    Meets (Builtin.«enumerate.__new__» ⟨[.type "enumerate", .ref l], []⟩) (fun _ R s => s.heap.get? l = some { cls := .type "tuple", dict := dct, data := .seq items n, slots := sl } ∧
      R (.ok (.ret (.ref (s.heap.push { cls := .type "tuple_iterator", data := .fields #[.ref l, .int 0 0] }).objs.size))) { s with heap := (s.heap.push { cls := .type "tuple_iterator", data := .fields #[.ref l, .int 0 0] }).push { cls := .type "enumerate", data := .fields #[.none, .bool false, .ref s.heap.objs.size, rawInt 0, .none, .none] } }) := by
  refine .of_wp fun prog w A R s h => ?_
  obtain ⟨hp, g, d, tk, os⟩ := s
  obtain ⟨hl, h⟩ := h
  have hsub := sub_enumerate
  have hL : Heap.IsTuple (Shared.heap ⟨hp, g, d, tk, os⟩) l items := ⟨_, hl, rfl, n, rfl⟩
  wp_walk using wpAny_loadPart' hl
  refine wpAny_stack_any fun st => wpAny_pure ?_
  split
  · rename_i c _ _ _ _ _
    cases (c == Value.type "enumerate") <;> (wp_walk using wpAny_loadPart' hl, wpAny_pyIter_tuple hL) <;> exact ⟨_, rfl, h⟩
  · wp_walk using wpAny_loadPart' hl, wpAny_pyIter_tuple hL
    exact ⟨_, rfl, h⟩
section
variable {prog : Program} {w : World} {A : Around}
theorem tup_drawn {it t : Addr} {i : Nat} {items : Array Value} {x : Value} {s : Shared} {Q : Value → Shared → Prop} {E : Value → Shared → Prop} (hit : s.heap.IsTupleIter it t i) (ht : s.heap.IsTuple t items) (hx : items[i]? = some x)
    (hQ : ∀ h', h'.IsTupleIter it t (i + 1) → Heap.SameBut it s.heap h' → Q x { s with heap := h' }) : wpAny (model prog w) A (Builtin.SmallTypes.nextOf (.ref it)) Q E s := by
  obtain ⟨o, ho, hc, hd⟩ := id hit
  obtain ⟨ol, hol, _, nl, hdl⟩ := ht
  have e1 : Obj.data o = .fields #[.ref t, .int i 0] := hd
  unfold Builtin.SmallTypes.nextOf
  refine wpAny_bind (wpAny_callSpecial?_slot (name := Str.ofString "__next__") hit.typeIs F.slot_tuple_iterator_next (wpAny_call_entry F.slot_tuple_iterator_next hit.typeIs F.entry_tuple_iterator_next ?_ (F.args_tuple_iterator_next_1 _)))
  refine wpAny_bind (m := field (.ref it) 0) (wpAny_field ho e1 (x := .ref t) rfl ?_)
  show wpAny _ _ (if (Value.ref t == Value.none) = true then _ else _) _ _ _
  rw [if_neg (c := (Value.ref t == Value.none) = true) (fun z => Bool.false_ne_true z)]
  refine wpAny_bind (m := field (.ref it) 1) (wpAny_field ho e1 (x := .int i 0) rfl (wpAny_bind (m := seqItems? (.ref t)) (wpAny_seqItems hol hdl ?_)))
  simp only [Int.toNat_natCast, hx]
  exact wpAny_bind (wpAny_setField ho hd (by simp) (wpAny_pure ⟨x, rfl, wpAny_pure (hQ _ ⟨_, Heap.get?_update_self _ ho (Obj.isFreed_of_fields (Obj.data_mapFields hd _)), (Obj.cls_mapFields ..).trans hc, by rw [Obj.data_mapFields hd]; simp [rawInt]⟩ (Heap.SameBut.update ..))⟩))
theorem tup_done {it t : Addr} {i : Nat} {items : Array Value} {s : Shared} {Q : Value → Shared → Prop} {E : Value → Shared → Prop} (hh : A.handled = none) (hit : s.heap.IsTupleIter it t i) (ht : s.heap.IsTuple t items) (hx : items[i]? = none)
    (hE : ∀ h' e, Heap.ExtBut it s.heap h' → (∃ o, h'.get? e = some o ∧ o.cls = .type "StopIteration") → E (.ref e) { s with heap := h' }) : wpAny (model prog w) A (Builtin.SmallTypes.nextOf (.ref it)) Q E s := by
  obtain ⟨o, ho, hc, hd⟩ := id hit
  obtain ⟨ol, hol, _, nl, hdl⟩ := ht
  have e1 : Obj.data o = .fields #[.ref t, .int i 0] := hd
  unfold Builtin.SmallTypes.nextOf
  refine wpAny_bind (wpAny_callSpecial?_slot (name := Str.ofString "__next__") hit.typeIs F.slot_tuple_iterator_next (wpAny_call_entry F.slot_tuple_iterator_next hit.typeIs F.entry_tuple_iterator_next ?_ (F.args_tuple_iterator_next_1 _)))
  refine wpAny_bind (m := field (.ref it) 0) (wpAny_field ho e1 (x := .ref t) rfl ?_)
  show wpAny _ _ (if (Value.ref t == Value.none) = true then _ else _) _ _ _
  rw [if_neg (c := (Value.ref t == Value.none) = true) (fun z => Bool.false_ne_true z)]
  refine wpAny_bind (m := field (.ref it) 1) (wpAny_field ho e1 (x := .int i 0) rfl (wpAny_bind (m := seqItems? (.ref t)) (wpAny_seqItems hol hdl ?_)))
  simp only [Int.toNat_natCast, hx]
  refine wpAny_bind (wpAny_rule (wpAny_bind (wpAny_setField ho hd (by simp) ?_)))
  refine wpAny_bind (m := newExc (.type "StopIteration") []) ?_
  simp only [newExc, newTuple]
  refine wpAny_bind (wpAny_newObj_type ?_ (by size_fits))
  refine wpAny_bind (m := firstArgMember _ _) (wpAny_of_eq (a := Value.none) (by first | rfl | (simp only [firstArgMember]; rfl)) ?_)
  refine wpAny_newObj_type ?_ (by size_fits)
  simp only [raiseNew]
  refine wpAny_bind (wpAny_handled ?_)
  first | rw [show A.in1.handled = none from hh] | rw [hh]
  exact wpAny_bind (wpAny_pure (wpAny_throw (hE _ _ (((Heap.SameBut.update ..).extBut.push _).push _) ⟨_, Heap.get?_push_size _ rfl, rfl⟩)))
theorem draws_tup {it t : Addr} {items : Array Value} (hh : A.handled = none) (hne : it ≠ t) : Draws prog w A it [it, t] items.size (fun i x => items[i]? = some x) (fun i h => h.IsTupleIter it t i ∧ h.IsTuple t items) where
  live := fun i h ⟨⟨o, ho, _⟩, _⟩ => ⟨o, ho⟩
  frame := fun i h h' ⟨a, ol, hol, b⟩ k => ⟨by obtain ⟨o, ho, r⟩ := a; exact ⟨o, k it (by simp) o ho, r⟩, ol, k t (by simp) ol hol, b⟩
  item := fun i s Q E hi ⟨a, b⟩ hQ => tup_drawn a b (Array.getElem?_eq_getElem hi) fun h' a' sb => hQ _ h' s.toks (Array.getElem?_eq_getElem hi) ⟨a', by obtain ⟨ol, hol, r⟩ := b; exact ⟨ol, (sb.2 t (Ne.symm hne)).trans hol, r⟩⟩ sb
  done := fun s Q E ⟨a, b⟩ hE => tup_done hh a b (by simp) hE
end
end Cal
/-! WpM -/
namespace Cal
open PySem PySem.Spec PyProof.Rows L2 LamX
theorem draws_end {prog : Program} {w : World} {A : Around} {it t : Addr} {items : Array Value} {n : Nat} (hh : A.handled = none) (hn : items.size ≤ n) : Draws prog w A it [it, t] n (fun _ _ => True) (fun i h => h.IsTupleIter it t i ∧ h.IsTuple t items ∧ i = n) where
  live := fun i h ⟨⟨o, ho, _⟩, _⟩ => ⟨o, ho⟩
  frame := fun i h h' ⟨a, ⟨ol, hol, b⟩, e⟩ k => ⟨by obtain ⟨o, ho, r⟩ := a; exact ⟨o, k it (by simp) o ho, r⟩, ⟨ol, k t (by simp) ol hol, b⟩, e⟩
  item := fun i s Q E hi ⟨a, b, e⟩ hQ => absurd hi (by omega)
  done := fun s Q E ⟨a, b, e⟩ hE => tup_done hh a b (Array.getElem?_eq_none hn) hE
/-- the tuple at a, each item in a new pair -/
def IteT (K : PySem.W.Frag) (a : Addr) : It :=
  ⟨fun i H => ∃ (xs : List V) (x : V), SqT K H a xs ∧ xs[i]? = some x, fun i H v H' => ∃ P x, v = .ref P ∧ H P = none ∧ H' = upd H P (.tup [.int (i : Nat), x]) ∧ ∀ xs, SqT K H a xs → xs[i]? = some x, fun i H => ∃ xs : List V, SqT K H a xs ∧ xs.length ≤ i⟩
theorem turn_enuT {P : Program} {w : World} {K : PySem.W.Frag} {elts : List Expr} {kk : Nat} {tpos : Pos} (a e it : Addr) :
    Turn P w K (.Tuple elts kk tpos) (IteT K a) [e, it] e (fun i h => (∃ old, IsEnum h e it ((i : Nat) : Int) old) ∧ h.IsTupleIter it a i ∧ e ≠ it ∧ e ≠ a ∧ it ≠ a) where
  mem := by simp
  obj := fun i h st b hb => by
    obtain ⟨⟨old, he⟩, ⟨o, ho, hc, hd⟩, _⟩ := st
    rcases (show b = e ∨ b = it by simpa using hb) with z | z
    · rw [z]
      exact ⟨_, he, fun v q => nomatch q⟩
    · rw [z]
      exact ⟨o, ho, fun v q => by rw [hd] at q; cases q⟩
  keep := fun i h h' st k => by
    obtain ⟨⟨old, he⟩, ⟨o, ho, r⟩, hne⟩ := st
    exact ⟨⟨old, k e (by simp) _ he⟩, ⟨o, k it (by simp) o ho, r⟩, hne⟩
  item := by
    intro X hP hw hK hc i pins s σ H E J hf st hg
    subst hP hw hK
    obtain ⟨⟨old, he⟩, hit, hne, hea, hia⟩ := st
    obtain ⟨xs, x, hq, hx⟩ := hg
    obtain ⟨its, rv, p, hz⟩ := J.tuple hq
    obtain ⟨u, hu, ru⟩ := rv.get hx
    have hel : e < s.heap.objs.size := Heap.lt_size he
    have hil : it < s.heap.objs.size := by obtain ⟨_, q, _⟩ := hit; exact Heap.lt_size q
    have hlt : i < its.toArray.size := by simpa using (List.getElem?_eq_some_iff.mp hu).1
    refine wpAny_pyNext_enum_itemD (draws_tup (it := it) (t := a) (items := its.toArray) (show X.A.in1.handled = none from J.ok.hd hc) hia) he ⟨hit, p⟩ hlt hne (by simp [hne, hea]) fun x' h' tk hx' ho hit' hT hsz hk => ?_
    have ex : x' = u := by
      have z : its.toArray[i]? = some u := by simpa using hu
      rw [z] at hx'
      exact (Option.some.inj hx').symm
    subst ex
    refine ⟨_, rfl, wpAny_letOwnedTupleGo_enum (s := { s with heap := h', toks := tk + 1 }) ho fun h'' he' sb => ?_⟩
    have hT2 : h''.get? s.heap.objs.size = some { cls := .type "tuple", data := .seq #[.int i tk, x'] } := (sb.2 _ (Nat.ne_of_gt hel)).trans hT
    have new : ObjOk X.prog X.w (upd H s.heap.objs.size (.tup [.int (i : Nat), x])) h'' s.heap.objs.size (.tup [.int (i : Nat), x]) := ⟨by show 2 ≤ sizeLine; decide, [.int i tk, x'], .cons ⟨_, rfl⟩ (.cons ru .nil), ⟨_, hT2, rfl, _, rfl⟩⟩
    have I1 : Inv X pins σ (upd H s.heap.objs.size (.tup [.int (i : Nat), x])) { s with heap := h'', toks := tk + 1 } :=
      J.turnedNew (ch := [e, it]) (fun b ob hb q => (sb.2 b (fun z => hb (by simp [z]))).trans (hk b ob (fun z => hb (by simp [z])) (fun z => hb (by simp [z])) q)) hf (Nat.le_refl _) new
    refine ⟨.ref s.heap.objs.size, _, I1, rfl, ⟨_, x, rfl, J.hok.fresh (Nat.le_refl _), rfl, fun ys hy => by rw [J.tuple_inj hy hq]; exact hx⟩, ⟨⟨x', ?_⟩, ?_, hne, hea, hia⟩, fun b hb => ?_⟩
    · rw [show ((i + 1 : Nat) : Int) = (i : Int) + 1 by omega]
      exact he'
    · obtain ⟨o, z1, z2⟩ := hit'.1
      exact ⟨o, (sb.2 it (Ne.symm hne)).trans z1, z2⟩
    · have hb' : b < s.heap.objs.size := by
        rcases (show b = e ∨ b = it by simpa using hb) with z | z
        · rw [z]; exact hel
        · rw [z]; exact hil
      rw [upd_ne (Nat.ne_of_lt hb')]
      exact (hf b hb).1
  done := by
    intro X hP hw hK hc i pins s σ H E J hf st hg
    subst hP hw hK
    obtain ⟨⟨old, he⟩, hit, hne, hea, hia⟩ := st
    obtain ⟨xs, hq, hx⟩ := hg
    obtain ⟨its, rv, p, hz⟩ := J.tuple hq
    obtain ⟨f0, f1, f2, f3, f4, f5⟩ := hf it (by simp)
    have hlen : its.toArray.size ≤ i := by
      have hl := rv.length
      simp only [List.size_toArray]
      omega
    exact wpAny_pyNext_enum_endD (draws_end (it := it) (t := a) (items := its.toArray) (show X.A.in1.handled = none from J.ok.hd hc) hlen) he ⟨hit, p, rfl⟩ fun h' eb => ⟨rfl, J.turned (t' := s.toks) (fun b o hb q => eb b o hb q) f0 f1 f3 f4 f5⟩
  self := fun A i s Q E st h => by
    obtain ⟨⟨_, he⟩, _⟩ := st
    exact wpAny_pyIter_enum he h
def iEnuT (K : PySem.W.Frag) (ta : TA) : TI := fun σ H R => ta σ H fun vs H1 => ∃ a xs, vs = [.ref a] ∧ ((SqL K H1 a xs ∧ R (Ite K a) H1) ∨ (SqT K H1 a xs ∧ R (IteT K a) H1))
theorem call_enuT {prog : Program} {w : World} {A : Around} {E : Value → Shared → Prop} {s : Shared} {l : Addr} {items : Array Value} {Q : Value → Shared → Prop} (hL : s.heap.IsTuple l items)
    (h : ∀ h', IsEnum h' (s.heap.objs.size + 1) s.heap.objs.size 0 .none → h'.IsTupleIter s.heap.objs.size l 0 → (∀ b o, s.heap.get? b = some o → h'.get? b = some o) → Q (.ref (s.heap.objs.size + 1)) { s with heap := h' }) :
    wpAny (model prog w) A (call (.type "enumerate") [.ref l]) Q E s := by
  obtain ⟨⟨c, dct, dt, sl⟩, hl, hc, n, hd⟩ := hL
  obtain rfl : c = .type "tuple" := hc
  obtain rfl : dt = .seq items n := hd
  refine callType_new F.called_enumerate (by decide) (F.typeCall_enumerate_1 _) (F.newCall_enumerate_1 _) (fun obj => F.args_object_init_2 obj _) F.entry_enumerate_new (enu_newT l items n dct sl) ⟨hl, ?_⟩
  obtain ⟨o1, eo1⟩ : ∃ o1 : Obj, o1 = { cls := .type "tuple_iterator", data := .fields #[.ref l, .int 0 0] } := ⟨_, rfl⟩
  obtain ⟨o2, eo2⟩ : ∃ o2 : Obj, o2 = { cls := .type "enumerate", data := .fields #[.none, .bool false, .ref s.heap.objs.size, rawInt 0, .none, .none] } := ⟨_, rfl⟩
  rw [← eo1, ← eo2]
  have hz : (s.heap.push o1).objs.size = s.heap.objs.size + 1 := Heap.size_push ..
  have he : IsEnum ((s.heap.push o1).push o2) (s.heap.objs.size + 1) s.heap.objs.size 0 .none := by
    have z := Heap.get?_push_size (s.heap.push o1) (o := o2) (by rw [eo2]; rfl)
    rw [hz, eo2] at z
    rw [eo2]
    exact z
  show _ ∧ _
  rw [hz]
  exact ⟨⟨_, he, rfl⟩, h _ he ⟨o1, Heap.get?_push_of_some _ (Heap.get?_push_size _ (by rw [eo1]; rfl)), by rw [eo1], by rw [eo1]; rfl⟩ fun b o x => Heap.get?_push_of_some _ (Heap.get?_push_of_some _ x)⟩
theorem pi_enuT {X : Cx} {e : Expr} {ta : TA} {p pos tpos : Pos} {elts : List Expr} {kk : Nat} (hg : Gl X "enumerate") (hm : X.mg "enumerate" = none) (ha : PA X [e] ta) (hs : starEach [e] X.env = [(false, eval e X.env)]) :
    PI X (.Tuple elts kk tpos) (.Call (.Name "enumerate" p) [e] [] pos) (iEnuT X.K ta) := by
  refine ⟨fun pins s σ H R J h => ?_⟩
  refine Call_ (ld_blt J hg hm boot_enumerate (PyProof.Rows.callWith_type1 (thn (ha.run pos pins s σ H _ J h) fun us s1 ⟨vs, H1, I1, r1, q1⟩ => ?_) hs rfl))
  obtain ⟨a, xs, ex, hq⟩ := q1
  subst ex
  have nf : ∀ b ∈ [s1.heap.objs.size + 1, s1.heap.objs.size], s1.heap.objs.size ≤ b := fun b hb => by
    rcases (show b = s1.heap.objs.size + 1 ∨ b = s1.heap.objs.size by simpa using hb) with z | z <;> omega
  cases r1 with
  | cons r rr =>
    cases rr
    cases r
    rcases hq with ⟨hq, q⟩ | ⟨hq, q⟩
    · obtain ⟨its, rv, p', hz⟩ := I1.list hq
      refine call_enumerate_list p'.isList fun h' he hit hsz hk => wpAny_pyIter_enum he ?_
      exact ⟨s1.heap.objs.size + 1, [s1.heap.objs.size + 1, s1.heap.objs.size], _, _, H1, rfl, I1.kept (t' := s1.toks) hk, turn_enum a (s1.heap.objs.size + 1) s1.heap.objs.size, ⟨⟨.none, he⟩, hit, Nat.succ_ne_self _⟩, fun b hb => I1.fpOk (nf b hb) (I1.hok.fresh (nf b hb)), q⟩
    · obtain ⟨its, rv, p', hz⟩ := I1.tuple hq
      have hal : a < s1.heap.objs.size := by obtain ⟨o, ho, _⟩ := p'; exact Heap.lt_size ho
      refine call_enuT (show s1.heap.IsTuple a its.toArray from p') fun h' he hit hk => wpAny_pyIter_enum he ?_
      exact ⟨s1.heap.objs.size + 1, [s1.heap.objs.size + 1, s1.heap.objs.size], _, _, H1, rfl, I1.kept (t' := s1.toks) hk, turn_enuT a (s1.heap.objs.size + 1) s1.heap.objs.size, ⟨⟨.none, he⟩, hit, Nat.succ_ne_self _, Nat.ne_of_gt (Nat.lt_succ_of_lt hal), Nat.ne_of_gt hal⟩, fun b hb => I1.fpOk (nf b hb) (I1.hok.fresh (nf b hb)), q⟩
end Cal
/-! WpZa -/
/-! zip of two tuples that is itself counted: the pair that was given out stands still, or is gone; the zip knows both cases (own; the steps go as the library's own ones for a zip that is walked) -/
namespace Cal
open PySem PySem.Spec PyProof.Rows L2 LamX
open PySem.Sem (wp)
section
variable {prog : Program} {w : World} {A : Around} {E : Value → Shared → Prop} {s : Shared}
/-- a zip in any of its states: the pair last given out (or none), and whether it is known to stand still -/
abbrev ZObj (f0 : Value) (f : Bool) (tI tO : Addr) : Obj := { cls := .type "zip", dict := none, data := .fields #[f0, .bool f, .bool false, .ref tI, .ref tO], slots := #[] }
def ZLast (f0 : Value) : Prop := f0 = .none ∨ ∃ t : Addr, f0 = rawInt t
theorem look_alive {a : Addr} {Q : Option Obj → Shared → Prop} (q : Q (s.heap.get? a) s) : wpAny (model prog w) A (loadIfAlive a) Q E s := fun _ _ _ => q
/-- is the kept tuple free? -/
theorem zp_free {zp tI tO : Addr} {f0 : Value} {f : Bool} {Q : Bool → Shared → Prop} (hz : s.heap.get? zp = some (ZObj f0 f tI tO)) (hl : ZLast f0) (yes : Q true s)
    (no : ∀ g', g'.get? zp = some (ZObj f0 true tI tO) → Heap.SameBut zp s.heap g' → Q false { s with heap := g' }) : wpAny (model prog w) A (Builtin.SmallTypes.ownedTupleIsFree (.ref zp)) Q E s := by
  unfold Builtin.SmallTypes.ownedTupleIsFree
  refine wpAny_bind (m := field (.ref zp) 0) (wpAny_field hz rfl (x := f0) rfl ?_)
  rcases hl with e | ⟨t, e⟩
  · rw [e]
    exact wpAny_pure yes
  · rw [e] at hz no ⊢
    refine wpAny_bind (m := loadIfAlive ((t : Int).toNat)) ?_
    rw [Int.toNat_natCast]
    refine look_alive ?_
    cases s.heap.get? t with
    | none => exact wpAny_pure yes
    | some oT =>
      refine wpAny_bind (m := field (.ref zp) 1) (wpAny_field hz rfl (x := .bool f) rfl ?_)
      cases f with
      | true => exact wpAny_pure (no s.heap hz (Heap.SameBut.refl zp s.heap))
      | false => exact wpAny_bind (m := setField (.ref zp) 1 (.bool true)) (wpAny_setField_rec hz (by simp) fun g1 z1 sb => wpAny_pure (no g1 z1 sb))
end
end Cal
/-! WpZb -/
namespace Cal
open PySem PySem.Spec PyProof.Rows L2 LamX
open PySem.Sem (wp)
section
variable {prog : Program} {w : World} {A : Around} {E : Value → Shared → Prop} {s : Shared}
/-- all that a zip of two tuples stands on, k items drawn -/
structure ZAt (zp tI tO p1 p2 l1 l2 : Addr) (k : Nat) (h : Heap) : Prop where
  z : ∃ f0 f, ZLast f0 ∧ h.get? zp = some (ZObj f0 f tI tO)
  i : IsPair h tI (.ref p1) (.ref p2)
  o : ∃ a b, IsPair h tO a b
  a : h.IsTupleIter p1 l1 k
  b : h.IsTupleIter p2 l2 k
theorem ZAt.keep {zp tI tO p1 p2 l1 l2 : Addr} {k : Nat} {h h' : Heap} (q : ZAt zp tI tO p1 p2 l1 l2 k h) (kp : ∀ c ∈ [zp, tI, tO, p1, p2], ∀ o, h.get? c = some o → h'.get? c = some o) : ZAt zp tI tO p1 p2 l1 l2 k h' := by
  obtain ⟨⟨f0, f, z1, z2⟩, i, ⟨a, b, o⟩, ⟨oa, a1, a2⟩, ⟨ob, b1, b2⟩⟩ := q
  exact ⟨⟨f0, f, z1, kp _ (by simp) _ z2⟩, kp _ (by simp) _ i, ⟨a, b, kp _ (by simp) _ o⟩, ⟨oa, kp _ (by simp) _ a1, a2⟩, ⟨ob, kp _ (by simp) _ b1, b2⟩⟩
theorem tupAt {h h' : Heap} {l : Addr} {xs : Array Value} (t : h.IsTuple l xs) (kp : ∀ o, h.get? l = some o → h'.get? l = some o) : h'.IsTuple l xs := by
  obtain ⟨o, e, r⟩ := t
  exact ⟨o, kp o e, r⟩
theorem zp_item {zp tI tO p1 p2 l1 l2 : Addr} {k : Nat} {xs ys : Array Value} {x y : Value} {Q : Value → Shared → Prop} (D : ZipApart zp tI tO p1 p2 l1 l2) (st : ZAt zp tI tO p1 p2 l1 l2 k s.heap)
    (t1 : s.heap.IsTuple l1 xs) (t2 : s.heap.IsTuple l2 ys) (hx : xs[k]? = some x) (hy : ys[k]? = some y)
    (hQ : ∀ g', ZAt zp tI tO p1 p2 l1 l2 (k + 1) g' → IsPair g' s.heap.objs.size x y → g'.objs.size = s.heap.objs.size + 1 → (∀ c o, c ∉ [zp, tI, tO, p1, p2] → s.heap.get? c = some o → g'.get? c = some o) → Q (.ref s.heap.objs.size) { s with heap := g' }) :
    wpAny (model prog w) A (Builtin.«zip.__next__» ⟨[.ref zp], []⟩) (fun fin s' => ∃ v, fin = .done (.ret v) ∧ Q v s') E s := by
  obtain ⟨⟨f0, f, hl, hz⟩, hI, ⟨a, b, hO⟩, h1, h2⟩ := st
  refine wpAny_bind (m := field (.ref zp) 2) (wpAny_field hz rfl (x := .bool false) rfl ?_)
  refine wpAny_bind (m := field (.ref zp) 3) (wpAny_field hz rfl (x := .ref tI) rfl ?_)
  refine wpAny_bind (m := seqItems? (.ref tI)) (wpAny_seqItems hI rfl ?_)
  refine wpAny_bind (m := Builtin.SmallTypes.ownedTupleIsFree (.ref zp)) (zp_free hz hl ?_ fun g1 z1 b1 => ?_)
  · simp only [if_true]
    refine wpAny_bind (wpAny_rule ?_)
    refine wpAny_bind (m := field (.ref zp) 4) (wpAny_field hz rfl (x := .ref tO) rfl ?_)
    refine wpAny_bind (wpAny_setField_rec hz (by simp) fun g1 z1 b1 => ?_)
    refine wpAny_bind ?_
    simp only [List.zipIdx_cons, List.zipIdx_nil, List.forIn_cons, List.forIn_nil]
    refine wpAny_bind (wpAny_bind (wpAny_onRaise ?_))
    refine wpAny_bind (m := Builtin.SmallTypes.nextOf (.ref p1)) (RZ.nextOf_tuple_item (h1.extBut b1.extBut D.i1z) (tupAt t1 fun o => b1.extBut _ o D.l1z) hx fun g2 n1 b2 => wpAny_pure ?_)
    have O2 : IsPair g2 tO a b := b2.extBut _ _ D.TOi1 (b1.extBut _ _ D.TOz hO)
    refine wpAny_bind (wpAny_seqItems O2 rfl ?_)
    refine wpAny_bind (wpAny_updateSeq_pair O2 fun g3 O3 b3 => ?_)
    replace O3 : IsPair g3 tO x b := O3
    refine wpAny_bind (wpAny_letGo (wpAny_pure ?_))
    refine wpAny_bind (wpAny_bind (wpAny_onRaise ?_))
    refine wpAny_bind (m := Builtin.SmallTypes.nextOf (.ref p2)) (RZ.nextOf_tuple_item (((h2.extBut b1.extBut D.i2z).extBut b2.extBut D.i12.symm).extBut b3.extBut D.TOi2.symm)
      (tupAt t2 fun o e => b3.extBut _ o D.l2TO (b2.extBut _ o D.l2i1 (b1.extBut _ o D.l2z e))) hy fun g4 n2 b4 => wpAny_pure ?_)
    have O4 : IsPair g4 tO x b := b4.extBut _ _ D.TOi2 O3
    refine wpAny_bind (wpAny_seqItems O4 rfl ?_)
    refine wpAny_bind (wpAny_updateSeq_pair O4 fun g5 O5 b5 => ?_)
    replace O5 : IsPair g5 tO x y := O5
    refine wpAny_bind (wpAny_letGo (wpAny_pure (wpAny_pure ?_)))
    refine wpAny_bind (wpAny_seqItems O5 rfl ?_)
    refine wpAny_bind (wpAny_newTuple ?_)
    have sz : g5.objs.size = s.heap.objs.size := by rw [b5.1, b4.1, b3.1, b2.1, b1.1]
    have kp : ∀ c o, c ≠ zp → c ≠ tO → c ≠ p1 → c ≠ p2 → s.heap.get? c = some o → g5.get? c = some o := fun c o c1 c2 c3 c4 e =>
      b5.extBut _ _ c2 (b4.extBut _ _ c4 (b3.extBut _ _ c2 (b2.extBut _ _ c3 (b1.extBut _ _ c1 e))))
    have z5 := b5.extBut _ _ D.TOz.symm (b4.extBut _ _ D.i2z.symm (b3.extBut _ _ D.TOz.symm (b2.extBut _ _ D.i1z.symm z1)))
    have m1 : g5.IsTupleIter p1 l1 (k + 1) := ((n1.extBut b3.extBut D.TOi1.symm).extBut b4.extBut D.i12).extBut b5.extBut D.TOi1.symm
    have m2 : g5.IsTupleIter p2 l2 (k + 1) := n2.extBut b5.extBut D.TOi2.symm
    have zlt : zp < g5.objs.size := Heap.lt_size z5
    refine wpAny_bind (m := Builtin.SmallTypes.ownedTupleHandOut (.ref zp) (.ref g5.objs.size)) ?_
    unfold Builtin.SmallTypes.ownedTupleHandOut
    have z6 := Heap.get?_push_of_some { cls := .type "tuple", data := .seq #[x, y] } z5
    refine wpAny_bind (wpAny_setField_rec z6 (by simp) fun g7 z7 b7 => ?_)
    refine wpAny_setField_rec z7 (by simp) fun g8 z8 b8 => ?_
    have up : ∀ c o, c ≠ zp → g5.get? c = some o → g8.get? c = some o := fun c o c1 e => b8.extBut _ _ c1 (b7.extBut _ _ c1 (Heap.get?_push_of_some _ e))
    have T8 : IsPair g8 g5.objs.size x y := b8.extBut _ _ (Nat.ne_of_gt zlt) (b7.extBut _ _ (Nat.ne_of_gt zlt) (Heap.get?_push_size _ rfl))
    have s8 : g8.objs.size = g5.objs.size + 1 := by rw [b8.1, b7.1, Heap.size_push]
    rw [sz] at T8 s8
    refine wpAny_pure ⟨_, rfl, ?_⟩
    show Q (.ref g5.objs.size) _
    rw [sz]
    refine hQ g8 ⟨⟨_, _, .inr ⟨_, rfl⟩, z8⟩, up _ _ D.TIz (kp _ _ D.TIz D.TITO D.TIi1 D.TIi2 hI), ⟨x, y, up _ _ D.TOz O5⟩, m1.at fun o e => up _ o D.i1z e, m2.at fun o e => up _ o D.i2z e⟩ T8 s8 fun c o hc e => ?_
    simp only [List.mem_cons, List.not_mem_nil, or_false, not_or] at hc
    exact up c o hc.1 (kp c o hc.1 hc.2.2.1 hc.2.2.2.1 hc.2.2.2.2 e)
  · simp only [Bool.false_eq_true, if_false]
    refine wpAny_bind ?_
    rw [← Array.forIn_toList]
    simp only [List.forIn_cons, List.forIn_nil]
    refine wpAny_bind (wpAny_bind (wpAny_holding ?_))
    refine wpAny_bind (m := Builtin.SmallTypes.nextOf (.ref p1)) (RZ.nextOf_tuple_item (s := { s with heap := g1 }) (h1.extBut b1.extBut D.i1z) (tupAt t1 fun o => b1.extBut _ o D.l1z) hx fun g2 n1 b2 => wpAny_pure (wpAny_pure ?_))
    refine wpAny_bind (wpAny_bind (wpAny_holding ?_))
    refine wpAny_bind (m := Builtin.SmallTypes.nextOf (.ref p2)) (RZ.nextOf_tuple_item (s := { s with heap := g2 }) ((h2.extBut b1.extBut D.i2z).extBut b2.extBut D.i12.symm) (tupAt t2 fun o e => b2.extBut _ o D.l2i1 (b1.extBut _ o D.l2z e)) hy fun g3 n2 b3 => wpAny_pure (wpAny_pure (wpAny_pure ?_)))
    refine wpAny_bind (m := newTuple [x, y]) (wpAny_newTuple ?_)
    have sz : g3.objs.size = s.heap.objs.size := by rw [b3.1, b2.1, b1.1]
    have z3 := b3.extBut _ _ D.i2z.symm (b2.extBut _ _ D.i1z.symm z1)
    have kp : ∀ c o, c ≠ zp → c ≠ p1 → c ≠ p2 → s.heap.get? c = some o → g3.get? c = some o := fun c o c1 c2 c3 e => b3.extBut _ _ c3 (b2.extBut _ _ c2 (b1.extBut _ _ c1 e))
    have m1 : g3.IsTupleIter p1 l1 (k + 1) := n1.extBut b3.extBut D.i12
    refine wpAny_pure ⟨_, rfl, ?_⟩
    show Q (.ref g3.objs.size) _
    have T4 : IsPair (g3.push { cls := .type "tuple", data := .seq #[x, y] }) g3.objs.size x y := Heap.get?_push_size _ rfl
    have s4 : (g3.push { cls := .type "tuple", data := .seq #[x, y] }).objs.size = g3.objs.size + 1 := Heap.size_push ..
    rw [sz] at T4 s4 ⊢
    refine hQ _ ⟨⟨f0, true, hl, Heap.get?_push_of_some _ z3⟩, Heap.get?_push_of_some _ (kp _ _ D.TIz D.TIi1 D.TIi2 hI), ⟨a, b, Heap.get?_push_of_some _ (kp _ _ D.TOz D.TOi1 D.TOi2 hO)⟩, m1.at fun o e => Heap.get?_push_of_some _ e, n2.at fun o e => Heap.get?_push_of_some _ e⟩ T4 s4 fun c o hc e => ?_
    simp only [List.mem_cons, List.not_mem_nil, or_false, not_or] at hc
    exact Heap.get?_push_of_some _ (kp c o hc.1 hc.2.2.2.1 hc.2.2.2.2 e)
end
end Cal
/-! WpZc -/
namespace Cal
open PySem PySem.Spec PyProof.Rows L2 LamX
open PySem.Sem (wp)
section
variable {prog : Program} {w : World} {A : Around} {E : Value → Shared → Prop} {s : Shared}
theorem zp_end {zp tI tO p1 p2 l1 l2 : Addr} {k : Nat} {xs ys : Array Value} {Q : Fin → Shared → Prop} (hh : A.handled = none) (D : ZipApart zp tI tO p1 p2 l1 l2) (st : ZAt zp tI tO p1 p2 l1 l2 k s.heap)
    (t1 : s.heap.IsTuple l1 xs) (t2 : s.heap.IsTuple l2 ys) (hx : xs[k]? = none ∨ ys[k]? = none)
    (hE : ∀ g' e, (∀ c o, c ∉ [zp, tI, tO, p1, p2] → s.heap.get? c = some o → g'.get? c = some o) → (∃ o, g'.get? e = some o ∧ o.cls = .type "StopIteration") → E (.ref e) { s with heap := g' }) :
    wpAny (model prog w) A (Builtin.«zip.__next__» ⟨[.ref zp], []⟩) Q E s := by
  obtain ⟨⟨f0, f, hl, hz⟩, hI, ⟨a, b, hO⟩, h1, h2⟩ := st
  have far : ∀ {c : Addr}, c ∉ [zp, tI, tO, p1, p2] → c ≠ zp ∧ c ≠ tO ∧ c ≠ p1 ∧ c ≠ p2 := fun {c} hc => by
    simp only [List.mem_cons, List.not_mem_nil, or_false, not_or] at hc
    exact ⟨hc.1, hc.2.2.1, hc.2.2.2.1, hc.2.2.2.2⟩
  refine wpAny_bind (m := field (.ref zp) 2) (wpAny_field hz rfl (x := .bool false) rfl ?_)
  refine wpAny_bind (m := field (.ref zp) 3) (wpAny_field hz rfl (x := .ref tI) rfl ?_)
  refine wpAny_bind (m := seqItems? (.ref tI)) (wpAny_seqItems hI rfl ?_)
  refine wpAny_bind (m := Builtin.SmallTypes.ownedTupleIsFree (.ref zp)) (zp_free hz hl ?_ fun g1 z1 b1 => ?_)
  · simp only [if_true]
    refine wpAny_bind (wpAny_rule ?_)
    refine wpAny_bind (m := field (.ref zp) 4) (wpAny_field hz rfl (x := .ref tO) rfl ?_)
    refine wpAny_bind (wpAny_setField_rec hz (by simp) fun g1 z1 b1 => ?_)
    refine wpAny_bind ?_
    simp only [List.zipIdx_cons, List.zipIdx_nil, List.forIn_cons, List.forIn_nil]
    refine wpAny_bind (wpAny_bind (wpAny_onRaise ?_))
    cases e1 : xs[k]? with
    | none =>
      refine wpAny_bind (m := Builtin.SmallTypes.nextOf (.ref p1)) (RZ.nextOf_tuple_end hh (h1.extBut b1.extBut D.i1z) (tupAt t1 fun o => b1.extBut _ o D.l1z) e1 fun g2 e b2 he => ?_)
      obtain ⟨oe, he1, he2⟩ := he
      have z2 := b2 _ _ D.i1z.symm z1
      have ez : e ≠ zp := fun q => by
        rw [q] at he1
        rw [he1] at z2
        have q2 := congrArg Obj.cls (Option.some.inj z2)
        rw [he2] at q2
        simp at q2
      exact wpAny_setField_rec z2 (by simp) fun g3 _ b3 => hE g3 e (fun c o hc q => b3.extBut _ _ (far hc).1 (b2 _ _ (far hc).2.2.1 (b1.extBut _ _ (far hc).1 q))) ⟨oe, b3.extBut _ _ ez he1, he2⟩
    | some x =>
      have e2 : ys[k]? = none := hx.resolve_left (by rw [e1]; exact fun q => nomatch q)
      refine wpAny_bind (m := Builtin.SmallTypes.nextOf (.ref p1)) (RZ.nextOf_tuple_item (h1.extBut b1.extBut D.i1z) (tupAt t1 fun o => b1.extBut _ o D.l1z) e1 fun g2 n1 b2 => wpAny_pure ?_)
      have O2 : IsPair g2 tO a b := b2.extBut _ _ D.TOi1 (b1.extBut _ _ D.TOz hO)
      refine wpAny_bind (wpAny_seqItems O2 rfl ?_)
      refine wpAny_bind (wpAny_updateSeq_pair O2 fun g3 O3 b3 => ?_)
      refine wpAny_bind (wpAny_letGo (wpAny_pure ?_))
      refine wpAny_bind (wpAny_bind (wpAny_onRaise ?_))
      refine wpAny_bind (m := Builtin.SmallTypes.nextOf (.ref p2)) (RZ.nextOf_tuple_end hh (((h2.extBut b1.extBut D.i2z).extBut b2.extBut D.i12.symm).extBut b3.extBut D.TOi2.symm)
        (tupAt t2 fun o e => b3.extBut _ o D.l2TO (b2.extBut _ o D.l2i1 (b1.extBut _ o D.l2z e))) e2 fun g4 e b4 he => ?_)
      obtain ⟨oe, he1, he2⟩ := he
      have z4 := b4 _ _ D.i2z.symm (b3.extBut _ _ D.TOz.symm (b2.extBut _ _ D.i1z.symm z1))
      have ez : e ≠ zp := fun q => by
        rw [q] at he1
        rw [he1] at z4
        have q2 := congrArg Obj.cls (Option.some.inj z4)
        rw [he2] at q2
        simp at q2
      exact wpAny_setField_rec z4 (by simp) fun g5 _ b5 => hE g5 e (fun c o hc q => b5.extBut _ _ (far hc).1 (b4 _ _ (far hc).2.2.2 (b3.extBut _ _ (far hc).2.1 (b2.extBut _ _ (far hc).2.2.1 (b1.extBut _ _ (far hc).1 q))))) ⟨oe, b5.extBut _ _ ez he1, he2⟩
  · simp only [Bool.false_eq_true, if_false]
    refine wpAny_bind ?_
    rw [← Array.forIn_toList]
    simp only [List.forIn_cons, List.forIn_nil]
    refine wpAny_bind (wpAny_bind (wpAny_holding ?_))
    cases e1 : xs[k]? with
    | none =>
      refine wpAny_bind (m := Builtin.SmallTypes.nextOf (.ref p1)) (RZ.nextOf_tuple_end (s := { s with heap := g1 }) hh (h1.extBut b1.extBut D.i1z) (tupAt t1 fun o => b1.extBut _ o D.l1z) e1 fun g2 e b2 he => ?_)
      exact hE g2 e (fun c o hc q => b2 _ _ (far hc).2.2.1 (b1.extBut _ _ (far hc).1 q)) he
    | some x =>
      have e2 : ys[k]? = none := hx.resolve_left (by rw [e1]; exact fun q => nomatch q)
      refine wpAny_bind (m := Builtin.SmallTypes.nextOf (.ref p1)) (RZ.nextOf_tuple_item (s := { s with heap := g1 }) (h1.extBut b1.extBut D.i1z) (tupAt t1 fun o => b1.extBut _ o D.l1z) e1 fun g2 n1 b2 => wpAny_pure (wpAny_pure ?_))
      refine wpAny_bind (wpAny_bind (wpAny_holding ?_))
      refine wpAny_bind (m := Builtin.SmallTypes.nextOf (.ref p2)) (RZ.nextOf_tuple_end (s := { s with heap := g2 }) hh ((h2.extBut b1.extBut D.i2z).extBut b2.extBut D.i12.symm) (tupAt t2 fun o e => b2.extBut _ o D.l2i1 (b1.extBut _ o D.l2z e)) e2 fun g3 e b3 he => ?_)
      exact hE g3 e (fun c o hc q => b3 _ _ (far hc).2.2.2 (b2.extBut _ _ (far hc).2.2.1 (b1.extBut _ _ (far hc).1 q))) he
/-- one more of it -/
theorem zp_nextOf {zp tI tO p1 p2 l1 l2 : Addr} {k : Nat} {xs ys : Array Value} {x y : Value} {Q : Value → Shared → Prop} (D : ZipApart zp tI tO p1 p2 l1 l2) (st : ZAt zp tI tO p1 p2 l1 l2 k s.heap)
    (t1 : s.heap.IsTuple l1 xs) (t2 : s.heap.IsTuple l2 ys) (hx : xs[k]? = some x) (hy : ys[k]? = some y)
    (hQ : ∀ g', ZAt zp tI tO p1 p2 l1 l2 (k + 1) g' → IsPair g' s.heap.objs.size x y → g'.objs.size = s.heap.objs.size + 1 → (∀ c o, c ∉ [zp, tI, tO, p1, p2] → s.heap.get? c = some o → g'.get? c = some o) → Q (.ref s.heap.objs.size) { s with heap := g' }) :
    wpAny (model prog w) A (Builtin.SmallTypes.nextOf (.ref zp)) Q E s := by
  obtain ⟨f0, f, _, hz⟩ := st.z
  have ty : s.TypeIs (.ref zp) "zip" := ⟨_, hz, rfl⟩
  unfold Builtin.SmallTypes.nextOf
  exact wpAny_bind (wpAny_callSpecial?_slot (name := Str.ofString "__next__") ty F.slot_zip_next (wpAny_call_entry F.slot_zip_next ty F.entry_zip_next (zp_item D st t1 t2 hx hy fun g' q1 q2 q3 q4 => wpAny_pure (hQ g' q1 q2 q3 q4)) (F.args_zip_next_1 _)))
theorem zp_nextEnd {zp tI tO p1 p2 l1 l2 : Addr} {k : Nat} {xs ys : Array Value} {Q : Value → Shared → Prop} (hh : A.handled = none) (D : ZipApart zp tI tO p1 p2 l1 l2) (st : ZAt zp tI tO p1 p2 l1 l2 k s.heap)
    (t1 : s.heap.IsTuple l1 xs) (t2 : s.heap.IsTuple l2 ys) (hx : xs[k]? = none ∨ ys[k]? = none)
    (hE : ∀ g' e, (∀ c o, c ∉ [zp, tI, tO, p1, p2] → s.heap.get? c = some o → g'.get? c = some o) → (∃ o, g'.get? e = some o ∧ o.cls = .type "StopIteration") → E (.ref e) { s with heap := g' }) :
    wpAny (model prog w) A (Builtin.SmallTypes.nextOf (.ref zp)) Q E s := by
  obtain ⟨f0, f, _, hz⟩ := st.z
  have ty : s.TypeIs (.ref zp) "zip" := ⟨_, hz, rfl⟩
  unfold Builtin.SmallTypes.nextOf
  exact wpAny_bind (wpAny_callSpecial?_slot (name := Str.ofString "__next__") ty F.slot_zip_next (wpAny_call_entry F.slot_zip_next ty F.entry_zip_next (zp_end hh D st t1 t2 hx hE) (F.args_zip_next_1 _)))
/-- the count's next, over whatever stands behind it -/
theorem cnt_item {en src : Addr} {ch : List Addr} {i : Int} {old : Value} {P : Value → Heap → Prop} {Q : Value → Shared → Prop} (he : IsEnum s.heap en src i old) (hn : en ∉ ch)
    (inner : ∀ R : Value → Shared → Prop, (∀ x g1, P x g1 → (∀ c o, c ∉ ch → s.heap.get? c = some o → g1.get? c = some o) → R x { s with heap := g1 }) → wpAny (model prog w) A (Builtin.SmallTypes.nextOf (.ref src)) R E s)
    (hQ : ∀ x g1 g' tk, P x g1 → (∀ c o, c ∉ ch → s.heap.get? c = some o → g1.get? c = some o) → IsEnumOut g' en src (i + 1) x g1.objs.size → g'.get? g1.objs.size = some { cls := .type "tuple", data := .seq #[.int i tk, x] } → (∀ c o, c ≠ en → g1.get? c = some o → g'.get? c = some o) → Q (.ref g1.objs.size) { s with heap := g', toks := tk + 1 }) :
    wpAny (model prog w) A (Builtin.«enumerate.__next__» ⟨[.ref en], []⟩) (fun fin s' => ∃ v, fin = .done (.ret v) ∧ Q v s') E s := by
  refine wpAny_bind (m := field (.ref en) 2) (wpAny_field he rfl (x := .ref src) rfl ?_)
  refine wpAny_bind (m := Builtin.SmallTypes.nextOf (.ref src)) (inner _ fun x g1 hP kp => ?_)
  have he1 : IsEnum g1 en src i old := kp _ _ hn he
  refine wpAny_bind (m := field (.ref en) 3) (wpAny_field (s := { s with heap := g1 }) he1 rfl (x := rawInt i) rfl ?_)
  refine wpAny_bind (m := field (.ref en) 4) (wpAny_field (s := { s with heap := g1 }) he1 rfl (x := .none) rfl ?_)
  refine wpAny_bind (m := mkInt i) (wpAny_mkInt ?_)
  refine wpAny_bind (m := setField (.ref en) 3 (rawInt (i + 1))) (wpAny_setField_rec he1 (by simp) fun g2 e2 b2 => ?_)
  replace e2 : IsEnum g2 en src (i + 1) old := e2
  refine wpAny_bind (m := setField (.ref en) 4 .none) (wpAny_setField_rec e2 (by simp) fun g3 e3 b3 => ?_)
  replace e3 : IsEnum g3 en src (i + 1) old := e3
  refine wpAny_bind (m := newTuple [.int i s.toks, x]) (wpAny_newTuple ?_)
  have e4 : IsEnum (g3.push { cls := .type "tuple", data := .seq #[.int i s.toks, x] }) en src (i + 1) old := Heap.get?_push_of_some _ e3
  have sz : g3.objs.size = g1.objs.size := by rw [b3.1, b2.1]
  have elt : en < g1.objs.size := Heap.lt_size he1
  have t4 : (g3.push { cls := .type "tuple", data := .seq #[.int i s.toks, x] }).get? g1.objs.size = some { cls := .type "tuple", data := .seq #[.int i s.toks, x] } := by rw [← sz]; exact Heap.get?_push_size _ rfl
  have k4 : ∀ c o, c ≠ en → g1.get? c = some o → (g3.push { cls := .type "tuple", data := .seq #[.int i s.toks, x] }).get? c = some o := fun c o hc q => Heap.get?_push_of_some _ (b3.extBut c o hc (b2.extBut c o hc q))
  obtain ⟨g4, eg4⟩ : ∃ g4, g4 = g3.push { cls := .type "tuple", data := .seq #[.int i s.toks, x] } := ⟨_, rfl⟩
  rw [← eg4] at e4 t4 k4
  show wpAny _ _ (Builtin.SmallTypes.ownedTupleIsFree (.ref en) >>= _) _ _ ({ s with heap := g3.push { cls := .type "tuple", data := .seq #[.int i s.toks, x] }, toks := s.toks + 1 } : Shared)
  rw [← eg4, sz]
  refine wpAny_bind (m := Builtin.SmallTypes.ownedTupleIsFree (.ref en)) ?_
  unfold Builtin.SmallTypes.ownedTupleIsFree
  refine wpAny_bind (m := field (.ref en) 0) (wpAny_field e4 rfl (x := .none) rfl (wpAny_pure ?_))
  simp only [if_true]
  refine wpAny_bind (wpAny_rule ?_)
  refine wpAny_bind (wpAny_field e4 rfl (x := old) rfl ?_)
  refine wpAny_bind (wpAny_setField_rec e4 (by simp) fun g5 e5 b5 => ?_)
  replace e5 : IsEnum g5 en src (i + 1) x := e5
  refine wpAny_bind (m := Builtin.SmallTypes.ownedTupleHandOut (.ref en) (.ref g1.objs.size)) ?_
  unfold Builtin.SmallTypes.ownedTupleHandOut
  refine wpAny_bind (wpAny_setField_rec e5 (by simp) fun g6 e6 b6 => ?_)
  replace e6 : IsEnumOut g6 en src (i + 1) x g1.objs.size := e6
  refine wpAny_setField_rec e6 (by simp) fun g7 e7 b7 => ?_
  replace e7 : IsEnumOut g7 en src (i + 1) x g1.objs.size := e7
  have k7 : ∀ c o, c ≠ en → g4.get? c = some o → g7.get? c = some o := fun c o hc q => b7.extBut c o hc (b6.extBut c o hc (b5.extBut c o hc q))
  exact wpAny_bind (wpAny_letGo (wpAny_pure ⟨_, rfl, hQ x g1 g7 s.toks hP kp e7 (k7 _ _ (Nat.ne_of_gt elt) t4) fun c o hc q => k7 c o hc (k4 c o hc q)⟩))
end
end Cal
/-! WpZd -/
namespace Cal
open PySem PySem.Spec PyProof.Rows L2 LamX RZ
open PySem.Sem (wp)
def IteZ (K : PySem.W.Frag) (a b : Addr) : It :=
  ⟨fun i H => ∃ (xs ys : List V) (x y : V), SqT K H a xs ∧ SqT K H b ys ∧ xs[i]? = some x ∧ ys[i]? = some y,
    fun i H v H' => ∃ P T x y, v = .ref P ∧ H T = none ∧ upd H T (.tup [x, y]) P = none ∧ H' = upd (upd H T (.tup [x, y])) P (.tup [.int (i : Nat), .ref T]) ∧ (∀ xs, SqT K H a xs → xs[i]? = some x) ∧ ∀ ys, SqT K H b ys → ys[i]? = some y,
    fun i H => ∃ xs ys : List V, SqT K H a xs ∧ SqT K H b ys ∧ (xs.length ≤ i ∨ ys.length ≤ i)⟩
theorem cnt_next {prog : Program} {w : World} {A : Around} {E : Value → Shared → Prop} {s : Shared} {en src : Addr} {ch : List Addr} {i : Int} {old : Value} {P : Value → Heap → Prop} {Q : Option Value → Shared → Prop} (he : IsEnum s.heap en src i old) (hn : en ∉ ch)
    (inner : ∀ (E : Value → Shared → Prop) (R : Value → Shared → Prop), (∀ x g1, P x g1 → (∀ c o, c ∉ ch → s.heap.get? c = some o → g1.get? c = some o) → R x { s with heap := g1 }) → wpAny (model prog w) A.in1 (Builtin.SmallTypes.nextOf (.ref src)) R E s)
    (hQ : ∀ x g1 g' tk, P x g1 → (∀ c o, c ∉ ch → s.heap.get? c = some o → g1.get? c = some o) → IsEnumOut g' en src (i + 1) x g1.objs.size → g'.get? g1.objs.size = some { cls := .type "tuple", data := .seq #[.int i tk, x] } → (∀ c o, c ≠ en → g1.get? c = some o → g'.get? c = some o) → Q (some (.ref g1.objs.size)) { s with heap := g', toks := tk + 1 }) :
    wpAny (model prog w) A (pyNext (.ref en)) Q E s := by
  have ty : s.TypeIs (.ref en) "enumerate" := ⟨_, he, rfl⟩
  unfold pyNext
  exact wpAny_bind (wpAny_attempt (wpAny_callSpecial?_slot (name := Str.ofString "__next__") ty F.slot_enumerate_next (wpAny_call_entry F.slot_enumerate_next ty F.entry_enumerate_next
      (cnt_item he hn (inner _) fun x g1 g' tk a b c d k => wpAny_pure (hQ x g1 g' tk a b c d k)) (F.args_enumerate_next_1 _))))
theorem turn_cz {P : Program} {w : World} {K : PySem.W.Frag} {elts : List Expr} {kk : Nat} {tpos : Pos} {a b en zp tI tO p1 p2 : Addr} (D : ZipApart zp tI tO p1 p2 a b) (hen : en ∉ [zp, tI, tO, p1, p2]) :
    Turn P w K (.Tuple elts kk tpos) (IteZ K a b) [en, zp, tI, tO, p1, p2] en (fun i h => (∃ old, IsEnum h en zp ((i : Nat) : Int) old) ∧ ZAt zp tI tO p1 p2 a b i h) where
  mem := by simp
  obj := fun i h st c hc => by
    obtain ⟨⟨old, he⟩, ⟨f0, f, _, z⟩, q1, ⟨_, _, q2⟩, ⟨oa, a1, _, a2⟩, ⟨ob, b1, _, b2⟩⟩ := st
    rcases (show c = en ∨ c = zp ∨ c = tI ∨ c = tO ∨ c = p1 ∨ c = p2 by simpa using hc) with e | e | e | e | e | e <;> rw [e]
    · exact ⟨_, he, fun v q => nomatch q⟩
    · exact ⟨_, z, fun v q => nomatch q⟩
    · exact ⟨_, q1, fun v q => nomatch q⟩
    · exact ⟨_, q2, fun v q => nomatch q⟩
    · exact ⟨oa, a1, fun v q => by rw [a2] at q; cases q⟩
    · exact ⟨ob, b1, fun v q => by rw [b2] at q; cases q⟩
  keep := fun i h h' st k => by
    obtain ⟨⟨old, he⟩, q⟩ := st
    exact ⟨⟨old, k en (by simp) _ he⟩, q.keep fun c hc => k c (List.mem_cons_of_mem _ hc)⟩
  item := by
    intro X hP hw hK hc i pins s σ H E J hf st hg
    subst hP hw hK
    obtain ⟨⟨old, he⟩, hz⟩ := st
    obtain ⟨xs, ys, x, y, hqx, hqy, hx, hy⟩ := hg
    obtain ⟨its, rv, t1, _⟩ := J.tuple hqx
    obtain ⟨its2, rv2, t2, _⟩ := J.tuple hqy
    obtain ⟨u, hu, ru⟩ := rv.get hx
    obtain ⟨u2, hu2, ru2⟩ := rv2.get hy
    have hel : en < s.heap.objs.size := Heap.lt_size he
    have fsub : ∀ c ∈ [zp, tI, tO, p1, p2], FpOk X pins H c := fun c hc => hf c (List.mem_cons_of_mem _ hc)
    refine cnt_next (P := fun v g1 => v = .ref s.heap.objs.size ∧ ZAt zp tI tO p1 p2 a b (i + 1) g1 ∧ IsPair g1 s.heap.objs.size u u2 ∧ g1.objs.size = s.heap.objs.size + 1) he hen (fun E R hR => zp_nextOf D hz t1 t2 (by simpa using hu) (by simpa using hu2) fun g1 q1 q2 q3 q4 => hR _ g1 ⟨rfl, q1, q2, q3⟩ q4) fun v g1 g' tk hP kp ho hT k2 => ?_
    obtain ⟨rfl, hz1, hp1, sz1⟩ := hP
    refine ⟨_, rfl, ?_⟩
    refine wpAny_letOwnedTupleGo_enum (s := { s with heap := g', toks := tk + 1 }) ho fun g2 he2 sb => ?_
    have nT : en ≠ s.heap.objs.size := Nat.ne_of_lt hel
    have nP : en ≠ g1.objs.size := by rw [sz1]; exact Nat.ne_of_lt (Nat.lt_succ_of_lt hel)
    have k3 : ∀ c o, c ≠ en → g1.get? c = some o → g2.get? c = some o := fun c o hc q => sb.extBut c o hc (k2 c o hc q)
    have I1 : Inv X pins σ (upd H s.heap.objs.size (.tup [x, y])) { s with heap := g1, toks := tk + 1 } :=
      J.turnedNew (ch := [zp, tI, tO, p1, p2]) kp fsub (Nat.le_refl _) ⟨by show 2 ≤ sizeLine; decide, [u, u2], .cons ru (.cons ru2 .nil), ⟨_, hp1, rfl, _, rfl⟩⟩
    obtain ⟨f0, f1, f2, f3, f4, f5⟩ := hf en (by simp)
    have fen : ∀ c ∈ [en], FpOk X pins (upd H s.heap.objs.size (.tup [x, y])) c := fun c hc => by
      obtain rfl : c = en := by simpa using hc
      exact ⟨by rw [upd_ne nT]; exact f0, f1, f2, f3, f4, f5⟩
    have hnP := I1.hok.fresh (Nat.le_refl g1.objs.size)
    have I2 : Inv X pins σ (upd (upd H s.heap.objs.size (.tup [x, y])) g1.objs.size (.tup [.int (i : Nat), .ref s.heap.objs.size])) { s with heap := g2, toks := tk + 1 } :=
      I1.turnedNew (t' := tk + 1) (ch := [en]) (fun c o hc q => k3 c o (by simpa using hc) q) fen (Nat.le_refl _) ⟨by show 2 ≤ sizeLine; decide, [.int i tk, .ref s.heap.objs.size], .cons ⟨_, rfl⟩ (.cons rfl .nil), ⟨_, sb.extBut _ _ (Ne.symm nP) hT, rfl, _, rfl⟩⟩
    refine ⟨.ref g1.objs.size, _, I2, rfl, ⟨_, s.heap.objs.size, x, y, rfl, J.hok.fresh (Nat.le_refl _), hnP, rfl, fun l hl => by rw [J.tuple_inj hl hqx]; exact hx, fun l hl => by rw [J.tuple_inj hl hqy]; exact hy⟩, ⟨⟨_, by rw [show ((i + 1 : Nat) : Int) = (i : Int) + 1 by omega]; exact he2⟩, hz1.keep fun c hc o q => k3 c o (fun e => hen (e ▸ hc)) q⟩, fun c hc => ?_⟩
    have hlt : c < s.heap.objs.size := by
      obtain ⟨o, ho, _⟩ : ∃ o, s.heap.get? c = some o ∧ True := by
        obtain ⟨⟨f0, f, _, z⟩, q1, ⟨_, _, q2⟩, ⟨oa, a1, _⟩, ⟨ob, b1, _⟩⟩ := hz
        rcases (show c = en ∨ c = zp ∨ c = tI ∨ c = tO ∨ c = p1 ∨ c = p2 by simpa using hc) with e | e | e | e | e | e <;> rw [e]
        · exact ⟨_, he, trivial⟩
        · exact ⟨_, z, trivial⟩
        · exact ⟨_, q1, trivial⟩
        · exact ⟨_, q2, trivial⟩
        · exact ⟨_, a1, trivial⟩
        · exact ⟨_, b1, trivial⟩
      exact Heap.lt_size ho
    rw [upd_ne (show c ≠ g1.objs.size by rw [sz1]; exact Nat.ne_of_lt (Nat.lt_succ_of_lt hlt)), upd_ne (Nat.ne_of_lt hlt)]
    exact (hf c hc).1
  done := by
    intro X hP hw hK hc i pins s σ H E J hf st hg
    subst hP hw hK
    obtain ⟨⟨old, he⟩, hz⟩ := st
    obtain ⟨xs, ys, hqx, hqy, hend⟩ := hg
    obtain ⟨its, rv, t1, _⟩ := J.tuple hqx
    obtain ⟨its2, rv2, t2, _⟩ := J.tuple hqy
    have le1 := rv.length
    have le2 := rv2.length
    have hx : its.toArray[i]? = none ∨ its2.toArray[i]? = none := by
      rcases hend with q | q
      · exact .inl (by simp; omega)
      · exact .inr (by simp; omega)
    have ty : s.TypeIs (.ref en) "enumerate" := ⟨_, he, rfl⟩
    unfold pyNext
    refine wpAny_bind (wpAny_attempt (wpAny_callSpecial?_slot (name := Str.ofString "__next__") ty F.slot_enumerate_next (wpAny_call_entry F.slot_enumerate_next ty F.entry_enumerate_next ?_ (F.args_enumerate_next_1 _))))
    refine wpAny_bind (m := field (.ref en) 2) (wpAny_field he rfl (x := .ref zp) rfl ?_)
    refine wpAny_bind (m := Builtin.SmallTypes.nextOf (.ref zp)) (zp_nextEnd (show X.A.in1.handled = none from J.ok.hd hc) D hz t1 t2 hx fun g' e kp hs => ?_)
    obtain ⟨o, ho, hcl⟩ := hs
    refine wpAny_bind (wpAny_isInstance (T := "StopIteration") (b := true) ⟨o, ho, hcl⟩ isSubtype_stop ?_)
    exact wpAny_pure ⟨rfl, J.turnedL (t' := s.toks) (ch := [zp, tI, tO, p1, p2]) kp fun c hc => hf c (List.mem_cons_of_mem _ hc)⟩
  self := fun A i s Q E st h => by
    obtain ⟨⟨_, he⟩, _⟩ := st
    exact wpAny_pyIter_enum he h
end Cal
/-! WpZe -/
namespace Cal
open PySem PySem.Spec PyProof.Rows L2 LamX RZ
open PySem.Sem (wp)
open PySem.AutoSeq1 (wpAny_loadPart')
abbrev cntObj (zp : Addr) : Obj := { cls := .type "enumerate", data := .fields #[.none, .bool false, .ref zp, rawInt 0, .none, .none] }
theorem cz_new (zp tI tO : Addr) (f0 : Value) :
    Meets (Builtin.«enumerate.__new__» ⟨[.type "enumerate", .ref zp], []⟩) (fun _ R s => s.heap.get? zp = some (ZObj f0 false tI tO) ∧ R (.ok (.ret (.ref s.heap.objs.size))) { s with heap := s.heap.push (cntObj zp) }) := by
  refine .of_wp fun prog w A R s h => ?_
  obtain ⟨hp, g, d, tk, os⟩ := s
  obtain ⟨hl, h⟩ := h
  have hsub := sub_enumerate
  have hL : IsZip (Shared.heap ⟨hp, g, d, tk, os⟩) zp tI tO f0 := hl
  wp_walk using wpAny_loadPart' hl
  refine wpAny_stack_any fun st => wpAny_pure ?_
  split
  · rename_i c _ _ _ _ _
    cases (c == Value.type "enumerate") <;> (wp_walk using wpAny_loadPart' hl, wpAny_pyIter_zip hL) <;> exact ⟨_, rfl, h⟩
  · wp_walk using wpAny_loadPart' hl, wpAny_pyIter_zip hL
    exact ⟨_, rfl, h⟩
theorem cz_call {prog : Program} {w : World} {A : Around} {E : Value → Shared → Prop} {s : Shared} {zp tI tO : Addr} {f0 : Value} {Q : Value → Shared → Prop} (hz : s.heap.get? zp = some (ZObj f0 false tI tO))
    (h : ∀ h', IsEnum h' s.heap.objs.size zp 0 .none → (∀ b o, s.heap.get? b = some o → h'.get? b = some o) → Q (.ref s.heap.objs.size) { s with heap := h' }) :
    wpAny (model prog w) A (call (.type "enumerate") [.ref zp]) Q E s := by
  refine callType_new F.called_enumerate (by decide) (F.typeCall_enumerate_1 _) (F.newCall_enumerate_1 _) (fun obj => F.args_object_init_2 obj _) F.entry_enumerate_new (cz_new zp tI tO f0) ⟨hz, ?_⟩
  have he : IsEnum (s.heap.push (cntObj zp)) s.heap.objs.size zp 0 .none := Heap.get?_push_size _ rfl
  exact ⟨⟨_, he, rfl⟩, h _ he fun b o q => Heap.get?_push_of_some _ q⟩
def iCz (K : PySem.W.Frag) (ta : TA) : TI := fun σ H R => ta σ H fun vs H1 => ∃ a b xs ys, vs = [.ref a, .ref b] ∧ SqT K H1 a xs ∧ SqT K H1 b ys ∧ R (IteZ K a b) H1
theorem starC {x : Expr} {es : List Expr} {ks : List Keyword} {p : Pos} {env : Env} : starEach [.Call x es ks p] env = [(false, eval (.Call x es ks p) env)] := rfl
theorem pi_cz {X : Cx} {e e2 : Expr} {ta : TA} {p p2 pos pos2 tpos : Pos} {elts : List Expr} {kk : Nat} (hg : Gl X "enumerate") (hm : X.mg "enumerate" = none) (hgz : Gl X "zip") (hmz : X.mg "zip" = none) (ha : PA X [e, e2] ta)
    (hs : starEach [e, e2] X.env = (false, eval e X.env) :: starEach [e2] X.env) (hpl : (backTo pos2 (starEach [e2] X.env)).any (·.1) = false) :
    PI X (.Tuple elts kk tpos) (.Call (.Name "enumerate" p) [.Call (.Name "zip" p2) [e, e2] [] pos2] [] pos) (iCz X.K ta) := by
  refine ⟨fun pins s σ H R J h => ?_⟩
  refine Call_ (ld_blt J hg hm boot_enumerate (PyProof.Rows.callWith_type1 ?_ starC rfl))
  show wpAny _ _ (spliced ((false, eval (.Call (.Name "zip" p2) [e, e2] [] pos2) X.env) :: [])) _ _ s
  refine Calls.spliced_cons ?_
  refine Call_ (ld_blt J hgz hmz PyProof.Rows.boot_zip (PyProof.Rows.callWith_type1 (thn (ha.run pos2 pins s σ H _ J h) fun us s1 ⟨vs, H1, I1, r1, q1⟩ => ?_) hs hpl))
  obtain ⟨a, b, xs, ys, ex, hqx, hqy, q⟩ := q1
  subst ex
  cases r1 with
  | cons r rr =>
    cases rr with
    | cons r' rr =>
      cases rr
      cases r
      cases r'
      obtain ⟨its, rv, t1, _⟩ := I1.tuple hqx
      obtain ⟨its2, rv2, t2, _⟩ := I1.tuple hqy
      have la : a < s1.heap.objs.size := by obtain ⟨o, ho, _⟩ := t1; exact Heap.lt_size ho
      have lb : b < s1.heap.objs.size := by obtain ⟨o, ho, _⟩ := t2; exact Heap.lt_size ho
      refine call_zipT (show s1.heap.IsTuple a its.toArray from t1) (show s1.heap.IsTuple b its2.toArray from t2) fun g1 z1 z2 z3 z4 z5 z6 k1 => ?_
      refine Calls.spliced_nil ?_
      refine cz_call (s := { s1 with heap := g1 }) z1 fun g2 he k2 => wpAny_pyIter_enum he ?_
      have he : IsEnum g2 (s1.heap.objs.size + 5) (s1.heap.objs.size + 4) 0 .none := by rw [← z6]; exact he
      have I2 : Inv X pins σ H1 { s1 with heap := g2 } := I1.kept (t' := s1.toks) fun c o e => k2 c o (k1 c o e)
      have fr : ∀ c ∈ [s1.heap.objs.size + 5, s1.heap.objs.size + 4, s1.heap.objs.size + 2, s1.heap.objs.size + 3, s1.heap.objs.size, s1.heap.objs.size + 1], FpOk X pins H1 c := fun c hc => by
        have hle : s1.heap.objs.size ≤ c := by
          rcases (show c = s1.heap.objs.size + 5 ∨ c = s1.heap.objs.size + 4 ∨ c = s1.heap.objs.size + 2 ∨ c = s1.heap.objs.size + 3 ∨ c = s1.heap.objs.size ∨ c = s1.heap.objs.size + 1 by simpa using hc) with z | z | z | z | z | z <;> rw [z] <;> first | exact Nat.le_add_right _ _ | exact Nat.le_refl _
        exact I1.fpOk hle (I1.hok.fresh hle)
      show PIE _ _ _ _ _ (.ref g1.objs.size) _
      rw [z6]
      refine ⟨s1.heap.objs.size + 5, [s1.heap.objs.size + 5, s1.heap.objs.size + 4, s1.heap.objs.size + 2, s1.heap.objs.size + 3, s1.heap.objs.size, s1.heap.objs.size + 1], _, _, H1, rfl, I2, turn_cz (a := a) (b := b) (PySem.W.ktu_apart s1.heap.objs.size a b la lb) (by simp), ⟨⟨.none, he⟩, ⟨.none, false, .inl rfl, k2 _ _ z1⟩, k2 _ _ z2, ⟨_, _, k2 _ _ z3⟩, z4.at fun o e => k2 _ o e, z5.at fun o e => k2 _ o e⟩, fr, q⟩
end Cal
/-! WpZm -/
/-! zip of a tuple and a list (own; the steps go as the library's own ones for two of a kind) -/
namespace Cal
open PySem PySem.Spec PyProof.Rows L2 LamX RZ
open PySem.Sem (wp)
section
variable {prog : Program} {w : World} {A : Around} {E : Value → Shared → Prop} {s : Shared}
/-- all that such a zip stands on between two turns, k items drawn -/
structure MAt (zp tI tO p1 p2 l1 l2 : Addr) (k : Nat) (h : Heap) : Prop where
  z : IsZip h zp tI tO .none
  i : IsPair h tI (.ref p1) (.ref p2)
  o : ∃ a b, IsPair h tO a b
  a : h.IsTupleIter p1 l1 k
  b : h.IsListIter p2 l2 k
theorem MAt.keep {zp tI tO p1 p2 l1 l2 : Addr} {k : Nat} {h h' : Heap} (q : MAt zp tI tO p1 p2 l1 l2 k h) (kp : ∀ c ∈ [zp, tI, tO, p1, p2], ∀ o, h.get? c = some o → h'.get? c = some o) : MAt zp tI tO p1 p2 l1 l2 k h' := by
  obtain ⟨z, i, ⟨a, b, o⟩, ⟨oa, a1, a2⟩, ⟨ob, b1, b2⟩⟩ := q
  exact ⟨kp _ (by simp) _ z, kp _ (by simp) _ i, ⟨a, b, kp _ (by simp) _ o⟩, ⟨oa, kp _ (by simp) _ a1, a2⟩, ⟨ob, kp _ (by simp) _ b1, b2⟩⟩
theorem lstAt {h h' : Heap} {l : Addr} {xs : Array Value} (t : h.IsList l xs) (kp : ∀ o, h.get? l = some o → h'.get? l = some o) : h'.IsList l xs := by
  obtain ⟨o, e, r⟩ := t
  exact ⟨o, kp o e, r⟩
theorem zm_item {zp tI tO p1 p2 l1 l2 : Addr} {k : Nat} {xs ys : Array Value} {x y : Value} {Q : Value → Shared → Prop} (D : ZipApart zp tI tO p1 p2 l1 l2) (st : MAt zp tI tO p1 p2 l1 l2 k s.heap)
    (t1 : s.heap.IsTuple l1 xs) (t2 : s.heap.IsList l2 ys) (hx : xs[k]? = some x) (hy : ys[k]? = some y)
    (hQ : ∀ g', IsZip g' zp tI tO (rawInt s.heap.objs.size) → IsPair g' tO x y → g'.IsTupleIter p1 l1 (k + 1) → g'.IsListIter p2 l2 (k + 1) → IsPair g' s.heap.objs.size x y → g'.objs.size = s.heap.objs.size + 1 → (∀ c o, c ≠ zp → c ≠ tO → c ≠ p1 → c ≠ p2 → s.heap.get? c = some o → g'.get? c = some o) → Q (.ref s.heap.objs.size) { s with heap := g' }) :
    wpAny (model prog w) A (Builtin.«zip.__next__» ⟨[.ref zp], []⟩) (fun fin s' => ∃ v, fin = .done (.ret v) ∧ Q v s') E s := by
  obtain ⟨hz, hI, ⟨a, b, hO⟩, h1, h2⟩ := st
  refine wpAny_bind (m := field (.ref zp) 2) (wpAny_field hz rfl (x := .bool false) rfl ?_)
  refine wpAny_bind (m := field (.ref zp) 3) (wpAny_field hz rfl (x := .ref tI) rfl ?_)
  refine wpAny_bind (m := seqItems? (.ref tI)) (wpAny_seqItems hI rfl ?_)
  refine wpAny_bind (m := Builtin.SmallTypes.ownedTupleIsFree (.ref zp)) ?_
  unfold Builtin.SmallTypes.ownedTupleIsFree
  refine wpAny_bind (m := field (.ref zp) 0) (wpAny_field hz rfl (x := .none) rfl (wpAny_pure ?_))
  simp only [if_true]
  refine wpAny_bind (wpAny_rule ?_)
  refine wpAny_bind (m := field (.ref zp) 4) (wpAny_field hz rfl (x := .ref tO) rfl ?_)
  refine wpAny_bind (wpAny_setField_rec hz (by simp) fun g1 z1 b1 => ?_)
  refine wpAny_bind ?_
  simp only [List.zipIdx_cons, List.zipIdx_nil, List.forIn_cons, List.forIn_nil]
  refine wpAny_bind (wpAny_bind (wpAny_onRaise ?_))
  refine wpAny_bind (m := Builtin.SmallTypes.nextOf (.ref p1)) (RZ.nextOf_tuple_item (h1.extBut b1.extBut D.i1z) (tupAt t1 fun o => b1.extBut _ o D.l1z) hx fun g2 n1 b2 => wpAny_pure ?_)
  have O2 : IsPair g2 tO a b := b2.extBut _ _ D.TOi1 (b1.extBut _ _ D.TOz hO)
  refine wpAny_bind (wpAny_seqItems O2 rfl ?_)
  refine wpAny_bind (wpAny_updateSeq_pair O2 fun g3 O3 b3 => ?_)
  replace O3 : IsPair g3 tO x b := O3
  refine wpAny_bind (wpAny_letGo (wpAny_pure ?_))
  refine wpAny_bind (wpAny_bind (wpAny_onRaise ?_))
  refine wpAny_bind (m := Builtin.SmallTypes.nextOf (.ref p2)) (wpAny_nextOf_list_item (((h2.extBut b1.extBut D.i2z).extBut b2.extBut D.i12.symm).extBut b3.extBut D.TOi2.symm)
    (lstAt t2 fun o e => b3.extBut _ o D.l2TO (b2.extBut _ o D.l2i1 (b1.extBut _ o D.l2z e))) hy fun g4 n2 b4 => wpAny_pure ?_)
  have O4 : IsPair g4 tO x b := b4.extBut _ _ D.TOi2 O3
  refine wpAny_bind (wpAny_seqItems O4 rfl ?_)
  refine wpAny_bind (wpAny_updateSeq_pair O4 fun g5 O5 b5 => ?_)
  replace O5 : IsPair g5 tO x y := O5
  refine wpAny_bind (wpAny_letGo (wpAny_pure (wpAny_pure ?_)))
  refine wpAny_bind (wpAny_seqItems O5 rfl ?_)
  refine wpAny_bind (wpAny_newTuple ?_)
  have sz : g5.objs.size = s.heap.objs.size := by rw [b5.1, b4.1, b3.1, b2.1, b1.1]
  have kp : ∀ c o, c ≠ zp → c ≠ tO → c ≠ p1 → c ≠ p2 → s.heap.get? c = some o → g5.get? c = some o := fun c o c1 c2 c3 c4 e =>
    b5.extBut _ _ c2 (b4.extBut _ _ c4 (b3.extBut _ _ c2 (b2.extBut _ _ c3 (b1.extBut _ _ c1 e))))
  have z5 := b5.extBut _ _ D.TOz.symm (b4.extBut _ _ D.i2z.symm (b3.extBut _ _ D.TOz.symm (b2.extBut _ _ D.i1z.symm z1)))
  have m1 : g5.IsTupleIter p1 l1 (k + 1) := ((n1.extBut b3.extBut D.TOi1.symm).extBut b4.extBut D.i12).extBut b5.extBut D.TOi1.symm
  have m2 : g5.IsListIter p2 l2 (k + 1) := n2.extBut b5.extBut D.TOi2.symm
  have zlt : zp < g5.objs.size := Heap.lt_size z5
  refine wpAny_bind (m := Builtin.SmallTypes.ownedTupleHandOut (.ref zp) (.ref g5.objs.size)) ?_
  unfold Builtin.SmallTypes.ownedTupleHandOut
  have z6 := Heap.get?_push_of_some { cls := .type "tuple", data := .seq #[x, y] } z5
  refine wpAny_bind (wpAny_setField_rec z6 (by simp) fun g7 z7 b7 => ?_)
  refine wpAny_setField_rec z7 (by simp) fun g8 z8 b8 => ?_
  replace z8 : IsZip g8 zp tI tO (rawInt g5.objs.size) := z8
  have up : ∀ c o, c ≠ zp → g5.get? c = some o → g8.get? c = some o := fun c o c1 e => b8.extBut _ _ c1 (b7.extBut _ _ c1 (Heap.get?_push_of_some _ e))
  have T8 : IsPair g8 g5.objs.size x y := b8.extBut _ _ (Nat.ne_of_gt zlt) (b7.extBut _ _ (Nat.ne_of_gt zlt) (Heap.get?_push_size _ rfl))
  have s8 : g8.objs.size = g5.objs.size + 1 := by rw [b8.1, b7.1, Heap.size_push]
  rw [sz] at z8 T8 s8
  refine wpAny_pure ⟨_, rfl, ?_⟩
  show Q (.ref g5.objs.size) _
  rw [sz]
  exact hQ g8 z8 (up _ _ D.TOz O5) (m1.at fun o e => up _ o D.i1z e) (m2.at fun o e => up _ o D.i2z e) T8 s8 fun c o c1 c2 c3 c4 e => up c o c1 (kp c o c1 c2 c3 c4 e)
theorem zm_end {zp tI tO p1 p2 l1 l2 : Addr} {k : Nat} {xs ys : Array Value} {Q : Fin → Shared → Prop} (hh : A.handled = none) (D : ZipApart zp tI tO p1 p2 l1 l2) (st : MAt zp tI tO p1 p2 l1 l2 k s.heap)
    (t1 : s.heap.IsTuple l1 xs) (t2 : s.heap.IsList l2 ys) (hx : xs[k]? = none ∨ ys[k]? = none)
    (hE : ∀ g' e, (∀ c o, c ≠ zp → c ≠ tO → c ≠ p1 → c ≠ p2 → s.heap.get? c = some o → g'.get? c = some o) → (∃ o, g'.get? e = some o ∧ o.cls = .type "StopIteration") → E (.ref e) { s with heap := g' }) :
    wpAny (model prog w) A (Builtin.«zip.__next__» ⟨[.ref zp], []⟩) Q E s := by
  obtain ⟨hz, hI, ⟨a, b, hO⟩, h1, h2⟩ := st
  refine wpAny_bind (m := field (.ref zp) 2) (wpAny_field hz rfl (x := .bool false) rfl ?_)
  refine wpAny_bind (m := field (.ref zp) 3) (wpAny_field hz rfl (x := .ref tI) rfl ?_)
  refine wpAny_bind (m := seqItems? (.ref tI)) (wpAny_seqItems hI rfl ?_)
  refine wpAny_bind (m := Builtin.SmallTypes.ownedTupleIsFree (.ref zp)) ?_
  unfold Builtin.SmallTypes.ownedTupleIsFree
  refine wpAny_bind (m := field (.ref zp) 0) (wpAny_field hz rfl (x := .none) rfl (wpAny_pure ?_))
  simp only [if_true]
  refine wpAny_bind (wpAny_rule ?_)
  refine wpAny_bind (m := field (.ref zp) 4) (wpAny_field hz rfl (x := .ref tO) rfl ?_)
  refine wpAny_bind (wpAny_setField_rec hz (by simp) fun g1 z1 b1 => ?_)
  refine wpAny_bind ?_
  simp only [List.zipIdx_cons, List.zipIdx_nil, List.forIn_cons, List.forIn_nil]
  refine wpAny_bind (wpAny_bind (wpAny_onRaise ?_))
  cases e1 : xs[k]? with
  | none =>
    refine wpAny_bind (m := Builtin.SmallTypes.nextOf (.ref p1)) (RZ.nextOf_tuple_end hh (h1.extBut b1.extBut D.i1z) (tupAt t1 fun o => b1.extBut _ o D.l1z) e1 fun g2 e b2 he => ?_)
    obtain ⟨oe, he1, he2⟩ := he
    have z2 := b2 _ _ D.i1z.symm z1
    have ez : e ≠ zp := fun q => by
      rw [q] at he1
      rw [he1] at z2
      have q2 := congrArg Obj.cls (Option.some.inj z2)
      rw [he2] at q2
      simp at q2
    exact wpAny_setField_rec z2 (by simp) fun g3 _ b3 => hE g3 e (fun c o c1 c2 c3 c4 q => b3.extBut _ _ c1 (b2 _ _ c3 (b1.extBut _ _ c1 q))) ⟨oe, b3.extBut _ _ ez he1, he2⟩
  | some x =>
    have e2 : ys[k]? = none := hx.resolve_left (by rw [e1]; exact fun q => nomatch q)
    refine wpAny_bind (m := Builtin.SmallTypes.nextOf (.ref p1)) (RZ.nextOf_tuple_item (h1.extBut b1.extBut D.i1z) (tupAt t1 fun o => b1.extBut _ o D.l1z) e1 fun g2 n1 b2 => wpAny_pure ?_)
    have O2 : IsPair g2 tO a b := b2.extBut _ _ D.TOi1 (b1.extBut _ _ D.TOz hO)
    refine wpAny_bind (wpAny_seqItems O2 rfl ?_)
    refine wpAny_bind (wpAny_updateSeq_pair O2 fun g3 O3 b3 => ?_)
    refine wpAny_bind (wpAny_letGo (wpAny_pure ?_))
    refine wpAny_bind (wpAny_bind (wpAny_onRaise ?_))
    refine wpAny_bind (m := Builtin.SmallTypes.nextOf (.ref p2)) (wpAny_nextOf_list_end hh (((h2.extBut b1.extBut D.i2z).extBut b2.extBut D.i12.symm).extBut b3.extBut D.TOi2.symm)
      (lstAt t2 fun o e => b3.extBut _ o D.l2TO (b2.extBut _ o D.l2i1 (b1.extBut _ o D.l2z e))) e2 fun g4 e b4 he => ?_)
    obtain ⟨oe, he1, he2⟩ := he
    have z4 := b4 _ _ D.i2z.symm (b3.extBut _ _ D.TOz.symm (b2.extBut _ _ D.i1z.symm z1))
    have ez : e ≠ zp := fun q => by
      rw [q] at he1
      rw [he1] at z4
      have q2 := congrArg Obj.cls (Option.some.inj z4)
      rw [he2] at q2
      simp at q2
    exact wpAny_setField_rec z4 (by simp) fun g5 _ b5 => hE g5 e (fun c o c1 c2 c3 c4 q => b5.extBut _ _ c1 (b4 _ _ c4 (b3.extBut _ _ c2 (b2.extBut _ _ c3 (b1.extBut _ _ c1 q))))) ⟨oe, b5.extBut _ _ ez he1, he2⟩
end
def ItzM (K : PySem.W.Frag) (a b : Addr) : It :=
  ⟨fun i H => ∃ (xs ys : List V) (x y : V), SqT K H a xs ∧ SqL K H b ys ∧ xs[i]? = some x ∧ ys[i]? = some y,
    fun i H v H' => ∃ T x y, v = .ref T ∧ H T = none ∧ H' = upd H T (.tup [x, y]) ∧ (∀ xs, SqT K H a xs → xs[i]? = some x) ∧ ∀ ys, SqL K H b ys → ys[i]? = some y,
    fun i H => ∃ xs ys : List V, SqT K H a xs ∧ SqL K H b ys ∧ (xs.length ≤ i ∨ ys.length ≤ i)⟩
theorem turn_zm {P : Program} {w : World} {K : PySem.W.Frag} {elts : List Expr} {kk : Nat} {tpos : Pos} {a b zp tI tO p1 p2 : Addr} (D : ZipApart zp tI tO p1 p2 a b) :
    Turn P w K (.Tuple elts kk tpos) (ItzM K a b) [zp, tI, tO, p1, p2] zp (fun i h => MAt zp tI tO p1 p2 a b i h) where
  mem := by simp
  obj := fun i h st c hc => by
    obtain ⟨z, q1, ⟨_, _, q2⟩, ⟨oa, a1, _, a2⟩, ⟨ob, b1, _, b2⟩⟩ := st
    rcases (show c = zp ∨ c = tI ∨ c = tO ∨ c = p1 ∨ c = p2 by simpa using hc) with e | e | e | e | e <;> rw [e]
    · exact ⟨_, z, fun v q => nomatch q⟩
    · exact ⟨_, q1, fun v q => nomatch q⟩
    · exact ⟨_, q2, fun v q => nomatch q⟩
    · exact ⟨oa, a1, fun v q => by rw [a2] at q; cases q⟩
    · exact ⟨ob, b1, fun v q => by rw [b2] at q; cases q⟩
  keep := fun i h h' st k => st.keep k
  item := by
    intro X hP hw hK hc i pins s σ H E J hf st hg
    subst hP hw hK
    obtain ⟨xs, ys, x, y, hqx, hqy, hx, hy⟩ := hg
    obtain ⟨its, rv, t1, _⟩ := J.tuple hqx
    obtain ⟨its2, rv2, t2, _⟩ := J.list hqy
    obtain ⟨u, hu, ru⟩ := rv.get hx
    obtain ⟨u2, hu2, ru2⟩ := rv2.get hy
    have zl : zp < s.heap.objs.size := Heap.lt_size st.z
    have ty : s.TypeIs (.ref zp) "zip" := ⟨_, st.z, rfl⟩
    unfold pyNext
    refine wpAny_bind (wpAny_attempt (wpAny_callSpecial?_slot (name := Str.ofString "__next__") ty F.slot_zip_next (wpAny_call_entry F.slot_zip_next ty F.entry_zip_next
      (zm_item D st t1 t2.isList (x := u) (y := u2) (by simpa using hu) (by simpa using hu2) fun g' z' o' a' b' T' sz' kp => wpAny_pure ?_) (F.args_zip_next_1 _))))
    refine ⟨_, rfl, wpAny_letOwnedTupleGo_zip (s := { s with heap := g' }) z' fun g2 z2 sb => ?_⟩
    have fx : ∀ c ∈ [zp, tI, tO, p1, p2], c < s.heap.objs.size := fun c hc => by
      obtain ⟨z, q1, ⟨_, _, q2⟩, ⟨oa, a1, _⟩, ⟨ob, b1, _⟩⟩ := st
      rcases (show c = zp ∨ c = tI ∨ c = tO ∨ c = p1 ∨ c = p2 by simpa using hc) with e | e | e | e | e <;> rw [e]
      · exact Heap.lt_size z
      · exact Heap.lt_size q1
      · exact Heap.lt_size q2
      · exact Heap.lt_size a1
      · exact Heap.lt_size b1
    have T2 : g2.get? s.heap.objs.size = some { cls := .type "tuple", data := .seq #[u, u2] } := sb.extBut _ _ (Nat.ne_of_gt zl) T'
    have I1 : Inv X pins σ (upd H s.heap.objs.size (.tup [x, y])) { s with heap := g2 } :=
      J.turnedNew (t' := s.toks) (ch := [zp, tI, tO, p1, p2]) (fun c o hb q => by
        simp only [List.mem_cons, List.not_mem_nil, or_false, not_or] at hb
        exact sb.extBut c o hb.1 (kp c o hb.1 hb.2.2.1 hb.2.2.2.1 hb.2.2.2.2 q)) hf (Nat.le_refl _) ⟨by show 2 ≤ sizeLine; decide, [u, u2], .cons ru (.cons ru2 .nil), ⟨_, T2, rfl, _, rfl⟩⟩
    refine ⟨.ref s.heap.objs.size, _, I1, rfl, ⟨_, x, y, rfl, J.hok.fresh (Nat.le_refl _), rfl, fun l hl => by rw [J.tuple_inj hl hqx]; exact hx, fun l hl => by rw [J.list_inj hl hqy]; exact hy⟩, ⟨z2, ?_, ⟨u, u2, ?_⟩, ?_, ?_⟩, fun c hcm => ?_⟩
    · exact sb.extBut _ _ D.TIz (kp _ _ D.TIz D.TITO D.TIi1 D.TIi2 st.i)
    · exact sb.extBut _ _ D.TOz o'
    · exact a'.at fun o q => sb.extBut _ _ D.i1z q
    · exact b'.at fun o q => sb.extBut _ _ D.i2z q
    · rw [upd_ne (Nat.ne_of_lt (fx c hcm))]
      exact (hf c hcm).1
  done := by
    intro X hP hw hK hc i pins s σ H E J hf st hg
    subst hP hw hK
    obtain ⟨xs, ys, hqx, hqy, hend⟩ := hg
    obtain ⟨its, rv, t1, _⟩ := J.tuple hqx
    obtain ⟨its2, rv2, t2, _⟩ := J.list hqy
    have le1 := rv.length
    have le2 := rv2.length
    have hx : its.toArray[i]? = none ∨ its2.toArray[i]? = none := by
      rcases hend with q | q
      · exact .inl (by simp; omega)
      · exact .inr (by simp; omega)
    have ty : s.TypeIs (.ref zp) "zip" := ⟨_, st.z, rfl⟩
    unfold pyNext
    refine wpAny_bind (wpAny_attempt (wpAny_callSpecial?_slot (name := Str.ofString "__next__") ty F.slot_zip_next (wpAny_call_entry F.slot_zip_next ty F.entry_zip_next
      (zm_end (show X.A.in1.handled = none from J.ok.hd hc) D st t1 t2.isList hx fun g' e kp hs => ?_) (F.args_zip_next_1 _))))
    obtain ⟨o, ho, hcl⟩ := hs
    refine wpAny_bind (wpAny_isInstance (T := "StopIteration") (b := true) ⟨o, ho, hcl⟩ isSubtype_stop ?_)
    refine wpAny_pure ⟨rfl, J.turnedL (t' := s.toks) (ch := [zp, tI, tO, p1, p2]) (fun c o hb q => ?_) hf⟩
    simp only [List.mem_cons, List.not_mem_nil, or_false, not_or] at hb
    exact kp c o hb.1 hb.2.2.1 hb.2.2.2.1 hb.2.2.2.2 q
  self := fun A i s Q E st h => wpAny_pyIter_zip st.z h
end Cal
/-! WpZn -/
namespace Cal
open PySem PySem.Spec PyProof.Rows L2 LamX RZ
open PySem.Sem (wp)
abbrev zmA (h : Heap) (l1 : Addr) : Heap := h.push { cls := .type "tuple_iterator", data := .fields #[.ref l1, .int 0 0] }
abbrev zmB (h : Heap) (l1 l2 : Addr) : Heap := (zmA h l1).push { cls := .type "list_iterator", data := .fields #[.ref l2, .int 0 0] }
abbrev zmC (h : Heap) (l1 l2 : Addr) : Heap := (zmB h l1 l2).push { cls := .type "tuple", data := .seq #[.ref h.objs.size, .ref (zmA h l1).objs.size] }
abbrev zmD (h : Heap) (l1 l2 : Addr) : Heap := (zmC h l1 l2).push { cls := .type "tuple", data := .seq #[.none, .none] }
abbrev zmE (h : Heap) (l1 l2 : Addr) : Heap := (zmD h l1 l2).push { cls := .type "zip", data := .fields #[.none, .bool false, .bool false, .ref (zmB h l1 l2).objs.size, .ref (zmC h l1 l2).objs.size] }
theorem zm_new (l1 l2 : Addr) (xs ys : Array Value) :
    Meets (Builtin.«zip.__new__» ⟨[.type "zip", .ref l1, .ref l2], []⟩) (fun _ R s => s.heap.IsTuple l1 xs ∧ s.heap.IsList l2 ys ∧
      R (.ok (.ret (.ref (zmD s.heap l1 l2).objs.size))) { s with heap := zmE s.heap l1 l2 }) := by
  refine .of_wp fun prog w A R s h => ?_
  obtain ⟨hp, g, d, tk, os⟩ := s
  obtain ⟨hl1, hl2, h⟩ := h
  have hsub := sub_zip
  have hL1 : Heap.IsTuple (Shared.heap ⟨hp, g, d, tk, os⟩) l1 xs := hl1
  have hL2 : Heap.IsList (Shared.heap ⟨hp.push { cls := .type "tuple_iterator", data := .fields #[.ref l1, .int 0 0] }, g, d, tk, os⟩) l2 ys := Heap.IsList.push hl2 _
  wp_walk using wpAny_pyIter_tuple hL1, wpAny_pyIter_list hL2
  exact ⟨_, rfl, h⟩
theorem zm_call {prog : Program} {w : World} {A : Around} {E : Value → Shared → Prop} {s : Shared} {l1 l2 : Addr} {xs ys : Array Value} {Q : Value → Shared → Prop} (hl1 : s.heap.IsTuple l1 xs) (hl2 : s.heap.IsList l2 ys)
    (h : ∀ h', MAt (s.heap.objs.size + 4) (s.heap.objs.size + 2) (s.heap.objs.size + 3) s.heap.objs.size (s.heap.objs.size + 1) l1 l2 0 h' → (∀ c o, s.heap.get? c = some o → h'.get? c = some o) → Q (.ref (s.heap.objs.size + 4)) { s with heap := h' }) :
    wpAny (model prog w) A (call (.type "zip") [.ref l1, .ref l2]) Q E s := by
  refine callType_new F.called_zip (by decide) (F.typeCall_zip_2 _ _) (F.newCall_zip_2 _ _) (fun obj => F.args_object_init_3 obj _ _) F.entry_zip_new (zm_new l1 l2 xs ys) ⟨hl1, hl2, ?_⟩
  have z1 : (zmA s.heap l1).objs.size = s.heap.objs.size + 1 := Heap.size_push ..
  have z2 : (zmB s.heap l1 l2).objs.size = s.heap.objs.size + 2 := by rw [Heap.size_push, z1]
  have z3 : (zmC s.heap l1 l2).objs.size = s.heap.objs.size + 3 := by rw [Heap.size_push, z2]
  have z4 : (zmD s.heap l1 l2).objs.size = s.heap.objs.size + 4 := by rw [Heap.size_push, z3]
  have u1 : ∀ c o, (zmA s.heap l1).get? c = some o → (zmE s.heap l1 l2).get? c = some o := fun c o e => Heap.get?_push_of_some _ (Heap.get?_push_of_some _ (Heap.get?_push_of_some _ (Heap.get?_push_of_some _ e)))
  have g5 : (zmE s.heap l1 l2).get? (zmD s.heap l1 l2).objs.size = some _ := Heap.get?_push_size _ rfl
  have g4 : (zmE s.heap l1 l2).get? (zmC s.heap l1 l2).objs.size = some _ := Heap.get?_push_of_some _ (Heap.get?_push_size _ rfl)
  have g3 : (zmE s.heap l1 l2).get? (zmB s.heap l1 l2).objs.size = some _ := Heap.get?_push_of_some _ (Heap.get?_push_of_some _ (Heap.get?_push_size _ rfl))
  have g2 : (zmE s.heap l1 l2).get? (zmA s.heap l1).objs.size = some _ := Heap.get?_push_of_some _ (Heap.get?_push_of_some _ (Heap.get?_push_of_some _ (Heap.get?_push_size _ rfl)))
  have g1 : (zmE s.heap l1 l2).get? s.heap.objs.size = some _ := u1 _ _ (Heap.get?_push_size _ rfl)
  show _ ∧ _
  rw [z2, z3, z4] at g5
  rw [z1, z2] at g3
  rw [z3] at g4
  rw [z1] at g2
  rw [z4]
  exact ⟨⟨_, g5, rfl⟩, h _ ⟨g5, g3, ⟨_, _, g4⟩, ⟨_, g1, rfl, rfl⟩, ⟨_, g2, rfl, rfl⟩⟩ fun c o e => u1 c o (Heap.get?_push_of_some _ e)⟩
def iZm (K : PySem.W.Frag) (ta : TA) : TI := fun σ H R => ta σ H fun vs H1 => ∃ a b xs ys, vs = [.ref a, .ref b] ∧ ((SqT K H1 a xs ∧ SqL K H1 b ys ∧ R (ItzM K a b) H1) ∨ (SqT K H1 a xs ∧ SqT K H1 b ys ∧ R (ItzT K a b) H1))
theorem pi_zm {X : Cx} {e e2 : Expr} {ta : TA} {p pos tpos : Pos} {elts : List Expr} {kk : Nat} (hg : Gl X "zip") (hm : X.mg "zip" = none) (ha : PA X [e, e2] ta)
    (hs : starEach [e, e2] X.env = (false, eval e X.env) :: starEach [e2] X.env) (hpl : (backTo pos (starEach [e2] X.env)).any (·.1) = false) :
    PI X (.Tuple elts kk tpos) (.Call (.Name "zip" p) [e, e2] [] pos) (iZm X.K ta) := by
  refine ⟨fun pins s σ H R J h => ?_⟩
  refine Call_ (ld_blt J hg hm PyProof.Rows.boot_zip (PyProof.Rows.callWith_type1 (thn (ha.run pos pins s σ H _ J h) fun us s1 ⟨vs, H1, I1, r1, q1⟩ => ?_) hs hpl))
  obtain ⟨a, b, xs, ys, ex, q1⟩ := q1
  subst ex
  cases r1 with
  | cons r rr =>
    cases rr with
    | cons r' rr =>
      cases rr
      cases r
      cases r'
      have fr : ∀ c ∈ [s1.heap.objs.size + 4, s1.heap.objs.size + 2, s1.heap.objs.size + 3, s1.heap.objs.size, s1.heap.objs.size + 1], FpOk X pins H1 c := fun c hc => by
        have hle : s1.heap.objs.size ≤ c := by
          rcases (show c = s1.heap.objs.size + 4 ∨ c = s1.heap.objs.size + 2 ∨ c = s1.heap.objs.size + 3 ∨ c = s1.heap.objs.size ∨ c = s1.heap.objs.size + 1 by simpa using hc) with z | z | z | z | z <;> rw [z] <;> first | exact Nat.le_add_right _ _ | exact Nat.le_refl _
        exact I1.fpOk hle (I1.hok.fresh hle)
      rcases q1 with ⟨hqx, hqy, q⟩ | ⟨hqx, hqy, q⟩
      · obtain ⟨its, rv, t1, _⟩ := I1.tuple hqx
        obtain ⟨its2, rv2, t2, _⟩ := I1.list hqy
        have la : a < s1.heap.objs.size := by obtain ⟨o, ho, _⟩ := t1; exact Heap.lt_size ho
        refine zm_call (show s1.heap.IsTuple a its.toArray from t1) t2.isList fun g1 st k1 => wpAny_pyIter_zip st.z ?_
        have I2 : Inv X pins σ H1 { s1 with heap := g1 } := I1.kept (t' := s1.toks) k1
        exact ⟨s1.heap.objs.size + 4, [s1.heap.objs.size + 4, s1.heap.objs.size + 2, s1.heap.objs.size + 3, s1.heap.objs.size, s1.heap.objs.size + 1], _, _, H1, rfl, I2, turn_zm (PySem.W.ktu_apart s1.heap.objs.size a b la t2.lt), st, fr, q⟩
      · obtain ⟨its, rv, t1, _⟩ := I1.tuple hqx
        obtain ⟨its2, rv2, t2, _⟩ := I1.tuple hqy
        have la : a < s1.heap.objs.size := by obtain ⟨o, ho, _⟩ := t1; exact Heap.lt_size ho
        have lb : b < s1.heap.objs.size := by obtain ⟨o, ho, _⟩ := t2; exact Heap.lt_size ho
        refine call_zipT (show s1.heap.IsTuple a its.toArray from t1) (show s1.heap.IsTuple b its2.toArray from t2) fun g1 z1 z2 z3 z4 z5 z6 k1 => wpAny_pyIter_zip z1 ?_
        have I2 : Inv X pins σ H1 { s1 with heap := g1 } := I1.kept (t' := s1.toks) k1
        exact ⟨s1.heap.objs.size + 4, [s1.heap.objs.size + 4, s1.heap.objs.size + 2, s1.heap.objs.size + 3, s1.heap.objs.size, s1.heap.objs.size + 1], _, _, H1, rfl, I2, turn_zipT (PySem.W.ktu_apart s1.heap.objs.size a b la lb), ⟨z1, z2, ⟨_, _, z3⟩, z4, z5⟩, fr, q⟩
end Cal
/-! WpN -/
namespace Cal
open PySem PySem.Spec PyProof.Rows L2 LamX
section
variable {K : PySem.W.Frag} {T : Tb} {G1 : Hp} {a : Addr}
theorem src_enuT {vs : List V} {xs : List D} (h1 : SqT K G1 a vs) (h2 : DpAll K G1 vs xs) : Src K T (IteT K a) G1 (enuS xs) (fun _ => True) where
  go := fun i M G H hi sg w _ => by
    rw [enu_len, ← dps_len h2] at hi
    exact ⟨vs, vs[i], seqT (sg.trans w.w.ex) h1, List.getElem?_eq_getElem hi⟩
  stop := fun M G H sg w _ => ⟨vs, seqT (sg.trans w.w.ex) h1, by rw [enu_len, dps_len h2]; exact Nat.le_refl _⟩
  yld := fun i M G H x H' hi sg w _ ⟨P, y, e1, hn, e2, hy⟩ => by
    subst e1 e2
    rw [enu_len] at hi
    obtain ⟨v, z1, z2⟩ := dps_get h2 (List.getElem?_eq_getElem hi)
    have e3 := hy vs (seqT (sg.trans w.w.ex) h1)
    rw [z1] at e3
    cases e3
    obtain ⟨g, w2⟩ := w.new hn (.tup [.int (i : Nat), y])
    exact ⟨_, _, enu_get (List.getElem?_eq_getElem hi), g, w2, Dp.tup (SqT.of upd_same) (.cons (.int _) (.cons (dpUp (sg.trans g) _ z2) .nil))⟩
end
section
variable {K : PySem.W.Frag} {T : Tb} {G1 : Hp} {a b : Addr}
theorem zipD_len {xs ys : List D} : (dats (zipD xs ys)).length = min xs.length ys.length := by unfold zipD dats; simp
theorem zipD_get {xs ys : List D} {i : Nat} {x y : D} (h1 : xs[i]? = some x) (h2 : ys[i]? = some y) : (dats (zipD xs ys))[i]? = some (.dat (.tuple [x, y])) := by
  have l1 := (List.getElem?_eq_some_iff.mp h1).1
  have l2 := (List.getElem?_eq_some_iff.mp h2).1
  unfold zipD dats
  rw [List.getElem?_map, List.getElem?_map, List.getElem?_range (by omega)]
  simp [List.getD, h1, h2]
theorem src_zip {vs us : List V} {xs ys : List D} (h1 : SqT K G1 a vs) (h2 : SqT K G1 b us) (h3 : DpAll K G1 vs xs) (h4 : DpAll K G1 us ys) : Src K T (RZ.ItzT K a b) G1 (dats (zipD xs ys)) (fun _ => True) where
  go := fun i M G H hi sg w _ => by
    rw [zipD_len, ← dps_len h3, ← dps_len h4] at hi
    exact ⟨vs, us, vs[i], us[i], seqT (sg.trans w.w.ex) h1, seqT (sg.trans w.w.ex) h2, List.getElem?_eq_getElem (by omega), List.getElem?_eq_getElem (by omega)⟩
  stop := fun M G H sg w _ => ⟨vs, us, seqT (sg.trans w.w.ex) h1, seqT (sg.trans w.w.ex) h2, by rw [zipD_len, dps_len h3, dps_len h4]; omega⟩
  yld := fun i M G H x H' hi sg w _ ⟨P, u, y, e1, hn, e2, hu, hy⟩ => by
    subst e1 e2
    rw [zipD_len] at hi
    have g1 : xs[i]? = some xs[i] := List.getElem?_eq_getElem (by omega)
    have g2 : ys[i]? = some ys[i] := List.getElem?_eq_getElem (by omega)
    obtain ⟨v, z1, z2⟩ := dps_get h3 g1
    obtain ⟨v', z3, z4⟩ := dps_get h4 g2
    have e3 := hu vs (seqT (sg.trans w.w.ex) h1)
    rw [z1] at e3
    cases e3
    have e4 := hy us (seqT (sg.trans w.w.ex) h2)
    rw [z3] at e4
    cases e4
    obtain ⟨g, w2⟩ := w.new hn (.tup [u, y])
    exact ⟨_, _, zipD_get g1 g2, g, w2, Dp.tup (SqT.of upd_same) (.cons (dpUp (sg.trans g) _ z2) (.cons (dpUp (sg.trans g) _ z4) .nil))⟩
theorem src_zm {vs us : List V} {xs ys : List D} (h1 : SqT K G1 a vs) (h2 : SqL K G1 b us) (h3 : DpAll K G1 vs xs) (h4 : DpAll K G1 us ys) : Src K T (ItzM K a b) G1 (dats (zipD xs ys)) (fun _ => True) where
  go := fun i M G H hi sg w _ => by
    rw [zipD_len, ← dps_len h3, ← dps_len h4] at hi
    exact ⟨vs, us, vs[i], us[i], seqT (sg.trans w.w.ex) h1, (sg.trans w.w.ex).seq h2, List.getElem?_eq_getElem (by omega), List.getElem?_eq_getElem (by omega)⟩
  stop := fun M G H sg w _ => ⟨vs, us, seqT (sg.trans w.w.ex) h1, (sg.trans w.w.ex).seq h2, by rw [zipD_len, dps_len h3, dps_len h4]; omega⟩
  yld := fun i M G H x H' hi sg w _ ⟨P, u, y, e1, hn, e2, hu, hy⟩ => by
    subst e1 e2
    rw [zipD_len] at hi
    have g1 : xs[i]? = some xs[i] := List.getElem?_eq_getElem (by omega)
    have g2 : ys[i]? = some ys[i] := List.getElem?_eq_getElem (by omega)
    obtain ⟨v, z1, z2⟩ := dps_get h3 g1
    obtain ⟨v', z3, z4⟩ := dps_get h4 g2
    have e3 := hu vs (seqT (sg.trans w.w.ex) h1)
    rw [z1] at e3
    cases e3
    have e4 := hy us ((sg.trans w.w.ex).seq h2)
    rw [z3] at e4
    cases e4
    obtain ⟨g, w2⟩ := w.new hn (.tup [u, y])
    exact ⟨_, _, zipD_get g1 g2, g, w2, Dp.tup (SqT.of upd_same) (.cons (dpUp (sg.trans g) _ z2) (.cons (dpUp (sg.trans g) _ z4) .nil))⟩
theorem src_cz {vs us : List V} {xs ys : List D} (h1 : SqT K G1 a vs) (h2 : SqT K G1 b us) (h3 : DpAll K G1 vs xs) (h4 : DpAll K G1 us ys) : Src K T (IteZ K a b) G1 (enuS (zipD xs ys)) (fun _ => True) where
  go := fun i M G H hi sg w _ => by
    have hi2 : i < (dats (zipD xs ys)).length := by rw [enu_len] at hi; unfold dats; rw [List.length_map]; exact hi
    rw [zipD_len, ← dps_len h3, ← dps_len h4] at hi2
    exact ⟨vs, us, vs[i], us[i], seqT (sg.trans w.w.ex) h1, seqT (sg.trans w.w.ex) h2, List.getElem?_eq_getElem (by omega), List.getElem?_eq_getElem (by omega)⟩
  stop := fun M G H sg w _ => ⟨vs, us, seqT (sg.trans w.w.ex) h1, seqT (sg.trans w.w.ex) h2, by
    have z : (zipD xs ys).length = min xs.length ys.length := by unfold zipD; simp
    rw [enu_len, z, dps_len h3, dps_len h4]; omega⟩
  yld := fun i M G H x H' hi sg w _ ⟨P, q, u, y, e1, hn, hn2, e2, hu, hy⟩ => by
    subst e1 e2
    have z : (zipD xs ys).length = min xs.length ys.length := by unfold zipD; simp
    rw [enu_len, z] at hi
    have g1 : xs[i]? = some xs[i] := List.getElem?_eq_getElem (by omega)
    have g2 : ys[i]? = some ys[i] := List.getElem?_eq_getElem (by omega)
    obtain ⟨v, z1, z2⟩ := dps_get h3 g1
    obtain ⟨v', z3, z4⟩ := dps_get h4 g2
    have e3 := hu vs (seqT (sg.trans w.w.ex) h1)
    rw [z1] at e3
    cases e3
    have e4 := hy us (seqT (sg.trans w.w.ex) h2)
    rw [z3] at e4
    cases e4
    obtain ⟨gA, w2⟩ := w.new hn (.tup [u, y])
    obtain ⟨gB, w3⟩ := w2.new hn2 (.tup [.int (i : Nat), .ref q])
    have gz : (zipD xs ys)[i]? = some (.tuple [xs[i], ys[i]]) := by
      have := zipD_get g1 g2
      unfold dats at this
      rw [List.getElem?_map] at this
      obtain ⟨d, d1, d2⟩ := Option.map_eq_some_iff.mp this
      cases d2
      exact d1
    have pr : Dp K (upd G q (.tup [u, y])) (.ref q) (.tuple [xs[i], ys[i]]) := Dp.tup (SqT.of upd_same) (.cons (dpUp (sg.trans gA) _ z2) (.cons (dpUp (sg.trans gA) _ z4) .nil))
    exact ⟨_, _, enu_get gz, gA.trans gB, w3, Dp.tup (SqT.of upd_same) (.cons (.int _) (.cons (dpUp gB _ pr) .nil))⟩
end
section
variable {g : Gi} {U : Wps}
theorem pi_enu {X : Cx} {T : Tb} {W : WX} {ds : List Sv} {M : Ms} {E : Er} {a : Expr} {p pos tpos : Pos} {elts : List Expr} {kk : Nat} {Q : PoI} (hg : Gl X "enumerate") (hm : X.mg "enumerate" = none) (hs : notStar a = true) (h : PE X a (tE X.K T W ds M (fun v M1 => seqW v fun xs => Q (enuS xs) (fun _ => True) M1) E)) :
    PI X (.Tuple elts kk tpos) (.Call (.Name "enumerate" p) [a] [] pos) (tI X.K T W ds M Q E) :=
  pi_mono (pi_enuT hg hm (pa_cons h pa_nil (star_one hs)) (by rw [star_one hs]; rfl)) fun σ H R ⟨G, w, s, k, er⟩ => ⟨G, w, s, fun v M' x G1 H1 hi sg w1 hx => by
    have hi : seqW v (fun xs => Q (enuS xs) (fun _ => True) M') := hi
    unfold seqW at hi
    split at hi
    · obtain ⟨p, vs, rfl, h1, h2⟩ := vk_lst hx
      exact ⟨p, vs, rfl, .inl ⟨w1.w.ex.seq h1, k _ _ _ _ _ _ hi sg w1 (src_enuL h1 h2)⟩⟩
    · obtain ⟨p, vs, rfl, h1, h2⟩ := vk_tup hx
      exact ⟨p, vs, rfl, .inr ⟨seqT w1.w.ex h1, k _ _ _ _ _ _ hi sg w1 (src_enuT h1 h2)⟩⟩
    · exact hi.elim, er⟩
theorem tup2_ok {K : PySem.W.Frag} {G : Hp} {x y : V} {v u : Sv} {P : List D → List D → Prop} (h : tup2W v u P) (hx : Vk K G x v) (hy : Vk K G y u) : ∃ a b vs us xs ys, x = .ref a ∧ y = .ref b ∧ SqT K G a vs ∧ SqT K G b us ∧ DpAll K G vs xs ∧ DpAll K G us ys ∧ P xs ys := by
  unfold tup2W at h
  split at h
  · obtain ⟨p, vs, e1, h1, h2⟩ := vk_tup hx
    obtain ⟨p', us, e2, h3, h4⟩ := vk_tup hy
    exact ⟨p, p', vs, us, _, _, e1, e2, h1, h3, h2, h4, h⟩
  · exact h.elim
theorem zip2_ok {K : PySem.W.Frag} {G : Hp} {x y : V} {v u : Sv} {P : List D → List D → Prop} (h : zip2W v u P) (hx : Vk K G x v) (hy : Vk K G y u) : ∃ a b vs us xs ys, x = .ref a ∧ y = .ref b ∧ SqT K G a vs ∧ (SqL K G b us ∨ SqT K G b us) ∧ DpAll K G vs xs ∧ DpAll K G us ys ∧ P xs ys := by
  unfold zip2W at h
  split at h
  · obtain ⟨p, vs, e1, h1, h2⟩ := vk_tup hx
    obtain ⟨p', us, e2, h3, h4⟩ := vk_tup hy
    exact ⟨p, p', vs, us, _, _, e1, e2, h1, .inr h3, h2, h4, h⟩
  · obtain ⟨p, vs, e1, h1, h2⟩ := vk_tup hx
    obtain ⟨p', us, e2, h3, h4⟩ := vk_lst hy
    exact ⟨p, p', vs, us, _, _, e1, e2, h1, .inl h3, h2, h4, h⟩
  · exact h.elim
theorem pi_zipW {X : Cx} {T : Tb} {W : WX} {ds : List Sv} {M : Ms} {E : Er} {a b : Expr} {p pos tpos : Pos} {elts : List Expr} {kk : Nat} {Q : PoI} {P : Sv → Ms → Prop} (hg : Gl X "zip") (hm : X.mg "zip" = none) (hs : notStar a = true) (hs2 : notStar b = true) (h : PE X a (tE X.K T W ds M P E))
    (h2 : ∀ v M1, P v M1 → PE X b (tE X.K T W ds M1 (fun u M2 => zip2W v u fun xs ys => Q (dats (zipD xs ys)) (fun _ => True) M2) E)) :
    PI X (.Tuple elts kk tpos) (.Call (.Name "zip" p) [a, b] [] pos) (tI X.K T W ds M Q E) :=
  pi_mono (pi_zm hg hm (pa_cons h (pa_cons (pe_sec (Qf := fun v u M2 => zip2W v u fun xs ys => Q (dats (zipD xs ys)) (fun _ => True) M2) h2) pa_nil (star_one hs2)) (star_one hs)) (star_one hs) (by rw [star_one hs2]; rfl)) fun σ H R ⟨G, w, s, k, er⟩ => ⟨G, w, s, fun v M1 x G1 H1 hv sg w1 hx => ⟨(v, M1), hv, G1, w1, s.up sg, fun u M2 y G2 H2 hu sg2 w2 hy => by
    obtain ⟨a, b, vs, us, xs, ys, rfl, rfl, q1, q2, q3, q4, hq⟩ := zip2_ok hu (hx.up sg2) hy
    exact ⟨a, b, vs, us, rfl, q2.elim (fun q2 => .inl ⟨seqT w2.w.ex q1, w2.w.ex.seq q2, k _ _ _ _ _ _ hq (sg.trans sg2) w2 (src_zm q1 q2 q3 q4)⟩) fun q2 => .inr ⟨seqT w2.w.ex q1, seqT w2.w.ex q2, k _ _ _ _ _ _ hq (sg.trans sg2) w2 (src_zip q1 q2 q3 q4)⟩⟩, er.up sg⟩, er⟩
theorem pi_czW {X : Cx} {T : Tb} {W : WX} {ds : List Sv} {M : Ms} {E : Er} {a b : Expr} {p p2 pos pos2 tpos : Pos} {elts : List Expr} {kk : Nat} {Q : PoI} {P : Sv → Ms → Prop} (hge : Gl X "enumerate") (hme : X.mg "enumerate" = none) (hg : Gl X "zip") (hm : X.mg "zip" = none) (hs : notStar a = true) (hs2 : notStar b = true) (h : PE X a (tE X.K T W ds M P E))
    (h2 : ∀ v M1, P v M1 → PE X b (tE X.K T W ds M1 (fun u M2 => tup2W v u fun xs ys => Q (enuS (zipD xs ys)) (fun _ => True) M2) E)) :
    PI X (.Tuple elts kk tpos) (.Call (.Name "enumerate" p) [.Call (.Name "zip" p2) [a, b] [] pos2] [] pos) (tI X.K T W ds M Q E) :=
  pi_mono (pi_cz hge hme hg hm (pa_cons h (pa_cons (pe_sec (Qf := fun v u M2 => tup2W v u fun xs ys => Q (enuS (zipD xs ys)) (fun _ => True) M2) h2) pa_nil (star_one hs2)) (star_one hs)) (star_one hs) (by rw [star_one hs2]; rfl)) fun σ H R ⟨G, w, s, k, er⟩ => ⟨G, w, s, fun v M1 x G1 H1 hv sg w1 hx => ⟨(v, M1), hv, G1, w1, s.up sg, fun u M2 y G2 H2 hu sg2 w2 hy => by
    obtain ⟨a, b, vs, us, xs, ys, rfl, rfl, q1, q2, q3, q4, hq⟩ := tup2_ok hu (hx.up sg2) hy
    exact ⟨a, b, vs, us, rfl, seqT w2.w.ex q1, seqT w2.w.ex q2, k _ _ _ _ _ _ hq (sg.trans sg2) w2 (src_cz q1 q2 q3 q4)⟩, er.up sg⟩, er⟩
theorem zipA_ok {g : Gi} {S : Sc} {a b c : Expr} (h : zipA g S a = some (b, c)) : ∃ p pos, a = .Call (.Name "zip" p) [b, c] [] pos ∧ globB S "zip" = true ∧ g.bi "zip" = true ∧ notStar b = true ∧ notStar c = true := by
  unfold zipA at h
  split at h
  · split at h
    · rename_i hc
      simp only [Bool.and_eq_true] at hc
      have ex := eq_of_beq hc.1.1.1.1
      subst ex
      cases h
      exact ⟨_, _, rfl, hc.1.1.1.2, hc.1.1.2, hc.1.2, hc.2⟩
    · cases h
  · cases h
theorem stepI_ok (hU : WOk g U) {S : Sc} {X : Cx} {W : WX} {tg e : Expr} {ds : List Sv} {M : Ms} {Q : PoI} {Er' : Er} (o : Xo g S X W) (h : (stepW g U).I S tg e ds M Q Er') : PI X tg e (tI X.K g.T W ds M Q Er') := by
  unfold stepW at h
  dsimp only at h
  split at h
  · rename_i x ps a ps2
    split at h
    · rename_i hx
      split at h
      · rename_i hc
        simp only [Bool.and_eq_true] at hc
        have ex := eq_of_beq hx
        subst ex
        exact pi_r1 (o.gl hc.1.2).1 (o.ok.bi _ hc.2) hc.1.1 (hU.E o h)
      · exact h.elim
    · split at h
      · rename_i hx
        split at h
        · rename_i hc
          simp only [Bool.and_eq_true] at hc
          have ex := eq_of_beq hx
          subst ex
          cases tg with
          | Tuple elts kk tpos =>
            split at h
            · rename_i b c hz
              obtain ⟨p, pos, rfl, z1, z2, z3, z4⟩ := zipA_ok hz
              exact pi_czW (o.gl hc.1.1.2).1 (o.ok.bi _ hc.1.2) (o.gl z1).1 (o.ok.bi _ z2) z3 z4 (hU.E o h) fun v M1 h1 => hU.E o h1
            · exact pi_enu (o.gl hc.1.1.2).1 (o.ok.bi _ hc.1.2) hc.1.1.1 (hU.E o h)
          | _ => cases hc.2
        · exact h.elim
      · exact pi_val (hU.E o h)
  · rename_i x ps a b ps2
    split at h
    · rename_i hx
      split at h
      · rename_i hc
        simp only [Bool.and_eq_true] at hc
        have ex := eq_of_beq hx
        subst ex
        exact pi_r2 (o.gl hc.1.2).1 (o.ok.bi _ hc.2) hc.1.1.1 hc.1.1.2 (hU.E o h) fun v M1 h1 => hU.E o h1
      · exact h.elim
    · split at h
      · rename_i hx
        split at h
        · rename_i hc
          simp only [Bool.and_eq_true] at hc
          have ex := eq_of_beq hx
          subst ex
          cases tg with
          | Tuple elts kk tpos => exact pi_zipW (o.gl hc.1.1.2).1 (o.ok.bi _ hc.1.2) hc.1.1.1.1 hc.1.1.1.2 (hU.E o h) fun v M1 h1 => hU.E o h1
          | _ => cases hc.2
        · exact h.elim
      · exact pi_val (hU.E o h)
  · split at h
    · rename_i hc
      simp only [Bool.and_eq_true] at hc
      have em := eq_of_beq hc.1.1.1
      subst em
      exact pi_itm hc.1.1.2 hc.1.2 hc.2 (hU.E o h)
    · exact pi_val (hU.E o h)
  · exact pi_val (hU.E o h)
theorem wps_ok (g : Gi) : ∀ n, WOk g (wps g n)
  | 0 => ⟨fun _ h => h.elim, fun _ h => h.elim, fun _ h => h.elim⟩
  | n + 1 => ⟨fun o h => stepE_ok (wps_ok g n) o h, fun o h => stepT_ok (wps_ok g n) o h, fun o h => stepI_ok (wps_ok g n) o h⟩
end
end Cal
/-! WpO -/
namespace Cal
open PySem PySem.Spec PyProof.Rows L2 LamX
/-! ### statements are as read -/
structure KOk (K : PySem.W.Frag) (T : Tb) (W : WX) (G : Hp) (k : Kt) (D : Ends) : Prop where
  nx : ∀ ds' M' σ' G' H', k.nx ds' M' → Same G G' → Wt K T M' G' H' → Sl K G' σ' ds' → D.nx σ' H'
  rt : ∀ r M' v G' H', k.rt r M' → Same G G' → Wt K T M' G' H' → Vk K G' v r → D.rt v H'
  bk : ∀ ds' M' σ' G' H', k.bk ds' M' → Same G G' → Wt K T M' G' H' → Sl K G' σ' ds' → D.bk σ' H'
  ct : ∀ ds' M' σ' G' H', k.ct ds' M' → Same G G' → Wt K T M' G' H' → Sl K G' σ' ds' → D.ct σ' H'
  er : erE K T G k.er W
theorem KOk.up {K : PySem.W.Frag} {T : Tb} {W : WX} {G G' : Hp} {k : Kt} {D : Ends} (h : KOk K T W G k D) (e : Same G G') : KOk K T W G' k D :=
  ⟨fun a b c d f g s => h.nx a b c d f g (e.trans s), fun a b c d f g s => h.rt a b c d f g (e.trans s), fun a b c d f g s => h.bk a b c d f g (e.trans s), fun a b c d f g s => h.ct a b c d f g (e.trans s), h.er.up e⟩
def tS (K : PySem.W.Frag) (T : Tb) (W : WX) (ds : List Sv) (M : Ms) (k : Kt) : TS := fun D σ H => ∃ G, Wt K T M G H ∧ Sl K G σ ds ∧ KOk K T W G k D
theorem wq_ok (g : Gi) : WOk g (wq g) := ⟨fun o h => stepE_ok (wps_ok g 39) o h, fun o h => stepT_ok (wps_ok g 39) o h, fun o h => stepI_ok (wps_ok g 39) o h⟩
structure Xs (g : Gi) (S : Sc) (X : Cx) (W : WX) : Prop where
  o : Xo g S X W
  ps : PassesOwn (model X.prog X.w) X.A X.env X.xe
section
variable {g : Gi} {S : Sc} {X : Cx} {W : WX} {T : Tb} {ds : List Sv} {M : Ms} {k : Kt} {pos : Pos}
theorem wpSs_ok {f : StF} (hf : ∀ st ds M nx rt bk ct er, f st ds M nx rt bk ct er → PS X st (tS X.K T W ds M ⟨nx, rt, bk, ct, er⟩)) : ∀ {ss : List Stmt} {ds : List Sv} {M : Ms} {k : Kt}, wpSs f ss ds M k.nx k.rt k.bk k.ct k.er → PSs X ss (tS X.K T W ds M k)
  | [], ds, M, k, h => pss_mono pss_nil fun D σ H ⟨G, w, s, q⟩ => q.nx ds M σ G H h (Same.refl _) w s
  | st :: ss, ds, M, k, h => by
    refine pss_mono (pss_cons (hf st ds M _ _ _ _ _ h) (pss_ex (ι := List Sv × Ms) (p := fun z => wpSs f ss z.1 z.2 k.nx k.rt k.bk k.ct k.er) (t := fun z => tS X.K T W z.1 z.2 k) fun z hz => wpSs_ok hf hz)) fun D σ H ⟨G, w, s, q⟩ => ?_
    exact ⟨G, w, s, fun ds1 M1 σ1 G1 H1 h1 sg w1 s1 => ⟨(ds1, M1), h1, G1, w1, s1, q.up sg⟩, q.rt, q.bk, q.ct, q.er⟩
abbrev uGs (K : PySem.W.Frag) (T : Tb) (S : Sc) (tg : Expr) : TG := fun v σ H q => ∃ z : Sv × List Sv × (List Sv → Prop), wpG S 9 tg z.1 z.2.1 z.2.2 ∧ tGx K T z.1 z.2.1 z.2.2 (tgSl S 9 tg) v σ H q
theorem pg_u (o : Xn S X) (tg : Expr) : PG X tg (uGs X.K T S tg) := pg_ex (ι := Sv × List Sv × (List Sv → Prop)) (p := fun z => wpG S 9 tg z.1 z.2.1 z.2.2) (t := fun z => tGx X.K T z.1 z.2.1 z.2.2 (tgSl S 9 tg)) fun z hz => wpG_ok o 9 tg _ _ _ hz
abbrev uSs (K : PySem.W.Frag) (T : Tb) (W : WX) (f : StF) (body : List Stmt) : TS := fun D σ H => ∃ z : List Sv × Ms × Kt, wpSs f body z.1 z.2.1 z.2.2.nx z.2.2.rt z.2.2.bk z.2.2.ct z.2.2.er ∧ tS K T W z.1 z.2.1 z.2.2 D σ H
theorem pss_u {f : StF} (hf : ∀ st ds M nx rt bk ct er, f st ds M nx rt bk ct er → PS X st (tS X.K T W ds M ⟨nx, rt, bk, ct, er⟩)) (body : List Stmt) : PSs X body (uSs X.K T W f body) := pss_ex (ι := List Sv × Ms × Kt) (p := fun z => wpSs f body z.1 z.2.1 z.2.2.nx z.2.2.rt z.2.2.bk z.2.2.ct z.2.2.er) (t := fun z => tS X.K T W z.1 z.2.1 z.2.2) fun z hz => wpSs_ok hf hz
theorem for_ok {nx : Nx} {rt : PoE} {bk ct : Nx} {er : Er} (x : Xs g S X W) {f : StF} (hf : ∀ st ds M nx rt bk ct er, f st ds M nx rt bk ct er → PS X st (tS X.K g.T W ds M ⟨nx, rt, bk, ct, er⟩)) {tg it : Expr} {body : List Stmt} (h1 : notSet it = true)
    (h : (wq g).I S tg it ds M (fun rs Kp M1 => ∃ Inv : Nat → List Sv → Ms → Prop, Inv 0 ds M1 ∧ (∀ i ds M, i ≤ rs.length → Inv i ds M → Kp M) ∧
          (∀ i r ds M, rs[i]? = some r → Inv i ds M → wpG S 9 tg r ds fun ds' => wpSs f body ds' M (Inv (i + 1)) rt nx (Inv (i + 1)) er) ∧ (∀ ds M, Inv rs.length ds M → nx ds M)) er) :
    PS X (.For tg it body [] pos) (tS X.K g.T W ds M ⟨nx, rt, bk, ct, er⟩) := by
  refine ps_mono (ps_for x.ps x.o.calm ((wq_ok g).I x.o h) (pg_u (T := g.T) x.o.n tg) (pss_u hf body) (fun y => by cases it <;> first | rfl | cases h1)) fun D σ H ⟨G, w, s, q⟩ => ?_
  refine ⟨G, w, s, fun rs Kp M1 G1 H1 J hl sg w1 src => ?_, q.er⟩
  obtain ⟨Inv, h0, hk, hstep, hend⟩ := hl
  refine ⟨fun i m σ H => m = rs.length - i ∧ i ≤ rs.length ∧ ∃ ds M Gi, Inv i ds M ∧ Same G1 Gi ∧ Wt X.K g.T M Gi H ∧ Sl X.K Gi σ ds, ⟨rs.length, by simp, Nat.zero_le _, ds, M1, G1, h0, Same.refl _, w1, s.up sg⟩, ?_⟩
  rintro i m σi Hi ⟨rfl, hi, dsi, Mi, Gi, hinv, sgi, wi, si⟩
  have hkp := hk i dsi Mi hi hinv
  by_cases hlt : i < rs.length
  · refine .inr ⟨src.go i _ Gi Hi hlt sgi wi hkp, fun σ' H' => ∃ ds M Gi, Inv (i + 1) ds M ∧ Same G1 Gi ∧ Wt X.K g.T M Gi H' ∧ Sl X.K Gi σ' ds, fun σ' H' ⟨ds', M', G', z1, z2, z3, z4⟩ => ⟨rs.length - (i + 1), by omega, rfl, by omega, ds', M', G', z1, z2, z3, z4⟩, fun v H' hy => ?_⟩
    obtain ⟨G', r, hr, sg', w', hx⟩ := src.yld i _ Gi Hi v H' hlt sgi wi hkp hy
    refine ⟨(r, dsi, _), hstep i r dsi Mi hr hinv, Mi, G', w', si.up sg', hx, fun ds2 σ2 hq s2 chg => ⟨(ds2, Mi, ⟨Inv (i + 1), rt, nx, Inv (i + 1), er⟩), hq, G', w', s2, ?_⟩⟩
    have sga := sgi.trans sg'
    exact ⟨fun ds' M' σ' G2 H2 z sg2 w2 s2 => ⟨ds', M', G2, z, sga.trans sg2, w2, s2⟩, fun a b c d e z sg2 => q.rt a b c d e z (sg.trans (sga.trans sg2)), fun a b c d e z sg2 => q.nx a b c d e z (sg.trans (sga.trans sg2)), fun ds' M' σ' G2 H2 z sg2 w2 s2 => ⟨ds', M', G2, z, sga.trans sg2, w2, s2⟩, q.er.up (sg.trans sga)⟩
  · have e : i = rs.length := by omega
    subst e
    exact .inl ⟨src.stop _ Gi Hi sgi wi hkp, q.nx dsi Mi σi Gi Hi (hend dsi Mi hinv) (sg.trans sgi) wi si⟩
theorem while_ok {nx : Nx} {rt : PoE} {bk ct : Nx} {er : Er} (x : Xs g S X W) {f : StF} (hf : ∀ st ds M nx rt bk ct er, f st ds M nx rt bk ct er → PS X st (tS X.K g.T W ds M ⟨nx, rt, bk, ct, er⟩)) {c : Expr} {body : List Stmt}
    (h : ∃ Inv : Nat → List Sv → Ms → Prop, (∃ m, Inv m ds M) ∧ ∀ m ds M, Inv m ds M → (wq g).T S c ds M (fun t M1 => brP t (wpSs f body ds M1 (fun ds M => ∃ m', m' < m ∧ Inv m' ds M) rt nx (fun ds M => ∃ m', m' < m ∧ Inv m' ds M) er) (nx ds M1)) er) :
    PS X (.While c body [] pos) (tS X.K g.T W ds M ⟨nx, rt, bk, ct, er⟩) := by
  obtain ⟨Inv, ⟨m0, h0⟩, hstep⟩ := h
  refine ps_mono (ps_while (tc := fun σ H q => ∃ z : Nat × List Sv × Ms, Inv z.1 z.2.1 z.2.2 ∧ tT X.K g.T W z.2.1 z.2.2 (fun t M1 => brP t (wpSs f body z.2.1 M1 (fun ds M => ∃ m', m' < z.1 ∧ Inv m' ds M) rt nx (fun ds M => ∃ m', m' < z.1 ∧ Inv m' ds M) er) (nx z.2.1 M1)) er σ H q) x.ps
    (pt_ex (ι := Nat × List Sv × Ms) (p := fun z => Inv z.1 z.2.1 z.2.2) (t := fun z => tT X.K g.T W z.2.1 z.2.2 (fun t M1 => brP t (wpSs f body z.2.1 M1 (fun ds M => ∃ m', m' < z.1 ∧ Inv m' ds M) rt nx (fun ds M => ∃ m', m' < z.1 ∧ Inv m' ds M) er) (nx z.2.1 M1)) er) fun z hz => (wq_ok g).T x.o (hstep z.1 z.2.1 z.2.2 hz)) (pss_u hf body)) fun D σ H ⟨G, w, s, q⟩ => ?_
  refine ⟨fun m σ H => ∃ ds M Gi, Inv m ds M ∧ Same G Gi ∧ Wt X.K g.T M Gi H ∧ Sl X.K Gi σ ds, ⟨m0, ds, M, G, h0, Same.refl _, w, s⟩, ?_⟩
  rintro m σi Hi ⟨dsi, Mi, Gi, hinv, sgi, wi, si⟩
  refine ⟨(m, dsi, Mi), hinv, Gi, wi, si, fun b M1 G1 H1 hb sg1 w1 => ?_, q.er.up sgi⟩
  cases b with
  | true =>
    refine iteT ⟨fun σ' H' => ∃ m', m' < m ∧ ∃ ds M Gi, Inv m' ds M ∧ Same G Gi ∧ Wt X.K g.T M Gi H' ∧ Sl X.K Gi σ' ds, fun σ' H' z => z, (dsi, M1, ⟨fun ds M => ∃ m', m' < m ∧ Inv m' ds M, rt, nx, fun ds M => ∃ m', m' < m ∧ Inv m' ds M, er⟩), hb, G1, w1, si.up sg1, ?_⟩
    have sga := sgi.trans sg1
    exact ⟨fun ds' M' σ' G2 H2 ⟨m', lt, z⟩ sg2 w2 s2 => ⟨m', lt, ds', M', G2, z, sga.trans sg2, w2, s2⟩, fun a b c d e z sg2 => q.rt a b c d e z (sga.trans sg2), fun a b c d e z sg2 => q.nx a b c d e z (sga.trans sg2), fun ds' M' σ' G2 H2 ⟨m', lt, z⟩ sg2 w2 s2 => ⟨m', lt, ds', M', G2, z, sga.trans sg2, w2, s2⟩, q.er.up sga⟩
  | false => exact iteF (q.nx dsi M1 σi G1 H1 hb (sgi.trans sg1) w1 (si.up sg1))
end
end Cal
/-! WpP -/
namespace Cal
open PySem PySem.Spec PyProof.Rows L2 LamX
theorem env_eta {X : Cx} {S : Sc} (h : X.env.scope = S.sc) : X.env = { X.env with scope := S.sc } := by rw [← h]
theorem nc_set {e : Expr} {t : Option Expr} {n : Nat} {env : Env} (h : notCmpr e = true) : swapsWith e t n env = pure false := by
  cases e <;> first | rfl | cases h
theorem notv {a b : Expr} {es : List Expr} {k : Nat} {p : Pos} {env : Env} {ts : List Expr} (h : isTupV b = false) : swappedStores [.Tuple ts k p] b env = pure none := by
  cases b <;> first | rfl | cases h
theorem sub_none {a b e : Expr} {p : Pos} {env : Env} : swappedStores [.Subscript a b p] e env = pure none := by
  cases e <;> rfl
section
variable {g : Gi} {S : Sc} {X : Cx} {W : WX} {ds : List Sv} {M : Ms} {nx : Nx} {rt : PoE} {bk ct : Nx} {er : Er} {pos : Pos}
theorem setLc_ok {U : Wps} {P : PoE} {i : Nat} (hP : ∀ r M, P r M → setK ds i r fun ds1 => nx ds1 M) (hU : WOk g U) (o : Xo g S X W) {x : Str} {px sp p : Pos} {elt tg it : Expr} {ifs : List Expr} {scope : Scope} (hi : slotL S x = some i) (hl : S.sc.names.lookup x = some .local) (hsw : swapsWith (.ListComp elt [⟨tg, it, ifs, 0⟩] scope p) (some (.Name x px)) sp.line X.env = pure true)
    (h1 : notSet it = true) (h2 : blkC S.N S.sc scope (ownS S scope) = true) (h3 : subB (tgSl (inS S scope) 9 tg) ((ownS S scope).map (·.2)) = true) (h : U.I S tg it ds M (lcP U (inS S scope) tg elt ifs (wipeD ds ((ownS S scope).map (·.2))) P) er) :
    PS X (.Assign [.Name x px] (.ListComp elt [⟨tg, it, ifs, 0⟩] scope p) sp) (tS X.K g.T W ds M ⟨nx, rt, bk, ct, er⟩) := by
  refine ps_mono (ps_setLc (own := ownS S scope) o.calm o.nd (o.at (slotL_ok hi).1) (by rw [o.sc]; exact hl) hsw (hU.I o h) (blkOk_by (by rw [o.N, o.sc]; exact h2))
    (g := uG X.K g.T (inS S scope) tg) (tt := uT X.K g.T U (inS S scope) ifs) (te := uE X.K g.T U (inS S scope) elt)
    (fun s H C cl fp => pg_ex (ι := Sv × List Sv × (List Sv → Prop)) (p := fun z => wpG (inS S scope) 9 tg z.1 z.2.1 z.2.2) (t := fun z => tGx X.K g.T z.1 z.2.1 z.2.2 (tgSl (inS S scope) 9 tg)) fun z hz => wpG_ok (o.inner scope s H C cl fp).n 9 tg _ _ _ hz)
    (fun s H C cl fp => pts_ex (ι := List Sv × Ms × PoT) (p := fun z => wpIfs (fun e M Q => U.T (inS S scope) e z.1 M Q noE) ifs z.2.1 z.2.2) (t := fun z => tT X.K g.T W0 z.1 z.2.1 z.2.2 noE) fun z hz => wpIfs_ok (Z := X.blk s H scope (compEnvC scope cl C X.env) fp) (fun e M Q he => hU.T (o.inner scope s H C cl fp) he) hz)
    (fun s H C cl fp => pe_ex (ι := List Sv × Ms × PoE) (p := fun z => U.E (inS S scope) elt z.1 z.2.1 z.2.2 noE) (t := fun z => tE X.K g.T W0 z.1 z.2.1 z.2.2 noE) fun z hz => hU.E (o.inner scope s H C cl fp) hz)
    (fun y => by cases it <;> first | rfl | cases h1)) fun D σ H ⟨G, w, s, q⟩ => lc_run (Q := P) h3 (fun G s => s.wipe _) ⟨G, w, s, fun r M1 v G1 H1 hn sg w1 hv => q.nx _ _ _ _ _ (Eq.mp (setK_eq ds i r fun ds1 => nx ds1 M1) (hP r M1 hn)) sg w1 ((s.up sg).set i hv), q.er⟩
/-- a statement that goes through a dict: the dict is locked meanwhile -/
theorem ps_exs {Z : Cx} {st : Stmt} {ι : Type} {p : ι → Prop} {t : ι → TS} (h : ∀ i, p i → PS Z st (t i)) : PS Z st (fun D σ H => ∃ i, p i ∧ t i D σ H) := ⟨fun pins s σ H D J ⟨i, hp, q⟩ => (h i hp).run pins s σ H D J q⟩
theorem lkS_ok {st : Stmt} (h : lkW M fun M1 un => PS X st (tS X.K g.T W ds M1 ⟨fun ds2 M2 => un M2 (nx ds2), fun r M2 => un M2 (rt r), fun _ _ => False, fun _ _ => False, er⟩)) : PS X st (tS X.K g.T W ds M ⟨nx, rt, bk, ct, er⟩) := by
  obtain ⟨A, l, es, C, e, h⟩ := h
  refine ps_mono (ps_lock (ps_exs (ι := Obj × List (L2.Key × V)) (p := fun _ => True) (t := fun z => tS X.K g.T W ds (A ++ (l, .fk z.1 z.2 es) :: C) ⟨fun ds2 M2 => ∃ A' C', M2 = A' ++ (l, .fk z.1 z.2 es) :: C' ∧ nx ds2 (A' ++ (l, .dk es) :: C'), fun r M2 => ∃ A' C', M2 = A' ++ (l, .fk z.1 z.2 es) :: C' ∧ rt r (A' ++ (l, .dk es) :: C'), fun _ _ => False, fun _ _ => False, er⟩) fun z _ => h z.1 z.2)) fun D σ H ⟨G, w, s, q⟩ => ?_
  rw [e] at w
  obtain ⟨kvs, k1, k2, k3⟩ := dk_at w
  refine ⟨l, .dK kvs, k1, trivial, fun od => ⟨(od, kvs), trivial, G, ?_, s, ?_⟩⟩
  · exact w.mset k1 ⟨fun _ z => (nomatch z), fun _ z => (nomatch z)⟩ (m' := .fk od kvs es) ⟨⟨rfl, rfl⟩, k2⟩
  · have back : ∀ {A' C' : Ms} {G' H' : Hp}, Wt X.K g.T (A' ++ (l, .fk od kvs es) :: C') G' H' → H' l = some (.frz od (.dK kvs)) ∧ Wt X.K g.T (A' ++ (l, .dk es) :: C') G' (upd H' l (.dK kvs)) := fun {A' C' G' H'} w' => by
      obtain ⟨z1, z2⟩ := fk_at (M := []) w'
      exact ⟨z1, w'.mset z1 ⟨fun _ z => (nomatch z), fun _ z => (nomatch z)⟩ (m' := .dk es) z2⟩
    refine ⟨fun ds' M' σ' G' H' hn sg w' s' => ?_, fun r M' v G' H' hn sg w' hv => ?_, fun _ _ _ _ _ z => z.elim, fun _ _ _ _ _ z => z.elim, q.er⟩
    · obtain ⟨A', C', rfl, hn⟩ := hn
      obtain ⟨z1, z2⟩ := back w'
      exact ⟨z1, q.nx _ _ _ _ _ hn sg z2 s'⟩
    · obtain ⟨A', C', rfl, hn⟩ := hn
      obtain ⟨z1, z2⟩ := back w'
      exact ⟨z1, q.rt _ _ _ _ _ hn sg z2 hv⟩
/-- a dict made turn by turn, given a name -/
theorem ps_setDc {i : Nat} {y : Str} {py : Pos} {kx vx tg iter : Expr} {ifs : List Expr} {scope : Scope} {own : List (Str × Nat)} {pos spos : Pos} {wi : TI} {tgt : TG} {tt : TT} {tk tv : TE} (calm : X.calm = true) (nd : X.N.Nodup) (hy : X.N[i]? = some y) (hyl : X.env.scope.names.lookup y = some .local)
    (swaps : swapsWith (.DictComp kx vx [⟨tg, iter, ifs, 0⟩] scope pos) (some (.Name y py)) spos.line X.env = pure true) (hi : PI X tg iter wi) (ok : BlkOk X.N X.env.scope scope own)
    (hg : ∀ (s : Shared) (H : Hp) (C : Addr) (cl : List (Str × Addr)) (fp : List Addr), PG (X.blk s H scope (compEnvC scope cl C X.env) fp) tg tgt) (ht : ∀ (s : Shared) (H : Hp) (C : Addr) (cl : List (Str × Addr)) (fp : List Addr), PTs (X.blk s H scope (compEnvC scope cl C X.env) fp) ifs tt)
    (hk : ∀ (s : Shared) (H : Hp) (C : Addr) (cl : List (Str × Addr)) (fp : List Addr), PE (X.blk s H scope (compEnvC scope cl C X.env) fp) kx tk)
    (hv : ∀ (s : Shared) (H : Hp) (C : Addr) (cl : List (Str × Addr)) (fp : List Addr), PE (X.blk s H scope (compEnvC scope cl C X.env) fp) vx tv) (hs : ∀ x, foldedSetIterable iter X.env x = pure x) :
    PS X (.Assign [.Name y py] (.DictComp kx vx [⟨tg, iter, ifs, 0⟩] scope pos) spos) (tAsg (tDc wi tgt tt tk tv (own.map (·.2))) (gName i)) := by
  refine ⟨fun pins s σ H D J h => ?_⟩
  rw [exec_Assign_Name_used _ _ _ _ swaps]
  refine wpAny_bind (wpAny_standAt (wpAny_bind ?_))
  show wpAny _ X.A (do let _ ← comprehension (.DictComp kx vx [⟨tg, iter, ifs, 0⟩] scope pos) scope X.env (firstIterPos [⟨tg, iter, ifs, 0⟩] pos) newDict false (eval iter X.env) (some (assign (.Name y py) X.env))) _ _ s
  have h : tDc wi tgt tt tk tv (own.map (·.2)) σ H (fun x H1 => gName i x σ H1 D.nx) := h
  refine wpAny_bind (thn (dc_core (Qf := fun _ s' => SP X pins D .next s') calm nd J hi ok hg ht hk hv hs h fun L C s' m H' J2 q hn f => ?_) fun _ s' hq => wpAny_pure (wpAny_pure hq))
  show wpAny _ _ (assign (.Name y py) X.env (.ref L)) _ _ _
  refine wpAny_assign_Name (store_ok2 (v := V.ref L) J2 nd hy (.inl hyl) rfl (fun s2 J3 ⟨a, sb, ha⟩ => ?_) (.inr hyl))
  obtain ⟨f0, f1, _, f3, f4, f5⟩ := f
  have apart : C ≠ a := by
    rcases ha with z | z
    · rw [z]; exact f1
    · exact fun e => f4 y a z e.symm
  refine ⟨m, hn.sameBut sb apart, fun h3 sb3 => ?_⟩
  exact ⟨_, H', J3.turned (t' := s2.toks) (fun b o hb e => (sb3.2 b hb).trans e) f0 f1 f3 f4 f5, q⟩
theorem setDc_ok {U : Wps} {P : PoE} {i : Nat} (hP : ∀ r M, P r M → setK ds i r fun ds1 => nx ds1 M) (hU : WOk g U) (o : Xo g S X W) {x : Str} {px sp p : Pos} {kx vx tg it : Expr} {ifs : List Expr} {scope : Scope} (hi : slotL S x = some i) (hl : S.sc.names.lookup x = some .local) (hsw : swapsWith (.DictComp kx vx [⟨tg, it, ifs, 0⟩] scope p) (some (.Name x px)) sp.line X.env = pure true)
    (h1 : notSet it = true) (h2 : blkC S.N S.sc scope (ownS S scope) = true) (h3 : subB (tgSl (inS S scope) 9 tg) ((ownS S scope).map (·.2)) = true) (h : U.I S tg it ds M (dcP U (inS S scope) tg kx vx ifs (wipeD ds ((ownS S scope).map (·.2))) P) er) :
    PS X (.Assign [.Name x px] (.DictComp kx vx [⟨tg, it, ifs, 0⟩] scope p) sp) (tS X.K g.T W ds M ⟨nx, rt, bk, ct, er⟩) := by
  refine ps_mono (ps_setDc (own := ownS S scope) o.calm o.nd (o.at (slotL_ok hi).1) (by rw [o.sc]; exact hl) hsw (hU.I o h) (blkOk_by (by rw [o.N, o.sc]; exact h2))
    (tgt := uG X.K g.T (inS S scope) tg) (tt := uT X.K g.T U (inS S scope) ifs) (tk := uE X.K g.T U (inS S scope) kx) (tv := uE X.K g.T U (inS S scope) vx)
    (fun s H C cl fp => pg_ex (ι := Sv × List Sv × (List Sv → Prop)) (p := fun z => wpG (inS S scope) 9 tg z.1 z.2.1 z.2.2) (t := fun z => tGx X.K g.T z.1 z.2.1 z.2.2 (tgSl (inS S scope) 9 tg)) fun z hz => wpG_ok (o.inner scope s H C cl fp).n 9 tg _ _ _ hz)
    (fun s H C cl fp => pts_ex (ι := List Sv × Ms × PoT) (p := fun z => wpIfs (fun e M Q => U.T (inS S scope) e z.1 M Q noE) ifs z.2.1 z.2.2) (t := fun z => tT X.K g.T W0 z.1 z.2.1 z.2.2 noE) fun z hz => wpIfs_ok (Z := X.blk s H scope (compEnvC scope cl C X.env) fp) (fun e M Q he => hU.T (o.inner scope s H C cl fp) he) hz)
    (fun s H C cl fp => pe_ex (ι := List Sv × Ms × PoE) (p := fun z => U.E (inS S scope) kx z.1 z.2.1 z.2.2 noE) (t := fun z => tE X.K g.T W0 z.1 z.2.1 z.2.2 noE) fun z hz => hU.E (o.inner scope s H C cl fp) hz)
    (fun s H C cl fp => pe_ex (ι := List Sv × Ms × PoE) (p := fun z => U.E (inS S scope) vx z.1 z.2.1 z.2.2 noE) (t := fun z => tE X.K g.T W0 z.1 z.2.1 z.2.2 noE) fun z hz => hU.E (o.inner scope s H C cl fp) hz)
    (fun y => by cases it <;> first | rfl | cases h1)) fun D σ H ⟨G, w, s, q⟩ => dc_run (Q := P) h3 (fun G s => s.wipe _) ⟨G, w, s, fun r M1 v G1 H1 hn sg w1 hv => q.nx _ _ _ _ _ (Eq.mp (setK_eq ds i r fun ds1 => nx ds1 M1) (hP r M1 hn)) sg w1 ((s.up sg).set i hv), q.er⟩
theorem un_set {l : Addr} {m m' : MO} {M2 : Ms} {i : Nat} {r : Sv} : (∃ A' C', M2 = A' ++ (l, m) :: C' ∧ setK ds i r fun ds1 => nx ds1 (A' ++ (l, m') :: C')) → setK ds i r fun ds1 => ∃ A' C', M2 = A' ++ (l, m) :: C' ∧ nx ds1 (A' ++ (l, m') :: C') := fun ⟨A', C', e, h⟩ => by
  rw [setK_eq] at h ⊢
  exact ⟨A', C', e, h⟩
theorem lc_parts {U : Wps} (hk : ∀ cs, S.kp ≠ .df cs) {elt : Expr} {gens : List Comprehension} {scope : Scope} {p : Pos} {Q : PoE} {Er' : Er} (h : (stepW g U).E S (.ListComp elt gens scope p) ds M Q Er') : ∃ tg it ifs, gens = [⟨tg, it, ifs, 0⟩] ∧ notSet it = true ∧ blkC S.N S.sc scope (ownS S scope) = true ∧ subB (tgSl (inS S scope) 9 tg) ((ownS S scope).map (·.2)) = true ∧
    (U.I S tg it ds M (lcP U (inS S scope) tg elt ifs (wipeD ds ((ownS S scope).map (·.2))) Q) Er' ∨ lkW M fun M1 un => U.I S tg it ds M1 (lcP U (inS S scope) tg elt ifs (wipeD ds ((ownS S scope).map (·.2))) fun r M2 => un M2 (Q r)) Er') := by
  match gens, h with
  | [], h => exact False.elim h
  | [⟨tg, it, ifs, .ofNat (n + 1)⟩], h => exact False.elim h
  | [⟨tg, it, ifs, .negSucc n⟩], h => exact False.elim h
  | ⟨_, _, _, .ofNat 0⟩ :: _ :: _, h => exact False.elim h
  | ⟨_, _, _, .ofNat (n + 1)⟩ :: _ :: _, h => exact False.elim h
  | ⟨_, _, _, .negSucc n⟩ :: _ :: _, h => exact False.elim h
  | [⟨tg, it, ifs, .ofNat 0⟩], h =>
    have h' : (match notSet it && blkC S.N S.sc scope (ownS S scope) && subB (tgSl (inS S scope) 9 tg) ((ownS S scope).map (·.2)) with
      | false => False
      | true => match S.kp with
        | .df cs => ∃ j, (getD (wipeD ds ((ownS S scope).map (·.2))) j fun _ => True) ∧ ∀ (tau : L2.St) (φ : Hp → V → Prop), U.I S tg it ds M (lcP U (inK S scope (.bl cs tau φ ds S.sc)) tg elt ifs ((wipeD ds ((ownS S scope).map (·.2))).set j (.kn φ)) Q) Er'
        | _ => match g.wk with
          | false => U.I S tg it ds M (lcP U (inS S scope) tg elt ifs (wipeD ds ((ownS S scope).map (·.2))) Q) Er'
          | true => U.I S tg it ds M (lcP U (inS S scope) tg elt ifs (wipeD ds ((ownS S scope).map (·.2))) Q) Er' ∨ lkW M fun M1 un => U.I S tg it ds M1 (lcP U (inS S scope) tg elt ifs (wipeD ds ((ownS S scope).map (·.2))) fun r M2 => un M2 (Q r)) Er') := h
    cases hb : (notSet it && blkC S.N S.sc scope (ownS S scope) && subB (tgSl (inS S scope) 9 tg) ((ownS S scope).map (·.2))) with
    | false => rw [hb] at h'; exact h'.elim
    | true =>
      rw [hb] at h'
      simp only [Bool.and_eq_true] at hb
      refine ⟨tg, it, ifs, rfl, hb.1.1, hb.1.2, hb.2, ?_⟩
      cases hkp : S.kp with
      | df cs => exact absurd hkp (hk cs)
      | no =>
        rw [hkp] at h'
        cases hw : g.wk with
        | false => rw [hw] at h'; exact .inl h'
        | true => rw [hw] at h'; exact h'
      | bl cs tau φ ds0 sc =>
        rw [hkp] at h'
        cases hw : g.wk with
        | false => rw [hw] at h'; exact .inl h'
        | true => rw [hw] at h'; exact h'
theorem dc_parts {U : Wps} {kx vx : Expr} {gens : List Comprehension} {scope : Scope} {p : Pos} {Q : PoE} {Er' : Er} (h : (stepW g U).E S (.DictComp kx vx gens scope p) ds M Q Er') : ∃ tg it ifs, gens = [⟨tg, it, ifs, 0⟩] ∧ notSet it = true ∧ blkC S.N S.sc scope (ownS S scope) = true ∧ subB (tgSl (inS S scope) 9 tg) ((ownS S scope).map (·.2)) = true ∧
    (U.I S tg it ds M (dcP U (inS S scope) tg kx vx ifs (wipeD ds ((ownS S scope).map (·.2))) Q) Er' ∨ lkW M fun M1 un => U.I S tg it ds M1 (dcP U (inS S scope) tg kx vx ifs (wipeD ds ((ownS S scope).map (·.2))) fun r M2 => un M2 (Q r)) Er') := by
  match gens, h with
  | [], h => exact False.elim h
  | [⟨tg, it, ifs, .ofNat (n + 1)⟩], h => exact False.elim h
  | [⟨tg, it, ifs, .negSucc n⟩], h => exact False.elim h
  | ⟨_, _, _, .ofNat 0⟩ :: _ :: _, h => exact False.elim h
  | ⟨_, _, _, .ofNat (n + 1)⟩ :: _ :: _, h => exact False.elim h
  | ⟨_, _, _, .negSucc n⟩ :: _ :: _, h => exact False.elim h
  | [⟨tg, it, ifs, .ofNat 0⟩], h =>
    have h' : (match notSet it && blkC S.N S.sc scope (ownS S scope) && subB (tgSl (inS S scope) 9 tg) ((ownS S scope).map (·.2)) with
      | false => False
      | true => U.I S tg it ds M (dcP U (inS S scope) tg kx vx ifs (wipeD ds ((ownS S scope).map (·.2))) Q) Er' ∨ lkW M fun M1 un => U.I S tg it ds M1 (dcP U (inS S scope) tg kx vx ifs (wipeD ds ((ownS S scope).map (·.2))) fun r M2 => un M2 (Q r)) Er') := h
    cases hb : (notSet it && blkC S.N S.sc scope (ownS S scope) && subB (tgSl (inS S scope) 9 tg) ((ownS S scope).map (·.2))) with
    | false => rw [hb] at h'; exact h'.elim
    | true =>
      rw [hb] at h'
      simp only [Bool.and_eq_true] at hb
      exact ⟨tg, it, ifs, rfl, hb.1.1, hb.1.2, hb.2, h'⟩
theorem asgN_ok {U : Wps} (hU : WOk g U) (o : Xo g S X W) {i : Nat} {x : Str} {px sp : Pos} {e : Expr} (hi : slotL S x = some i) (hk : asgB S.kp e = true) (h : (stepW g U).E S e ds M (fun r M1 => setK ds i r fun ds1 => nx ds1 M1) er) : PS X (.Assign [.Name x px] e sp) (tS X.K g.T W ds M ⟨nx, rt, bk, ct, er⟩) := by
  obtain ⟨h1, h2, h3⟩ := slotL_ok hi
  have he := stepE_ok hU o h
  have plain : swapsWith e (some (.Name x px)) sp.line X.env = pure false → PS X (.Assign [.Name x px] e sp) (tS X.K g.T W ds M ⟨nx, rt, bk, ct, er⟩) := fun hs =>
    ps_mono (ps_set (i := i) o.nd (o.at h1) (o.loc h2) he hs (o.hf h3)) fun D σ H ⟨G, w, s, q⟩ => ⟨G, w, s, fun r M1 v G1 H1 hn sg w1 hv => q.nx _ _ _ _ _ (Eq.mp (setK_eq ds i r fun ds1 => nx ds1 M1) hn) sg w1 ((s.up sg).set i hv), q.er⟩
  cases hc : notCmpr e with
  | true => exact plain (nc_set hc)
  | false =>
    cases e with
    | ListComp elt gens scope p =>
      have key : swapsWith (.ListComp elt gens scope p) (some (.Name x px)) sp.line X.env = pure (X.env.blockKind == .function && X.env.kindOf x == some .local && px.line == p.line && !(scope.names.any fun (n, k) => n == x && (k == .local || k == .cell))) := rfl
      cases hb : (X.env.blockKind == .function && X.env.kindOf x == some .local && px.line == p.line && !(scope.names.any fun (n, k) => n == x && (k == .local || k == .cell))) with
      | false => exact plain (key.trans (by rw [hb]))
      | true =>
        rw [hb] at key
        simp only [Bool.and_eq_true, beq_iff_eq] at hb
        have hl : S.sc.names.lookup x = some .local := by rw [← o.sc]; exact hb.1.1.2
        obtain ⟨tg, it, ifs, rfl, a1, a2, a3, a4⟩ := lc_parts (fun cs z => by rw [z] at hk; have hk2 : notCmpr (.ListComp elt gens scope p) = true := hk; rw [hc] at hk2; cases hk2) h
        rcases a4 with a4 | ⟨A, l, es, C, e0, a4⟩
        · exact setLc_ok (fun _ _ z => z) hU o hi hl key a1 a2 a3 a4
        · exact lkS_ok ⟨A, l, es, C, e0, fun od kvs => setLc_ok (fun r M2 => un_set) hU o hi hl key a1 a2 a3 (a4 od kvs)⟩
    | SetComp => exact False.elim h
    | DictComp kx vx gens scope p =>
      have key : swapsWith (.DictComp kx vx gens scope p) (some (.Name x px)) sp.line X.env = pure (X.env.blockKind == .function && X.env.kindOf x == some .local && px.line == p.line && !(scope.names.any fun (n, k) => n == x && (k == .local || k == .cell))) := rfl
      cases hb : (X.env.blockKind == .function && X.env.kindOf x == some .local && px.line == p.line && !(scope.names.any fun (n, k) => n == x && (k == .local || k == .cell))) with
      | false => exact plain (key.trans (by rw [hb]))
      | true =>
        rw [hb] at key
        simp only [Bool.and_eq_true, beq_iff_eq] at hb
        have hl : S.sc.names.lookup x = some .local := by rw [← o.sc]; exact hb.1.1.2
        obtain ⟨tg, it, ifs, rfl, a1, a2, a3, a4⟩ := dc_parts h
        rcases a4 with a4 | ⟨A, l, es, C, e0, a4⟩
        · exact setDc_ok (fun _ _ z => z) hU o hi hl key a1 a2 a3 a4
        · exact lkS_ok ⟨A, l, es, C, e0, fun od kvs => setDc_ok (fun r M2 => un_set) hU o hi hl key a1 a2 a3 (a4 od kvs)⟩
    | _ => cases hc
end
end Cal
/-! WpOs -/
namespace Cal
open PySem PySem.Spec PyProof.Rows L2 LamX
/-! the further statements are as read -/
section
variable {K : PySem.W.Frag} {T : Tb} {M : Ms} {G H : Hp}
theorem kvs_fput {f : Str} {v : V} {r : Sv} (hv : Vk K G v r) : ∀ {fs' : List (Str × V)} {fs : List (Str × Sv)}, Kvs K G fs' fs → Kvs K G (putF f v fs') (fPut f r fs)
  | _, _, .nil => .cons ⟨rfl, hv⟩ .nil
  | (k, v1) :: fs', (k2, r1) :: fs, .cons h t => by
    have h1 : k = k2 := h.1
    subst h1
    show Kvs K G (if k = f then (k, v) :: fs' else (k, v1) :: putF f v fs') (if k = f then (k, r) :: fs else (k, r1) :: fPut f r fs)
    by_cases e : k = f
    · rw [if_pos e, if_pos e]; exact .cons ⟨rfl, hv⟩ t
    · rw [if_neg e, if_neg e]; exact .cons ⟨rfl, h.2⟩ (kvs_fput hv t)
theorem dputW_ok {va vb r : Sv} {P : Ms → Prop} {x y v : V} (h : dputW va vb r M P) (w : Wt K T M G H) (hx : Vk K G x va) (hy : Vk K G y vb) (hv : Vk K G v r) : ∃ a H' M', x = .ref a ∧ DPut H a y v H' ∧ P M' ∧ Wt K T M' G H' := by
  unfold dputW at h
  split at h
  · split at h
    · obtain ⟨k, A, es, C, hk, e, hz, hp⟩ := h
      rw [e] at w
      obtain ⟨kvs, h1, h2, _⟩ := dk_at w
      have ey := keyD_ok hk hy
      subst ey
      exact ⟨_, _, _, hx, .k h1 (by rw [h2.len]; exact small1000 hz), hp, w.dput (h2.put hv)⟩
    · exact h.elim
  · exact h.elim
end
section
variable {g : Gi} {S : Sc} {X : Cx} {W : WX} {ds : List Sv} {M : Ms} {nx : Nx} {rt : PoE} {bk ct : Nx} {er : Er} {pos : Pos}
theorem small900 {n : Nat} (h : n ≤ 900) : n < 1000 := by omega
theorem aset_ok {U : Wps} (hU : WOk g U) (o2 : Xo g S X W) {o e : Expr} {f : Str} {p sp : Pos} (hc : notCmpr e = true)
    (h : U.E S e ds M (fun r M1 => U.E S o ds M1 (fun v M2 => obW v M2 fun A l c fs C => g.fl c f = true ∧ fs.length ≤ 900 ∧ nx ds (A ++ (l, .ob c (fPut f r fs)) :: C)) er) er) : PS X (.Assign [.Attribute o f p] e sp) (tS X.K g.T W ds M ⟨nx, rt, bk, ct, er⟩) := by
  refine ps_mono (ps_fld (pe_ex (ι := Sv × Ms) (p := fun z => U.E S o ds z.2 (fun v M2 => obW v M2 fun A l c fs C => g.fl c f = true ∧ fs.length ≤ 900 ∧ nx ds (A ++ (l, .ob c (fPut f z.1 fs)) :: C)) er) (t := fun z => tE X.K g.T W ds z.2 (fun v M2 => obW v M2 fun A l c fs C => g.fl c f = true ∧ fs.length ≤ 900 ∧ nx ds (A ++ (l, .ob c (fPut f z.1 fs)) :: C)) er) fun z hz => hU.E o2 hz) (hU.E o2 h) (nc_set hc)) fun D σ H ⟨G, w, s, q⟩ => ?_
  refine ⟨G, w, s, fun r M1 y G1 H1 h1 sg w1 hy => ⟨(r, M1), h1, G1, w1, s.up sg, fun v M2 x G2 H2 h2 sg2 w2 hx => ?_, q.er.up sg⟩, q.er⟩
  obtain ⟨A, l, c, fs, C, dx, fs', rfl, rfl, e2, ⟨hfl, hl, hn⟩, k1, k2⟩ := obW_ok h2 w2 hx
  obtain ⟨c1, c2⟩ := o2.ok.fl c f hfl
  rw [e2] at w2
  exact ⟨l, c, dx, fs', rfl, k1, c1, c2, by rw [k2.len]; exact small900 hl, q.nx _ _ _ _ _ hn (sg.trans sg2) (w2.oput (kvs_fput (hy.up sg2) k2)) (s.up (sg.trans sg2))⟩
theorem aaug_ok {U : Wps} (hU : WOk g U) (o2 : Xo g S X W) {o e : Expr} {f : Str} {p sp : Pos}
    (h : U.E S o ds M (fun v M1 => obW v M1 fun _ l c fs _ => g.fl c f = true ∧ ∃ i, fs.lookup f = some (I i) ∧ U.E S e ds M1 (fun r M2 => augW r fun j => ∃ A2 fs2 C2, M2 = A2 ++ (l, .ob c fs2) :: C2 ∧ fs2.length ≤ 900 ∧ nx ds (A2 ++ (l, .ob c (fPut f (I (i + j)) fs2)) :: C2)) er) er) :
    PS X (.AugAssign (.Attribute o f p) .Add e sp) (tS X.K g.T W ds M ⟨nx, rt, bk, ct, er⟩) := by
  refine ps_mono (ps_fldaug (hU.E o2 h) (pe_ex (ι := Addr × Addr × Int × Ms) (p := fun z => U.E S e ds z.2.2.2 (fun r M2 => augW r fun j => ∃ A2 fs2 C2, M2 = A2 ++ (z.1, .ob z.2.1 fs2) :: C2 ∧ fs2.length ≤ 900 ∧ nx ds (A2 ++ (z.1, .ob z.2.1 (fPut f (I (z.2.2.1 + j)) fs2)) :: C2)) er)
    (t := fun z => tE X.K g.T W ds z.2.2.2 (fun r M2 => augW r fun j => ∃ A2 fs2 C2, M2 = A2 ++ (z.1, .ob z.2.1 fs2) :: C2 ∧ fs2.length ≤ 900 ∧ nx ds (A2 ++ (z.1, .ob z.2.1 (fPut f (I (z.2.2.1 + j)) fs2)) :: C2)) er) fun z hz => hU.E o2 hz) in_add) fun D σ H ⟨G, w, s, q⟩ => ?_
  refine ⟨G, w, s, fun v M1 x G1 H1 h1 sg w1 hx => ?_, q.er⟩
  obtain ⟨A, l, c, fs, C, dx, fs', rfl, rfl, e2, ⟨hfl, i, hi, hE⟩, k1, k2⟩ := obW_ok h1 w1 hx
  obtain ⟨c1, c2⟩ := o2.ok.fl c f hfl
  rcases lookup_kvs (f := f) k2 with ⟨y, r', z1, z2, z3⟩ | ⟨_, z2⟩
  · rw [hi] at z2
    cases z2
    refine ⟨l, c, dx, fs', y, rfl, k1, c1, c2, z1, (l, c, i, M1), hE, G1, w1, s.up sg, fun r M2 u G2 H2 h2 sg2 w2 hu => ?_, q.er.up sg⟩
    have h2' : augW r (fun j => ∃ A2 fs2 C2, M2 = A2 ++ (l, .ob c fs2) :: C2 ∧ fs2.length ≤ 900 ∧ nx ds (A2 ++ (l, .ob c (fPut f (I (i + j)) fs2)) :: C2)) := h2
    unfold augW at h2'
    split at h2'
    · rename_i j
      obtain ⟨A2, fs2, C2, e3, hl, hn⟩ := h2'
      rw [e3] at w2
      obtain ⟨dx2, fs2', m1, m2, _⟩ := ob_at w2
      exact ⟨i, _, vk_int z3, vk_int hu, dx2, fs2', m1, by rw [m2.len]; exact small900 hl, q.nx _ _ _ _ _ hn (sg.trans sg2) (w2.oput (kvs_fput (r := I (i + j)) (Dp.int _) m2)) (s.up (sg.trans sg2))⟩
    · exact h2'.elim
  · rw [hi] at z2
    cases z2
theorem nosl_ok {b : Expr} (h : notSlice b = true) : NoSl b := by
  cases b <;> first | exact fun _ _ => rfl | cases h
theorem augst_ok {b : Expr} (h : notSlice b = true) : ∀ ov iv new : Value, augStore b ov iv new = (do
    holding [new, ov, iv] (setItem ov iv new)
    release [new, ov, iv] []
    pure .next) := by
  cases b <;> first | exact fun _ _ _ => rfl | cases h
theorem daug_ok {U : Wps} (hU : WOk g U) (o2 : Xo g S X W) {a b e : Expr} {p sp : Pos} (hb : notSlice b = true)
    (h : U.E S a ds M (fun va M1 => U.E S b ds M1 (fun vb M2 => dgetW va vb M2 fun o => ∃ i, o = some (I i) ∧ U.E S e ds M2 (fun r M3 => augW r fun j => dputW va vb (I (i + j)) M3 (nx ds)) er) er) er) :
    PS X (.AugAssign (.Subscript a b p) .Add e sp) (tS X.K g.T W ds M ⟨nx, rt, bk, ct, er⟩) := by
  have hu := o2.units
  refine ps_mono (ps_daug (by omega) (hU.E o2 h) (pe_sec (P := fun va M1 => U.E S b ds M1 (fun vb M2 => dgetW va vb M2 fun o => ∃ i, o = some (I i) ∧ U.E S e ds M2 (fun r M3 => augW r fun j => dputW va vb (I (i + j)) M3 (nx ds)) er) er) (Qf := fun va vb M2 => dgetW va vb M2 fun o => ∃ i, o = some (I i) ∧ U.E S e ds M2 (fun r M3 => augW r fun j => dputW va vb (I (i + j)) M3 (nx ds)) er) fun va M1 h1 => hU.E o2 h1)
    (pe_ex (ι := Sv × Sv × Int × Ms) (p := fun z => U.E S e ds z.2.2.2 (fun r M3 => augW r fun j => dputW z.1 z.2.1 (I (z.2.2.1 + j)) M3 (nx ds)) er) (t := fun z => tE X.K g.T W ds z.2.2.2 (fun r M3 => augW r fun j => dputW z.1 z.2.1 (I (z.2.2.1 + j)) M3 (nx ds)) er) fun z hz => hU.E o2 hz) in_add (augst_ok hb)) fun D σ H ⟨G, w, s, q⟩ => ?_
  refine ⟨G, w, s, fun va M1 x G1 H1 h1 sg w1 hx => ⟨(va, M1), h1, G1, w1, s.up sg, fun vb M2 y G2 H2 h2 sg2 w2 hy => ?_, q.er.up sg⟩, q.er⟩
  have hx2 := hx.up sg2
  obtain ⟨a1, o1, ro, rfl, gg, ⟨i, ei, hE⟩, e3⟩ := dgetW_ok (show dgetW va vb M2 (fun o => ∃ i, o = some (I i) ∧ U.E S e ds M2 (fun r M3 => augW r fun j => dputW va vb (I (i + j)) M3 (nx ds)) er) from h2) w2 hx2 hy
  subst ei
  rcases e3 with ⟨z, r', z1, z2, z3⟩ | ⟨_, z2⟩
  · cases z2
    rw [z1] at gg
    refine ⟨a1, z, rfl, gg, (va, vb, i, M2), hE, G2, w2, s.up (sg.trans sg2), fun r M3 u G3 H3 h3 sg3 w3 hu3 => ?_, q.er.up (sg.trans sg2)⟩
    have h3' : augW r (fun j => dputW va vb (I (i + j)) M3 (nx ds)) := h3
    unfold augW at h3'
    split at h3'
    · rename_i j
      obtain ⟨a2, H', M', ea, hput, hn, w'⟩ := dputW_ok (v := .int (i + j)) h3' w3 (hx2.up sg3) (hy.up sg3) (Dp.int _)
      cases ea
      exact ⟨i, j, vk_int z3, vk_int hu3, H', hput, q.nx _ _ _ _ _ hn (sg.trans (sg2.trans sg3)) w' (s.up (sg.trans (sg2.trans sg3)))⟩
    · exact h3'.elim
  · cases z2
theorem ext_st {st : Stmt} (o2 : Xo g S X W) (h : extS g S st ds M nx er) : PS X st (tS X.K g.T W ds M ⟨nx, rt, bk, ct, er⟩) := by
  unfold extS at h
  split at h
  · split at h
    · rename_i hc
      exact aset_ok (wq_ok g) o2 hc h
    · exact h.elim
  · exact aaug_ok (wq_ok g) o2 h
  · split at h
    · rename_i hb
      exact daug_ok (wq_ok g) o2 hb h
    · exact h.elim
  · exact h.elim
end
/-- one of two ways of writing a place -/
theorem set_or {X : Cx} {t t' : TSet} (h : PSet X t) (h' : PSet X t') : PSet X (fun o i v H Q => t o i v H Q ∨ t' o i v H Q) := by
  intro pins s σ H o i v ov iv u Q J ro ri rv q
  rcases q with q | q
  · exact h pins s σ H o i v ov iv u Q J ro ri rv q
  · exact h' pins s σ H o i v ov iv u Q J ro ri rv q
end Cal
/-! WpQ -/
namespace Cal
open PySem PySem.Spec PyProof.Rows L2 LamX
section
variable {g : Gi} {S : Sc} {X : Cx} {W : WX} {ds : List Sv} {M : Ms} {nx : Nx} {rt : PoE} {bk ct : Nx} {er : Er} {pos : Pos}
theorem asg_map {t : Expr} {env : Env} (h : notStar t = true) : (assignEach [t] env).map (·.2) = [assign t env] := by rw [asg_one h]; rfl
theorem nc_sole {t e : Expr} {n : Nat} {env : Env} (h : notCmpr e = true) : swapsWithSole [t] e n env = pure false := nc_set (t := some t) (n := n) (env := env) h
theorem asgT_ok {U : Wps} (hU : WOk g U) (o : Xo g S X W) {ts : List Expr} {k2 : Nat} {p2 sp : Pos} {e : Expr} (hc : notCmpr e = true) (hw : swappedStores [.Tuple ts k2 p2] e X.env = pure none) (h : U.E S e ds M (fun r M1 => wpG S 9 (.Tuple ts k2 p2) r ds fun ds1 => nx ds1 M1) er) : PS X (.Assign [.Tuple ts k2 p2] e sp) (tS X.K g.T W ds M ⟨nx, rt, bk, ct, er⟩) := by
  refine ps_mono (ps_asg (hU.E o h) (pg_u (T := g.T) o.n _) (nc_sole hc) hw (asg_map rfl)) fun D σ H ⟨G, w, s, q⟩ => ⟨G, w, s, fun r M1 v G1 H1 hg sg w1 hv => ?_, q.er⟩
  exact ⟨(r, ds, _), hg, M1, G1, w1, s.up sg, hv, fun ds1 σ1 hn s1 _ => q.nx _ _ _ _ _ hn sg w1 s1⟩
theorem asgP_ok {U : Wps} (hU : WOk g U) (o : Xo g S X W) {x y : Str} {px py : Pos} {a b : Expr} {i j : Nat} {k2 k3 : Nat} {p2 p3 sp : Pos} (hi : slotL S x = some i) (hj : slotL S y = some j) (hij : i ≠ j) (ha : notStar a = true) (hb : notStar b = true) (hx : S.sc.names.lookup x = some .local) (hy : S.sc.names.lookup y = some .local)
    (hw : swappedStores [.Tuple [.Name x px, .Name y py] k2 p2] (.Tuple [a, b] k3 p3) X.env = pure (some [x, y])) (h : U.E S a ds M (fun va M1 => U.E S b ds M1 (fun vb M2 => setK ds i va fun ds1 => setK ds1 j vb fun ds2 => nx ds2 M2) er) er) :
    PS X (.Assign [.Tuple [.Name x px, .Name y py] k2 p2] (.Tuple [a, b] k3 p3) sp) (tS X.K g.T W ds M ⟨nx, rt, bk, ct, er⟩) := by
  refine ps_mono (ps_par o.calm o.nd (o.at (slotL_ok hi).1) (o.at (slotL_ok hj).1) hij (by rw [o.sc]; exact hx) (by rw [o.sc]; exact hy) (pa_cons (hU.E o h) (pa_cons (pe_sec (P := fun va M1 => U.E S b ds M1 (fun vb M2 => setK ds i va fun ds1 => setK ds1 j vb fun ds2 => nx ds2 M2) er) (Qf := fun va vb M2 => setK ds i va fun ds1 => setK ds1 j vb fun ds2 => nx ds2 M2) fun va M1 h1 => hU.E o h1) pa_nil (star_one hb)) (star_one ha)) hw (nc_sole rfl)) fun D σ H ⟨G, w, s, q⟩ => ?_
  refine ⟨G, w, s, fun va M1 v G1 H1 h1 sg w1 hv => ⟨(va, M1), h1, G1, w1, s.up sg, fun vb M2 u G2 H2 hn sg2 w2 hu => ⟨v, u, rfl, q.nx _ _ _ _ _ (by have hn : setK ds i va (fun ds1 => setK ds1 j vb fun ds2 => nx ds2 M2) := hn; rw [setK_eq, setK_eq] at hn; exact hn) (sg.trans sg2) w2 (((s.up (sg.trans sg2)).set i (hv.up sg2)).set j hu)⟩, q.er.up sg⟩, q.er⟩
theorem sub_asg {a b : Expr} {p : Pos} {env : Env} (h : notSlice b = true) : ∀ v, assign (.Subscript a b p) env v = (do
      let ov ← holding [v] (eval a env)
      let iv ← holding [v, ov] (eval b env)
      standAt p
      holding [v, ov, iv] (setItem ov iv v)
      release [v, ov, iv] []) := by
  cases b <;> first | exact fun _ => rfl | cases h
theorem asgS_ok {U : Wps} (hU : WOk g U) (o : Xo g S X W) {a b e : Expr} {p sp : Pos} (hc : notCmpr e = true) (hb : notSlice b = true)
    (h : U.E S e ds M (fun r M1 => U.E S a ds M1 (fun va M2 => U.E S b ds M2 (fun vb M3 => setW va vb r ds M3 nx) er) er) er) : PS X (.Assign [.Subscript a b p] e sp) (tS X.K g.T W ds M ⟨nx, rt, bk, ct, er⟩) := by
  refine ps_mono (ps_asg (hU.E o h) (pg_sub (to := fun σ H q => ∃ z : Sv × Ms, U.E S a ds z.2 (fun va M2 => U.E S b ds M2 (fun vb M3 => setW va vb z.1 ds M3 nx) er) er ∧ tE X.K g.T W ds z.2 (fun va M2 => U.E S b ds M2 (fun vb M3 => setW va vb z.1 ds M3 nx) er) er σ H q)
      (ti := fun σ H q => ∃ z : Sv × Sv × Ms, U.E S b ds z.2.2 (fun vb M3 => setW z.2.1 vb z.1 ds M3 nx) er ∧ tE X.K g.T W ds z.2.2 (fun vb M3 => setW z.2.1 vb z.1 ds M3 nx) er σ H q)
      (pe_ex (ι := Sv × Ms) (p := fun z => U.E S a ds z.2 _ er) (t := fun z => tE X.K g.T W ds z.2 _ er) fun z hz => hU.E o hz)
      (pe_ex (ι := Sv × Sv × Ms) (p := fun z => U.E S b ds z.2.2 _ er) (t := fun z => tE X.K g.T W ds z.2.2 _ er) fun z hz => hU.E o hz) (set_or set_list (set_dict (by have := o.units; omega))) (sub_asg hb)) (nc_sole hc) sub_none (asg_map rfl)) fun D σ H ⟨G, w, s, q⟩ => ?_
  refine ⟨G, w, s, fun r M1 v G1 H1 h1 sg w1 hv => ⟨(r, M1), h1, G1, w1, s.up sg, fun va M2 x G2 H2 h2 sg2 w2 hx => ⟨(r, va, M2), h2, G2, w2, s.up (sg.trans sg2), fun vb M3 y G3 H3 h3 sg3 w3 hy => ?_, q.er.up (sg.trans sg2)⟩, q.er.up sg⟩, q.er⟩
  have sga := sg.trans (sg2.trans sg3)
  have h3' : setW va vb r ds M3 nx := h3
  unfold setW at h3'
  split at h3'
  · obtain ⟨i, e1, h4⟩ := intW_ok h3' hy
    obtain ⟨A, rs, C, vs, e2, ⟨j, hj, hn⟩, z1, z2, z3⟩ := atM_lst h4 w3
    have hx' : x = .ref _ := hx
    subst hx' e1 e2
    exact .inl ⟨_, vs, i, j, rfl, rfl, z1, by rw [z2.len]; exact hj, q.nx _ _ _ _ _ hn sga (w3.mput (m' := .lst _) (vks_set (hv.up (sg2.trans sg3)) j z2)) (s.up sga)⟩
  · obtain ⟨a2, H', M', ea, hput, hn, w'⟩ := dputW_ok h3' w3 (hx.up sg3) hy (hv.up (sg2.trans sg3))
    exact .inr ⟨a2, H', ea, hput, q.nx _ _ _ _ _ hn sga w' (s.up sga)⟩
  · exact h3'.elim
theorem aug_ok {U : Wps} (hU : WOk g U) (o : Xo g S X W) {x : Str} {px sp : Pos} {e : Expr} {i : Nat} {a : Int} (hi : slotL S x = some i) (hd : ds[i]? = some (I a)) (h : U.E S e ds M (fun r M1 => augW r fun b => setK ds i (I (a + b)) fun ds1 => nx ds1 M1) er) : PS X (.AugAssign (.Name x px) .Add e sp) (tS X.K g.T W ds M ⟨nx, rt, bk, ct, er⟩) := by
  obtain ⟨h1, h2, h3⟩ := slotL_ok hi
  refine ps_mono (ps_aug (i := i) o.nd (o.at h1) (o.loc h2) (hU.E o h) ip_add (o.hf h3)) fun D σ H ⟨G, w, s, q⟩ => ?_
  obtain ⟨v, e1, e2⟩ := s.val hd (by intro z; cases z)
  refine ⟨v, e1, G, w, s, fun r M1 y G1 H1 hn sg w1 hy => ?_, q.er⟩
  have hn' : augW r (fun b => setK ds i (I (a + b)) fun ds1 => nx ds1 M1) := hn
  unfold augW at hn'
  split at hn'
  · exact ⟨a, _, vk_int e2, vk_int hy, q.nx _ _ _ _ _ (by rw [setK_eq] at hn'; exact hn') sg w1 ((s.up sg).set i (r := I _) (Dp.int _))⟩
  · exact hn'.elim
abbrev uV (K : PySem.W.Frag) (T : Tb) (S : Sc) (ts : List Expr) : TGs := fun vs σ H q => ∃ z : List Sv × List Sv × (List Sv → Prop), setNs S ts z.1 z.2.1 z.2.2 ∧ tGxs K T z.1 z.2.1 z.2.2 ((ts.map (tgSl S 1)).flatten) vs σ H q
theorem setNs_ok {T : Tb} (o : Xn S X) : ∀ {ts : List Expr} {rs : List Sv} {ds : List Sv} {Q : List Sv → Prop}, ts.all notStar = true → setNs S ts rs ds Q → PGs X ts (tGxs X.K T rs ds Q ((ts.map (tgSl S 1)).flatten))
  | [], [], ds, Q, _, h => pgs_mono pgs_nil fun vs σ H q ⟨M, G, w, s, hv, k⟩ => ⟨by cases hv; rfl, k ds σ h s fun _ _ => rfl⟩
  | [], _ :: _, ds, Q, _, h => by unfold setNs at h; exact h.elim
  | t :: ts, rs, ds, Q, hs, h => by
    rw [List.all_cons, Bool.and_eq_true] at hs
    cases t with
    | Name x p =>
      cases rs with
      | nil => unfold setNs at h; exact h.elim
      | cons r rs =>
        unfold setNs at h
        split at h
        · rename_i i hi
          have one : wpG S 1 (.Name x p) r ds (fun ds1 => setNs S ts rs ds1 Q) := by
            unfold wpG
            rw [hi]
            exact h
          refine pgs_mono (pgs_cons (wpG_ok (T := T) o 1 (.Name x p) r ds _ one) (pgs_ex (ι := List Sv) (p := fun ds1 => setNs S ts rs ds1 Q) (t := fun ds1 => tGxs X.K T rs ds1 Q ((ts.map (tgSl S 1)).flatten)) fun ds1 h1 => setNs_ok o hs.2 h1) (by rw [asg_one hs.1]; rfl)) fun vs σ H q ⟨M, G, w, s, hv, k⟩ => ?_
          cases hv with
          | cons hv1 hv2 =>
            refine ⟨_, _, rfl, M, G, w, s, hv1, fun ds1 σ1 h1 s1 c1 => ⟨ds1, h1, M, G, w, s1, hv2, fun ds2 σ2 h2 s2 c2 => k ds2 σ2 h2 s2 fun us hu => ?_⟩⟩
            exact (c2 us fun t ht => hu t (by rw [List.map_cons, List.flatten_cons]; exact List.mem_append_right _ ht)).trans (c1 us fun t ht => hu t (by rw [List.map_cons, List.flatten_cons]; exact List.mem_append_left _ ht))
        · exact h.elim
    | _ => cases rs <;> (unfold setNs at h; exact h.elim)
theorem asgV_ok {U : Wps} (hU : WOk g U) (o : Xo g S X W) {ts vs : List Expr} {k2 k3 : Nat} {p2 p3 sp : Pos} (hw : swappedStores [.Tuple ts k2 p2] (.Tuple vs k3 p3) X.env = pure none) (hvs : vs.all notStar = true) (hts : ts.all notStar = true)
    (h : wpL (fun e M Q => U.E S e ds M Q er) vs M fun rs M1 => Nat.ble rs.length 1000 = true ∧ setNs S ts rs ds fun ds1 => nx ds1 M1) : PS X (.Assign [.Tuple ts k2 p2] (.Tuple vs k3 p3) sp) (tS X.K g.T W ds M ⟨nx, rt, bk, ct, er⟩) := by
  obtain ⟨a1, a2⟩ := asg_all (env := X.env) hts
  have hg : PGs X ts (uV X.K g.T S ts) := pgs_ex (ι := List Sv × List Sv × (List Sv → Prop)) (p := fun z => setNs S ts z.1 z.2.1 z.2.2) (t := fun z => tGxs X.K g.T z.1 z.2.1 z.2.2 ((ts.map (tgSl S 1)).flatten)) fun z hz => setNs_ok o.n hts hz
  refine ps_mono (ps_asg (pe_tup (wpL_ok (fun e M Q h => hU.E o h) hvs h)) (pg_tup (n := ts.length) o.calm hg a1 a2) (nc_sole rfl) hw (asg_map rfl)) fun D σ H ⟨G, w, s, q⟩ => ⟨G, w, s, fun rs M1 us G1 H1 hr sg w1 hv => ?_, q.er⟩
  obtain ⟨hz, hn⟩ := hr
  have hlen : us.length = ts.length := by
    have key : ∀ (ts : List Expr) (rs : List Sv) (ds : List Sv) (Q : List Sv → Prop), setNs S ts rs ds Q → rs.length = ts.length := by
      intro ts
      induction ts with
      | nil => intro rs ds Q h; cases rs with
        | nil => rfl
        | cons _ _ => unfold setNs at h; exact h.elim
      | cons t ts ih =>
        intro rs ds Q h
        cases t with
        | Name x p =>
          cases rs with
          | nil => unfold setNs at h; exact h.elim
          | cons r rs =>
            unfold setNs at h
            split at h
            · rw [setK_eq] at h
              rw [List.length_cons, List.length_cons, ih _ _ _ h]
            · exact h.elim
        | _ => cases rs <;> (unfold setNs at h; exact h.elim)
    rw [hv.len]
    exact key _ _ _ _ hn
  refine ⟨by rw [hv.len]; exact Nat.le_of_lt (small1000 (Nat.le_of_ble_eq_true hz)), fun p hp => ?_⟩
  obtain ⟨g2, w2⟩ := w1.new hp (.tup us)
  exact ⟨p, us, rfl, SqT.of upd_same, hlen, (rs, ds, _), hn, M1, _, w2, s.up (sg.trans g2), hv.up g2, fun ds1 σ1 hn s1 _ => q.nx _ _ _ _ _ hn (sg.trans g2) w2 s1⟩
theorem forW_ok {nx : Nx} {rt : PoE} {bk ct : Nx} {er : Er} (x : Xs g S X W) {f : StF} (hf : ∀ st ds M nx rt bk ct er, f st ds M nx rt bk ct er → PS X st (tS X.K g.T W ds M ⟨nx, rt, bk, ct, er⟩)) {tg it : Expr} {body : List Stmt} (h1 : notSet it = true)
    (h : forW g S f tg it body ds M nx rt er) : PS X (.For tg it body [] pos) (tS X.K g.T W ds M ⟨nx, rt, bk, ct, er⟩) := for_ok x hf h1 h
theorem forL_ok (x : Xs g S X W) {f : StF} (hf : ∀ st ds M nx rt bk ct er, f st ds M nx rt bk ct er → PS X st (tS X.K g.T W ds M ⟨nx, rt, bk, ct, er⟩)) {tg it : Expr} {body : List Stmt} (h1 : notSet it = true)
    (h : lkW M fun M1 un => forW g S f tg it body ds M1 (fun ds2 M2 => un M2 (nx ds2)) (fun r M2 => un M2 (rt r)) er) : PS X (.For tg it body [] pos) (tS X.K g.T W ds M ⟨nx, rt, bk, ct, er⟩) := by
  obtain ⟨A, l, es, C, e, h⟩ := h
  exact lkS_ok ⟨A, l, es, C, e, fun od kvs => forW_ok x hf h1 (h od kvs)⟩
theorem raise_ok (o : Xo g S X W) {x m : Str} {j : Nat} {p1 p2 p3 p4 : Pos} {c : Addr} (hg : globB S x = true) (he : g.ex x = some c) (h : er c M) : PS X (.Raise (some (.Call (.Name x p1) [.Constant (.str m) j p2] [] p3)) none p4) (tS X.K g.T W ds M ⟨nx, rt, bk, ct, er⟩) := by
  obtain ⟨g1, g2⟩ := o.gl hg
  obtain ⟨e1, e2, xB⟩ := o.ok.ex x c he
  subst e1
  obtain ⟨x1, x2, x3, x4⟩ := He.exc_ok xB
  exact ps_mono (ps_raise o.calm o.tk (pmk_own PySem.F.excBase_ValueError x1 e2 x2 (raises_own x3 x4) g1 g2)) fun D σ H ⟨G, w, s, q⟩ => q.er _ M G H σ h (Same.refl _) w
theorem if_ok {U : Wps} (hU : WOk g U) (o : Xo g S X W) {f : StF} (hf : ∀ st ds M nx rt bk ct er, f st ds M nx rt bk ct er → PS X st (tS X.K g.T W ds M ⟨nx, rt, bk, ct, er⟩)) {c : Expr} {a b : List Stmt} {sp : Pos} (h : U.T S c ds M (fun t M1 => brP t (wpSs f a ds M1 nx rt bk ct er) (wpSs f b ds M1 nx rt bk ct er)) er) : PS X (.If c a b sp) (tS X.K g.T W ds M ⟨nx, rt, bk, ct, er⟩) := by
  refine ps_mono (ps_if (hU.T o h) (pss_ex (ι := Ms) (p := fun M1 => wpSs f a ds M1 nx rt bk ct er) (t := fun M1 => tS X.K g.T W ds M1 ⟨nx, rt, bk, ct, er⟩) fun M1 h1 => wpSs_ok hf h1) (pss_ex (ι := Ms) (p := fun M1 => wpSs f b ds M1 nx rt bk ct er) (t := fun M1 => tS X.K g.T W ds M1 ⟨nx, rt, bk, ct, er⟩) fun M1 h1 => wpSs_ok hf h1)) fun D σ H ⟨G, w, s, q⟩ => ⟨G, w, s, fun t M1 G1 H1 h1 sg w1 => ?_, q.er⟩
  cases t with
  | true => exact iteT ⟨M1, h1, G1, w1, s.up sg, q.up sg⟩
  | false => exact iteF ⟨M1, h1, G1, w1, s.up sg, q.up sg⟩
theorem stepS_ok (x : Xs g S X W) {f : StF} (hf : ∀ st ds M nx rt bk ct er, f st ds M nx rt bk ct er → PS X st (tS X.K g.T W ds M ⟨nx, rt, bk, ct, er⟩)) (st : Stmt) (ds : List Sv) (M : Ms) (nx : Nx) (rt : PoE) (bk ct : Nx) (er : Er) (h : stepS g S f st ds M nx rt bk ct er) : PS X st (tS X.K g.T W ds M ⟨nx, rt, bk, ct, er⟩) := by
  have o := x.o
  have hU := wq_ok g
  unfold stepS at h
  split at h
  · exact ps_mono ps_pass fun D σ H ⟨G, w, s, q⟩ => q.nx _ _ _ _ _ h (Same.refl _) w s
  · exact ps_mono ps_break fun D σ H ⟨G, w, s, q⟩ => q.bk _ _ _ _ _ h (Same.refl _) w s
  · exact ps_mono ps_continue fun D σ H ⟨G, w, s, q⟩ => q.ct _ _ _ _ _ h (Same.refl _) w s
  · exact ps_mono (ps_ret (hU.E o h)) fun D σ H ⟨G, w, s, q⟩ => ⟨G, w, s, fun r M1 v G1 H1 hr sg w1 hv => q.rt _ _ _ _ _ hr sg w1 hv, q.er⟩
  · exact ps_mono ps_retN fun D σ H ⟨G, w, s, q⟩ => q.rt (.dat .none) M _ G H h (Same.refl _) w Dp.non
  · split at h
    · rename_i hc
      exact ps_mono (ps_expr (hU.E o h) (nc_set hc)) fun D σ H ⟨G, w, s, q⟩ => ⟨G, w, s, fun r M1 v G1 H1 hn sg w1 hv => q.nx _ _ _ _ _ hn sg w1 (s.up sg), q.er⟩
    · exact h.elim
  · exact if_ok hU o hf h
  · split at h
    · rename_i i hi
      have hU2 := wps_ok g 39
      unfold wq at h
      generalize wps g 39 = U2 at h hU2
      split at h
      · rename_i hk
        exact asgN_ok hU2 o hi hk h
      · exact h.elim
    · exact h.elim
  · split at h
    · exact h.elim
    · rename_i hc
      split at h
      · rename_i ht
        exact asgT_ok hU o hc (notv (es := []) (a := .Constant .none 0 ⟨0, 0, 0, 0⟩) ht) h
      · split at h
        · split at h
          · split at h
            · exact asgT_ok hU o hc (by rw [env_eta o.sc]; exact h.1 X.env) h.2
            · exact asgV_ok hU o (by rw [env_eta o.sc]; exact h.1 X.env) h.2.1 h.2.2.1 h.2.2.2
          · split at h
            · split at h
              · rename_i i j hi hj
                split at h
                · rename_i hcond
                  simp only [Bool.and_eq_true, Bool.not_eq_true', decide_eq_false_iff_not, beq_iff_eq] at hcond
                  exact asgP_ok hU o hi hj hcond.1.1.1.1 hcond.1.1.1.2 hcond.1.1.2 hcond.1.2 hcond.2 (by rw [env_eta o.sc]; exact h.1 X.env) h.2
                · exact h.elim
              · exact h.elim
            · exact h.elim
          · exact h.elim
        · exact h.elim
  · split at h
    · rename_i hc
      simp only [Bool.and_eq_true] at hc
      exact asgS_ok hU o hc.1 hc.2 h
    · exact h.elim
  · split at h
    · rename_i i hi
      obtain ⟨r, e1, e2, h⟩ := findI h
      split at h
      · exact aug_ok hU o hi e1 h
      · exact h.elim
    · exact h.elim
  · split at h
    · rename_i hs
      split at h
      · exact for_ok x hf hs h
      · rcases h with h | h
        · exact for_ok x hf hs h
        · exact forL_ok x hf hs h
    · exact h.elim
  · exact while_ok x hf h
  · split at h
    · rename_i hg
      split at h
      · rename_i c hc
        exact raise_ok o hg hc h
      · exact h.elim
    · exact h.elim
  · exact ext_st o h
theorem wpS_ok (x : Xs g S X W) : ∀ (n : Nat) (st : Stmt) (ds : List Sv) (M : Ms) (nx : Nx) (rt : PoE) (bk ct : Nx) (er : Er), wpS g S n st ds M nx rt bk ct er → PS X st (tS X.K g.T W ds M ⟨nx, rt, bk, ct, er⟩)
  | 0, st, ds, M, nx, rt, bk, ct, er, h => False.elim h
  | n + 1, st, ds, M, nx, rt, bk, ct, er, h => stepS_ok x (wpS_ok x n) st ds M nx rt bk ct er h
end
/-! ### a def -/
section
variable {P : Program} {w : World} {K : PySem.W.Frag} {mg : Str → Option Value} {base : Heap}
/-- a def's body is as it promises -/
def Does (g : Gi) (S : Sc) (body : List Stmt) (s : Sig) : Prop := ∀ rs M Q E, rs.length = s.n → s.T rs M Q E → wpB g S body (startD S.N.length rs) M Q E
theorem spP_len {K : PySem.W.Frag} {T : Tb} {s : Sig} (vs : List V) (H : Hp) (Q : VK) (E : XK) (h : spP K T s vs H Q E) : vs.length = s.n := by
  obtain ⟨_, _, _, _, _, h, _⟩ := h
  exact h
theorem does_ok {g : Gi} {x : Str} {params : Arguments} {body : List Stmt} {scope : Scope} {dvs0 dvs : List V} {f : Addr} {fd : FuncData} {N ps : List Str} {us : List Value} {s : Sig} (ok : GiOk g P w K mg base) (FD : FunD K x x params body scope dvs0 [] f fd) (Sf : FnScope N ps scope)
    (hm : mg x = some (.ref f)) (hb : Binds K fd ps us) (hv : Vals dvs us) (hd : ∀ G, Vks K G dvs s.dr) (hn : ps.length = s.n) (hbk : scope.kind = .function) (hdo : Does g ⟨N, scope, fun _ => true, false, false, .no⟩ body s) : FnP P w K mg base g.T (g.k + 1) x s := by
  refine ⟨f, fd, ps, us, dvs, ?_, hm, FD.kp, hb, hv, hd⟩
  refine FD.ok Sf (fun vs H Q E h => (spP_len vs H Q E h).trans hn.symm) fun cdv A outer s' H vs Q E hr h => ?_
  obtain ⟨G, rs, M, Qp, Ep, hl, w0, hvs, hT, hok, her⟩ := h
  have hl2 : rs.length = s.n := hvs.len.symm.trans hl
  have o : Xo g ⟨N, scope, fun _ => true, false, false, .no⟩ (Bx P w K mg base N x scope f cdv A outer s' H E) (wE E) := ⟨ok, rfl, rfl, fun _ _ => rfl, Sf.nd, rfl, hr, takesB, fun z => (nomatch z), fun z => (nomatch z), fun _ z => (nomatch z), fun _ _ _ _ _ z => (nomatch z)⟩
  have hw := wpSs_ok (k := ⟨fun _ M1 => Qp (.dat .none) M1, Qp, fun _ _ => False, fun _ _ => False, Ep⟩) (wpS_ok ⟨o, passB⟩ 40) (hdo rs M Qp Ep hl2 hT)
  exact ⟨_, hw, G, w0, Sl.start hvs, fun ds' M' σ' G' H' h sg w' s' => hok (.dat .none) M' .non G' H' h sg w' Dp.non, hok, fun _ _ _ _ _ h => h.elim, fun _ _ _ _ _ h => h.elim, fun c M' G' H' σ' he sg w' => her c M' G' H' he sg w'⟩
end
end Cal
/-! WpR -/
namespace Cal
open PySem PySem.Spec PyProof.Rows L2 LamX
/-- at a def's end: what changed is forgotten, or handed back as known from now on -/
theorem Wt.perm {K : PySem.W.Frag} {T : Tb} {M M' : Ms} {G H : Hp} (w : Wt K T M G H) (p : M.Perm M') : Wt K T M' G H :=
  ⟨⟨w.w.ex, fun q hq => w.w.mu q (p.mem_iff.mpr hq), (p.map _).nodup_iff.mp w.w.nd, w.w.nt⟩, w.t⟩
inductive Shr (Q : PoE) : Sv → Ms → Prop
  | ok {r : Sv} {M : Ms} : Q r M → Shr Q r M
  | perm {r : Sv} {M M' : Ms} : M.Perm M' → Shr Q r M' → Shr Q r M
  | drop {r : Sv} {A C : Ms} {p : Addr × MO} : Shr Q r (A ++ C) → Shr Q r (A ++ p :: C)
  | frz {l : Addr} {A C : Ms} {xs : List D} : Shr Q (.dat (.list xs)) (A ++ C) → Shr Q (.raw (.ref l)) (A ++ (l, .lst (dats xs)) :: C)
theorem Shr.drop0 {Q : PoE} {r : Sv} {C : Ms} {p : Addr × MO} (h : Shr Q r C) : Shr Q r (p :: C) := Shr.drop (A := []) h
theorem Shr.frz0 {Q : PoE} {l : Addr} {C : Ms} {xs : List D} (h : Shr Q (.dat (.list xs)) C) : Shr Q (.raw (.ref l)) ((l, .lst (dats xs)) :: C) := Shr.frz (A := []) h
theorem shr_ok {K : PySem.W.Frag} {T : Tb} {G : Hp} {Q : PoE} {q : VK} (ok : okE K T G Q q) : okE K T G (Shr Q) q := by
  intro r M' v G' H' h
  induction h generalizing v G' H' with
  | ok h => exact fun sg w hv => ok _ _ v G' H' h sg w hv
  | perm p h ih => exact fun sg w hv => ih v G' H' sg (w.perm p) hv
  | drop h ih => exact fun sg w hv => ih v G' H' sg w.drop hv
  | frz h ih =>
    intro sg w hv
    have hv' : v = .ref _ := hv
    subst hv'
    obtain ⟨vs, h1, h2, h3⟩ := w.lst
    obtain ⟨g2, w2⟩ := w.freeze h1
    exact ih _ _ _ (sg.trans g2) w2 (Dp.lst (SqL.of upd_same) (dpsUp g2 _ (vks_dats h2)))
section
variable {P : Program} {w : World} {K : PySem.W.Frag} {mg : Str → Option Value} {base : Heap}
def DoesS (g : Gi) (S : Sc) (body : List Stmt) (s : Sig) : Prop := ∀ rs M Q E, rs.length = s.n → s.T rs M Q E → wpB g S body (startD S.N.length rs) M (Shr Q) E
theorem doesS_ok {g : Gi} {x : Str} {params : Arguments} {body : List Stmt} {scope : Scope} {dvs0 dvs : List V} {f : Addr} {fd : FuncData} {N ps : List Str} {us : List Value} {s : Sig} (ok : GiOk g P w K mg base) (FD : FunD K x x params body scope dvs0 [] f fd) (Sf : FnScope N ps scope)
    (hm : mg x = some (.ref f)) (hb : Binds K fd ps us) (hv : Vals dvs us) (hd : ∀ G, Vks K G dvs s.dr) (hn : ps.length = s.n) (hdo : DoesS g ⟨N, scope, fun _ => true, false, false, .no⟩ body s) : FnP P w K mg base g.T (g.k + 1) x s := by
  refine ⟨f, fd, ps, us, dvs, ?_, hm, FD.kp, hb, hv, hd⟩
  refine FD.ok Sf (fun vs H Q E h => (spP_len vs H Q E h).trans hn.symm) fun cdv A outer s' H vs Q E hr h => ?_
  obtain ⟨G, rs, M, Qp, Ep, hl, w0, hvs, hT, hok, her⟩ := h
  have hl2 : rs.length = s.n := hvs.len.symm.trans hl
  have o : Xo g ⟨N, scope, fun _ => true, false, false, .no⟩ (Bx P w K mg base N x scope f cdv A outer s' H E) (wE E) := ⟨ok, rfl, rfl, fun _ _ => rfl, Sf.nd, rfl, hr, takesB, fun z => (nomatch z), fun z => (nomatch z), fun _ z => (nomatch z), fun _ _ _ _ _ z => (nomatch z)⟩
  have hw := wpSs_ok (k := ⟨fun _ M1 => Shr Qp (.dat .none) M1, Shr Qp, fun _ _ => False, fun _ _ => False, Ep⟩) (wpS_ok ⟨o, passB⟩ 40) (hdo rs M Qp Ep hl2 hT)
  have hok2 := shr_ok hok
  exact ⟨_, hw, G, w0, Sl.start hvs, fun ds' M' σ' G' H' h sg w' s' => hok2 (.dat .none) M' .non G' H' h sg w' Dp.non, hok2, fun _ _ _ _ _ h => h.elim, fun _ _ _ _ _ h => h.elim, fun c M' G' H' σ' he sg w' => her c M' G' H' he sg w'⟩
/-- .. for a def that makes lambdas, or calls what a lambda got -/
theorem doesL_ok {g : Gi} {x : Str} {params : Arguments} {body : List Stmt} {scope : Scope} {f Pt : Addr} {fd : FuncData} {N ps : List Str} {s : Sig} (ok : GiOk g P w K mg base) (FD : FunD K x x params body scope [] [] f fd) (Sf : FnScope N ps scope)
    (hm : mg x = some (.ref f)) (hb : Binds K fd ps []) (hn : ps.length = s.n) (hdr : s.dr = []) (hf : He.fAd K (x, none) = f) (TB : TabB base mg (He.codeOf K (x, none)) Pt) (hmT : (Pt, g.lq) ∈ g.T) (hu : ∀ p ∈ g.T, p.1 = Pt → p.2 = g.lq)
    (hq : ∀ (n a : Addr) (v : Value), (envOfC x scope n a v).qual ++ "<lambda>" = g.lq) (tk : ToldK g K mg) (hdo : DoesS g ⟨N, scope, fun _ => true, true, true, .no⟩ body s) : FnP P w K mg base g.T (g.k + 3) x s := by
  refine ⟨f, fd, ps, [], [], ?_, hm, FD.kp, hb, .nil, fun G => by rw [hdr]; exact .nil⟩
  obtain ⟨oc, od, dV, kV, doc, pm, an, cdv, ct, osl, rfl, lk, hcd, _, _⟩ := FD.ex
  obtain ⟨c, rfl⟩ := He.codeIn_ref hcd
  have ec : He.codeOf K (x, none) = c := He.codeOf_eq (by rw [hf]; exact lk) rfl
  rw [ec] at TB
  refine fn_of lk hcd Sf (fun vs H Q E h => (spP_len vs H Q E h).trans hn.symm) fun A outer s' H vs Q E hr h => ?_
  obtain ⟨G, rs, M, Qp, Ep, hl, w0, hvs, hT, hok, her⟩ := h
  have hl2 : rs.length = s.n := hvs.len.symm.trans hl
  have o : Xo g ⟨N, scope, fun _ => true, true, true, .no⟩ (Bx P w K mg base N x scope f (.ref c) A outer s' H E) (wE E) := ⟨ok, rfl, rfl, fun _ _ => rfl, Sf.nd, rfl, hr.mono (by omega), takesB, fun _ => ⟨⟨c, Pt, TB, rfl, hmT, hu⟩, hq _ _ _⟩, fun _ => ⟨tk, hq _ _ _, hr⟩, fun _ z => (nomatch z), fun _ _ _ _ _ z => (nomatch z)⟩
  have hw := wpSs_ok (k := ⟨fun _ M1 => Shr Qp (.dat .none) M1, Shr Qp, fun _ _ => False, fun _ _ => False, Ep⟩) (wpS_ok ⟨o, passB⟩ 40) (hdo rs M Qp Ep hl2 hT)
  have hok2 := shr_ok hok
  exact ⟨_, hw, G, w0, Sl.start hvs, fun ds' M' σ' G' H' h sg w' s' => hok2 (.dat .none) M' .non G' H' h sg w' Dp.non, hok2, fun _ _ _ _ _ h => h.elim, fun _ _ _ _ _ h => h.elim, fun c M' G' H' σ' he sg w' => her c M' G' H' he sg w'⟩
end
end Cal
/-! WpU -/
namespace Cal
open PySem PySem.Spec PyProof.Rows L2 LamX
section
variable {P : Program} {w : World} {K : PySem.W.Frag} {mg : Str → Option Value} {base : Heap}
/-- .. for a def that keeps lambdas which capture its names -/
theorem doesK_ok {g : Gi} {x : Str} {params : Arguments} {body : List Stmt} {scope : Scope} {f Pt : Addr} {fd : FuncData} {N ps : List Str} {s : Sig} (ok : GiOk g P w K mg base) (FD : FunD K x x params body scope [] [] f fd) (Sf : FnScope N ps scope)
    (hm : mg x = some (.ref f)) (hb : Binds K fd ps []) (hn : ps.length = s.n) (hdr : s.dr = []) (hf : He.fAd K (x, none) = f) (TB : TabB base mg (He.codeOf K (x, none)) Pt) (hmT : (Pt, g.lq) ∈ g.T) (hu : ∀ p ∈ g.T, p.1 = Pt → p.2 = g.lq)
    (hq : ∀ (n a : Addr) (v : Value), (envOfC x scope n a v).qual ++ "<lambda>" = g.lq) (tk : ToldK g K mg) (hdo : ∀ cs, DoesS g ⟨N, scope, fun _ => true, true, true, .df cs⟩ body s) : FnP P w K mg base g.T (g.k + 3) x s := by
  refine ⟨f, fd, ps, [], [], ?_, hm, FD.kp, hb, .nil, fun G => by rw [hdr]; exact .nil⟩
  obtain ⟨oc, od, dV, kV, doc, pm, an, cdv, ct, osl, rfl, lk, hcd, _, _⟩ := FD.ex
  obtain ⟨c, rfl⟩ := He.codeIn_ref hcd
  have ec : He.codeOf K (x, none) = c := He.codeOf_eq (by rw [hf]; exact lk) rfl
  rw [ec] at TB
  refine fn_of lk hcd Sf (fun vs H Q E h => (spP_len vs H Q E h).trans hn.symm) fun A outer s' H vs Q E hr h => ?_
  obtain ⟨G, rs, M, Qp, Ep, hl, w0, hvs, hT, hok, her⟩ := h
  have hl2 : rs.length = s.n := hvs.len.symm.trans hl
  have o : Xo g ⟨N, scope, fun _ => true, true, true, .df (Bx P w K mg base N x scope f (.ref c) A outer s' H E).env.cells⟩ (Bx P w K mg base N x scope f (.ref c) A outer s' H E) (wE E) := ⟨ok, rfl, rfl, fun _ _ => rfl, Sf.nd, rfl, hr.mono (by omega), takesB, fun _ => ⟨⟨c, Pt, TB, rfl, hmT, hu⟩, hq _ _ _⟩, fun _ => ⟨tk, hq _ _ _, hr⟩, fun _ z => by cases z; rfl, fun _ _ _ _ _ z => (nomatch z)⟩
  have hw := wpSs_ok (k := ⟨fun _ M1 => Shr Qp (.dat .none) M1, Shr Qp, fun _ _ => False, fun _ _ => False, Ep⟩) (wpS_ok ⟨o, passB⟩ 40) (hdo _ rs M Qp Ep hl2 hT)
  have hok2 := shr_ok hok
  exact ⟨_, hw, G, w0, Sl.start hvs, fun ds' M' σ' G' H' h sg w' s' => hok2 (.dat .none) M' .non G' H' h sg w' Dp.non, hok2, fun _ _ _ _ _ h => h.elim, fun _ _ _ _ _ h => h.elim, fun c M' G' H' σ' he sg w' => her c M' G' H' he sg w'⟩
end
end Cal
/-! WpT -/
namespace Cal
open PySem PySem.Spec PyProof.Rows L2 LamX
/-! between two statements: what changes no more is known from then on -/
def frzS (l : Addr) (xs : List D) : Sv → Sv
  | .raw (.ref a) => if a = l then .dat (.list xs) else .raw (.ref a)
  | r => r
inductive ShN (nx : Nx) : List Sv → Ms → Prop
  | ok {ds : List Sv} {M : Ms} : nx ds M → ShN nx ds M
  | drop {ds : List Sv} {A C : Ms} {p : Addr × MO} : ShN nx ds (A ++ C) → ShN nx ds (A ++ p :: C)
  | frz {ds : List Sv} {l : Addr} {A C : Ms} {xs : List D} : ShN nx (ds.map (frzS l xs)) (A ++ C) → ShN nx ds (A ++ (l, .lst (dats xs)) :: C)
theorem frzS_ok {K : PySem.W.Frag} {G : Hp} {l : Addr} {xs : List D} (h : Dp K G (.ref l) (.list xs)) {o : Option V} {r : Sv} (hs : So K G o r) : So K G o (frzS l xs r) := by
  unfold frzS
  split
  · rename_i a
    split
    · rename_i e
      subst e
      cases o with
      | none => exact hs
      | some v =>
        have : v = .ref a := hs
        subst this
        exact h
    · exact hs
  · exact hs
theorem frzSl {K : PySem.W.Frag} {G : Hp} {l : Addr} {xs : List D} (h : Dp K G (.ref l) (.list xs)) : ∀ {σ : L2.St} {ds : List Sv}, Sl K G σ ds → Sl K G σ (ds.map (frzS l xs))
  | _, _, .nil => .nil
  | _, _, .cons a t => .cons (frzS_ok h a) (frzSl h t)
theorem shN_ok {K : PySem.W.Frag} {T : Tb} {G : Hp} {nx : Nx} {q : L2.St → Hp → Prop} (ok : ∀ ds' M' σ' G' H', nx ds' M' → Same G G' → Wt K T M' G' H' → Sl K G' σ' ds' → q σ' H') : ∀ ds' M' σ' G' H', ShN nx ds' M' → Same G G' → Wt K T M' G' H' → Sl K G' σ' ds' → q σ' H' := by
  intro ds M σ G' H' h
  induction h generalizing G' with
  | ok h => exact fun sg w s => ok _ _ σ G' H' h sg w s
  | drop h ih => exact fun sg w s => ih G' sg w.drop s
  | frz h ih =>
    intro sg w s
    obtain ⟨vs, h1, h2, h3⟩ := w.lst
    obtain ⟨g2, w2⟩ := w.freeze h1
    exact ih _ (sg.trans g2) w2 (frzSl (Dp.lst (SqL.of upd_same) (dpsUp g2 _ (vks_dats h2))) (s.up g2))
section
variable {P : Program} {w : World} {K : PySem.W.Frag} {mg : Str → Option Value} {base : Heap}
/-- the body in two parts -/
def DoesF (n : Nat) (g : Gi) (S : Sc) (body : List Stmt) (s : Sig) : Prop := ∀ rs M Q E, rs.length = s.n → s.T rs M Q E →
  wpSs (wpS g S 40) (body.take n) (startD S.N.length rs) M (ShN fun ds1 M1 => wpSs (wpS g S 40) (body.drop n) ds1 M1 (fun _ M1 => Shr Q (.dat .none) M1) (Shr Q) (fun _ _ => False) (fun _ _ => False) E) (Shr Q) (fun _ _ => False) (fun _ _ => False) E
theorem wpSs_app {X : Cx} {T : Tb} {W : WX} {f : StF} (hf : ∀ st ds M nx rt bk ct er, f st ds M nx rt bk ct er → PS X st (tS X.K T W ds M ⟨nx, rt, bk, ct, er⟩)) {s2 : List Stmt} {k : Kt} : ∀ {s1 : List Stmt} {ds : List Sv} {M : Ms}, wpSs f s1 ds M (ShN fun ds1 M1 => wpSs f s2 ds1 M1 k.nx k.rt k.bk k.ct k.er) k.rt k.bk k.ct k.er → PSs X (s1 ++ s2) (tS X.K T W ds M k)
  | [], ds, M, h => by
    have h : ShN (fun ds1 M1 => wpSs f s2 ds1 M1 k.nx k.rt k.bk k.ct k.er) ds M := h
    refine pss_mono (pss_ex (ι := List Sv × Ms) (p := fun z => wpSs f s2 z.1 z.2 k.nx k.rt k.bk k.ct k.er) (t := fun z => tS X.K T W z.1 z.2 k) fun z hz => wpSs_ok hf hz) fun D σ H ⟨G, w, s, q⟩ => ?_
    exact shN_ok (G := G) (q := fun σ' H' => ∃ z : List Sv × Ms, wpSs f s2 z.1 z.2 k.nx k.rt k.bk k.ct k.er ∧ tS X.K T W z.1 z.2 k D σ' H') (fun ds1 M1 σ1 G1 H1 h1 sg w1 s1 => ⟨(ds1, M1), h1, G1, w1, s1, q.up sg⟩) ds M σ G H h (Same.refl _) w s
  | st :: ss, ds, M, h => by
    refine pss_mono (pss_cons (hf st ds M _ _ _ _ _ h) (pss_ex (ι := List Sv × Ms) (p := fun z => wpSs f ss z.1 z.2 (ShN fun ds1 M1 => wpSs f s2 ds1 M1 k.nx k.rt k.bk k.ct k.er) k.rt k.bk k.ct k.er) (t := fun z => tS X.K T W z.1 z.2 k) fun z hz => wpSs_app hf hz)) fun D σ H ⟨G, w, s, q⟩ => ?_
    exact ⟨G, w, s, fun ds1 M1 σ1 G1 H1 h1 sg w1 s1 => ⟨(ds1, M1), h1, G1, w1, s1, q.up sg⟩, q.rt, q.bk, q.ct, q.er⟩
theorem doesF_ok {n : Nat} {g : Gi} {x : Str} {params : Arguments} {body : List Stmt} {scope : Scope} {dvs0 dvs : List V} {f : Addr} {fd : FuncData} {N ps : List Str} {us : List Value} {s : Sig} (ok : GiOk g P w K mg base) (FD : FunD K x x params body scope dvs0 [] f fd) (Sf : FnScope N ps scope)
    (hm : mg x = some (.ref f)) (hb : Binds K fd ps us) (hv : Vals dvs us) (hd : ∀ G, Vks K G dvs s.dr) (hn : ps.length = s.n) (hdo : DoesF n g ⟨N, scope, fun _ => true, false, false, .no⟩ body s) : FnP P w K mg base g.T (g.k + 1) x s := by
  refine ⟨f, fd, ps, us, dvs, ?_, hm, FD.kp, hb, hv, hd⟩
  refine FD.ok Sf (fun vs H Q E h => (spP_len vs H Q E h).trans hn.symm) fun cdv A outer s' H vs Q E hr h => ?_
  obtain ⟨G, rs, M, Qp, Ep, hl, w0, hvs, hT, hok, her⟩ := h
  have hl2 : rs.length = s.n := hvs.len.symm.trans hl
  have o : Xo g ⟨N, scope, fun _ => true, false, false, .no⟩ (Bx P w K mg base N x scope f cdv A outer s' H E) (wE E) := ⟨ok, rfl, rfl, fun _ _ => rfl, Sf.nd, rfl, hr, takesB, fun z => (nomatch z), fun z => (nomatch z), fun _ z => (nomatch z), fun _ _ _ _ _ z => (nomatch z)⟩
  have hw := wpSs_app (k := ⟨fun _ M1 => Shr Qp (.dat .none) M1, Shr Qp, fun _ _ => False, fun _ _ => False, Ep⟩) (wpS_ok ⟨o, passB⟩ 40) (s1 := body.take n) (s2 := body.drop n) (hdo rs M Qp Ep hl2 hT)
  rw [List.take_append_drop] at hw
  have hok2 := shr_ok hok
  exact ⟨_, hw, G, w0, Sl.start hvs, fun ds' M' σ' G' H' h sg w' s' => hok2 (.dat .none) M' .non G' H' h sg w' Dp.non, hok2, fun _ _ _ _ _ h => h.elim, fun _ _ _ _ _ h => h.elim, fun c M' G' H' σ' he sg w' => her c M' G' H' he sg w'⟩
end
end Cal
/-! WpOm -/
/-! methods: a promise from the body's reading -/
namespace Cal
open PySem PySem.Spec PyProof.Rows L2 LamX
section
variable {P : Program} {w : World} {K : PySem.W.Frag} {mg : Str → Option Value} {base : Heap}
theorem doesMS_ok {g : Gi} {x qual : Str} {params : Arguments} {body : List Stmt} {scope : Scope} {dvs0 : List V} {f : Addr} {fd : FuncData} {N ps : List Str} {s : Sig} (ok : GiOk g P w K mg base) (FD : FunD K x qual params body scope dvs0 [] f fd) (Sf : FnScope N ps scope)
    (hn : ps.length = s.n) (hdo : DoesS g ⟨N, scope, fun _ => true, false, false, .no⟩ body s) : FnOk P w K mg base (L2.CX P w) (g.k + 1) f fd ps (spP K g.T s) := by
  refine FD.ok Sf (fun vs H Q E h => (spP_len vs H Q E h).trans hn.symm) fun cdv A outer s' H vs Q E hr h => ?_
  obtain ⟨G, rs, M, Qp, Ep, hl, w0, hvs, hT, hok, her⟩ := h
  have hl2 : rs.length = s.n := hvs.len.symm.trans hl
  have o : Xo g ⟨N, scope, fun _ => true, false, false, .no⟩ (Bx P w K mg base N qual scope f cdv A outer s' H E) (wE E) := ⟨ok, rfl, rfl, fun _ _ => rfl, Sf.nd, rfl, hr, takesB, fun z => (nomatch z), fun z => (nomatch z), fun _ z => (nomatch z), fun _ _ _ _ _ z => (nomatch z)⟩
  have hw := wpSs_ok (k := ⟨fun _ M1 => Shr Qp (.dat .none) M1, Shr Qp, fun _ _ => False, fun _ _ => False, Ep⟩) (wpS_ok ⟨o, passB⟩ 40) (hdo rs M Qp Ep hl2 hT)
  have hok2 := shr_ok hok
  exact ⟨_, hw, G, w0, Sl.start hvs, fun ds' M' σ' G' H' h sg w' s' => hok2 (.dat .none) M' .non G' H' h sg w' Dp.non, hok2, fun _ _ _ _ _ h => h.elim, fun _ _ _ _ _ h => h.elim, fun c M' G' H' σ' he sg w' => her c M' G' H' he sg w'⟩
theorem doesM_ok {g : Gi} {x qual : Str} {params : Arguments} {body : List Stmt} {scope : Scope} {dvs0 : List V} {f : Addr} {fd : FuncData} {N ps : List Str} {s : Sig} (ok : GiOk g P w K mg base) (FD : FunD K x qual params body scope dvs0 [] f fd) (Sf : FnScope N ps scope)
    (hn : ps.length = s.n) (hdo : Does g ⟨N, scope, fun _ => true, false, false, .no⟩ body s) : FnOk P w K mg base (L2.CX P w) (g.k + 1) f fd ps (spP K g.T s) := by
  refine FD.ok Sf (fun vs H Q E h => (spP_len vs H Q E h).trans hn.symm) fun cdv A outer s' H vs Q E hr h => ?_
  obtain ⟨G, rs, M, Qp, Ep, hl, w0, hvs, hT, hok, her⟩ := h
  have hl2 : rs.length = s.n := hvs.len.symm.trans hl
  have o : Xo g ⟨N, scope, fun _ => true, false, false, .no⟩ (Bx P w K mg base N qual scope f cdv A outer s' H E) (wE E) := ⟨ok, rfl, rfl, fun _ _ => rfl, Sf.nd, rfl, hr, takesB, fun z => (nomatch z), fun z => (nomatch z), fun _ z => (nomatch z), fun _ _ _ _ _ z => (nomatch z)⟩
  have hw := wpSs_ok (k := ⟨fun _ M1 => Qp (.dat .none) M1, Qp, fun _ _ => False, fun _ _ => False, Ep⟩) (wpS_ok ⟨o, passB⟩ 40) (hdo rs M Qp Ep hl2 hT)
  exact ⟨_, hw, G, w0, Sl.start hvs, fun ds' M' σ' G' H' h sg w' s' => hok (.dat .none) M' .non G' H' h sg w' Dp.non, hok, fun _ _ _ _ _ h => h.elim, fun _ _ _ _ _ h => h.elim, fun c M' G' H' σ' he sg w' => her c M' G' H' he sg w'⟩
end
end Cal
/-! P17A -/
/-! k17: what is known of names; the small defs of boxes -/
namespace BW
open PySem PySem.Spec PyProof.Rows L2 Cal
def biL : List Str := ["abs", "dict", "int", "isinstance", "len", "list", "max", "min", "range", "sorted", "str", "sum", "tuple", "zip"]
def gvL : List (Str × Sv) := [("MOST_DEPTH", I 10)]
def esL : List (Str × Str) := [("BadPart", "part"), ("BadPoint", "point"), ("BadRing", "ring"), ("BadMap", "map"), ("BadPaper", "paper"), ("BadSize", "size"), ("BadText", "text"), ("BadStore", "store"), ("NoSuch", "no such")]
def exF (ea : Str → Addr) (x : Str) : Option Addr := match errs.contains x with
  | true => some (ea x)
  | false => none
def atL : List Str := ["depth", "looked", "most", "points", "size"]
abbrev Tbl := List ((Str × Nat) × Sig)
def flF (ea : Str → Addr) (c : Addr) (f : Str) : Bool := match c == ea "Fours" with
  | true => atL.contains f
  | false => false
def mtF (ea : Str → Addr) (tm : Tbl) (c : Addr) (m : Str) (n : Nat) : Option Sig := match c == ea "Fours" with
  | true => tm.lookup (m, n)
  | false => none
def mkF (ea : Str → Addr) (mk : Tbl) (x : Str) (n : Nat) : Option (Addr × Sig) := match mk.lookup (x, n) with
  | some s => some (ea "Fours", s)
  | none => none
def giL (T : Tb) (k : Nat) (ea : Str → Addr) (lq : Str) (t tm mk : Tbl) : Gi := ⟨T, k, fun x n => t.lookup (x, n), fun x => gvL.lookup x, fun x => biL.contains x, fun _ => false, ea, exF ea, esL.map fun p => (ea p.1, p.2), lq, true, flF ea, mtF ea tm, mkF ea mk⟩
abbrev gi (T : Tb) (k : Nat) (ea : Str → Addr) (t tm mk : Tbl) : Gi := giL T k ea "" t tm mk
abbrev SS (N : List Str) (st : Stmt) : Sc := ⟨N, defScope st, fun _ => true, false, false, .no⟩
section
variable {T : Tb} {k : Nat} {ea : Str → Addr} {t tm mk : Tbl} {lq : Str}
theorem fl_ok {f : Str} (h : atL.contains f = true) : (giL T k ea lq t tm mk).fl (ea "Fours") f = true := by
  show flF ea (ea "Fours") f = true
  unfold flF
  rw [beq_self_eq_true]
  exact h
theorem mt_ok {m : Str} {n : Nat} {s : Sig} (h : tm.lookup (m, n) = some s) : (giL T k ea lq t tm mk).mt (ea "Fours") m n = some s := by
  show mtF ea tm (ea "Fours") m n = some s
  unfold mtF
  rw [beq_self_eq_true]
  exact h
theorem eq_int {a b : Int} : eqB false (.int a) (.int b) = decide (a = b) := by
  unfold eqB
  by_cases h : a = b <;> simp [PyData.eqv, h]
theorem ne_int {a b : Int} : eqB true (.int a) (.int b) = !decide (a = b) := by
  unfold eqB
  by_cases h : a = b <;> simp [PyData.eqv, h]
/-! in_box -/
def inB2 (x y a b c d : Int) : Bool := decide (a ≤ x) && decide (x < c) && (decide (b ≤ y) && decide (y < d))
abbrev xy (x y : Int) : D := .tuple [.int x, .int y]
abbrev bx (a b c d : Int) : D := .tuple [.int a, .int b, .int c, .int d]
def sInBox : Sig := ⟨2, [], fun rs M Q E => ∃ x y a b c d : Int, rs = [.dat (xy x y), .dat (bx a b c d)] ∧ Q (B (inB2 x y a b c d)) M, fun hQ hE ⟨x, y, a, b, c, d, e, q⟩ => ⟨x, y, a, b, c, d, e, hQ _ _ q⟩⟩
abbrev g0 (T : Tb) (k : Nat) (ea : Str → Addr) : Gi := gi T k ea [] [] []
theorem do_in_box : Does (g0 T k ea) (SS ["spot", "box"] s_in_box) (defBody s_in_box) sInBox := by
  rintro rs M Q E _ ⟨x, y, a, b, c, d, rfl, q⟩
  unfold inB2 at q
  refine ⟨_, rfl, _, rfl, brS (fun h1 => ⟨_, rfl, brS (fun h2 => ⟨_, rfl, _, rfl, brS (fun h3 => ⟨_, rfl, ?_⟩) fun h3 => ?_⟩) fun h2 => ?_⟩) fun h1 => ?_⟩
  · rw [h1, h2, h3] at q
    exact q
  · rw [h3, Bool.false_and, Bool.and_false] at q
    exact q
  · rw [h2, Bool.and_false, Bool.false_and] at q
    exact q
  · rw [h1, Bool.false_and, Bool.false_and] at q
    exact q
/-! quarters -/
def quartersD (x y h : Int) : List D := [xy x y, xy (x + h) y, xy x (y + h), xy (x + h) (y + h)]
def sQuarters : Sig := ⟨3, [], fun rs M Q E => ∃ x y s : Int, rs = [I x, I y, I s] ∧ Q (.dat (.list (quartersD x y (s.fdiv 2)))) M, fun hQ hE ⟨x, y, s, e, q⟩ => ⟨x, y, s, e, hQ _ _ q⟩⟩
theorem do_quarters : Does (g0 T k ea) (SS ["x", "y", "size", "half"] s_quarters) (defBody s_quarters) sQuarters := by
  rintro rs M Q E _ ⟨x, y, s, rfl, q⟩
  refine ⟨⟨by decide, by decide⟩, .inl q⟩
/-! doubled -/
def sDoubled : Sig := ⟨1, [], fun rs M Q E => ∃ n : Int, rs = [I n] ∧ n ≤ 100 ∧ Q (I (2 ^ (maxI n 0).toNat)) M, fun hQ hE ⟨n, e, h, q⟩ => ⟨n, e, h, hQ _ _ q⟩⟩
theorem do_doubled : Does (g0 T k ea) (SS ["count"] s_doubled) (defBody s_doubled) sDoubled := by
  rintro rs M Q E _ ⟨n, rfl, h, q⟩
  refine ⟨⟨?_, ?_, by decide⟩, ?_⟩
  · unfold maxI
    split <;> omega
  · unfold maxI
    split <;> omega
  · rw [Int.one_mul]
    exact q
/-! is_leaf -/
theorem at_0 {α : Type} (d : α) (xs : List α) : atI (d :: xs) 0 = some d := by
  unfold atI ixN
  simp
def leafB : List D → Bool
  | [] => true
  | d :: _ => !isTupD d
def sLeaf : Sig := ⟨1, [], fun rs M Q E => ∃ xs : List D, rs = [.dat (.tuple xs)] ∧ Q (B (leafB xs)) M, fun hQ hE ⟨n, e, q⟩ => ⟨n, e, hQ _ _ q⟩⟩
theorem do_is_leaf : Does (g0 T k ea) (SS ["tree"] s_is_leaf) (defBody s_is_leaf) sLeaf := by
  rintro rs M Q E _ ⟨xs, rfl, q⟩
  cases xs with
  | nil => exact ⟨rfl, rfl, q⟩
  | cons d xs =>
    exact ⟨rfl, rfl, d, at_0 d xs, rfl, q⟩
/-! sign_at -/
def sgn (n p : Int) : Int := n / 2 ^ p.toNat % 2
theorem and_one {n : Int} (h : 0 ≤ n) : Builtin.bitAnd n 1 = n % 2 := by
  have e : Builtin.bitAnd n 1 = ((n.toNat &&& (1 : Int).toNat : Nat) : Int) := by simp [Builtin.bitAnd, h]
  rw [e, show (1 : Int).toNat = 1 from rfl, Nat.and_one_is_mod]
  omega
def sSign : Sig := ⟨2, [], fun rs M Q E => ∃ n p : Int, rs = [I n, I p] ∧ 0 ≤ n ∧ 0 ≤ p ∧ Q (I (sgn n p)) M, fun hQ hE ⟨n, p, e, h0, h, q⟩ => ⟨n, p, e, h0, h, hQ _ _ q⟩⟩
theorem do_sign : Does (g0 T k ea) (SS ["number", "place"] s_sign_at) (defBody s_sign_at) sSign := by
  rintro rs M Q E _ ⟨n, p, rfl, h0, h, q⟩
  refine ⟨h, ?_⟩
  unfold sgn at q
  rw [← and_one (Int.ediv_nonneg h0 (Int.le_of_lt (Int.pow_pos (by decide))))] at q
  exact q
end
end BW
/-! P17B -/
/-! code, uncoded -/
namespace BW
open PySem PySem.Spec PyProof.Rows L2 Cal
section
variable {T : Tb} {k : Nat} {ea : Str → Addr}
def p2 (n : Int) : Int := 2 ^ (maxI n 0).toNat
def codeN (x y : Int) : Nat → Int
  | 0 => 0
  | n + 1 => codeN x y n + sgn x (n : Int) * 2 ^ (2 * (n : Int)).toNat + sgn y (n : Int) * 2 ^ (2 * (n : Int) + 1).toNat
def sCode (ea : Str → Addr) : Sig := ⟨3, [], fun rs M Q E => ∃ (x y : Int) (d : Nat), rs = [I x, I y, I d] ∧ d ≤ 10 ∧ ((¬ (0 ≤ x ∧ x < p2 d ∧ 0 ≤ y ∧ y < p2 d) ∧ E (ea "BadSize") M) ∨ (0 ≤ x ∧ x < p2 d ∧ 0 ≤ y ∧ y < p2 d ∧ Q (I (codeN x y d)) M)),
  fun hQ hE ⟨x, y, d, e, h, q⟩ => ⟨x, y, d, e, h, q.imp (fun ⟨a, b⟩ => ⟨a, hE _ _ b⟩) fun ⟨a, b, c, d, q⟩ => ⟨a, b, c, d, hQ _ _ q⟩⟩⟩
abbrev g1 (T : Tb) (k : Nat) (ea : Str → Addr) : Gi := gi T k ea [(("doubled", 1), sDoubled), (("sign_at", 2), sSign)] [] []
theorem sgn_small (n p : Int) : 0 ≤ sgn n p ∧ sgn n p ≤ 1 := by
  unfold sgn
  constructor <;> omega
theorem rng_at {i : Int} {n j : Nat} {r : Sv} (h : (rngS i n)[j]? = some r) : j < n ∧ r = I (i + (j : Nat)) := by
  unfold rngS at h
  rw [List.getElem?_map] at h
  obtain ⟨m, h1, h2⟩ := Option.map_eq_some_iff.mp h
  obtain ⟨h3, h4⟩ := List.getElem?_eq_some_iff.mp h1
  rw [List.getElem_range] at h4
  rw [List.length_range] at h3
  subst h4
  exact ⟨h3, h2.symm⟩
set_option smartUnfolding false in
theorem do_code : Does (g1 T k ea) (SS ["x", "y", "depth", "found", "place"] s_code) (defBody s_code) (sCode ea) := by
  rintro rs M Q E _ ⟨x, y, d, rfl, hd, q⟩
  have hd2 : (d : Int) ≤ 100 := by omega
  have bad : ¬ (0 ≤ x ∧ x < p2 d ∧ 0 ≤ y ∧ y < p2 d) → E (ea "BadSize") M := fun h => q.elim (fun z => z.2) fun z => absurd ⟨z.1, z.2.1, z.2.2.1, z.2.2.2.1⟩ h
  refine brS (fun h1 => ⟨rfl, _, rfl, hd2, brS (fun h2 => ?_) fun h2 => brS (fun h3 => ⟨rfl, _, rfl, hd2, brS (fun h4 => ?_) fun h4 => ?_⟩) fun h3 => ?_⟩) fun h1 => ?_
  · have h2 : (!decide (x < p2 d)) = true := h2
    simp at h2
    exact bad (by omega)
  · have h4 : (!decide (y < p2 d)) = true := h4
    simp at h4
    exact bad (by omega)
  · have h2 : (!decide (x < p2 d)) = false := h2
    have h4 : (!decide (y < p2 d)) = false := h4
    simp at h1 h2 h3 h4
    have q := q.elim (fun z => absurd ⟨h1, h2, h3, h4⟩ z.1) fun z => z.2.2.2.2
    refine .inl ⟨⟨by omega, by omega⟩, fun i ds M' => M' = M ∧ ∃ z, ds = [I x, I y, I d, I (codeN x y i), z], ⟨rfl, _, rfl⟩, fun _ _ _ _ _ => trivial, ?_, ?_⟩
    · rintro i r ds M' hr ⟨rfl, z, rfl⟩
      obtain ⟨hi, rfl⟩ := rng_at hr
      rw [Int.zero_add]
      have s1 := sgn_small x i
      have s2 := sgn_small y i
      refine ⟨rfl, x, i, rfl, h1, by omega, .inl (.inl ⟨by decide, by decide⟩), ⟨by omega, by omega, by omega⟩, rfl, y, i, rfl, h3, by omega, .inl (.inl ⟨by decide, by decide⟩), ⟨by omega, by omega, by omega⟩, rfl, _, rfl⟩
    · rintro ds M' ⟨rfl, z, rfl⟩
      have e : (rngS 0 (d : Int).toNat).length = d := by rw [rng_len]; omega
      rw [e]
      exact q
  · simp at h3
    exact bad (by omega)
  · simp at h1
    exact bad (by omega)
end
end BW
/-! P17C -/
/-! uncoded; depth_of -/
namespace BW
open PySem PySem.Spec PyProof.Rows L2 Cal
section
variable {T : Tb} {k : Nat} {ea : Str → Addr}
def uncX (n : Int) : Nat → Int
  | 0 => 0
  | m + 1 => uncX n m + sgn n (2 * (m : Int)) * 2 ^ ((m : Int)).toNat
def uncY (n : Int) : Nat → Int
  | 0 => 0
  | m + 1 => uncY n m + sgn n (2 * (m : Int) + 1) * 2 ^ ((m : Int)).toNat
def sUncoded (ea : Str → Addr) : Sig := ⟨2, [], fun rs M Q E => ∃ (n : Int) (d : Nat), rs = [I n, I d] ∧ d ≤ 10 ∧ ((¬ (0 ≤ n ∧ n < p2 (2 * (d : Int))) ∧ E (ea "BadSize") M) ∨ (0 ≤ n ∧ n < p2 (2 * (d : Int)) ∧ Q (.dat (xy (uncX n d) (uncY n d))) M)),
  fun hQ hE ⟨n, d, e, h, q⟩ => ⟨n, d, e, h, q.imp (fun ⟨a, b⟩ => ⟨a, hE _ _ b⟩) fun ⟨a, b, q⟩ => ⟨a, b, hQ _ _ q⟩⟩⟩
set_option smartUnfolding false in
theorem do_uncoded : Does (g1 T k ea) (SS ["number", "depth", "x", "y", "place"] s_uncoded) (defBody s_uncoded) (sUncoded ea) := by
  rintro rs M Q E _ ⟨n, d, rfl, hd, q⟩
  have hd2 : 2 * (d : Int) ≤ 100 := by omega
  have bad : ¬ (0 ≤ n ∧ n < p2 (2 * (d : Int))) → E (ea "BadSize") M := fun h => q.elim (fun z => z.2) fun z => absurd ⟨z.1, z.2.1⟩ h
  refine brS (fun h1 => ⟨.inl (.inl ⟨by decide, by decide⟩), rfl, _, rfl, hd2, brS (fun h2 => ?_) fun h2 => ?_⟩) fun h1 => ?_
  · have h2 : (!decide (n < p2 (2 * (d : Int)))) = true := h2
    simp at h2
    exact bad (by omega)
  · have h2 : (!decide (n < p2 (2 * (d : Int)))) = false := h2
    simp at h1 h2
    have q := q.elim (fun z => absurd ⟨h1, h2⟩ z.1) fun z => z.2.2
    refine .inl ⟨⟨by omega, by omega⟩, fun i ds M' => M' = M ∧ ∃ z, ds = [I n, I d, I (uncX n i), I (uncY n i), z], ⟨rfl, _, rfl⟩, fun _ _ _ _ _ => trivial, ?_, ?_⟩
    · rintro i r ds M' hr ⟨rfl, z, rfl⟩
      obtain ⟨hi, rfl⟩ := rng_at hr
      rw [Int.zero_add]
      have s1 := sgn_small n (2 * (i : Int))
      have s2 := sgn_small n (2 * (i : Int) + 1)
      refine ⟨.inl (.inl ⟨by decide, by decide⟩), rfl, n, _, rfl, h1, by omega, ⟨by omega, by omega, by omega⟩, .inl (.inl ⟨by decide, by decide⟩), rfl, n, _, rfl, h1, by omega, ⟨by omega, by omega, by omega⟩, rfl, _, rfl⟩
    · rintro ds M' ⟨rfl, z, rfl⟩
      have e : (rngS 0 (d : Int).toNat).length = d := by rw [rng_len]; omega
      rw [e]
      exact q
  · simp at h1
    exact bad (by omega)
/-! depth_of -/
inductive Tr where
  | leaf (ns : List Str)
  | four (a b c d : Tr)
def Tr.row : Tr → List D
  | .leaf ns => ns.map .str
  | .four a b c d => [.tuple a.row, .tuple b.row, .tuple c.row, .tuple d.row]
abbrev Tr.d (t : Tr) : D := .tuple t.row
def Tr.dp : Tr → Nat
  | .leaf _ => 0
  | .four a b c d => 1 + max (max a.dp b.dp) (max c.dp d.dp)
theorem Tr.tup : ∀ t : Tr, isTupD t.d = true
  | .leaf _ => rfl
  | .four .. => rfl
theorem leaf_d (ns : List Str) : leafB (ns.map PyData.str) = true := by
  cases ns <;> rfl
theorem row_at {ts : List Tr} {i : Nat} {r : Sv} (h : (dats (ts.map Tr.d))[i]? = some r) : ∃ t, ts[i]? = some t ∧ r = .dat t.d := by
  unfold dats at h
  rw [List.map_map, List.getElem?_map] at h
  obtain ⟨t, h1, h2⟩ := Option.map_eq_some_iff.mp h
  exact ⟨t, h1, h2.symm⟩
theorem takeP1 {α : Type} {xs : List α} {i : Nat} {x : α} (h : xs[i]? = some x) : xs.take (i + 1) = xs.take i ++ [x] := by
  rw [List.take_add_one, h]
  rfl
theorem dats_app (xs ys : List D) : dats (xs ++ ys) = dats xs ++ dats ys := by unfold dats; rw [List.map_append]
def sDepth (n : Nat) : Sig := ⟨1, [], fun rs M Q E => ∃ t : Tr, rs = [.dat t.d] ∧ t.dp ≤ n ∧ Q (I t.dp) M, fun hQ hE ⟨t, e, h, q⟩ => ⟨t, e, h, hQ _ _ q⟩⟩
abbrev gD (T : Tb) (k : Nat) (ea : Str → Addr) (n : Nat) : Gi := gi T k ea [(("is_leaf", 1), sLeaf), (("depth_of", 1), sDepth n)] [] []
theorem do_depth0 : Does (gi T k ea [(("is_leaf", 1), sLeaf)] [] []) (SS ["tree", "part"] s_depth_of) (defBody s_depth_of) (sDepth 0) := by
  rintro rs M Q E _ ⟨t, rfl, h, q⟩
  cases t with
  | leaf ns =>
    exact ⟨rfl, _, rfl, brT (leaf_d ns) q⟩
  | four a b c d => exact absurd h (by unfold Tr.dp; omega)
set_option smartUnfolding false in
theorem do_depth {n : Nat} : Does (gD T k ea n) (SS ["tree", "part"] s_depth_of) (defBody s_depth_of) (sDepth (n + 1)) := by
  rintro rs M Q E _ ⟨t, rfl, h, q⟩
  cases t with
  | leaf ns =>
    exact ⟨rfl, _, rfl, brT (leaf_d ns) q⟩
  | four a b c d =>
    have h : 1 + max (max a.dp b.dp) (max c.dp d.dp) ≤ n + 1 := h
    have hl : leafB (Tr.four a b c d).row = false := rfl
    refine ⟨rfl, _, rfl, Or.inl ⟨by show 4 ≤ 1000; decide, fun i acc M' => M' = M ∧ acc = dats (([a, b, c, d].take i).map fun t : Tr => .int t.dp), ⟨rfl, rfl⟩, ?_, ?_, ?_⟩⟩
    · rintro i acc M' hi ⟨rfl, rfl⟩
      refine ⟨trivial, ?_⟩
      rw [dats_len, List.length_map, List.length_take]
      omega
    · rintro Dl i r acc M' hr ⟨rfl, rfl⟩
      obtain ⟨t, ht, rfl⟩ := row_at (ts := [a, b, c, d]) hr
      have hd : t.dp ≤ n := by
        have := List.mem_of_getElem? ht
        simp only [List.mem_cons, List.not_mem_nil, or_false] at this
        rcases this with e | e | e | e <;> rw [e] <;> omega
      refine ⟨_, rfl, rfl, t, rfl, hd, _, rfl, rfl, ?_⟩
      rw [takeP1 ht, List.map_append, dats_app]
      rfl
    · rintro acc M' ⟨rfl, rfl⟩
      refine ⟨by show 4 ≤ 1000; decide, .inl ⟨_, rfl, [a, b, c, d].map fun t => (t.dp : Int), rfl, by show 0 < 4; decide, fun m h1 h2 => ?_⟩⟩
      have e : m = ((max (max a.dp b.dp) (max c.dp d.dp) : Nat) : Int) := by
        have g1 := h2 (a.dp : Int) (by simp)
        have g2 := h2 (b.dp : Int) (by simp)
        have g3 := h2 (c.dp : Int) (by simp)
        have g4 := h2 (d.dp : Int) (by simp)
        simp only [List.map_cons, List.map_nil, List.mem_cons, List.not_mem_nil, or_false] at h1
        omega
      subst e
      have e2 : (1 : Int) + ((max (max a.dp b.dp) (max c.dp d.dp) : Nat) : Int) = ((Tr.four a b c d).dp : Int) := by
        show _ = ((1 + max (max a.dp b.dp) (max c.dp d.dp) : Nat) : Int)
        omega
      rw [← e2] at q
      exact q
end
end BW
/-! P17I -/
/-! the law's dice, rows in one -/
namespace BW
open PySem PySem.Spec PyProof.Rows L2 Cal
abbrev dl (xs : List D) : Sv := .dat (.list xs)
theorem log_of {a n : Nat} (h : a < 2 ^ n) (h0 : 0 < n) : a.log2 < n := PySem.Flt.log2_lt_of h0 h
theorem shape_all {xs : List D} {n : Nat} (h : ∀ x ∈ xs, x.canLay0 = true ∧ x.depth ≤ n) : PyData.canLayAll0 xs = true ∧ PyData.depthAll xs ≤ n := by
  induction xs with
  | nil => exact ⟨rfl, Nat.zero_le _⟩
  | cons x xs ih =>
    obtain ⟨h1, h2⟩ := ih fun y hy => h y (List.mem_cons_of_mem _ hy)
    obtain ⟨h3, h4⟩ := h x List.mem_cons_self
    refine ⟨?_, ?_⟩
    · show (PyData.canLay0 x && PyData.canLayAll0 xs) = true
      rw [h3, h1]
      rfl
    · show max (PyData.depth x) (PyData.depthAll xs) ≤ n
      exact Nat.max_le.mpr ⟨h4, h2⟩
theorem shaped_of {xs : List D} {n : Nat} (hn : n < 64) (h : ∀ x ∈ xs, x.canLay0 = true ∧ x.depth ≤ n) : SeqAt.shaped (.list xs) = true ∧ SeqAt.shaped (.tuple xs) = true := by
  obtain ⟨h1, h2⟩ := shape_all h
  have h3 : decide (PyData.depthAll xs + 1 ≤ 64) = true := decide_eq_true (by omega)
  refine ⟨?_, ?_⟩
  · show (PyData.canLayAll0 xs && decide (PyData.depthAll xs + 1 ≤ 64)) = true
    rw [h1, h3]
    rfl
  · show (PyData.canLayAll0 xs && decide (PyData.depthAll xs + 1 ≤ 64)) = true
    rw [h1, h3]
    rfl
theorem eq_nil {xs : List D} : eqB false (.list xs) (.list []) = xs.isEmpty := by
  cases xs <;> simp [eqB, PyData.eqv, PyData.eqvAll]
theorem takeP {α : Type} {L : List α} {i : Nat} {r : α} (hr : L[i]? = some r) : L.take (i + 1) = L.take i ++ [r] := by
  rw [List.take_add_one, hr]
  rfl
theorem cut_lo (xs : List D) {c : Nat} (h : c ≤ xs.length) : Cal.cutD xs none (some (c : Int)) = xs.take c := by
  unfold Cal.cutD
  rw [HT.sIx_none, HT.sIx_nat, Nat.min_eq_left h]
  simp
theorem dats_at {xss : List (List D)} {i : Nat} {r : Sv} (h : (dats (xss.map PyData.list))[i]? = some r) : ∃ x, xss[i]? = some x ∧ r = dl x := by
  unfold dats at h
  rw [List.map_map, List.getElem?_map] at h
  obtain ⟨t, h1, h2⟩ := Option.map_eq_some_iff.mp h
  exact ⟨t, h1, h2.symm⟩
section
variable {T : Tb} {k : Nat} {ea : Str → Addr}
/-! dice -/
abbrev di (a b c : Int) : MO := .lst [I a, I b, I c]
def sDice : Sig := ⟨1, [], fun rs M Q E => ∃ (c : Int) (A C : Ms), rs = [I c] ∧ M = A ++ C ∧ ∀ l a b d, Q (.raw (.ref l)) (A ++ (l, di a b d) :: C), fun hQ hE ⟨c, A, C, e, h1, q⟩ => ⟨c, A, C, e, h1, fun l a b d => hQ _ _ (q l a b d)⟩⟩
def sRoll : Sig := ⟨2, [], fun rs M Q E => ∃ (l : Addr) (A C : Ms) (a b d m : Int), rs = [.raw (.ref l), I m] ∧ 0 < m ∧ m ≤ 100 ∧ M = A ++ (l, di a b d) :: C ∧ ∀ r a' b' d', 0 ≤ r → r < m → Q (I r) (A ++ (l, di a' b' d') :: C),
  fun hQ hE ⟨l, A, C, a, b, d, m, e, h1, h2, h3, q⟩ => ⟨l, A, C, a, b, d, m, e, h1, h2, h3, fun r a' b' d' z y => hQ _ _ (q r a' b' d' z y)⟩⟩
abbrev gL0 (T : Tb) (k : Nat) (ea : Str → Addr) : Gi := gi T k ea [] [] []
theorem do_dice : DoesS (gL0 T k ea) (SS ["cell"] s__law_dice) (defBody s__law_dice) sDice := by
  rintro rs M Q E _ ⟨c, A, C, rfl, rfl, q⟩
  have fin : ∀ a b d l, Shr Q (.raw (.ref l)) ((l, di a b d) :: (A ++ C)) := fun a b d l => .perm List.perm_middle.symm (.ok (q l a b d))
  refine brS (fun z => brS (fun z => .inr (fin _ _ _)) fun z => ?_) fun z => ?_
  · exact ⟨by decide, ⟨by decide, by decide, by decide⟩, .inr (fin _ _ _)⟩
  · exact ⟨by decide, ⟨by decide, by decide, by decide⟩, .inr (fin _ _ _)⟩
theorem do_roll : DoesS (gL0 T k ea) (SS ["dice", "many", "found"] s__law_roll) (defBody s__law_roll) sRoll := by
  rintro rs M Q E _ ⟨l, A, C, a, b, d, m, rfl, h0, h1, rfl, q⟩
  have fd : fdivP m := ⟨by omega, by
    have : m.natAbs < 2 ^ 7 := by omega
    exact Nat.lt_of_lt_of_le (log_of this (by decide)) (by decide)⟩
  have fin : ∀ r a' b' d', 0 ≤ r → r < m → Shr Q (I r) (A ++ (l, di a' b' d') :: C) := fun r a' b' d' z y => .ok (q r a' b' d' z y)
  have p0 : ∀ x : Int, 0 ≤ x % m := fun x => Int.emod_nonneg _ (by omega)
  have p1 : ∀ x : Int, x % m < m := fun x => Int.emod_lt_of_pos _ h0
  refine ⟨A, _, C, rfl, _, rfl, rfl, rfl, brS (fun z => ?_) fun z => ⟨A, _, C, rfl, _, rfl, rfl, rfl, brS (fun z2 => ⟨A, _, C, rfl, _, rfl, brS (fun z3 => ?_) fun z3 => ?_⟩) fun z2 => ?_⟩⟩
  · exact ⟨A, _, C, rfl, _, rfl, h0, A, _, C, rfl, _, rfl, fd, A, _, C, rfl, 0, rfl, fin _ _ _ _ (p0 _) (p1 _)⟩
  · exact ⟨A, _, C, rfl, _, rfl, h0, A, _, C, rfl, _, rfl, fd, A, _, C, rfl, 0, rfl, fin _ _ _ _ (p0 _) (p1 _)⟩
  all_goals
    exact ⟨A, _, C, rfl, 2, rfl, A, _, C, rfl, _, rfl, .inl (.inr ⟨by decide, by decide⟩), A, _, C, rfl, _, rfl, .inl (.inr ⟨by decide, by decide⟩), by decide, A, _, C, rfl, 0, rfl,
      A, _, C, rfl, _, rfl, A, _, C, rfl, 1, rfl, A, _, C, rfl, _, rfl, ⟨by decide, by decide⟩, A, _, C, rfl, _, rfl, h0, fin _ _ _ _ (p0 _) (p1 _)⟩
/-! the rounds of a script: one -/
def sRounds : Sig := ⟨2, [], fun rs M Q E => ∃ ns : List Int, rs = [.dat (.list (ns.map .int)), I 1] ∧ ∀ o l a b d, Q (.raw (.ref o)) ((o, .lst [.raw (.ref l)]) :: (l, di a b d) :: M), fun hQ hE ⟨ns, e, q⟩ => ⟨ns, e, fun o l a b d => hQ _ _ (q o l a b d)⟩⟩
def tLaw : Tbl := [(("_law_dice", 1), sDice), (("_law_roll", 2), sRoll)]
abbrev gL1 (T : Tb) (k : Nat) (ea : Str → Addr) : Gi := gi T k ea tLaw [] []
theorem cut_1 (ns : List Int) : Cal.cutD (ns.map PyData.int) none (some 1) = (ns.take 1).map .int := by
  cases ns with
  | nil => rfl
  | cons n ns =>
    rw [List.map_take]
    exact cut_lo _ (c := 1) (by simp)
theorem shaped_one (ns : List Int) : SeqAt.shaped (.list (ns.map .int)) = true := (shaped_of (n := 0) (by decide) fun x hx => by
  obtain ⟨p, _, rfl⟩ := List.mem_map.mp hx
  exact ⟨rfl, Nat.le_refl _⟩).1
set_option smartUnfolding false in
theorem do_rounds : Does (gL1 T k ea) (SS ["script", "most", "cells", "cell"] s__law_rounds) (defBody s__law_rounds) sRounds := by
  rintro rs M Q E _ ⟨ns, rfl, q⟩
  have ec := cut_1 ns
  refine Or.inl ⟨by rw [ec]; exact shaped_one _, rfl, brS (fun z => .inl ?_) fun z => ?_⟩
  · refine .inl ⟨Nat.le_of_ble_eq_true rfl, fun i acc M' => (i = 0 ∧ acc = [] ∧ M' = M) ∨ (i = 1 ∧ ∃ l a b d, acc = [.raw (.ref l)] ∧ M' = (l, di a b d) :: M), .inl ⟨rfl, rfl, rfl⟩, ?_, ?_, ?_⟩
    · rintro i acc M' hi (⟨rfl, rfl, rfl⟩ | ⟨rfl, l, a, b, d, rfl, rfl⟩)
      · exact ⟨trivial, Nat.le_refl _⟩
      · exact ⟨trivial, Nat.le_refl _⟩
    · rintro Dl i r acc M' hr (⟨rfl, rfl, rfl⟩ | ⟨rfl, l, a, b, d, rfl, rfl⟩)
      · cases hr
        exact ⟨_, rfl, rfl, 0, [(Dl, .lst [])], M', rfl, rfl, fun l a b d => ⟨_, rfl, .inr ⟨rfl, l, a, b, d, rfl, rfl⟩⟩⟩
      · cases hr
    · rintro acc M' (⟨h, _⟩ | ⟨_, l, a, b, d, rfl, rfl⟩)
      · cases h
      · exact ⟨Nat.le_of_ble_eq_true rfl, .inr fun o => q o l a b d⟩
  · rw [eq_nil, ec] at z
    obtain ⟨n, en⟩ : ∃ n, (ns.take 1).map PyData.int = [.int n] := by
      cases ns with
      | nil => cases z
      | cons n ns => exact ⟨n, rfl⟩
    rw [en] at ec
    have hl : (dats (Cal.cutD (ns.map PyData.int) none (some 1))).length = 1 := by rw [ec]; rfl
    have hat : ∀ i r, (dats (Cal.cutD (ns.map PyData.int) none (some 1)))[i]? = some r → i = 0 ∧ r = I n := fun i r h => by
      rw [ec] at h
      match i, h with
      | 0, h => cases h; exact ⟨rfl, rfl⟩
    refine .inl ⟨by rw [hl]; decide, fun i acc M' => (i = 0 ∧ acc = [] ∧ M' = M) ∨ (i = 1 ∧ ∃ l a b d, acc = [.raw (.ref l)] ∧ M' = (l, di a b d) :: M), .inl ⟨rfl, rfl, rfl⟩, ?_, ?_, ?_⟩
    · rintro i acc M' hi (⟨rfl, rfl, rfl⟩ | ⟨rfl, l, a, b, d, rfl, rfl⟩)
      · exact ⟨trivial, Nat.le_refl _⟩
      · exact ⟨trivial, Nat.le_refl _⟩
    · rintro Dl i r acc M' hr (⟨rfl, rfl, rfl⟩ | ⟨rfl, l, a, b, d, rfl, rfl⟩)
      · obtain ⟨_, rfl⟩ := hat _ _ hr
        exact ⟨_, rfl, rfl, n, [(Dl, .lst [])], M', rfl, rfl, fun l a b d => ⟨_, rfl, .inr ⟨rfl, l, a, b, d, rfl, rfl⟩⟩⟩
      · have := (hat _ _ hr).1
        omega
    · rintro acc M' (⟨h, _⟩ | ⟨_, l, a, b, d, rfl, rfl⟩)
      · rw [hl] at h; cases h
      · exact ⟨Nat.le_of_ble_eq_true rfl, .inr fun o => q o l a b d⟩
end
def sFlat2 : Sig := ⟨1, [], fun rs M Q E => ∃ xss : List (List D), rs = [dl (xss.map .list)] ∧ xss.flatten.length ≤ 900 ∧ Q (dl xss.flatten) M, fun hQ hE ⟨x, e, h, q⟩ => ⟨x, e, h, hQ _ _ q⟩⟩
theorem flat_take {xss : List (List D)} {i : Nat} {x : List D} (h : xss[i]? = some x) : (xss.take (i + 1)).flatten = (xss.take i).flatten ++ x := by
  rw [takeP h, List.flatten_append]
  simp
theorem flat_len {xss : List (List D)} (i : Nat) : (xss.take i).flatten.length ≤ xss.flatten.length := by
  conv => rhs; rw [← List.take_append_drop i xss]
  rw [List.flatten_append, List.length_append]
  omega
section
variable {T : Tb} {k : Nat} {ea : Str → Addr}
set_option smartUnfolding false in
theorem do_flat2 : Does (gL0 T k ea) (SS ["rows", "found", "row"] s__law_flat) (defBody s__law_flat) sFlat2 := by
  rintro rs M Q E _ ⟨xss, rfl, hl, q⟩
  refine .inl ?_
  refine .inl ⟨fun i ds M' => M' = M ∧ ∃ z, ds = [dl (xss.map .list), dl (xss.take i).flatten, z], ⟨rfl, _, rfl⟩, fun _ _ _ _ _ => trivial, ?_, ?_⟩
  · rintro i r ds M' hr ⟨rfl, z, rfl⟩
    obtain ⟨x, hx, rfl⟩ := dats_at hr
    have h1 := flat_take hx
    have h2 := flat_len (xss := xss) (i + 1)
    rw [h1, List.length_append] at h2
    exact ⟨by omega, rfl, _, by rw [h1]⟩
  · rintro ds M' ⟨rfl, z, rfl⟩
    rw [dats_len, List.length_map, List.take_length]
    exact q
end
end BW
/-! P17D -/
/-! Fours: made, put, take -/
namespace BW
open PySem PySem.Spec PyProof.Rows L2 Cal
section
variable {T : Tb} {k : Nat} {ea : Str → Addr}
abbrev Es := List (L2.Key × Sv)
/-- what a Fours holds -/
abbrev fo (p : Addr) (d m s l : Int) : List (Str × Sv) := [("depth", I d), ("most", I m), ("size", I s), ("points", .ptr .dk p), ("looked", I l)]
/-- .. stands so among what changes -/
abbrev mo (ea : Str → Addr) (A : Ms) (p f : Addr) (d m s l : Int) (es : Es) (C : Ms) : Ms := A ++ (p, .dk es) :: (f, .ob (ea "Fours") (fo p d m s l)) :: C
theorem mo_f {A C : Ms} {x y : Addr × MO} : A ++ x :: y :: C = (A ++ [x]) ++ y :: C := List.append_cons ..
def okI (d m : Int) : Prop := 0 ≤ d ∧ d ≤ 10 ∧ 1 ≤ m
def sInit (ea : Str → Addr) : Sig := ⟨3, [], fun rs M Q E => ∃ (f : Addr) (d m : Int) (C : Ms), rs = [.ptr .ob f, I d, I m] ∧ M = (f, .ob (ea "Fours") []) :: C ∧ ((¬ okI d m ∧ E (ea "BadSize") M) ∨ (okI d m ∧ ∀ p, Q (.dat .none) (mo ea [] p f d m (p2 d) 0 [] C))),
  fun hQ hE ⟨f, d, m, C, e, e2, q⟩ => ⟨f, d, m, C, e, e2, q.imp (fun ⟨a, b⟩ => ⟨a, hE _ _ b⟩) fun ⟨a, q⟩ => ⟨a, fun p => hQ _ _ (q p)⟩⟩⟩
abbrev gI (T : Tb) (k : Nat) (ea : Str → Addr) : Gi := gi T k ea [(("doubled", 1), sDoubled)] [] []
set_option smartUnfolding false in
theorem do_init : Does (gI T k ea) (SS ["self", "depth", "most"] s_Fours___init__) (defBody s_Fours___init__) (sInit ea) := by
  rintro rs M Q E _ ⟨f, d, m, C, rfl, rfl, q⟩
  have bad : ¬ okI d m → E (ea "BadSize") ((f, .ob (ea "Fours") []) :: C) := fun h => q.elim (fun z => z.2) fun z => absurd z.1 h
  refine brS (fun h1 => brS (fun h2 => ?_) fun h2 => brS (fun h3 => ?_) fun h3 => ?_) fun h1 => ?_
  · have h2 : (!decide (d ≤ 10)) = true := h2
    simp at h2
    exact bad fun z => by have := z.2.1; omega
  · simp at h3
    exact bad fun z => by have := z.2.2; omega
  · have h2 : (!decide (d ≤ 10)) = false := h2
    simp at h1 h2 h3
    have q := q.elim (fun z => absurd (show okI d m from ⟨h1, h2, h3⟩) z.1) fun z => z.2
    refine ⟨[], _, _, C, rfl, fl_ok rfl, Nat.le_of_ble_eq_true rfl, [], _, _, C, rfl, fl_ok rfl, Nat.le_of_ble_eq_true rfl, rfl, d, rfl, by omega, [], _, _, C, rfl, fl_ok rfl, Nat.le_of_ble_eq_true rfl, fun p => ⟨[(p, .dk [])], _, _, C, rfl, fl_ok rfl, Nat.le_of_ble_eq_true rfl, [(p, .dk [])], _, _, C, rfl, fl_ok rfl, Nat.le_of_ble_eq_true rfl, q p⟩⟩
  · simp at h1
    exact bad fun z => by have := z.1; omega
/-! put -/
def inS2 (x y s : Int) : Prop := 0 ≤ x ∧ x < s ∧ 0 ≤ y ∧ y < s
def sPut (ea : Str → Addr) : Sig := ⟨4, [], fun rs M Q E => ∃ (A C : Ms) (p f : Addr) (d m s l x y : Int) (es : Es) (n : Str), rs = [.ptr .ob f, .dat (.str n), I x, I y] ∧ M = mo ea A p f d m s l es C ∧ es.length ≤ 100 ∧ ((¬ inS2 x y s ∧ E (ea "BadSize") M) ∨ (inS2 x y s ∧ Q (.dat .none) (mo ea A p f d m s l (kvPut es (.inr n) (.dat (xy x y))) C))),
  fun hQ hE ⟨A, C, p, f, d, m, s, l, x, y, es, n, e, e2, h, q⟩ => ⟨A, C, p, f, d, m, s, l, x, y, es, n, e, e2, h, q.imp (fun ⟨a, b⟩ => ⟨a, hE _ _ b⟩) fun ⟨a, q⟩ => ⟨a, hQ _ _ q⟩⟩⟩
set_option smartUnfolding false in
theorem do_put : Does (g0 T k ea) (SS ["self", "name", "x", "y"] s_Fours_put) (defBody s_Fours_put) (sPut ea) := by
  rintro rs M Q E _ ⟨A, C, p, f, d, m, s, l, x, y, es, n, rfl, rfl, hl, q⟩
  have bad : ¬ inS2 x y s → E (ea "BadSize") (mo ea A p f d m s l es C) := fun h => q.elim (fun z => z.2) fun z => absurd z.1 h
  refine brS (fun h1 => ⟨_, _, _, _, mo_f, fl_ok rfl, I s, rfl, brS (fun h2 => ?_) fun h2 => brS (fun h3 => ⟨_, _, _, _, mo_f, fl_ok rfl, I s, rfl, brS (fun h4 => ?_) fun h4 => ?_⟩) fun h3 => ?_⟩) fun h1 => ?_
  · have h2 : (!decide (x < s)) = true := h2
    simp at h2
    exact bad fun z => by have := z.2.1; omega
  · have h4 : (!decide (y < s)) = true := h4
    simp at h4
    exact bad fun z => by have := z.2.2.2; omega
  · have h2 : (!decide (x < s)) = false := h2
    have h4 : (!decide (y < s)) = false := h4
    simp at h1 h2 h3 h4
    have q := q.elim (fun z => absurd (show inS2 x y s from ⟨h1, h2, h3, h4⟩) z.1) fun z => z.2
    exact ⟨_, _, _, _, mo_f, fl_ok rfl, _, rfl, .inr n, A, es, _, rfl, rfl, by omega, q⟩
  · simp at h3
    exact bad fun z => by have := z.2.2.1; omega
  · simp at h1
    exact bad fun z => by have := z.1; omega
/-! take -/
def sTake (ea : Str → Addr) : Sig := ⟨2, [], fun rs M Q E => ∃ (A C : Ms) (p f : Addr) (d m s l : Int) (es : Es) (n : Str), rs = [.ptr .ob f, .dat (.str n)] ∧ M = mo ea A p f d m s l es C ∧ ((kvGet es (.inr n) = none ∧ E (ea "NoSuch") M) ∨ (kvGet es (.inr n) ≠ none ∧ Q (.dat .none) (mo ea A p f d m s l (kvDrop es (.inr n)) C))),
  fun hQ hE ⟨A, C, p, f, d, m, s, l, es, n, e, e2, q⟩ => ⟨A, C, p, f, d, m, s, l, es, n, e, e2, q.imp (fun ⟨a, b⟩ => ⟨a, hE _ _ b⟩) fun ⟨a, q⟩ => ⟨a, hQ _ _ q⟩⟩⟩
set_option smartUnfolding false in
theorem do_take : Does (g0 T k ea) (SS ["self", "name"] s_Fours_take) (defBody s_Fours_take) (sTake ea) := by
  rintro rs M Q E _ ⟨A, C, p, f, d, m, s, l, es, n, rfl, rfl, q⟩
  refine ⟨_, _, _, _, mo_f, fl_ok rfl, _, rfl, .inr n, es, rfl, .inl ⟨A, _, rfl⟩, brS (fun h1 => ?_) fun h1 => ?_⟩
  · have h1 : (!(kvGet es (.inr n)).isSome) = true := h1
    have e : kvGet es (.inr n) = none := by
      cases h : kvGet es (.inr n) with
      | none => rfl
      | some r => rw [h] at h1; cases h1
    exact q.elim (fun z => z.2) fun z => absurd e z.1
  · have h1 : (!(kvGet es (.inr n)).isSome) = false := h1
    cases h : kvGet es (.inr n) with
    | none => rw [h] at h1; cases h1
    | some r =>
      have q := q.elim (fun z => by rw [h] at z; cases z.1) fun z => z.2
      exact ⟨rfl, rfl, _, _, _, _, mo_f, fl_ok rfl, _, rfl, ⟨es, .inl ⟨A, _, rfl⟩⟩, .inr n, A, es, _, r, rfl, rfl, h, q⟩
end
end BW
/-! P17E -/
/-! names in order; the table of points; the tree that is cut -/
namespace BW
open PySem PySem.Spec PyProof.Rows L2 Cal
abbrev leD : D → D → Bool := PySem.W.dataLe false id
def unS : D → Str
  | .str x => x
  | _ => ""
def sortS (ns : List Str) : List Str := ((ns.map PyData.str).mergeSort leD).map unS
theorem sortS_eq (ns : List Str) : (ns.map PyData.str).mergeSort leD = (sortS ns).map .str := by
  unfold sortS
  rw [List.map_map]
  have h : ∀ d ∈ (ns.map PyData.str).mergeSort leD, (PyData.str ∘ unS) d = d := fun d hd => by
    rw [List.mem_mergeSort] at hd
    obtain ⟨n, _, rfl⟩ := List.mem_map.mp hd
    rfl
  rw [List.map_congr_left h, List.map_id']
theorem sortS_perm (ns : List Str) : (sortS ns).Perm ns := by
  have h := (List.mergeSort_perm (ns.map PyData.str) leD).map unS
  rw [List.map_map] at h
  have e : List.map (unS ∘ PyData.str) ns = ns := by
    rw [show (unS ∘ PyData.str) = id from rfl, List.map_id]
  rw [e] at h
  exact h
theorem alike_str (ns : List Str) : PySem.W.AllAlike (ns.map PyData.str) := fun d hd d' hd' => by
  obtain ⟨n, _, rfl⟩ := List.mem_map.mp hd
  obtain ⟨n', _, rfl⟩ := List.mem_map.mp hd'
  rfl
theorem sort_str (ns : List Str) : PySem.W.Sortable (ns.map PyData.str) := .inr fun d hd => by
  obtain ⟨n, _, rfl⟩ := List.mem_map.mp hd
  exact ⟨fun z => (nomatch z), fun _ z => (nomatch z)⟩
theorem depth_str (ns : List Str) : ∀ d ∈ ns.map PyData.str, d.depth ≤ 8 := fun d hd => by
  obtain ⟨n, _, rfl⟩ := List.mem_map.mp hd
  exact Nat.zero_le _
/-! points by names -/
abbrev Pt := Str × Int × Int
def ep (ps : List Pt) : Es := ps.map fun p => (.inr p.1, .dat (xy p.2.1 p.2.2))
def getP (ps : List Pt) (n : Str) : Option (Int × Int) := ps.lookup n
theorem ep_get (n : Str) : ∀ ps : List Pt, kvGet (ep ps) (.inr n) = (getP ps n).map fun z => .dat (xy z.1 z.2)
  | [] => rfl
  | (m, x, y) :: ps => by
    have ih := ep_get n ps
    unfold getP at ih ⊢
    by_cases h : m = n
    · subst h
      rw [List.lookup_cons_self]
      exact kvGet_pos (p := ((Sum.inr m : L2.Key), Sv.dat (xy x y))) rfl
    · have h2 : (n == m) = false := by
        rw [beq_eq_false_iff_ne]
        exact fun z => h z.symm
      rw [List.lookup_cons, h2]
      refine (kvGet_neg (p := ((Sum.inr m : L2.Key), Sv.dat (xy x y))) ?_).trans ih
      exact fun z => h (Sum.inr.inj z)
def inP (ps : List Pt) (a b c d : Int) (n : Str) : Bool := match getP ps n with
  | some (x, y) => inB2 x y a b c d
  | none => false
/-- names of a square, in order -/
def mineN (ps : List Pt) (ns : List Str) (x y s : Int) : List Str := sortS (ns.filter (inP ps x y (x + s) (y + s)))
def cutN (ps : List Pt) (m : Int) : Nat → List Str → Int → Int → Tr
  | 0, ns, x, y => .leaf (mineN ps ns x y (2 ^ 0))
  | j + 1, ns, x, y => if ((mineN ps ns x y (2 ^ (j + 1))).length : Int) ≤ m then .leaf (mineN ps ns x y (2 ^ (j + 1)))
    else .four (cutN ps m j (mineN ps ns x y (2 ^ (j + 1))) x y) (cutN ps m j (mineN ps ns x y (2 ^ (j + 1))) (x + 2 ^ j) y) (cutN ps m j (mineN ps ns x y (2 ^ (j + 1))) x (y + 2 ^ j)) (cutN ps m j (mineN ps ns x y (2 ^ (j + 1))) (x + 2 ^ j) (y + 2 ^ j))
/-- each of the names has a point -/
def Has (ps : List Pt) (ns : List Str) : Prop := ∀ n ∈ ns, ∃ x y, getP ps n = some (x, y)
theorem mine_has {ps : List Pt} {ns : List Str} {x y s : Int} (h : Has ps ns) : Has ps (mineN ps ns x y s) := fun n hn => h n ((List.mem_filter.mp ((sortS_perm _).mem_iff.mp hn)).1)
theorem mine_len {ps : List Pt} {ns : List Str} {x y s : Int} : (mineN ps ns x y s).length ≤ ns.length := by
  unfold mineN
  rw [(sortS_perm _).length_eq]
  exact List.length_filter_le _ _
section
variable {T : Tb} {k : Nat} {ea : Str → Addr}
def sCut (ea : Str → Addr) (J : Nat) : Sig := ⟨5, [], fun rs M Q E => ∃ (A C : Ms) (p f : Addr) (d m s l x y : Int) (ps : List Pt) (ns : List Str) (j : Nat), j ≤ J ∧ rs = [.ptr .ob f, .dat (.list (ns.map .str)), I x, I y, I (2 ^ j)] ∧ M = mo ea A p f d m s l (ep ps) C ∧ ns.length ≤ 100 ∧ Has ps ns ∧ Q (.dat (cutN ps m j ns x y).d) M,
  fun hQ hE ⟨A, C, p, f, d, m, s, l, x, y, ps, ns, j, hj, e, e2, h, h2, q⟩ => ⟨A, C, p, f, d, m, s, l, x, y, ps, ns, j, hj, e, e2, h, h2, hQ _ _ q⟩⟩
abbrev gC (T : Tb) (k : Nat) (ea : Str → Addr) (tm : Tbl) : Gi := gi T k ea [(("in_box", 2), sInBox), (("quarters", 3), sQuarters)] tm []
abbrev nCut : List Str := ["self", "names", "x", "y", "size", "square", "mine", "name", "low_x", "low_y"]
theorem mo_fc {ea : Str → Addr} {z : Addr × MO} {A C : Ms} {p f : Addr} {d m s l : Int} {es : Es} : z :: mo ea A p f d m s l es C = (z :: (A ++ [(p, .dk es)])) ++ (f, .ob (ea "Fours") (fo p d m s l)) :: C := by simp
theorem mo_pc {ea : Str → Addr} {z : Addr × MO} {A C : Ms} {p f : Addr} {d m s l : Int} {es : Es} : z :: mo ea A p f d m s l es C = (z :: A) ++ (p, .dk es) :: (f, .ob (ea "Fours") (fo p d m s l)) :: C := rfl
theorem str_at {ns : List Str} {i : Nat} {r : Sv} (h : (dats (ns.map PyData.str))[i]? = some r) : ∃ n, ns[i]? = some n ∧ r = .dat (.str n) := by
  unfold dats at h
  rw [List.map_map, List.getElem?_map] at h
  obtain ⟨t, h1, h2⟩ := Option.map_eq_some_iff.mp h
  exact ⟨t, h1, h2.symm⟩
theorem filt1 {f : Str → Bool} {ns : List Str} {i : Nat} {n : Str} (h : ns[i]? = some n) (b : f n = true) : dats (((ns.take (i + 1)).filter f).map PyData.str) = dats (((ns.take i).filter f).map PyData.str) ++ [.dat (.str n)] := by
  rw [takeP1 h, List.filter_append, List.filter_cons_of_pos b, List.map_append, dats_app]
  rfl
theorem filt0 {f : Str → Bool} {ns : List Str} {i : Nat} {n : Str} (h : ns[i]? = some n) (b : f n = false) : dats (((ns.take (i + 1)).filter f).map PyData.str) = dats (((ns.take i).filter f).map PyData.str) := by
  rw [takeP1 h, List.filter_append, List.filter_cons_of_neg (by rw [b]; decide)]
  simp
theorem filt_len {f : Str → Bool} {ns : List Str} {i : Nat} : (dats (((ns.take i).filter f).map PyData.str)).length ≤ i := by
  rw [dats_len, List.length_map]
  exact Nat.le_trans (List.length_filter_le _ _) (List.length_take_le _ _)
theorem quart_at {ps : List Pt} {m : Int} {j : Nat} {ns : List Str} {x y h : Int} {i : Nat} {r : Sv} (e : (dats (quartersD x y h))[i]? = some r) :
    ∃ lx ly, ([cutN ps m j ns x y, cutN ps m j ns (x + h) y, cutN ps m j ns x (y + h), cutN ps m j ns (x + h) (y + h)] : List Tr)[i]? = some (cutN ps m j ns lx ly) ∧ r = .dat (xy lx ly) := by
  match i, e with
  | 0, e => cases e; exact ⟨_, _, rfl, rfl⟩
  | 1, e => cases e; exact ⟨_, _, rfl, rfl⟩
  | 2, e => cases e; exact ⟨_, _, rfl, rfl⟩
  | 3, e => cases e; exact ⟨_, _, rfl, rfl⟩
  | n + 4, e => cases e
theorem half_pow (j : Nat) : ((2 : Int) ^ (j + 1)).fdiv 2 = 2 ^ j := by
  rw [Int.pow_succ, Int.mul_fdiv_cancel _ (by decide)]
set_option smartUnfolding false in
theorem do_cut (J : Nat) (tm : Tbl) (htm : ∀ i, J = i + 1 → tm.lookup (("cut" : Str), 4) = some (sCut ea i)) : Does (gC T k ea tm) (SS nCut s_Fours_cut) (defBody s_Fours_cut) (sCut ea J) := by
  rintro rs M Q E _ ⟨A, C, p, f, d, m, s, l, x, y, ps, ns, j, hj, rfl, rfl, hl, hh, q⟩
  refine .inl ⟨by rw [dats_len, List.length_map]; omega, fun i acc M' => M' = mo ea A p f d m s l (ep ps) C ∧ acc = dats (((ns.take i).filter (inP ps x y (x + 2 ^ j) (y + 2 ^ j))).map .str), ⟨rfl, rfl⟩, ?_, ?_, ?_⟩
  · rintro i acc M' hi ⟨rfl, rfl⟩
    exact ⟨trivial, filt_len⟩
  · rintro D i r acc M' hr ⟨rfl, rfl⟩
    obtain ⟨n, hn, rfl⟩ := str_at hr
    obtain ⟨px, py, hp⟩ := hh n (List.mem_of_getElem? hn)
    have eb : inP ps x y (x + 2 ^ j) (y + 2 ^ j) n = inB2 px py x y (x + 2 ^ j) (y + 2 ^ j) := by
      unfold inP
      rw [hp]
    refine ⟨_, _, _, _, mo_fc, fl_ok rfl, _, rfl, .inr n, ep ps, rfl, .inl ⟨_, _, mo_pc⟩, .dat (xy px py), by rw [ep_get, hp]; rfl, rfl, px, py, x, y, _, _, rfl, _, rfl, brS (fun h1 => ⟨_, rfl, rfl, (filt1 hn (eb.trans h1)).symm⟩) fun h1 => ⟨rfl, (filt0 hn (eb.trans h1)).symm⟩⟩
  · rintro acc M' ⟨rfl, rfl⟩
    have lm : (mineN ps ns x y (2 ^ j)).length ≤ 100 := Nat.le_trans mine_len hl
    have lf : ((ns.filter (inP ps x y (x + 2 ^ j) (y + 2 ^ j))).map PyData.str).length ≤ 1000 := by
      rw [List.length_map]
      exact Nat.le_trans (List.length_filter_le _ _) (by omega)
    have et : ns.take (dats (ns.map PyData.str)).length = ns := by
      rw [dats_len, List.length_map, List.take_length]
    rw [et]
    refine ⟨by rw [dats_len]; exact lf, .inl ⟨_, rfl, _, rfl, alike_str _, sort_str _, lf, depth_str _, fun ys hy => ?_⟩⟩
    have hy : ys = (mineN ps ns x y (2 ^ j)).map .str := hy.trans (sortS_eq _)
    subst hy
    have ret : (((mineN ps ns x y (2 ^ j)).length : Int) ≤ m ∨ j = 0) → Q (.dat (.tuple ((mineN ps ns x y (2 ^ j)).map .str))) (mo ea A p f d m s l (ep ps) C) := fun h => by
      cases j with
      | zero => exact q
      | succ j =>
        have h := h.resolve_right (by omega)
        have e : cutN ps m (j + 1) ns x y = .leaf (mineN ps ns x y (2 ^ (j + 1))) := if_pos h
        rw [e] at q
        exact q
    refine ⟨by rw [dats_len, List.length_map]; omega, .inl ⟨_, rfl, _, _, _, _, mo_f, fl_ok rfl, I m, rfl, brS (fun h1 => ?_) fun h1 => brS (fun h2 => ?_) fun h2 => ?_⟩⟩
    · simp at h1
      exact ret (.inl h1)
    · simp at h2
      refine ret (.inr ?_)
      cases j with
      | zero => rfl
      | succ j =>
        have : (0 : Int) < 2 ^ j := Int.pow_pos (by decide)
        rw [Int.pow_succ] at h2
        omega
    · simp at h1 h2
      cases j with
      | zero => exact absurd h2 (by decide)
      | succ j =>
        have e : cutN ps m (j + 1) ns x y = .four (cutN ps m j (mineN ps ns x y (2 ^ (j + 1))) x y) (cutN ps m j (mineN ps ns x y (2 ^ (j + 1))) (x + 2 ^ j) y) (cutN ps m j (mineN ps ns x y (2 ^ (j + 1))) x (y + 2 ^ j)) (cutN ps m j (mineN ps ns x y (2 ^ (j + 1))) (x + 2 ^ j) (y + 2 ^ j)) := if_neg (Int.not_le.mpr h1)
        rw [e] at q
        have hm : Has ps (mineN ps ns x y (2 ^ (j + 1))) := mine_has hh
        refine .inl ⟨rfl, x, y, _, rfl, by show 4 ≤ 1000; decide, fun i acc M' => M' = mo ea A p f d m s l (ep ps) C ∧ acc = dats ((([cutN ps m j (mineN ps ns x y (2 ^ (j + 1))) x y, cutN ps m j (mineN ps ns x y (2 ^ (j + 1))) (x + 2 ^ j) y, cutN ps m j (mineN ps ns x y (2 ^ (j + 1))) x (y + 2 ^ j), cutN ps m j (mineN ps ns x y (2 ^ (j + 1))) (x + 2 ^ j) (y + 2 ^ j)] : List Tr).take i).map Tr.d), ⟨rfl, rfl⟩, ?_, ?_, ?_⟩
        · rintro i acc M' hi ⟨rfl, rfl⟩
          refine ⟨trivial, ?_⟩
          rw [dats_len, List.length_map]
          exact List.length_take_le _ _
        · rintro D i r acc M' hr ⟨rfl, rfl⟩
          rw [half_pow] at hr
          obtain ⟨J, rfl⟩ : ∃ i, J = i + 1 := ⟨J - 1, by omega⟩
          obtain ⟨lx, ly, ht, rfl⟩ := quart_at (ps := ps) (m := m) (j := j) (ns := mineN ps ns x y (2 ^ (j + 1))) hr
          refine ⟨_, rfl, rfl, ea "Fours", sCut ea J, mt_ok (htm J rfl), _, _, _, _, mo_fc, rfl, rfl, ⟨by decide, by decide⟩, rfl, (D, _) :: A, C, p, f, d, m, s, l, lx, ly, ps, mineN ps ns x y (2 ^ (j + 1)), j, by omega, ?_, mo_pc, lm, hm, _, rfl, rfl, ?_⟩
          · show [_, _, _, _, I (((2 : Int) ^ (j + 1)).fdiv 2)] = _
            rw [half_pow]
          · rw [takeP1 ht, List.map_append, dats_app]
            rfl
        · rintro acc M' ⟨rfl, rfl⟩
          exact ⟨by show 4 ≤ 1000; decide, .inl ⟨_, rfl, q⟩⟩
/-! tree -/
def namesP (ps : List Pt) : List Str := ps.map (·.1)
theorem names_has (ps : List Pt) : Has ps (namesP ps) := fun n hn => by
  obtain ⟨⟨m, x, y⟩, h1, rfl⟩ := List.mem_map.mp hn
  have : ∃ z, getP ps m = some z := by
    unfold getP
    clear hn
    induction ps with
    | nil => cases h1
    | cons q ps ih =>
      obtain ⟨k, v⟩ := q
      rw [List.lookup_cons]
      cases e : (m == k) with
      | true => exact ⟨v, rfl⟩
      | false =>
        rcases List.mem_cons.mp h1 with h | h
        · cases h
          rw [beq_self_eq_true] at e
          cases e
        · exact ih h
  obtain ⟨⟨a, b⟩, e⟩ := this
  exact ⟨a, b, e⟩
theorem ep_keys (ps : List Pt) : (ep ps).map (fun p => keyS p.1) = (namesP ps).map .str := by
  unfold ep namesP
  rw [List.map_map, List.map_map]
  rfl
def treeOf (ps : List Pt) (m : Int) (j : Nat) : Tr := cutN ps m j (namesP ps) 0 0
def sTree (ea : Str → Addr) (J : Nat) : Sig := ⟨1, [], fun rs M Q E => ∃ (A C : Ms) (p f : Addr) (d m l : Int) (ps : List Pt) (j : Nat), j ≤ J ∧ rs = [.ptr .ob f] ∧ M = mo ea A p f d m (2 ^ j) l (ep ps) C ∧ ps.length ≤ 100 ∧ Q (.dat (treeOf ps m j).d) M,
  fun hQ hE ⟨A, C, p, f, d, m, l, ps, j, hj, e, e2, h, q⟩ => ⟨A, C, p, f, d, m, l, ps, j, hj, e, e2, h, hQ _ _ q⟩⟩
set_option smartUnfolding false in
theorem do_tree (J : Nat) : Does (gi T k ea [] [(("cut", 4), sCut ea J)] []) (SS ["self"] s_Fours_tree) (defBody s_Fours_tree) (sTree ea J) := by
  rintro rs M Q E _ ⟨A, C, p, f, d, m, l, ps, j, hj, rfl, rfl, hl, q⟩
  have hl2 : (namesP ps).length ≤ 100 := by
    unfold namesP
    rw [List.length_map]
    exact hl
  have ek := ep_keys ps
  refine ⟨rfl, ea "Fours", sCut ea J, mt_ok rfl, _, _, _, _, mo_f, rfl, rfl, _, _, _, _, mo_f, fl_ok rfl, _, rfl, ep ps, .inl ⟨A, _, rfl⟩, ?_, .inl ⟨(namesP ps).map .str, ?_, ?_⟩⟩
  · rw [ek, dats_len, List.length_map]
    omega
  · exact congrArg dats ek
  · exact ⟨_, _, _, _, mo_f, fl_ok rfl, _, rfl, rfl, A, C, p, f, d, m, _, l, 0, 0, ps, namesP ps, j, hj, rfl, rfl, hl2, names_has ps, q⟩
end
end BW
/-! P17F -/
/-! found: what lies in a box, by the tree -/
namespace BW
open PySem PySem.Spec PyProof.Rows L2 Cal
def outB (x y s a b c d : Int) : Bool := decide (c ≤ x) || (decide (d ≤ y) || (decide (x + s ≤ a) || decide (y + s ≤ b)))
def foundT (ps : List Pt) (a b c d : Int) : Tr → Int → Int → Int → List Str
  | .leaf ns, x, y, s => if outB x y s a b c d = true then [] else ns.filter (inP ps a b c d)
  | .four t1 t2 t3 t4, x, y, s => if outB x y s a b c d = true then [] else foundT ps a b c d t1 x y (s.fdiv 2) ++ (foundT ps a b c d t2 (x + s.fdiv 2) y (s.fdiv 2) ++ (foundT ps a b c d t3 x (y + s.fdiv 2) (s.fdiv 2) ++ foundT ps a b c d t4 (x + s.fdiv 2) (y + s.fdiv 2) (s.fdiv 2)))
def lookT (a b c d : Int) : Tr → Int → Int → Int → Int
  | .leaf ns, x, y, s => if outB x y s a b c d = true then 0 else 1
  | .four t1 t2 t3 t4, x, y, s => if outB x y s a b c d = true then 0 else 1 + (lookT a b c d t1 x y (s.fdiv 2) + (lookT a b c d t2 (x + s.fdiv 2) y (s.fdiv 2) + (lookT a b c d t3 x (y + s.fdiv 2) (s.fdiv 2) + lookT a b c d t4 (x + s.fdiv 2) (y + s.fdiv 2) (s.fdiv 2))))
def Tr.cnt : Tr → Nat
  | .leaf ns => ns.length
  | .four a b c d => a.cnt + (b.cnt + (c.cnt + d.cnt))
def HasT (ps : List Pt) : Tr → Prop
  | .leaf ns => Has ps ns
  | .four a b c d => HasT ps a ∧ HasT ps b ∧ HasT ps c ∧ HasT ps d
theorem found_len (ps : List Pt) (a b c d : Int) : ∀ (t : Tr) (x y s : Int), (foundT ps a b c d t x y s).length ≤ t.cnt
  | .leaf ns, x, y, s => by
    unfold foundT Tr.cnt
    split
    · exact Nat.zero_le _
    · exact List.length_filter_le _ _
  | .four t1 t2 t3 t4, x, y, s => by
    unfold foundT Tr.cnt
    split
    · exact Nat.zero_le _
    · rw [List.length_append, List.length_append, List.length_append]
      have h1 := found_len ps a b c d t1 x y (s.fdiv 2)
      have h2 := found_len ps a b c d t2 (x + s.fdiv 2) y (s.fdiv 2)
      have h3 := found_len ps a b c d t3 x (y + s.fdiv 2) (s.fdiv 2)
      have h4 := found_len ps a b c d t4 (x + s.fdiv 2) (y + s.fdiv 2) (s.fdiv 2)
      omega
theorem found_out {ps : List Pt} {a b c d : Int} {t : Tr} {x y s : Int} (h : outB x y s a b c d = true) : foundT ps a b c d t x y s = [] ∧ lookT a b c d t x y s = 0 := by
  cases t <;> exact ⟨if_pos h, if_pos h⟩
/-- a part of a square, with its corner -/
structure Part where
  t : Tr
  x : Int
  y : Int
def parts (t1 t2 t3 t4 : Tr) (x y h : Int) : List Part := [⟨t1, x, y⟩, ⟨t2, x + h, y⟩, ⟨t3, x, y + h⟩, ⟨t4, x + h, y + h⟩]
def foundP (ps : List Pt) (a b c d h : Int) (l : List Part) : List Str := (l.map fun q => foundT ps a b c d q.t q.x q.y h).flatten
def lookP (a b c d h : Int) (l : List Part) : Int := (l.map fun q => lookT a b c d q.t q.x q.y h).sum
theorem zip_parts (t1 t2 t3 t4 : Tr) (x y h : Int) : zipD [t1.d, t2.d, t3.d, t4.d] (quartersD x y h) = (parts t1 t2 t3 t4 x y h).map fun q => .tuple [q.t.d, xy q.x q.y] := rfl
theorem part_at {l : List Part} {i : Nat} {r : Sv} (h : (dats (l.map fun q => .tuple [q.t.d, xy q.x q.y]))[i]? = some r) : ∃ q, l[i]? = some q ∧ r = .dat (.tuple [q.t.d, xy q.x q.y]) := by
  unfold dats at h
  rw [List.map_map, List.getElem?_map] at h
  obtain ⟨t, h1, h2⟩ := Option.map_eq_some_iff.mp h
  exact ⟨t, h1, h2.symm⟩
theorem shr_G {Q : PoE} {r : Sv} {C : Ms} (h : Shr Q r C) : ∀ G : Ms, Shr Q r (G ++ C)
  | [] => h
  | p :: G => Shr.drop0 (shr_G h G)
theorem foundP_snoc {ps : List Pt} {a b c d h : Int} {l : List Part} {i : Nat} {q : Part} (e : l[i]? = some q) : foundP ps a b c d h (l.take (i + 1)) = foundP ps a b c d h (l.take i) ++ foundT ps a b c d q.t q.x q.y h := by
  unfold foundP
  rw [takeP1 e, List.map_append, List.flatten_append]
  simp
theorem lookP_snoc {a b c d h : Int} {l : List Part} {i : Nat} {q : Part} (e : l[i]? = some q) : lookP a b c d h (l.take (i + 1)) = lookP a b c d h (l.take i) + lookT a b c d q.t q.x q.y h := by
  unfold lookP
  rw [takeP1 e, List.map_append, List.sum_append]
  simp
theorem foundP_len {ps : List Pt} {a b c d h : Int} : ∀ {l : List Part}, (foundP ps a b c d h l).length ≤ (l.map fun q => q.t.cnt).sum
  | [] => Nat.le_refl _
  | q :: l => by
    unfold foundP
    rw [List.map_cons, List.flatten_cons, List.length_append, List.map_cons, List.sum_cons]
    have h1 := found_len ps a b c d q.t q.x q.y h
    have h2 := foundP_len (ps := ps) (a := a) (b := b) (c := c) (d := d) (h := h) (l := l)
    unfold foundP at h2
    omega
theorem found_four {ps : List Pt} {a b c d x y z : Int} {t1 t2 t3 t4 : Tr} (h : outB x y z a b c d = false) : foundT ps a b c d (.four t1 t2 t3 t4) x y z = foundP ps a b c d (z.fdiv 2) (parts t1 t2 t3 t4 x y (z.fdiv 2)) := by
  simp [foundT, h, foundP, parts]
theorem look_four {a b c d x y z : Int} {t1 t2 t3 t4 : Tr} (h : outB x y z a b c d = false) : lookT a b c d (.four t1 t2 t3 t4) x y z = 1 + lookP a b c d (z.fdiv 2) (parts t1 t2 t3 t4 x y (z.fdiv 2)) := by
  simp [lookT, h, lookP, parts]
theorem mo_gf {ea : Str → Addr} {z : Addr × MO} {G A C : Ms} {p f : Addr} {d m s l : Int} {es : Es} : G ++ z :: mo ea A p f d m s l es C = (G ++ z :: (A ++ [(p, .dk es)])) ++ (f, .ob (ea "Fours") (fo p d m s l)) :: C := by simp
theorem mo_gm {ea : Str → Addr} {z : Addr × MO} {G A C : Ms} {p f : Addr} {d m s l : Int} {es : Es} : G ++ z :: mo ea A p f d m s l es C = mo ea (G ++ z :: A) p f d m s l es C := by simp [mo]
theorem mo_ge {ea : Str → Addr} {y z : Addr × MO} {G A C : Ms} {p f : Addr} {d m s l : Int} {es : Es} : y :: mo ea (G ++ z :: A) p f d m s l es C = (y :: G) ++ z :: mo ea A p f d m s l es C := by simp [mo]
theorem take_sum {α : Type} (f : α → Nat) (l : List α) (i : Nat) : ((l.take i).map f).sum ≤ (l.map f).sum := by
  conv => rhs; rw [← List.take_append_drop i l, List.map_append, List.sum_append]
  omega
section
variable {T : Tb} {k : Nat} {ea : Str → Addr}
def sFound (ea : Str → Addr) (n : Nat) : Sig := ⟨6, [], fun rs M Q E => ∃ (A C : Ms) (p f : Addr) (d m s l x y z a b c e : Int) (ps : List Pt) (t : Tr), rs = [.ptr .ob f, .dat t.d, I x, I y, I z, .dat (bx a b c e)] ∧ M = mo ea A p f d m s l (ep ps) C ∧ t.dp ≤ n ∧ t.cnt ≤ 100 ∧ HasT ps t ∧
    ∀ r, Q (.raw (.ref r)) ((r, .lst (dats ((foundT ps a b c e t x y z).map .str))) :: mo ea A p f d m s (l + lookT a b c e t x y z) (ep ps) C),
  fun hQ hE ⟨A, C, p, f, d, m, s, l, x, y, z, a, b, c, e, ps, t, e1, e2, h1, h2, h3, q⟩ => ⟨A, C, p, f, d, m, s, l, x, y, z, a, b, c, e, ps, t, e1, e2, h1, h2, h3, fun r => hQ _ _ (q r)⟩⟩
abbrev gF (T : Tb) (k : Nat) (ea : Str → Addr) (tm : Tbl) : Gi := gi T k ea [(("in_box", 2), sInBox), (("is_leaf", 1), sLeaf), (("quarters", 3), sQuarters)] tm []
abbrev nFound : List Str := ["self", "tree", "x", "y", "size", "box", "low_x", "low_y", "high_x", "high_y", "names", "part", "part_x", "part_y", "name"]
set_option smartUnfolding false in
theorem do_found (n : Nat) (tm : Tbl) (htm : ∀ i, n = i + 1 → tm.lookup (("found" : Str), 5) = some (sFound ea i)) : DoesS (gF T k ea tm) (SS nFound s_Fours_found) (defBody s_Fours_found) (sFound ea n) := by
  rintro rs M Q E _ ⟨A, C, p, f, d, m, s, l, x, y, z, a, b, c, e, ps, t, rfl, rfl, hd, hc, hh, q⟩
  have out : outB x y z a b c e = true → ∀ r, Shr Q (.raw (.ref r)) ((r, .lst []) :: mo ea A p f d m s l (ep ps) C) := fun h r => by
    have q := q r
    rw [(found_out (ps := ps) h).1, (found_out (ps := ps) h).2, Int.add_zero] at q
    exact .ok q
  refine brS (fun h1 => ?_) fun h1 => brS (fun h2 => ?_) fun h2 => brS (fun h3 => ?_) fun h3 => brS (fun h4 => ?_) fun h4 => ?_
  · exact .inr fun r => out (by unfold outB; rw [h1]; rfl) r
  · exact .inr fun r => out (by unfold outB; rw [h2]; simp) r
  · exact .inr fun r => out (by unfold outB; rw [h3]; simp) r
  · exact .inr fun r => out (by unfold outB; rw [h4]; simp) r
  · have hin : outB x y z a b c e = false := by
      unfold outB
      rw [h1, h2, h3, h4]
      rfl
    refine ⟨_, _, _, _, mo_f, fl_ok rfl, l, rfl, A ++ [(p, .dk (ep ps))], _, C, mo_f, Nat.le_of_ble_eq_true rfl, ?_⟩
    cases t with
    | leaf ns =>
      have hh : Has ps ns := hh
      have hc : ns.length ≤ 100 := hc
      have ef : foundT ps a b c e (.leaf ns) x y z = ns.filter (inP ps a b c e) := if_neg (by rw [hin]; decide)
      have el : lookT a b c e (.leaf ns) x y z = 1 := if_neg (by rw [hin]; decide)
      refine ⟨rfl, _, rfl, brT (leaf_d ns) (.inl ⟨by show (dats (ns.map PyData.str)).length ≤ 1000; rw [dats_len, List.length_map]; omega, fun i acc M' => M' = mo ea A p f d m s (l + 1) (ep ps) C ∧ acc = dats (((ns.take i).filter (inP ps a b c e)).map .str), ⟨mo_f.symm, rfl⟩, ?_, ?_, ?_⟩)⟩
      · rintro i acc M' hi ⟨rfl, rfl⟩
        exact ⟨trivial, filt_len⟩
      · rintro D i r acc M' hr ⟨rfl, rfl⟩
        obtain ⟨n, hn, rfl⟩ := str_at hr
        obtain ⟨px, py, hp⟩ := hh n (List.mem_of_getElem? hn)
        have eb : inP ps a b c e n = inB2 px py a b c e := by
          unfold inP
          rw [hp]
        refine ⟨_, _, _, _, mo_fc, fl_ok rfl, _, rfl, .inr n, ep ps, rfl, .inl ⟨_, _, mo_pc⟩, .dat (xy px py), by rw [ep_get, hp]; rfl, rfl, px, py, a, b, _, _, rfl, _, rfl, brS (fun h1 => ⟨_, rfl, rfl, (filt1 hn (eb.trans h1)).symm⟩) fun h1 => ⟨rfl, (filt0 hn (eb.trans h1)).symm⟩⟩
      · rintro acc M' ⟨rfl, hacc⟩
        have et : ns.take (dats (ns.map PyData.str)).length = ns := by
          rw [dats_len, List.length_map, List.take_length]
        have hacc : acc = dats ((ns.filter (inP ps a b c e)).map .str) := hacc.trans (by
          show dats (((ns.take (dats (ns.map PyData.str)).length).filter (inP ps a b c e)).map .str) = _
          rw [et])
        subst hacc
        refine ⟨?_, .inr fun r => .ok ?_⟩
        · rw [dats_len, List.length_map]
          exact Nat.le_trans (List.length_filter_le _ _) (by omega)
        · have q := q r
          rw [ef, el] at q
          exact q
    | four t1 t2 t3 t4 =>
      have hd : 1 + max (max t1.dp t2.dp) (max t3.dp t4.dp) ≤ n := hd
      have hc : t1.cnt + (t2.cnt + (t3.cnt + t4.cnt)) ≤ 100 := hc
      have hh : HasT ps t1 ∧ HasT ps t2 ∧ HasT ps t3 ∧ HasT ps t4 := hh
      obtain ⟨n, rfl⟩ : ∃ i, n = i + 1 := ⟨n - 1, by omega⟩
      have hl : leafB (Tr.four t1 t2 t3 t4).row = false := rfl
      have ef : foundT ps a b c e (.four t1 t2 t3 t4) x y z = foundP ps a b c e (z.fdiv 2) (parts t1 t2 t3 t4 x y (z.fdiv 2)) := by
        exact found_four hin
      have el : lookT a b c e (.four t1 t2 t3 t4) x y z = 1 + lookP a b c e (z.fdiv 2) (parts t1 t2 t3 t4 x y (z.fdiv 2)) := by
        exact look_four hin
      have all : ∀ q ∈ parts t1 t2 t3 t4 x y (z.fdiv 2), q.t.dp ≤ n ∧ q.t.cnt ≤ 100 ∧ HasT ps q.t := fun q hq => by
        rcases (show q = _ ∨ q = _ ∨ q = _ ∨ q = _ by simpa [parts] using hq) with e | e | e | e <;> rw [e]
        · exact ⟨by show t1.dp ≤ n; omega, by show t1.cnt ≤ 100; omega, hh.1⟩
        · exact ⟨by show t2.dp ≤ n; omega, by show t2.cnt ≤ 100; omega, hh.2.1⟩
        · exact ⟨by show t3.dp ≤ n; omega, by show t3.cnt ≤ 100; omega, hh.2.2.1⟩
        · exact ⟨by show t4.dp ≤ n; omega, by show t4.cnt ≤ 100; omega, hh.2.2.2⟩
      have tot : ((parts t1 t2 t3 t4 x y (z.fdiv 2)).map fun q => q.t.cnt).sum ≤ 100 := by simp [parts]; omega
      rw [ef, el] at q
      obtain ⟨L, eL⟩ : ∃ L, L = parts t1 t2 t3 t4 x y (z.fdiv 2) := ⟨_, rfl⟩
      have zl : zipD [t1.d, t2.d, t3.d, t4.d] (quartersD x y (z.fdiv 2)) = L.map fun q => .tuple [q.t.d, xy q.x q.y] := by rw [eL]; rfl
      rw [← eL] at q all tot
      refine ⟨rfl, _, rfl, Or.inr fun r0 => .inl ⟨rfl, x, y, z, rfl, fun i ds M' => ∃ (G : Ms) (z1 z2 z3 z4 : Sv), M' = G ++ (r0, .lst (dats ((foundP ps a b c e (z.fdiv 2) (L.take i)).map .str))) :: mo ea A p f d m s (l + (1 + lookP a b c e (z.fdiv 2) (L.take i))) (ep ps) C ∧
        ds = [.ptr .ob f, .dat (Tr.four t1 t2 t3 t4).d, I x, I y, I z, .dat (bx a b c e), I a, I b, I c, I e, .raw (.ref r0), z1, z2, z3, z4], ⟨[], _, _, _, _, ?_, rfl⟩, fun _ _ _ _ _ => trivial, ?_, ?_⟩⟩
      · show (r0, MO.lst []) :: ((A ++ [(p, MO.dk (ep ps))]) ++ (f, MO.ob (ea "Fours") (fo p d m s (l + 1))) :: C) = (r0, MO.lst []) :: mo ea A p f d m s (l + (1 + 0)) (ep ps) C
        rw [Int.add_zero, ← mo_f]
      · rintro i r ds M' hr ⟨G, z1, z2, z3, z4, rfl, rfl⟩
        have hr : (dats (L.map fun q => .tuple [q.t.d, xy q.x q.y]))[i]? = some r := by
          rw [← zl]
          exact hr
        obtain ⟨w, hw, rfl⟩ := part_at hr
        obtain ⟨w1, w2, w3⟩ := all w (List.mem_of_getElem? hw)
        have len : (dats ((foundP ps a b c e (z.fdiv 2) (L.take i)).map PyData.str)).length + (dats ((foundT ps a b c e w.t w.x w.y (z.fdiv 2)).map PyData.str)).length ≤ 1000 := by
          rw [dats_len, dats_len, List.length_map, List.length_map]
          have h1 := foundP_len (ps := ps) (a := a) (b := b) (c := c) (d := e) (h := z.fdiv 2) (l := L.take i)
          have h2 := take_sum (fun q : Part => q.t.cnt) L i
          have h3 := found_len ps a b c e w.t w.x w.y (z.fdiv 2)
          omega
        refine ⟨⟨G, _, _, rfl, trivial⟩, rfl, ea "Fours", sFound ea n, mt_ok (htm n rfl), _, _, _, _, mo_gf, rfl, rfl, ⟨by decide, by decide⟩, rfl, G ++ (r0, _) :: A, C, p, f, d, m, s, _, w.x, w.y, _, a, b, c, e, ps, w.t, rfl, mo_gm, w1, w2, w3, fun r1 => ⟨[], _, _, rfl, (r1, _) :: G, _, mo ea A p f d m s (l + (1 + lookP a b c e (z.fdiv 2) (L.take i)) + lookT a b c e w.t w.x w.y (z.fdiv 2)) (ep ps) C, mo_ge, len, (r1, .lst (dats ((foundT ps a b c e w.t w.x w.y (z.fdiv 2)).map .str))) :: G, _, _, _, _, ?_, rfl⟩⟩
        rw [foundP_snoc hw, lookP_snoc hw, List.map_append, dats_app, Int.add_assoc, Int.add_assoc]
      · rintro ds M' ⟨G, z1, z2, z3, z4, rfl, rfl⟩
        have e4 : L.take (dats (zipD [t1.d, t2.d, t3.d, t4.d] (quartersD x y (z.fdiv 2)))).length = L := by
          rw [zl, dats_len, List.length_map, List.take_length]
        have g := shr_G (.ok (q r0)) G
        rw [← e4] at g
        exact g
end
end BW
/-! P17J -/
/-! _law_deep, _law_looked -/
namespace BW
open PySem PySem.Spec PyProof.Rows L2 Cal
def GoodT : Tr → Prop
  | .leaf ns => ns.length ≤ 10 ∧ ∀ n ∈ ns, ((reprText n).length ≤ 20 ∧ PyData.strOk (reprText n) = true) ∧ PyData.strOk n = true
  | .four a b c d => GoodT a ∧ GoodT b ∧ GoodT c ∧ GoodT d
theorem show_str {n : Str} (h : (reprText n).length ≤ 20 ∧ PyData.strOk (reprText n) = true) : ∀ k, ShowB k (.str n)
  | 0 => h
  | _ + 1 => h
theorem good_show : ∀ {t : Tr} {n : Nat}, GoodT t → t.dp ≤ n → ShowB (n + 1) t.d
  | .leaf ns, n, h, _ => ⟨by rw [show (Tr.leaf ns).row = ns.map .str from rfl, List.length_map]; exact h.1, fun d hd => by
    obtain ⟨m, hm, rfl⟩ := List.mem_map.mp hd
    exact show_str (h.2 m hm).1 n⟩
  | .four a b c d, 0, _, h => absurd h (by show ¬ 1 + max (max a.dp b.dp) (max c.dp d.dp) ≤ 0; omega)
  | .four a b c d, n + 1, g, h => by
    have h : 1 + max (max a.dp b.dp) (max c.dp d.dp) ≤ n + 1 := h
    refine ⟨by show 4 ≤ 10; decide, fun x hx => ?_⟩
    rcases (show x = a.d ∨ x = b.d ∨ x = c.d ∨ x = d.d by simpa [Tr.row] using hx) with e | e | e | e <;> rw [e]
    · exact good_show g.1 (by omega)
    · exact good_show g.2.1 (by omega)
    · exact good_show g.2.2.1 (by omega)
    · exact good_show g.2.2.2 (by omega)
theorem good_shape : ∀ {t : Tr}, GoodT t → t.d.canLay0 = true ∧ t.d.depth ≤ t.dp + 1
  | .leaf ns, g => by
    have h := shape_all (xs := ns.map PyData.str) (n := 0) fun x hx => by
      obtain ⟨m, hm, rfl⟩ := List.mem_map.mp hx
      exact ⟨(g.2 m hm).2, Nat.le_refl _⟩
    refine ⟨h.1, ?_⟩
    show PyData.depthAll (ns.map PyData.str) + 1 ≤ 0 + 1
    omega
  | .four a b c d, g => by
    have ha := good_shape g.1
    have hb := good_shape g.2.1
    have hc := good_shape g.2.2.1
    have hd := good_shape g.2.2.2
    have h := shape_all (xs := [a.d, b.d, c.d, d.d]) (n := 1 + max (max a.dp b.dp) (max c.dp d.dp)) fun x hx => by
      rcases (show x = a.d ∨ x = b.d ∨ x = c.d ∨ x = d.d by simpa using hx) with e | e | e | e <;> rw [e]
      · exact ⟨ha.1, by omega⟩
      · exact ⟨hb.1, by omega⟩
      · exact ⟨hc.1, by omega⟩
      · exact ⟨hd.1, by omega⟩
    refine ⟨h.1, ?_⟩
    show PyData.depthAll [a.d, b.d, c.d, d.d] + 1 ≤ 1 + max (max a.dp b.dp) (max c.dp d.dp) + 1
    omega
theorem shaped_t {t : Tr} (g : GoodT t) (h : t.dp ≤ 60) : SeqAt.shaped t.d = true := by
  have g := good_shape g
  show (t.d.canLay0 && decide (t.d.depth ≤ 64)) = true
  rw [g.1, decide_eq_true (show t.d.depth ≤ 64 by omega)]
  rfl
theorem shaped_ns {ns : List Str} (h : ∀ n ∈ ns, PyData.strOk n = true) : SeqAt.shaped (.list (ns.map PyData.str)) = true := (shaped_of (n := 0) (by decide) fun x hx => by
  obtain ⟨m, hm, rfl⟩ := List.mem_map.mp hx
  exact ⟨h m hm, Nat.le_refl _⟩).1
theorem str_tup (y : Str) (t : Tr) : eqB false (.str y) t.d = false := by
  unfold eqB
  simp [PyData.eqv]
theorem str_self (y : Str) : eqB false (.str y) (.str y) = true := by
  unfold eqB
  simp [PyData.eqv]
theorem ne_nil {xs : List D} : eqB true (.list xs) (.list []) = !xs.isEmpty := by
  cases xs <;> simp [eqB, PyData.eqv, PyData.eqvAll]
section
variable {T : Tb} {k : Nat} {ea : Str → Addr}
def sDeep (n : Nat) : Sig := ⟨1, [], fun rs M Q E => ∃ t : Tr, rs = [.dat t.d] ∧ t.dp ≤ n ∧ n ≤ 3 ∧ GoodT t ∧ Q (I t.dp) M, fun hQ hE ⟨t, e, h, h2, h3, q⟩ => ⟨t, e, h, h2, h3, hQ _ _ q⟩⟩
abbrev gE (T : Tb) (k : Nat) (ea : Str → Addr) (t : Tbl) : Gi := gi T k ea t [] []
theorem shaped_y {y : Str} (h : PyData.strOk y = true) : SeqAt.shaped (.str y) = true := by
  show (PyData.strOk y && decide (0 ≤ 64)) = true
  rw [h]
  rfl
def tbD : Nat → Tbl
  | 0 => []
  | i + 1 => [(("_law_deep", 1), sDeep i)]
/-- the texts of a row of texts, kept: all -/
theorem takeS {ns : List Str} {i : Nat} {n : Str} (h : ns[i]? = some n) : dats ((ns.take i).map PyData.str) ++ [.dat (.str n)] = dats ((ns.take (i + 1)).map PyData.str) := by
  rw [takeP1 h, List.map_append, dats_app]
  rfl
end
end BW
/-! P17K -/
/-! _law_deep -/
namespace BW
open PySem PySem.Spec PyProof.Rows L2 Cal
section
variable {T : Tb} {k : Nat} {ea : Str → Addr}
set_option smartUnfolding false in
theorem deep_leaf (n : Nat) {ns : List Str} {M : Ms} {Q : PoE} {E : Er} (hg : GoodT (.leaf ns)) (q : Q (I 0) M) : wpB (gE T k ea (tbD n)) (SS ["tree", "one"] s__law_deep) (defBody s__law_deep) [.dat (Tr.leaf ns).d, .no] M Q E := by
  have lr : (dats (Tr.leaf ns).row).length = ns.length := by
    show (dats (ns.map PyData.str)).length = _
    rw [dats_len, List.length_map]
  have hl : ns.length ≤ 10 := hg.1
  have ho : ∀ n ∈ ns, PyData.strOk n = true := fun n hn => (hg.2 n hn).2
  rcases n with _ | n
  all_goals
    refine ⟨rfl, rfl, brS (fun h1 => q) fun h1 => .inl ⟨by omega, fun i acc M' => M' = M ∧ acc = dats ((ns.take i).map .str), ⟨rfl, rfl⟩, ?_, ?_, ?_⟩⟩
    · rintro i acc M' hi ⟨rfl, rfl⟩
      refine ⟨trivial, ?_⟩
      rw [dats_len, List.length_map]
      exact List.length_take_le _ _
    · rintro D i r acc M' hr ⟨rfl, rfl⟩
      obtain ⟨m, hm, rfl⟩ := str_at hr
      have om := ho m (List.mem_of_getElem? hm)
      exact ⟨shaped_y om, shaped_y om, _, rfl, brT (str_self m) ⟨_, rfl, rfl, takeS hm⟩⟩
    · rintro acc M' ⟨rfl, hacc⟩
      have hacc : acc = dats (ns.map .str) := by
        rw [hacc, lr, List.take_length]
      subst hacc
      refine ⟨by rw [dats_len, List.length_map]; omega, .inl ⟨_, rfl, .inl ⟨shaped_ns ho, rfl, brS (fun h2 => q) fun h2 => ?_⟩⟩⟩
      rw [ne_nil] at h2
      have h1 : eqB true (.int (Tr.leaf ns).row.length) (.int 4) = false := h1
      rw [ne_int] at h1
      have h3 : ((Tr.leaf ns).row.length : Int) = 4 := by simpa using h1
      have h4 : (Tr.leaf ns).row.length = ns.length := by
        show (ns.map PyData.str).length = _
        rw [List.length_map]
      cases ns with
      | nil => simp [Tr.row] at h3
      | cons a ns => simp at h2
set_option smartUnfolding false in
theorem deep_four (n : Nat) {a b c d : Tr} {M : Ms} {Q : PoE} {E : Er} (hn : n + 1 ≤ 3) (hd : (Tr.four a b c d).dp ≤ n + 1) (hg : GoodT (.four a b c d)) (q : Q (I (Tr.four a b c d).dp) M) : wpB (gE T k ea (tbD (n + 1))) (SS ["tree", "one"] s__law_deep) (defBody s__law_deep) [.dat (Tr.four a b c d).d, .no] M Q E := by
  have hd : 1 + max (max a.dp b.dp) (max c.dp d.dp) ≤ n + 1 := hd
  have hg : GoodT a ∧ GoodT b ∧ GoodT c ∧ GoodT d := hg
  have hn3 : n ≤ 3 := by omega
  have all : ∀ t ∈ [a, b, c, d], t.dp ≤ n ∧ GoodT t := fun t ht => by
    rcases (show t = a ∨ t = b ∨ t = c ∨ t = d by simpa using ht) with e | e | e | e <;> rw [e]
    · exact ⟨by omega, hg.1⟩
    · exact ⟨by omega, hg.2.1⟩
    · exact ⟨by omega, hg.2.2.1⟩
    · exact ⟨by omega, hg.2.2.2⟩
  refine ⟨rfl, rfl, .inl ⟨by show 4 ≤ 1000; decide, fun i acc M' => M' = M ∧ acc = [], ⟨rfl, rfl⟩, ?_, ?_, ?_⟩⟩
  · rintro i acc M' hi ⟨rfl, rfl⟩
    exact ⟨trivial, Nat.zero_le _⟩
  · rintro D i r acc M' hr ⟨rfl, rfl⟩
    obtain ⟨t, ht, rfl⟩ := row_at (ts := [a, b, c, d]) hr
    obtain ⟨h1, h2⟩ := all t (List.mem_of_getElem? ht)
    have sb : ShowB 4 t.d := good_show h2 (by omega)
    exact ⟨sb, fun y hy => ⟨shaped_y hy, shaped_t h2 (by omega), _, rfl, brF (str_tup y t) ⟨rfl, rfl⟩⟩⟩
  · rintro acc M' ⟨rfl, rfl⟩
    refine ⟨by decide, .inl ⟨[], rfl, .inl ⟨rfl, rfl, .inl ⟨by show 4 ≤ 1000; decide, fun i acc M' => M' = _ ∧ acc = dats (([a, b, c, d].take i).map fun t : Tr => .int t.dp), ⟨rfl, rfl⟩, ?_, ?_, ?_⟩⟩⟩⟩
    · rintro i acc M' hi ⟨rfl, rfl⟩
      refine ⟨trivial, ?_⟩
      rw [dats_len, List.length_map, List.length_take]
      omega
    · rintro Dl i r acc M' hr ⟨rfl, rfl⟩
      obtain ⟨t, ht, rfl⟩ := row_at (ts := [a, b, c, d]) hr
      obtain ⟨h1, h2⟩ := all t (List.mem_of_getElem? ht)
      refine ⟨_, rfl, rfl, t, rfl, h1, hn3, h2, _, rfl, rfl, ?_⟩
      rw [takeP1 ht, List.map_append, dats_app]
      rfl
    · rintro acc M' ⟨rfl, rfl⟩
      refine ⟨by show 4 ≤ 1000; decide, .inl ⟨_, rfl, [a, b, c, d].map fun t => (t.dp : Int), rfl, by show 0 < 4; decide, fun m h1 h2 => ?_⟩⟩
      have e : m = ((max (max a.dp b.dp) (max c.dp d.dp) : Nat) : Int) := by
        have g1 := h2 (a.dp : Int) (by simp)
        have g2 := h2 (b.dp : Int) (by simp)
        have g3 := h2 (c.dp : Int) (by simp)
        have g4 := h2 (d.dp : Int) (by simp)
        simp only [List.map_cons, List.map_nil, List.mem_cons, List.not_mem_nil, or_false] at h1
        omega
      subst e
      have e2 : (1 : Int) + ((max (max a.dp b.dp) (max c.dp d.dp) : Nat) : Int) = ((Tr.four a b c d).dp : Int) := by
        show _ = ((1 + max (max a.dp b.dp) (max c.dp d.dp) : Nat) : Int)
        omega
      rw [← e2] at q
      exact q
theorem do_deep (n : Nat) : Does (gE T k ea (tbD n)) (SS ["tree", "one"] s__law_deep) (defBody s__law_deep) (sDeep n) := by
  rintro rs M Q E _ ⟨t, rfl, hd, h3, hg, q⟩
  cases t with
  | leaf ns => exact deep_leaf n hg q
  | four a b c d =>
    cases n with
    | zero => exact absurd hd (by show ¬ 1 + max (max a.dp b.dp) (max c.dp d.dp) ≤ 0; omega)
    | succ n => exact deep_four n h3 hd hg q
end
end BW
/-! P17L -/
/-! _law_looked -/
namespace BW
open PySem PySem.Spec PyProof.Rows L2 Cal
abbrev b4 (a b c e : Int) : Sv := .dat (.list [.int a, .int b, .int c, .int e])
def sLooked (n : Nat) : Sig := ⟨5, [], fun rs M Q E => ∃ (t : Tr) (x y z a b c e : Int), rs = [.dat t.d, I x, I y, I z, b4 a b c e] ∧ t.dp ≤ n ∧ n ≤ 3 ∧ GoodT t ∧ Q (I (lookT a b c e t x y z)) M, fun hQ hE ⟨t, x, y, z, a, b, c, d, e, h, h2, h3, q⟩ => ⟨t, x, y, z, a, b, c, d, e, h, h2, h3, hQ _ _ q⟩⟩
def tbL : Nat → Tbl
  | 0 => []
  | i + 1 => [(("_law_looked", 5), sLooked i)]
abbrev nLook : List Str := ["tree", "x", "y", "size", "box", "deep", "half", "corners", "one", "k"]
section
variable {T : Tb} {k : Nat} {ea : Str → Addr}
set_option smartUnfolding false in
theorem look_rest0 (n : Nat) {t : D} {x y z a b c e : Int} {z1 z2 z3 z4 : Sv} {M : Ms} {Q : PoE} {E : Er} (q0 : outB x y z a b c e = true → Q (I 0) M) (q1 : outB x y z a b c e = false → Q (I 1) M) :
    wpSs (wpS (gE T k ea (tbL n)) (SS nLook s__law_looked) 40) ((defBody s__law_looked).drop 1) [.dat t, I x, I y, I z, b4 a b c e, I 0, z1, z2, z3, z4] M (fun _ M1 => Q (.dat .none) M1) Q (fun _ _ => False) (fun _ _ => False) E := by
  have e1 : ∀ i j : Int, decide (i ≤ j) = true → i ≤ j := fun i j h => of_decide_eq_true h
  have e0 : ∀ i j : Int, decide (i ≤ j) = false → ¬ i ≤ j := fun i j h => of_decide_eq_false h
  refine ⟨_, rfl, brS (fun h1 => ?_) fun h1 => ⟨_, rfl, brS (fun h2 => ?_) fun h2 => ⟨_, rfl, brS (fun h3 => ?_) fun h3 => ⟨_, rfl, brS (fun h4 => ?_) fun h4 => ?_⟩⟩⟩⟩
  · exact q0 (by unfold outB; rw [show decide (x + z ≤ a) = true from h1]; simp)
  · exact q0 (by unfold outB; rw [show decide (y + z ≤ b) = true from h2]; simp)
  · exact q0 (by unfold outB; rw [show decide (c ≤ x) = true from h3]; simp)
  · exact q0 (by unfold outB; rw [show decide (e ≤ y) = true from h4]; simp)
  · have ho : outB x y z a b c e = false := by
      unfold outB
      rw [show decide (x + z ≤ a) = false from h1, show decide (y + z ≤ b) = false from h2, show decide (c ≤ x) = false from h3, show decide (e ≤ y) = false from h4]
      rfl
    exact ⟨⟨by decide, by decide⟩, .inl ⟨rfl, rfl, q1 ho⟩⟩
set_option smartUnfolding false in
theorem look_rest1 (n : Nat) {t1 t2 t3 t4 : Tr} {x y z a b c e : Int} {z1 z2 z3 z4 : Sv} {M : Ms} {Q : PoE} {E : Er} (hn : n + 1 ≤ 3) (all : ∀ t ∈ [t1, t2, t3, t4], t.dp ≤ n ∧ GoodT t) (q : Q (I (lookT a b c e (.four t1 t2 t3 t4) x y z)) M) :
    wpSs (wpS (gE T k ea (tbL (n + 1))) (SS nLook s__law_looked) 40) ((defBody s__law_looked).drop 1) [.dat (Tr.four t1 t2 t3 t4).d, I x, I y, I z, b4 a b c e, I 1, z1, z2, z3, z4] M (fun _ M1 => Q (.dat .none) M1) Q (fun _ _ => False) (fun _ _ => False) E := by
  have q0 : outB x y z a b c e = true → Q (I 0) M := fun h => by
    rw [(found_out (ps := []) h).2] at q
    exact q
  have hn3 : n ≤ 3 := by omega
  refine ⟨_, rfl, brS (fun h1 => ?_) fun h1 => ⟨_, rfl, brS (fun h2 => ?_) fun h2 => ⟨_, rfl, brS (fun h3 => ?_) fun h3 => ⟨_, rfl, brS (fun h4 => ?_) fun h4 => ?_⟩⟩⟩⟩
  · exact q0 (by unfold outB; rw [show decide (x + z ≤ a) = true from h1]; simp)
  · exact q0 (by unfold outB; rw [show decide (y + z ≤ b) = true from h2]; simp)
  · exact q0 (by unfold outB; rw [show decide (c ≤ x) = true from h3]; simp)
  · exact q0 (by unfold outB; rw [show decide (e ≤ y) = true from h4]; simp)
  · have ho : outB x y z a b c e = false := by
      unfold outB
      rw [show decide (x + z ≤ a) = false from h1, show decide (y + z ≤ b) = false from h2, show decide (c ≤ x) = false from h3, show decide (e ≤ y) = false from h4]
      rfl
    rw [look_four ho] at q
    refine ⟨⟨by decide, by decide⟩, .inl ⟨rfl, rfl, .inl ⟨⟨by decide, by decide⟩, by decide, fun i acc M' => M' = M ∧ acc = dats (((parts t1 t2 t3 t4 x y (z.fdiv 2)).take i).map fun w : Part => .int (lookT a b c e w.t w.x w.y (z.fdiv 2))), ⟨rfl, rfl⟩, ?_, ?_, ?_⟩⟩⟩
    · rintro i acc M' hi ⟨rfl, rfl⟩
      refine ⟨trivial, ?_⟩
      rw [dats_len, List.length_map]
      exact List.length_take_le _ _
    · rintro D i r acc M' hr ⟨rfl, rfl⟩
      obtain ⟨hi, rfl⟩ := rng_at hr
      have hi : i < 4 := hi
      have g1 := all t1 (by simp)
      have g2 := all t2 (by simp)
      have g3 := all t3 (by simp)
      have g4 := all t4 (by simp)
      match i, hi with
      | 0, _ => exact ⟨_, rfl, t1.d, rfl, _, rfl, _, rfl, _, rfl, _, rfl, rfl, t1, x, y, _, a, b, c, e, rfl, g1.1, hn3, g1.2, _, rfl, rfl, rfl⟩
      | 1, _ => exact ⟨_, rfl, t2.d, rfl, _, rfl, _, rfl, _, rfl, _, rfl, rfl, t2, _, y, _, a, b, c, e, rfl, g2.1, hn3, g2.2, _, rfl, rfl, rfl⟩
      | 2, _ => exact ⟨_, rfl, t3.d, rfl, _, rfl, _, rfl, _, rfl, _, rfl, rfl, t3, x, _, _, a, b, c, e, rfl, g3.1, hn3, g3.2, _, rfl, rfl, rfl⟩
      | 3, _ => exact ⟨_, rfl, t4.d, rfl, _, rfl, _, rfl, _, rfl, _, rfl, rfl, t4, _, _, _, a, b, c, e, rfl, g4.1, hn3, g4.2, _, rfl, rfl, rfl⟩
    · rintro acc M' ⟨rfl, rfl⟩
      exact ⟨by show 4 ≤ 1000; decide, .inl ⟨_, rfl, (parts t1 t2 t3 t4 x y (z.fdiv 2)).map fun w : Part => lookT a b c e w.t w.x w.y (z.fdiv 2), rfl, q⟩⟩
set_option smartUnfolding false in
theorem look_leaf (n : Nat) {ns : List Str} {x y z a b c e : Int} {M : Ms} {Q : PoE} {E : Er} (hg : GoodT (.leaf ns)) (q : Q (I (lookT a b c e (.leaf ns) x y z)) M) : wpB (gE T k ea (tbL n)) (SS nLook s__law_looked) (defBody s__law_looked) [.dat (Tr.leaf ns).d, I x, I y, I z, b4 a b c e, .no, .no, .no, .no, .no] M Q E := by
  have lr : (dats (Tr.leaf ns).row).length = ns.length := by
    show (dats (ns.map PyData.str)).length = _
    rw [dats_len, List.length_map]
  have hl : ns.length ≤ 10 := hg.1
  have ho : ∀ n ∈ ns, PyData.strOk n = true := fun n hn => (hg.2 n hn).2
  have out : outB x y z a b c e = true → Q (I 0) M := fun h => by
    rw [(found_out (ps := []) h).2] at q
    exact q
  have inn : outB x y z a b c e = false → Q (I 1) M := fun h => by
    rw [show lookT a b c e (.leaf ns) x y z = 1 from if_neg (by rw [h]; decide)] at q
    exact q
  have rest := look_rest0 (T := T) (k := k) (ea := ea) n (t := (Tr.leaf ns).d) (x := x) (y := y) (z := z) (a := a) (b := b) (c := c) (e := e) (z1 := .no) (z2 := .no) (z3 := .no) (z4 := .no) (M := M) (Q := Q) (E := E) out inn
  rcases n with _ | n
  all_goals
    refine ⟨rfl, rfl, brS (fun h1 => rest) fun h1 => .inl ⟨by omega, fun i acc M' => M' = M ∧ acc = dats ((ns.take i).map .str), ⟨rfl, rfl⟩, ?_, ?_, ?_⟩⟩
    · rintro i acc M' hi ⟨rfl, rfl⟩
      refine ⟨trivial, ?_⟩
      rw [dats_len, List.length_map]
      exact List.length_take_le _ _
    · rintro D i r acc M' hr ⟨rfl, rfl⟩
      obtain ⟨m, hm, rfl⟩ := str_at hr
      have om := ho m (List.mem_of_getElem? hm)
      exact ⟨shaped_y om, shaped_y om, _, rfl, brT (str_self m) ⟨_, rfl, rfl, takeS hm⟩⟩
    · rintro acc M' ⟨rfl, hacc⟩
      have hacc : acc = dats (ns.map .str) := by
        rw [hacc, lr, List.take_length]
      subst hacc
      refine ⟨by rw [dats_len, List.length_map]; omega, .inl ⟨_, rfl, .inl ⟨shaped_ns ho, rfl, brS (fun h2 => rest) fun h2 => ?_⟩⟩⟩
      rw [ne_nil] at h2
      have h1 : eqB true (.int (Tr.leaf ns).row.length) (.int 4) = false := h1
      rw [ne_int] at h1
      have h3 : ((Tr.leaf ns).row.length : Int) = 4 := by simpa using h1
      cases ns with
      | nil => simp [Tr.row] at h3
      | cons a ns => simp at h2
set_option smartUnfolding false in
theorem look_four' (n : Nat) {t1 t2 t3 t4 : Tr} {x y z a b c e : Int} {M : Ms} {Q : PoE} {E : Er} (hn : n + 1 ≤ 3) (hd : (Tr.four t1 t2 t3 t4).dp ≤ n + 1) (hg : GoodT (.four t1 t2 t3 t4)) (q : Q (I (lookT a b c e (.four t1 t2 t3 t4) x y z)) M) :
    wpB (gE T k ea (tbL (n + 1))) (SS nLook s__law_looked) (defBody s__law_looked) [.dat (Tr.four t1 t2 t3 t4).d, I x, I y, I z, b4 a b c e, .no, .no, .no, .no, .no] M Q E := by
  have hd : 1 + max (max t1.dp t2.dp) (max t3.dp t4.dp) ≤ n + 1 := hd
  have hg : GoodT t1 ∧ GoodT t2 ∧ GoodT t3 ∧ GoodT t4 := hg
  have all : ∀ t ∈ [t1, t2, t3, t4], t.dp ≤ n ∧ GoodT t := fun t ht => by
    rcases (show t = t1 ∨ t = t2 ∨ t = t3 ∨ t = t4 by simpa using ht) with e | e | e | e <;> rw [e]
    · exact ⟨by omega, hg.1⟩
    · exact ⟨by omega, hg.2.1⟩
    · exact ⟨by omega, hg.2.2.1⟩
    · exact ⟨by omega, hg.2.2.2⟩
  have rest := look_rest1 (T := T) (k := k) (ea := ea) n (z1 := .no) (z2 := .no) (z3 := .no) (z4 := .no) (M := M) (Q := Q) (E := E) hn all q
  refine ⟨rfl, rfl, .inl ⟨by show 4 ≤ 1000; decide, fun i acc M' => M' = M ∧ acc = [], ⟨rfl, rfl⟩, ?_, ?_, ?_⟩⟩
  · rintro i acc M' hi ⟨rfl, rfl⟩
    exact ⟨trivial, Nat.zero_le _⟩
  · rintro D i r acc M' hr ⟨rfl, rfl⟩
    obtain ⟨t, ht, rfl⟩ := row_at (ts := [t1, t2, t3, t4]) hr
    obtain ⟨h1, h2⟩ := all t (List.mem_of_getElem? ht)
    have sb : ShowB 4 t.d := good_show h2 (by omega)
    exact ⟨sb, fun y hy => ⟨shaped_y hy, shaped_t h2 (by omega), _, rfl, brF (str_tup y t) ⟨rfl, rfl⟩⟩⟩
  · rintro acc M' ⟨rfl, rfl⟩
    exact ⟨by decide, .inl ⟨[], rfl, .inl ⟨rfl, rfl, rest⟩⟩⟩
theorem do_looked (n : Nat) : Does (gE T k ea (tbL n)) (SS nLook s__law_looked) (defBody s__law_looked) (sLooked n) := by
  rintro rs M Q E _ ⟨t, x, y, z, a, b, c, e, rfl, hd, h3, hg, q⟩
  cases t with
  | leaf ns => exact look_leaf n hg q
  | four t1 t2 t3 t4 =>
    cases n with
    | zero => exact absurd hd (by show ¬ 1 + max (max t1.dp t2.dp) (max t3.dp t4.dp) ≤ 0; omega)
    | succ n => exact look_four' n h3 hd hg q
end
end BW
/-! P17H -/
/-! nearest -/
namespace BW
open PySem PySem.Spec PyProof.Rows L2 Cal
section
variable {T : Tb} {k : Nat} {ea : Str → Addr}
def dist (x y : Int) (q : Pt) : Int := (q.2.1 - x) ^ 2 + (q.2.2 - y) ^ 2
def sq (x y : Int) (ps : List Pt) : Es := ps.map fun q => (.inr q.1, I (dist x y q))
def nearS (x y m : Int) (ps : List Pt) : List Str := sortS ((ps.filter fun q => dist x y q == m).map (·.1))
def sNearest (ea : Str → Addr) : Sig := ⟨3, [], fun rs M Q E => ∃ (A C : Ms) (p f : Addr) (d m s l x y : Int) (ps : List Pt), rs = [.ptr .ob f, I x, I y] ∧ M = mo ea A p f d m s l (ep ps) C ∧ ps.length ≤ 100 ∧ (namesP ps).Nodup ∧ x.natAbs ≤ 1000 ∧ y.natAbs ≤ 1000 ∧ (∀ q ∈ ps, q.2.1.natAbs ≤ 1000 ∧ q.2.2.natAbs ≤ 1000) ∧
    ((ps = [] ∧ ∀ z, E (ea "NoSuch") (z :: M)) ∨ (ps ≠ [] ∧ ∀ n, (∃ q ∈ ps, dist x y q = n) → (∀ q ∈ ps, n ≤ dist x y q) → Q (.dat (.tuple ((nearS x y n ps).map .str))) M)),
  fun hQ hE ⟨A, C, p, f, d, m, s, l, x, y, ps, e1, e2, h1, h2, h3, h4, h5, q⟩ => ⟨A, C, p, f, d, m, s, l, x, y, ps, e1, e2, h1, h2, h3, h4, h5, q.imp (fun ⟨a, b⟩ => ⟨a, fun z => hE _ _ (b z)⟩) fun ⟨a, q⟩ => ⟨a, fun n b c => hQ _ _ (q n b c)⟩⟩⟩
theorem dat_ep (ps : List Pt) : DatE (ep ps) := fun q hq => by
  obtain ⟨z, _, rfl⟩ := List.mem_map.mp hq
  exact ⟨_, rfl, rfl⟩
theorem kvPut_new {es : Es} {k : L2.Key} {r : Sv} (h : ∀ q ∈ es, q.1 ≠ k) : kvPut es k r = es ++ [(k, r)] := by
  unfold kvPut
  rw [if_neg]
  intro z
  obtain ⟨q, hq, e⟩ := List.any_eq_true.mp z
  exact h q hq (of_decide_eq_true e)
theorem sq_snoc {x y : Int} {ps : List Pt} (hn : (namesP ps).Nodup) {i : Nat} {q : Pt} (h : ps[i]? = some q) : kvPut (sq x y (ps.take i)) (.inr q.1) (I (dist x y q)) = sq x y (ps.take (i + 1)) := by
  rw [takeP1 h]
  unfold sq
  rw [List.map_append]
  refine kvPut_new fun z hz e => ?_
  obtain ⟨w, hw, rfl⟩ := List.mem_map.mp hz
  have e : w.1 = q.1 := Sum.inr.inj e
  have nd : (namesP (ps.take (i + 1))).Nodup := by
    unfold namesP at hn ⊢
    rw [List.map_take]
    exact hn.sublist (List.take_sublist _ _)
  rw [takeP1 h] at nd
  unfold namesP at nd
  rw [List.map_append, List.nodup_append] at nd
  exact nd.2.2 w.1 (List.mem_map.mpr ⟨w, hw, rfl⟩) q.1 (by simp) e
theorem sq_get {x y : Int} : ∀ {ps : List Pt}, (namesP ps).Nodup → ∀ q ∈ ps, kvGet (sq x y ps) (.inr q.1) = some (I (dist x y q))
  | [], _, q, h => nomatch h
  | p :: ps, nd, q, h => by
    have nd : p.1 ∉ namesP ps ∧ (namesP ps).Nodup := List.nodup_cons.mp nd
    by_cases e : p.1 = q.1
    · rcases List.mem_cons.mp h with h | h
      · rw [h]
        exact kvGet_pos (p := ((Sum.inr p.1 : L2.Key), I (dist x y p))) rfl
      · exact absurd (List.mem_map.mpr ⟨q, h, e.symm⟩) nd.1
    · rcases List.mem_cons.mp h with h | h
      · rw [h] at e
        exact absurd rfl e
      · exact (kvGet_neg (p := ((Sum.inr p.1 : L2.Key), I (dist x y p))) fun z => e (Sum.inr.inj z)).trans (sq_get nd.2 q h)
theorem items_ep : ∀ ps : List Pt, itemsD (ep ps) = some (ps.map fun q => .tuple [.str q.1, xy q.2.1 q.2.2])
  | [] => rfl
  | q :: ps => by
    have ih := items_ep ps
    unfold ep at ih ⊢
    rw [List.map_cons]
    unfold itemsD
    rw [ih]
    rfl
theorem pow_ok {a b : Int} (h1 : a.natAbs ≤ 1000) (h2 : b.natAbs ≤ 1000) : CPow (a - b) 2 := ⟨by decide, by decide, by omega⟩
abbrev mk (ea : Str → Addr) (A : Ms) (p f : Addr) (d m s l : Int) (o : Obj) (kvs : List (L2.Key × V)) (es : Es) (C : Ms) : Ms := A ++ (p, .fk o kvs es) :: (f, .ob (ea "Fours") (fo p d m s l)) :: C
theorem key_at {x y : Int} {ps : List Pt} {i : Nat} {r : Sv} (h : (dats ((sq x y ps).map fun p => keyS p.1))[i]? = some r) : ∃ q, ps[i]? = some q ∧ r = .dat (.str q.1) := by
  unfold dats sq at h
  rw [List.map_map, List.map_map, List.getElem?_map] at h
  obtain ⟨t, h1, h2⟩ := Option.map_eq_some_iff.mp h
  exact ⟨t, h1, h2.symm⟩
theorem filtP1 {f : Pt → Bool} {ps : List Pt} {i : Nat} {w : Pt} (h : ps[i]? = some w) (b : f w = true) : dats ((((ps.take (i + 1)).filter f).map fun q => q.1).map PyData.str) = dats ((((ps.take i).filter f).map fun q => q.1).map PyData.str) ++ [.dat (.str w.1)] := by
  rw [takeP1 h, List.filter_append, List.filter_cons_of_pos b, List.map_append, List.map_append, dats_app]
  rfl
theorem filtP0 {f : Pt → Bool} {ps : List Pt} {i : Nat} {w : Pt} (h : ps[i]? = some w) (b : f w = false) : dats ((((ps.take (i + 1)).filter f).map fun q => q.1).map PyData.str) = dats ((((ps.take i).filter f).map fun q => q.1).map PyData.str) := by
  rw [takeP1 h, List.filter_append, List.filter_cons_of_neg (by rw [b]; decide)]
  simp
theorem tup_at {ps : List Pt} {i : Nat} {r : Sv} (h : (dats (ps.map fun q => .tuple [.str q.1, xy q.2.1 q.2.2]))[i]? = some r) : ∃ q, ps[i]? = some q ∧ r = .dat (.tuple [.str q.1, xy q.2.1 q.2.2]) := by
  unfold dats at h
  rw [List.map_map, List.getElem?_map] at h
  obtain ⟨t, h1, h2⟩ := Option.map_eq_some_iff.mp h
  exact ⟨t, h1, h2.symm⟩
set_option smartUnfolding false in
theorem do_nearest : DoesS (g0 T k ea) (SS ["self", "x", "y", "squares", "least", "name", "aside", "up"] s_Fours_nearest) (defBody s_Fours_nearest) (sNearest ea) := by
  rintro rs M Q E _ ⟨A, C, p, f, d, m, s, l, x, y, ps, rfl, rfl, hl, hn, hx, hy, hb, q⟩
  refine ⟨_, _, _, _, mo_f, fl_ok rfl, _, rfl, fun z => ⟨ep ps, [], .inl ⟨(z, .dk []) :: A, _, rfl⟩, .inl ⟨[], _, rfl⟩, dat_ep ps, fun _ h => (nomatch h), brS (fun h1 => ?_) fun h1 => ?_⟩⟩
  · have h1 : dEq (ep ps) [] = true := h1
    have e : ps = [] := by
      cases ps with
      | nil => rfl
      | cons q ps => cases h1
    exact q.elim (fun w => w.2 _) fun w => absurd e w.1
  · have h1 : dEq (ep ps) [] = false := h1
    have ne : ps ≠ [] := fun e => by
      rw [e] at h1
      cases h1
    have q := q.elim (fun w => absurd w.1 ne) fun w => w.2
    refine .inr ⟨(z, .dk []) :: A, p, ep ps, _, rfl, fun o kvs => ⟨((z, .dk []) :: A) ++ [(p, .fk o kvs (ep ps))], _, _, C, mo_f, fl_ok rfl, .ptr .dk p, rfl, (z, .dk []) :: A, o, kvs, ep ps, _, _, rfl, items_ep ps, ?_, fun i acc M' => M' = mk ea ((z, .dk []) :: A) p f d m s l o kvs (ep ps) C ∧ acc = sq x y (ps.take i), ⟨rfl, rfl⟩, ?_, ?_, ?_⟩⟩
    · rw [dats_len, List.length_map]
      omega
    · rintro i acc M' hi ⟨rfl, rfl⟩
      refine ⟨⟨_, _, rfl⟩, ?_⟩
      unfold sq
      rw [List.length_map]
      exact List.length_take_le _ _
    · rintro D i r acc M' hr ⟨rfl, rfl⟩
      obtain ⟨w, hw, rfl⟩ := tup_at hr
      obtain ⟨b1, b2⟩ := hb w (List.mem_of_getElem? hw)
      exact ⟨_, rfl, _, .inr w.1, rfl, rfl, pow_ok b1 hx, pow_ok b2 hy, _, rfl, rfl, sq_snoc hn hw⟩
    · rintro acc M' l2 ⟨rfl, hacc⟩
      have hacc : acc = sq x y ps := by
        rw [hacc, dats_len, List.length_map, List.take_length]
      subst hacc
      have hl2 : (dats ((sq x y ps).map fun p => keyS p.1)).length ≤ 1000 := by
        rw [dats_len, List.length_map]
        unfold sq
        rw [List.length_map]
        omega
      refine ⟨(l2, _) :: (z, .dk []) :: A, _, rfl, sq x y ps, ps.map (dist x y), .inl ⟨[], _, rfl⟩, ?_, ?_, fun n hm hmin => .inr ⟨[], l2, sq x y ps, _, rfl, fun o2 kvs2 => ⟨[], o2, kvs2, sq x y ps, _, rfl, hl2, fun i acc M' => M' = (l2, .fk o2 kvs2 (sq x y ps)) :: (z, .dk []) :: mo ea A p f d m s l (ep ps) C ∧ acc = dats ((((ps.take i).filter fun q => dist x y q == n).map fun q => q.1).map .str), ⟨rfl, rfl⟩, ?_, ?_, ?_⟩⟩⟩
      · unfold sq
        rw [List.map_map, List.map_map]
        rfl
      · simpa using ne
      · rintro i acc M' hi ⟨rfl, rfl⟩
        refine ⟨⟨[], _, rfl⟩, ?_⟩
        rw [dats_len, List.length_map, List.length_map]
        exact Nat.le_trans (List.length_filter_le _ _) (List.length_take_le _ _)
      · rintro D i r acc M' hr ⟨rfl, rfl⟩
        obtain ⟨w, hw, rfl⟩ := key_at hr
        have hg := sq_get (x := x) (y := y) hn w (List.mem_of_getElem? hw)
        refine ⟨.inr w.1, sq x y ps, rfl, .inr ⟨[(D, _)], o2, kvs2, _, rfl⟩, _, hg, rfl, rfl, _, rfl, brS (fun h => ⟨_, rfl, rfl, (filtP1 hw ?_).symm⟩) fun h => ⟨rfl, (filtP0 hw ?_).symm⟩⟩
        · rw [eq_int] at h
          exact beq_iff_eq.mpr (of_decide_eq_true h)
        · rw [eq_int] at h
          exact beq_eq_false_iff_ne.mpr (of_decide_eq_false h)
      · rintro acc M' ⟨rfl, hacc⟩
        have hacc : acc = dats (((ps.filter fun q => dist x y q == n).map fun q => q.1).map .str) := by
          rw [hacc, dats_len, List.length_map]
          unfold sq
          rw [List.length_map, List.take_length]
        subst hacc
        have lf : (((ps.filter fun q => dist x y q == n).map fun q => q.1).map PyData.str).length ≤ 1000 := by
          rw [List.length_map, List.length_map]
          exact Nat.le_trans (List.length_filter_le _ _) (by omega)
        refine ⟨by rw [dats_len]; exact lf, .inl ⟨_, rfl, [], _, rfl, _, rfl, alike_str _, sort_str _, lf, depth_str _, fun ys hy => ?_⟩⟩
        have hy : ys = (nearS x y n ps).map .str := hy.trans (sortS_eq _)
        subst hy
        obtain ⟨w, hw, ew⟩ := List.mem_map.mp hm
        refine ⟨?_, .inl ⟨_, rfl, Shr.drop0 (Shr.drop0 (.ok (q n ⟨w, hw, ew⟩ fun u hu => hmin _ (List.mem_map.mpr ⟨u, hu, rfl⟩))))⟩⟩
        rw [dats_len, List.length_map]
        unfold nearS
        rw [(sortS_perm _).length_eq]
        rw [List.length_map] at lf
        exact lf
end
end BW
/-! P17M -/
/-! names in order, whatever order they came in; squares in squares -/
namespace BW
open PySem PySem.Spec PyProof.Rows L2 Cal
theorem lt_str {x y : Str} (h1 : PySem.W.dataLt (.str x) (.str y) = false) (h2 : PySem.W.dataLt (.str y) (.str x) = false) : x = y := by
  rw [PySem.W.dataLt_str] at h1 h2
  have h1 := of_decide_eq_false h1
  have h2 := of_decide_eq_false h2
  exact PySem.W.str_of_cps (List.le_antisymm (List.not_lt.mp h2) (List.not_lt.mp h1))
theorem sortS_same {xs ys : List Str} (h : xs.Perm ys) : sortS xs = sortS ys := by
  have tot := PySem.W.sortLe_total (listOrd itemOrd) false (fun d : D => PySem.W.keyToks d)
  have mem : ∀ {zs : List Str} {d : D}, d ∈ (zs.map PyData.str).mergeSort leD → ∃ p, d = .str p := fun {zs d} hd => by
    rw [List.mem_mergeSort] at hd
    obtain ⟨p, _, rfl⟩ := List.mem_map.mp hd
    exact ⟨p, rfl⟩
  unfold sortS
  refine congrArg (List.map unS) (List.Perm.eq_of_pairwise (le := fun a b => leD a b = true) ?_ (List.pairwise_mergeSort tot.trans (fun a b => Bool.or_eq_true_iff.mpr (tot.total a b)) _) (List.pairwise_mergeSort tot.trans (fun a b => Bool.or_eq_true_iff.mpr (tot.total a b)) _) ?_)
  · intro a b ha hb h1 h2
    obtain ⟨p, rfl⟩ := mem ha
    obtain ⟨q, rfl⟩ := mem hb
    have h1 : (!PySem.W.dataLt (.str q) (.str p)) = true := h1
    have h2 : (!PySem.W.dataLt (.str p) (.str q)) = true := h2
    rw [Bool.not_eq_true'] at h1 h2
    rw [lt_str h2 h1]
  · exact (List.mergeSort_perm _ _).trans ((h.map PyData.str).trans (List.mergeSort_perm _ _).symm)
theorem inP_sub {ps : List Pt} {a b c d a' b' c' d' : Int} (h1 : a ≤ a') (h2 : b ≤ b') (h3 : c' ≤ c) (h4 : d' ≤ d) {n : Str} (h : inP ps a' b' c' d' n = true) : inP ps a b c d n = true := by
  unfold inP at h ⊢
  cases e : getP ps n with
  | none => rw [e] at h; exact h
  | some z =>
    obtain ⟨x, y⟩ := z
    rw [e] at h
    have h : inB2 x y a' b' c' d' = true := h
    show inB2 x y a b c d = true
    unfold inB2 at h ⊢
    simp at h ⊢
    omega
/-- names of a square in a square: by the larger one's names, or by all -/
theorem mine_sub {ps : List Pt} {ns : List Str} {x y s x' y' s' : Int} (h1 : x ≤ x') (h2 : y ≤ y') (h3 : x' + s' ≤ x + s) (h4 : y' + s' ≤ y + s) : mineN ps (mineN ps ns x y s) x' y' s' = mineN ps ns x' y' s' := by
  unfold mineN
  refine sortS_same (((sortS_perm _).filter _).trans ?_)
  rw [List.filter_filter]
  refine List.Perm.of_eq (List.filter_congr fun n _ => ?_)
  cases e : inP ps x' y' (x' + s') (y' + s') n with
  | false => rfl
  | true => rw [inP_sub h1 h2 h3 h4 e]; rfl
end BW
/-! P17N -/
/-! the tree that is cut: deep, its names, its points -/
namespace BW
open PySem PySem.Spec PyProof.Rows L2 Cal
theorem cut_dp {ps : List Pt} {m : Int} : ∀ {j : Nat} {ns : List Str} {x y : Int}, (cutN ps m j ns x y).dp ≤ j
  | 0, ns, x, y => Nat.le_refl _
  | j + 1, ns, x, y => by
    unfold cutN
    split
    · exact Nat.zero_le _
    · show 1 + max (max _ _) (max _ _) ≤ j + 1
      have h1 := cut_dp (ps := ps) (m := m) (j := j) (ns := mineN ps ns x y (2 ^ (j + 1))) (x := x) (y := y)
      have h2 := cut_dp (ps := ps) (m := m) (j := j) (ns := mineN ps ns x y (2 ^ (j + 1))) (x := x + 2 ^ j) (y := y)
      have h3 := cut_dp (ps := ps) (m := m) (j := j) (ns := mineN ps ns x y (2 ^ (j + 1))) (x := x) (y := y + 2 ^ j)
      have h4 := cut_dp (ps := ps) (m := m) (j := j) (ns := mineN ps ns x y (2 ^ (j + 1))) (x := x + 2 ^ j) (y := y + 2 ^ j)
      omega
theorem cut_has {ps : List Pt} {m : Int} : ∀ {j : Nat} {ns : List Str} {x y : Int}, Has ps ns → HasT ps (cutN ps m j ns x y)
  | 0, ns, x, y, h => mine_has h
  | j + 1, ns, x, y, h => by
    unfold cutN
    split
    · exact mine_has h
    · exact ⟨cut_has (mine_has h), cut_has (mine_has h), cut_has (mine_has h), cut_has (mine_has h)⟩
def GoodN (ns : List Str) : Prop := ns.length ≤ 10 ∧ ∀ n ∈ ns, ((reprText n).length ≤ 20 ∧ PyData.strOk (reprText n) = true) ∧ PyData.strOk n = true
theorem mine_good {ps : List Pt} {ns : List Str} {x y s : Int} (h : GoodN ns) : GoodN (mineN ps ns x y s) := ⟨Nat.le_trans mine_len h.1, fun n hn => h.2 n (List.mem_filter.mp ((sortS_perm _).mem_iff.mp hn)).1⟩
theorem cut_good {ps : List Pt} {m : Int} : ∀ {j : Nat} {ns : List Str} {x y : Int}, GoodN ns → GoodT (cutN ps m j ns x y)
  | 0, ns, x, y, h => mine_good h
  | j + 1, ns, x, y, h => by
    unfold cutN
    split
    · exact mine_good h
    · exact ⟨cut_good (mine_good h), cut_good (mine_good h), cut_good (mine_good h), cut_good (mine_good h)⟩
/-- four squares of a square share no name -/
theorem quarter_len {ps : List Pt} {x y s : Int} : ∀ ns : List Str,
    (ns.filter (inP ps x y (x + s) (y + s))).length + ((ns.filter (inP ps (x + s) y (x + s + s) (y + s))).length + ((ns.filter (inP ps x (y + s) (x + s) (y + s + s))).length + (ns.filter (inP ps (x + s) (y + s) (x + s + s) (y + s + s))).length)) ≤ ns.length
  | [] => Nat.le_refl _
  | n :: ns => by
    have ih := quarter_len (ps := ps) (x := x) (y := y) (s := s) ns
    have one : (if inP ps x y (x + s) (y + s) n = true then 1 else 0) + ((if inP ps (x + s) y (x + s + s) (y + s) n = true then 1 else 0) + ((if inP ps x (y + s) (x + s) (y + s + s) n = true then 1 else 0) + (if inP ps (x + s) (y + s) (x + s + s) (y + s + s) n = true then 1 else 0))) ≤ 1 := by
      unfold inP
      cases getP ps n with
      | none => simp
      | some z =>
        obtain ⟨u, v⟩ := z
        simp only [inB2, Bool.and_eq_true, decide_eq_true_eq]
        split <;> split <;> split <;> split <;> omega
    have e : ∀ f : Str → Bool, ((n :: ns).filter f).length = (if f n = true then 1 else 0) + (ns.filter f).length := fun f => by
      by_cases h : f n = true
      · rw [List.filter_cons_of_pos h, if_pos h, List.length_cons]; omega
      · rw [List.filter_cons_of_neg h, if_neg h]; omega
    rw [e, e, e, e, List.length_cons]
    omega
theorem cut_cnt {ps : List Pt} {m : Int} : ∀ {j : Nat} {ns : List Str} {x y : Int}, (cutN ps m j ns x y).cnt ≤ (mineN ps ns x y (2 ^ j)).length
  | 0, ns, x, y => Nat.le_refl _
  | j + 1, ns, x, y => by
    unfold cutN
    split
    · exact Nat.le_refl _
    · show _ + (_ + (_ + _)) ≤ _
      have h1 := cut_cnt (ps := ps) (m := m) (j := j) (ns := mineN ps ns x y (2 ^ (j + 1))) (x := x) (y := y)
      have h2 := cut_cnt (ps := ps) (m := m) (j := j) (ns := mineN ps ns x y (2 ^ (j + 1))) (x := x + 2 ^ j) (y := y)
      have h3 := cut_cnt (ps := ps) (m := m) (j := j) (ns := mineN ps ns x y (2 ^ (j + 1))) (x := x) (y := y + 2 ^ j)
      have h4 := cut_cnt (ps := ps) (m := m) (j := j) (ns := mineN ps ns x y (2 ^ (j + 1))) (x := x + 2 ^ j) (y := y + 2 ^ j)
      have q := quarter_len (ps := ps) (x := x) (y := y) (s := 2 ^ j) (mineN ps ns x y (2 ^ (j + 1)))
      have l : ∀ (u v s : Int), (mineN ps (mineN ps ns x y (2 ^ (j + 1))) u v s).length = ((mineN ps ns x y (2 ^ (j + 1))).filter (inP ps u v (u + s) (v + s))).length := fun u v s => (sortS_perm _).length_eq
      rw [l] at h1 h2 h3 h4
      omega
theorem tree_facts {ps : List Pt} {m : Int} {j : Nat} (h : GoodN (namesP ps)) : (treeOf ps m j).dp ≤ j ∧ (treeOf ps m j).cnt ≤ 100 ∧ HasT ps (treeOf ps m j) ∧ GoodT (treeOf ps m j) :=
  ⟨cut_dp, Nat.le_trans cut_cnt (Nat.le_trans mine_len (by have := h.1; omega)), cut_has (names_has ps), cut_good h⟩
end BW
/-! P17O -/
/-! what is found in a tree is what lies in the box -/
namespace BW
open PySem PySem.Spec PyProof.Rows L2 Cal
theorem four_perm {p1 p2 p3 p4 : Str → Bool} : ∀ {l : List Str}, (∀ n ∈ l, (if p1 n = true then 1 else 0) + ((if p2 n = true then 1 else 0) + ((if p3 n = true then 1 else 0) + (if p4 n = true then 1 else 0))) = 1) →
    (l.filter p1 ++ (l.filter p2 ++ (l.filter p3 ++ l.filter p4))).Perm l
  | [], _ => .nil
  | n :: l, h => by
    have ih := four_perm (l := l) fun m hm => h m (List.mem_cons_of_mem _ hm)
    have h1 := h n List.mem_cons_self
    by_cases e1 : p1 n = true
    · have e2 : ¬ p2 n = true := fun z => by rw [if_pos e1, if_pos z] at h1; omega
      have e3 : ¬ p3 n = true := fun z => by rw [if_pos e1, if_pos z] at h1; omega
      have e4 : ¬ p4 n = true := fun z => by rw [if_pos e1, if_pos z] at h1; omega
      rw [List.filter_cons_of_pos e1, List.filter_cons_of_neg e2, List.filter_cons_of_neg e3, List.filter_cons_of_neg e4]
      exact ih.cons n
    · rw [if_neg e1] at h1
      rw [List.filter_cons_of_neg e1]
      by_cases e2 : p2 n = true
      · have e3 : ¬ p3 n = true := fun z => by rw [if_pos e2, if_pos z] at h1; omega
        have e4 : ¬ p4 n = true := fun z => by rw [if_pos e2, if_pos z] at h1; omega
        rw [List.filter_cons_of_pos e2, List.filter_cons_of_neg e3, List.filter_cons_of_neg e4, List.cons_append]
        exact List.perm_middle.trans (ih.cons n)
      · rw [if_neg e2] at h1
        rw [List.filter_cons_of_neg e2]
        by_cases e3 : p3 n = true
        · have e4 : ¬ p4 n = true := fun z => by rw [if_pos e3, if_pos z] at h1; omega
          rw [List.filter_cons_of_pos e3, List.filter_cons_of_neg e4, List.cons_append, ← List.append_assoc]
          refine List.perm_middle.trans (List.Perm.cons n ?_)
          rw [List.append_assoc]
          exact ih
        · rw [if_neg e3] at h1
          have e4 : p4 n = true := by
            by_cases z : p4 n = true
            · exact z
            · rw [if_neg z] at h1; omega
          rw [List.filter_cons_of_neg e3, List.filter_cons_of_pos e4, ← List.append_assoc, ← List.append_assoc]
          refine List.perm_middle.trans (List.Perm.cons n ?_)
          rw [List.append_assoc, List.append_assoc]
          exact ih
theorem mine_in {ps : List Pt} {ns : List Str} {x y s : Int} {n : Str} (h : n ∈ mineN ps ns x y s) : inP ps x y (x + s) (y + s) n = true := (List.mem_filter.mp ((sortS_perm _).mem_iff.mp h)).2
theorem quarters_one {ps : List Pt} {x y s : Int} {n : Str} (hs : 0 < s) (h : inP ps x y (x + (s + s)) (y + (s + s)) n = true) : (if inP ps x y (x + s) (y + s) n = true then 1 else 0) + ((if inP ps (x + s) y (x + s + s) (y + s) n = true then 1 else 0) + ((if inP ps x (y + s) (x + s) (y + s + s) n = true then 1 else 0) + (if inP ps (x + s) (y + s) (x + s + s) (y + s + s) n = true then 1 else 0))) = 1 := by
  unfold inP at h ⊢
  cases e : getP ps n with
  | none => rw [e] at h; cases h
  | some z =>
    obtain ⟨u, v⟩ := z
    rw [e] at h
    simp only [inB2, Bool.and_eq_true, decide_eq_true_eq] at h ⊢
    split <;> split <;> split <;> split <;> omega
theorem out_none {ps : List Pt} {ns : List Str} {x y s a b c d : Int} (h : outB x y s a b c d = true) : (mineN ps ns x y s).filter (inP ps a b c d) = [] := by
  rw [List.filter_eq_nil_iff]
  intro n hn hb
  have hm := mine_in hn
  unfold inP at hm hb
  cases e : getP ps n with
  | none => rw [e] at hm; cases hm
  | some z =>
    obtain ⟨u, v⟩ := z
    rw [e] at hm hb
    simp only [inB2, Bool.and_eq_true, decide_eq_true_eq] at hm hb
    unfold outB at h
    simp at h
    omega
theorem foundP_parts {ps : List Pt} {a b c d x y h : Int} {t1 t2 t3 t4 : Tr} : foundP ps a b c d h (parts t1 t2 t3 t4 x y h) = foundT ps a b c d t1 x y h ++ (foundT ps a b c d t2 (x + h) y h ++ (foundT ps a b c d t3 x (y + h) h ++ foundT ps a b c d t4 (x + h) (y + h) h)) := by
  simp [foundP, parts]
theorem found_perm {ps : List Pt} {m a b c d : Int} : ∀ {j : Nat} {ns : List Str} {x y : Int}, (foundT ps a b c d (cutN ps m j ns x y) x y (2 ^ j)).Perm ((mineN ps ns x y (2 ^ j)).filter (inP ps a b c d))
  | 0, ns, x, y => by
    show (if outB x y (2 ^ 0) a b c d = true then [] else (mineN ps ns x y (2 ^ 0)).filter (inP ps a b c d)).Perm _
    split
    · rename_i h
      rw [out_none h]
    · exact .refl _
  | j + 1, ns, x, y => by
    by_cases h : outB x y (2 ^ (j + 1)) a b c d = true
    · rw [(found_out h).1, out_none h]
    · unfold cutN
      split
      · show (if outB x y (2 ^ (j + 1)) a b c d = true then [] else (mineN ps ns x y (2 ^ (j + 1))).filter (inP ps a b c d)).Perm _
        rw [if_neg h]
      · rw [found_four (by simpa using h), half_pow]
        have h1 := found_perm (ps := ps) (m := m) (a := a) (b := b) (c := c) (d := d) (j := j) (ns := mineN ps ns x y (2 ^ (j + 1))) (x := x) (y := y)
        have h2 := found_perm (ps := ps) (m := m) (a := a) (b := b) (c := c) (d := d) (j := j) (ns := mineN ps ns x y (2 ^ (j + 1))) (x := x + 2 ^ j) (y := y)
        have h3 := found_perm (ps := ps) (m := m) (a := a) (b := b) (c := c) (d := d) (j := j) (ns := mineN ps ns x y (2 ^ (j + 1))) (x := x) (y := y + 2 ^ j)
        have h4 := found_perm (ps := ps) (m := m) (a := a) (b := b) (c := c) (d := d) (j := j) (ns := mineN ps ns x y (2 ^ (j + 1))) (x := x + 2 ^ j) (y := y + 2 ^ j)
        have l : ∀ (u v s : Int), ((mineN ps (mineN ps ns x y (2 ^ (j + 1))) u v s).filter (inP ps a b c d)).Perm (((mineN ps ns x y (2 ^ (j + 1))).filter (inP ps u v (u + s) (v + s))).filter (inP ps a b c d)) := fun u v s => (sortS_perm _).filter _
        rw [foundP_parts]
        refine ((h1.trans (l _ _ _)).append ((h2.trans (l _ _ _)).append ((h3.trans (l _ _ _)).append (h4.trans (l _ _ _))))).trans ?_
        rw [← List.filter_append, ← List.filter_append, ← List.filter_append]
        refine (four_perm fun n hn => ?_).filter _
        have hm := mine_in hn
        have e2 : (2 : Int) ^ (j + 1) = 2 ^ j + 2 ^ j := by rw [Int.pow_succ]; omega
        rw [e2] at hm
        exact quarters_one (Int.pow_pos (by decide)) hm
end BW
/-! P17Q -/
/-! _law_fits -/
namespace BW
open PySem PySem.Spec PyProof.Rows L2 Cal
def sFits (J : Nat) : Sig := ⟨6, [], fun rs M Q E => ∃ (A C : Ms) (p : Addr) (ps : List Pt) (m : Int) (j : Nat) (ns : List Str) (x y : Int), j ≤ J ∧ rs = [.dat (cutN ps m j ns x y).d, .ptr .dk p, I x, I y, I (2 ^ j), I m] ∧ M = A ++ (p, .dk (ep ps)) :: C ∧ ps.length ≤ 100 ∧ (namesP ps).Nodup ∧ (∀ n ∈ namesP ps, PyData.strOk n = true) ∧
    mineN ps ns x y (2 ^ j) = mineN ps (namesP ps) x y (2 ^ j) ∧ ns.length ≤ 100 ∧ Q (B true) M,
  fun hQ hE ⟨A, C, p, ps, m, j, ns, x, y, e1, e2, e3, h1, h2, h3, h4, h5, q⟩ => ⟨A, C, p, ps, m, j, ns, x, y, e1, e2, e3, h1, h2, h3, h4, h5, hQ _ _ q⟩⟩
def tbF : Nat → Tbl
  | 0 => []
  | i + 1 => [(("_law_fits", 6), sFits i)]
abbrev nFits : List Str := ["tree", "table", "x", "y", "size", "most", "mine", "half_now", "corners", "name", "k"]
theorem getP_of {ps : List Pt} : (namesP ps).Nodup → ∀ q ∈ ps, getP ps q.1 = some q.2 := by
  induction ps with
  | nil => intro _ q h; cases h
  | cons p ps ih =>
    intro nd q h
    have nd : p.1 ∉ namesP ps ∧ (namesP ps).Nodup := List.nodup_cons.mp nd
    unfold getP
    obtain ⟨pn, pv⟩ := p
    rw [List.lookup_cons]
    rcases List.mem_cons.mp h with h | h
    · rw [h, beq_self_eq_true]
    · have : (q.1 == pn) = false := beq_eq_false_iff_ne.mpr fun z => nd.1 (List.mem_map.mpr ⟨q, h, z⟩)
      rw [this]
      exact ih nd.2 q h
section
variable {T : Tb} {k : Nat} {ea : Str → Addr}
set_option smartUnfolding false in
theorem do_fits0 : Does (gi T k ea [] [] []) (SS nFits s__law_fits) (defBody s__law_fits) (sFits 0) := by
  rintro rs M Q E _ ⟨A, C, p, ps, m, j, ns, x, y, hj, rfl, rfl, hl, hn, ho, hm, hs, q⟩
  have hk : (dats ((ep ps).map fun p => keyS p.1)).length ≤ 1000 := by
    rw [ep_keys, dats_len, List.length_map]
    unfold namesP
    rw [List.length_map]
    omega
  refine .inr ⟨A, p, ep ps, C, rfl, fun o kvs => ⟨A, o, kvs, ep ps, C, rfl, hk, fun i acc M' => M' = A ++ (p, .fk o kvs (ep ps)) :: C ∧ acc = dats ((((namesP ps).take i).filter (inP ps x y (x + 2 ^ j) (y + 2 ^ j))).map .str), ⟨rfl, rfl⟩, ?_, ?_, ?_⟩⟩
  · rintro i acc M' hi ⟨rfl, rfl⟩
    exact ⟨⟨A, C, rfl⟩, filt_len⟩
  · rintro D i r acc M' hr ⟨rfl, rfl⟩
    have hr2 : (dats ((namesP ps).map PyData.str))[i]? = some r := by
      rw [← ep_keys]
      exact hr
    obtain ⟨n, hn2, rfl⟩ := str_at hr2
    obtain ⟨px, py, hp⟩ := names_has ps n (List.mem_of_getElem? hn2)
    have hg : kvGet (ep ps) (.inr n) = some (.dat (xy px py)) := by rw [ep_get, hp]; rfl
    have eb : inP ps x y (x + 2 ^ j) (y + 2 ^ j) n = inB2 px py x y (x + 2 ^ j) (y + 2 ^ j) := by
      unfold inP
      rw [hp]
    have no : inB2 px py x y (x + 2 ^ j) (y + 2 ^ j) = false → inP ps x y (x + 2 ^ j) (y + 2 ^ j) n = false := fun h => eb.trans h
    refine ⟨.inr n, ep ps, rfl, .inr ⟨(D, _) :: A, o, kvs, C, rfl⟩, .dat (xy px py), hg, _, rfl, brS (fun a1 => brS (fun a2 => ⟨.inr n, ep ps, rfl, .inr ⟨(D, _) :: A, o, kvs, C, rfl⟩, .dat (xy px py), hg, _, rfl, brS (fun a3 => ⟨_, rfl, brS (fun a4 => ⟨_, rfl, rfl, (filt1 hn2 (eb.trans ?_)).symm⟩) fun a4 => ⟨rfl, (filt0 hn2 (no ?_)).symm⟩⟩) fun a3 => ⟨_, rfl, rfl, (filt0 hn2 (no ?_)).symm⟩⟩) fun a2 => ⟨_, rfl, rfl, (filt0 hn2 (no ?_)).symm⟩) fun a1 => ⟨_, rfl, rfl, (filt0 hn2 (no ?_)).symm⟩⟩
    · unfold inB2
      rw [show decide (x ≤ px) = true from a1, show decide (px < x + 2 ^ j) = true from a2, show decide (y ≤ py) = true from a3, show decide (py < y + 2 ^ j) = true from a4]
      rfl
    · unfold inB2
      rw [show decide (py < y + 2 ^ j) = false from a4]
      simp
    · unfold inB2
      rw [show decide (y ≤ py) = false from a3]
      simp
    · unfold inB2
      rw [show decide (px < x + 2 ^ j) = false from a2]
      simp
    · unfold inB2
      rw [show decide (x ≤ px) = false from a1]
      simp
  · rintro acc M' ⟨rfl, hacc⟩
    have hacc : acc = dats (((namesP ps).filter (inP ps x y (x + 2 ^ j) (y + 2 ^ j))).map .str) := by
      rw [hacc, ep_keys, dats_len, List.length_map, List.take_length]
    subst hacc
    have lf : (((namesP ps).filter (inP ps x y (x + 2 ^ j) (y + 2 ^ j))).map PyData.str).length ≤ 1000 := by
      rw [List.length_map]
      refine Nat.le_trans (List.length_filter_le _ _) ?_
      unfold namesP
      rw [List.length_map]
      omega
    refine ⟨by rw [dats_len]; exact lf, .inl ⟨_, rfl, A, C, rfl, _, rfl, alike_str _, sort_str _, lf, depth_str _, fun ys hy => ?_⟩⟩
    have hy : ys = (mineN ps (namesP ps) x y (2 ^ j)).map .str := hy.trans (sortS_eq _)
    rw [← hm] at hy
    subst hy
    obtain rfl : j = 0 := by omega
    have lm : (mineN ps ns x y (2 ^ 0)).length ≤ 100 := Nat.le_trans mine_len hs
    have om : ∀ n ∈ mineN ps ns x y (2 ^ 0), PyData.strOk n = true := fun n hn3 => by
      rw [hm] at hn3
      exact ho n (List.mem_filter.mp ((sortS_perm _).mem_iff.mp hn3)).1
    have sh := shaped_ns om
    have ee : eqB false (.list ((mineN ps ns x y (2 ^ 0)).map .str)) (.list ((mineN ps ns x y (2 ^ 0)).map .str)) = true := SeqAt.eqv_refl _ (SeqAt.canLay_of_shaped sh)
    have lm2 : (dats ((mineN ps ns x y (2 ^ 0)).map PyData.str)).length ≤ 1000 := by
      rw [dats_len, List.length_map]
      omega
    rw [← ee] at q
    exact ⟨lm2, .inl ⟨_, rfl, brS (fun h1 => ⟨lm2, .inl ⟨_, rfl, sh, sh, q⟩⟩) fun h1 => ⟨rfl, rfl, brT (by rw [eq_int]; rfl) ⟨lm2, .inl ⟨_, rfl, sh, sh, q⟩⟩⟩⟩⟩
set_option smartUnfolding false in
theorem do_fits (J : Nat) : Does (gi T k ea [(("_law_fits", 6), sFits J)] [] []) (SS nFits s__law_fits) (defBody s__law_fits) (sFits (J + 1)) := by
  rintro rs M Q E _ ⟨A, C, p, ps, m, j, ns, x, y, hj, rfl, rfl, hl, hn, ho, hm, hs, q⟩
  have hk : (dats ((ep ps).map fun p => keyS p.1)).length ≤ 1000 := by
    rw [ep_keys, dats_len, List.length_map]
    unfold namesP
    rw [List.length_map]
    omega
  refine .inr ⟨A, p, ep ps, C, rfl, fun o kvs => ⟨A, o, kvs, ep ps, C, rfl, hk, fun i acc M' => M' = A ++ (p, .fk o kvs (ep ps)) :: C ∧ acc = dats ((((namesP ps).take i).filter (inP ps x y (x + 2 ^ j) (y + 2 ^ j))).map .str), ⟨rfl, rfl⟩, ?_, ?_, ?_⟩⟩
  · rintro i acc M' hi ⟨rfl, rfl⟩
    exact ⟨⟨A, C, rfl⟩, filt_len⟩
  · rintro D i r acc M' hr ⟨rfl, rfl⟩
    have hr2 : (dats ((namesP ps).map PyData.str))[i]? = some r := by
      rw [← ep_keys]
      exact hr
    obtain ⟨n, hn2, rfl⟩ := str_at hr2
    obtain ⟨px, py, hp⟩ := names_has ps n (List.mem_of_getElem? hn2)
    have hg : kvGet (ep ps) (.inr n) = some (.dat (xy px py)) := by rw [ep_get, hp]; rfl
    have eb : inP ps x y (x + 2 ^ j) (y + 2 ^ j) n = inB2 px py x y (x + 2 ^ j) (y + 2 ^ j) := by
      unfold inP
      rw [hp]
    have no : inB2 px py x y (x + 2 ^ j) (y + 2 ^ j) = false → inP ps x y (x + 2 ^ j) (y + 2 ^ j) n = false := fun h => eb.trans h
    refine ⟨.inr n, ep ps, rfl, .inr ⟨(D, _) :: A, o, kvs, C, rfl⟩, .dat (xy px py), hg, _, rfl, brS (fun a1 => brS (fun a2 => ⟨.inr n, ep ps, rfl, .inr ⟨(D, _) :: A, o, kvs, C, rfl⟩, .dat (xy px py), hg, _, rfl, brS (fun a3 => ⟨_, rfl, brS (fun a4 => ⟨_, rfl, rfl, (filt1 hn2 (eb.trans ?_)).symm⟩) fun a4 => ⟨rfl, (filt0 hn2 (no ?_)).symm⟩⟩) fun a3 => ⟨_, rfl, rfl, (filt0 hn2 (no ?_)).symm⟩⟩) fun a2 => ⟨_, rfl, rfl, (filt0 hn2 (no ?_)).symm⟩) fun a1 => ⟨_, rfl, rfl, (filt0 hn2 (no ?_)).symm⟩⟩
    · unfold inB2
      rw [show decide (x ≤ px) = true from a1, show decide (px < x + 2 ^ j) = true from a2, show decide (y ≤ py) = true from a3, show decide (py < y + 2 ^ j) = true from a4]
      rfl
    · unfold inB2
      rw [show decide (py < y + 2 ^ j) = false from a4]
      simp
    · unfold inB2
      rw [show decide (y ≤ py) = false from a3]
      simp
    · unfold inB2
      rw [show decide (px < x + 2 ^ j) = false from a2]
      simp
    · unfold inB2
      rw [show decide (x ≤ px) = false from a1]
      simp
  · rintro acc M' ⟨rfl, hacc⟩
    have hacc : acc = dats (((namesP ps).filter (inP ps x y (x + 2 ^ j) (y + 2 ^ j))).map .str) := by
      rw [hacc, ep_keys, dats_len, List.length_map, List.take_length]
    subst hacc
    have lf : (((namesP ps).filter (inP ps x y (x + 2 ^ j) (y + 2 ^ j))).map PyData.str).length ≤ 1000 := by
      rw [List.length_map]
      refine Nat.le_trans (List.length_filter_le _ _) ?_
      unfold namesP
      rw [List.length_map]
      omega
    refine ⟨by rw [dats_len]; exact lf, .inl ⟨_, rfl, A, C, rfl, _, rfl, alike_str _, sort_str _, lf, depth_str _, fun ys hy => ?_⟩⟩
    have hy : ys = (mineN ps (namesP ps) x y (2 ^ j)).map .str := hy.trans (sortS_eq _)
    rw [← hm] at hy
    subst hy
    have lm : (mineN ps ns x y (2 ^ j)).length ≤ 100 := Nat.le_trans mine_len hs
    have om : ∀ n ∈ mineN ps ns x y (2 ^ j), PyData.strOk n = true := fun n hn3 => by
      rw [hm] at hn3
      exact ho n (List.mem_filter.mp ((sortS_perm _).mem_iff.mp hn3)).1
    have sh := shaped_ns om
    have ee : eqB false (.list ((mineN ps ns x y (2 ^ j)).map .str)) (.list ((mineN ps ns x y (2 ^ j)).map .str)) = true := SeqAt.eqv_refl _ (SeqAt.canLay_of_shaped sh)
    have lm2 : (dats ((mineN ps ns x y (2 ^ j)).map PyData.str)).length ≤ 1000 := by
      rw [dats_len, List.length_map]
      omega
    by_cases small : ((mineN ps ns x y (2 ^ j)).length : Int) ≤ m ∨ j = 0
    · have row : (cutN ps m j ns x y).row = (mineN ps ns x y (2 ^ j)).map .str := by
        cases j with
        | zero => rfl
        | succ j => rw [show cutN ps m (j + 1) ns x y = .leaf (mineN ps ns x y (2 ^ (j + 1))) from if_pos (small.resolve_right (by omega))]; rfl
      have ee2 : eqB false (.list (cutN ps m j ns x y).row) (.list ((mineN ps ns x y (2 ^ j)).map .str)) = true := by rw [row]; exact ee
      have sh2 : SeqAt.shaped (.list (cutN ps m j ns x y).row) = true := by rw [row]; exact sh
      have lm3 : (dats (cutN ps m j ns x y).row).length ≤ 1000 := by rw [row]; exact lm2
      rw [← ee2] at q
      refine ⟨lm2, .inl ⟨_, rfl, brS (fun h1 => ⟨lm3, .inl ⟨_, rfl, sh2, sh, q⟩⟩) fun h1 => ⟨rfl, rfl, brT ?_ ⟨lm3, .inl ⟨_, rfl, sh2, sh, q⟩⟩⟩⟩⟩
      have h1 := of_decide_eq_false h1
      rw [List.length_map] at h1
      rw [small.resolve_left h1, eq_int]
      rfl
    · obtain ⟨j, rfl⟩ : ∃ i, j = i + 1 := ⟨j - 1, by omega⟩
      have big : ¬ ((mineN ps ns x y (2 ^ (j + 1))).length : Int) ≤ m := fun z => small (.inl z)
      have ec : cutN ps m (j + 1) ns x y = .four (cutN ps m j (mineN ps ns x y (2 ^ (j + 1))) x y) (cutN ps m j (mineN ps ns x y (2 ^ (j + 1))) (x + 2 ^ j) y) (cutN ps m j (mineN ps ns x y (2 ^ (j + 1))) x (y + 2 ^ j)) (cutN ps m j (mineN ps ns x y (2 ^ (j + 1))) (x + 2 ^ j) (y + 2 ^ j)) := if_neg big
      have sub : ∀ u v : Int, x ≤ u → y ≤ v → u + 2 ^ j ≤ x + 2 ^ (j + 1) → v + 2 ^ j ≤ y + 2 ^ (j + 1) → mineN ps (mineN ps ns x y (2 ^ (j + 1))) u v (2 ^ j) = mineN ps (namesP ps) u v (2 ^ j) := fun u v g1 g2 g3 g4 => by
        rw [hm]
        exact mine_sub g1 g2 g3 g4
      have pp : (0 : Int) < 2 ^ j := Int.pow_pos (by decide)
      have p2' : (2 : Int) ^ (j + 1) = 2 ^ j + 2 ^ j := by rw [Int.pow_succ]; omega
      have s1 := sub x y (by omega) (by omega) (by omega) (by omega)
      have s2 := sub (x + 2 ^ j) y (by omega) (by omega) (by omega) (by omega)
      have s3 := sub x (y + 2 ^ j) (by omega) (by omega) (by omega) (by omega)
      have s4 := sub (x + 2 ^ j) (y + 2 ^ j) (by omega) (by omega) (by omega) (by omega)
      have hj2 : j ≤ J := by omega
      have len4 : eqB false (.int ((cutN ps m (j + 1) ns x y).row.length : Nat)) (.int 4) = true := by rw [ec, eq_int]; rfl
      have no1 : eqB false (.int (2 ^ (j + 1))) (.int 1) = false := by
        rw [eq_int]
        exact decide_eq_false (by omega)
      have r0 : ∀ i t, (Tr.four (cutN ps m j (mineN ps ns x y (2 ^ (j + 1))) x y) (cutN ps m j (mineN ps ns x y (2 ^ (j + 1))) (x + 2 ^ j) y) (cutN ps m j (mineN ps ns x y (2 ^ (j + 1))) x (y + 2 ^ j)) (cutN ps m j (mineN ps ns x y (2 ^ (j + 1))) (x + 2 ^ j) (y + 2 ^ j))).row[(i : Nat)]? = some t → atI (cutN ps m (j + 1) ns x y).row (i : Int) = some t := fun i t h => by
        rw [ec]
        unfold atI ixN
        have hi := (List.getElem?_eq_some_iff.mp h).1
        rw [if_pos (by omega), if_pos (by omega)]
        simpa using h
      have half := half_pow j
      refine ⟨lm2, .inl ⟨_, rfl, brF (decide_eq_false (by rw [List.length_map]; exact big)) ⟨rfl, rfl, brF no1 ⟨⟨by decide, by decide⟩, .inl ⟨rfl, rfl, brT len4 (.inl ⟨⟨by decide, by decide⟩, by decide, fun i acc M' => M' = A ++ (p, .dk (ep ps)) :: C ∧ acc = [], ⟨rfl, rfl⟩, ?_, ?_, ?_⟩)⟩⟩⟩⟩⟩
      · rintro i acc M' hi ⟨rfl, rfl⟩
        exact ⟨trivial, Nat.zero_le _⟩
      · rintro D i r acc M' hr ⟨rfl, rfl⟩
        obtain ⟨hi, rfl⟩ := rng_at hr
        have hi : i < 4 := hi
        match i, hi with
        | 0, _ => exact ⟨_, r0 0 _ rfl, _, rfl, _, rfl, _, rfl, _, rfl, rfl, (D, _) :: A, C, p, ps, m, j, mineN ps ns x y (2 ^ (j + 1)), x, y, hj2, by rw [half]; rfl, rfl, hl, hn, ho, s1, lm, _, rfl, rfl, rfl⟩
        | 1, _ => exact ⟨_, r0 1 _ rfl, _, rfl, _, rfl, _, rfl, _, rfl, rfl, (D, _) :: A, C, p, ps, m, j, mineN ps ns x y (2 ^ (j + 1)), x + 2 ^ j, y, hj2, by rw [half]; rfl, rfl, hl, hn, ho, s2, lm, _, rfl, rfl, rfl⟩
        | 2, _ => exact ⟨_, r0 2 _ rfl, _, rfl, _, rfl, _, rfl, _, rfl, rfl, (D, _) :: A, C, p, ps, m, j, mineN ps ns x y (2 ^ (j + 1)), x, y + 2 ^ j, hj2, by rw [half]; rfl, rfl, hl, hn, ho, s3, lm, _, rfl, rfl, rfl⟩
        | 3, _ => exact ⟨_, r0 3 _ rfl, _, rfl, _, rfl, _, rfl, _, rfl, rfl, (D, _) :: A, C, p, ps, m, j, mineN ps ns x y (2 ^ (j + 1)), x + 2 ^ j, y + 2 ^ j, hj2, by rw [half]; rfl, rfl, hl, hn, ho, s4, lm, _, rfl, rfl, rfl⟩
      · rintro acc M' ⟨rfl, rfl⟩
        exact ⟨by decide, .inl ⟨[], rfl, .inl ⟨rfl, rfl, q⟩⟩⟩
end
end BW
/-! P17P -/
/-! numbers of squares, for squares of eight at most: by going through all -/
namespace BW
open PySem PySem.Spec PyProof.Rows L2 Cal
theorem codes_all : ∀ d : Fin 4, ∀ x : Fin 8, ∀ y : Fin 8, (x : Nat) < 2 ^ (d : Nat) → (y : Nat) < 2 ^ (d : Nat) →
    0 ≤ codeN (x : Nat) (y : Nat) d ∧ codeN (x : Nat) (y : Nat) d < 4 ^ (d : Nat) ∧ uncX (codeN (x : Nat) (y : Nat) d) d = ((x : Nat) : Int) ∧ uncY (codeN (x : Nat) (y : Nat) d) d = ((y : Nat) : Int) ∧
    codeN (((x : Nat) / 2 : Nat) : Int) (((y : Nat) / 2 : Nat) : Int) ((d : Nat) - 1) = codeN (x : Nat) (y : Nat) d / 4 ∧
    (0 < (d : Nat) → codeN (x : Nat) (y : Nat) d % 4 = (((x : Nat) % 2 + 2 * ((y : Nat) % 2) : Nat) : Int)) := by decide +kernel
theorem numbers_all : ∀ d : Fin 4, ∀ k : Fin 64, (k : Nat) < 4 ^ (d : Nat) → 0 ≤ uncX (k : Nat) d ∧ uncX (k : Nat) d < 2 ^ (d : Nat) ∧ 0 ≤ uncY (k : Nat) d ∧ uncY (k : Nat) d < 2 ^ (d : Nat) ∧ codeN (uncX (k : Nat) d) (uncY (k : Nat) d) d = ((k : Nat) : Int) := by decide +kernel
end BW
/-! P17R -/
/-! the law's table and what a Fours keeps: the same pairs; numbers in order -/
namespace BW
open PySem PySem.Spec PyProof.Rows L2 Cal
def putP (ps : List Pt) (n : Str) (x y : Int) : List Pt := if (ps.any fun q => decide (q.1 = n)) = true then ps.map (fun q => if q.1 = n then (q.1, x, y) else q) else ps ++ [(n, x, y)]
def dropP (ps : List Pt) (n : Str) : List Pt := ps.filter fun q => decide (q.1 ≠ n)
theorem ep_any (n : Str) (ps : List Pt) : ((ep ps).any fun p => decide (p.1 = .inr n)) = ps.any fun q => decide (q.1 = n) := by
  induction ps with
  | nil => rfl
  | cons q ps ih =>
    show (decide ((Sum.inr q.1 : L2.Key) = .inr n) || (ep ps).any fun p => decide (p.1 = .inr n)) = _
    rw [ih, List.any_cons]
    congr 1
    exact decide_eq_decide.mpr ⟨Sum.inr.inj, congrArg _⟩
theorem ep_put (ps : List Pt) (n : Str) (x y : Int) : kvPut (ep ps) (.inr n) (.dat (xy x y)) = ep (putP ps n x y) := by
  unfold kvPut putP
  rw [ep_any]
  by_cases h : (ps.any fun q => decide (q.1 = n)) = true
  · rw [if_pos h, if_pos h]
    unfold ep
    rw [List.map_map, List.map_map]
    refine List.map_congr_left fun q _ => ?_
    show (if (Sum.inr q.1 : L2.Key) = .inr n then ((Sum.inr q.1 : L2.Key), Sv.dat (xy x y)) else ((Sum.inr q.1 : L2.Key), Sv.dat (xy q.2.1 q.2.2))) = _
    by_cases e : q.1 = n
    · rw [if_pos (congrArg _ e)]
      show _ = ((Sum.inr (if q.1 = n then (q.1, x, y) else q).1 : L2.Key), Sv.dat (xy (if q.1 = n then (q.1, x, y) else q).2.1 (if q.1 = n then (q.1, x, y) else q).2.2))
      rw [if_pos e]
    · rw [if_neg fun z => e (Sum.inr.inj z)]
      show _ = ((Sum.inr (if q.1 = n then (q.1, x, y) else q).1 : L2.Key), Sv.dat (xy (if q.1 = n then (q.1, x, y) else q).2.1 (if q.1 = n then (q.1, x, y) else q).2.2))
      rw [if_neg e]
  · rw [if_neg h, if_neg h]
    unfold ep
    rw [List.map_append]
    rfl
theorem ep_drop (ps : List Pt) (n : Str) : kvDrop (ep ps) (.inr n) = ep (dropP ps n) := by
  unfold kvDrop dropP ep
  rw [List.filter_map]
  congr 1
  refine List.filter_congr fun q _ => ?_
  exact decide_eq_decide.mpr ⟨fun h z => h (congrArg _ z), fun h z => h (Sum.inr.inj z)⟩
def NameOk (n : Str) : Prop := ((reprText n).length ≤ 20 ∧ PyData.strOk (reprText n) = true) ∧ PyData.strOk n = true
structure Pts (s : Int) (ps : List Pt) : Prop where
  nd : (namesP ps).Nodup
  nm : ∀ q ∈ ps, NameOk q.1
  sq : ∀ q ∈ ps, inS2 q.2.1 q.2.2 s
theorem Pts.nil {s : Int} : Pts s [] := ⟨List.nodup_nil, fun _ h => (nomatch h), fun _ h => (nomatch h)⟩
theorem put_names {ps : List Pt} {n : Str} {x y : Int} (h : (ps.any fun q => decide (q.1 = n)) = true) : namesP (putP ps n x y) = namesP ps := by
  unfold putP namesP
  rw [if_pos h, List.map_map]
  refine List.map_congr_left fun q _ => ?_
  show (if q.1 = n then (q.1, x, y) else q).1 = q.1
  split <;> rfl
theorem Pts.put {s : Int} {ps : List Pt} {n : Str} {x y : Int} (h : Pts s ps) (hn : NameOk n) (hs : inS2 x y s) : Pts s (putP ps n x y) := by
  by_cases a : (ps.any fun q => decide (q.1 = n)) = true
  · refine ⟨by rw [put_names a]; exact h.nd, fun q hq => ?_, fun q hq => ?_⟩
    · unfold putP at hq
      rw [if_pos a] at hq
      obtain ⟨w, hw, rfl⟩ := List.mem_map.mp hq
      split
      · exact h.nm w hw
      · exact h.nm w hw
    · unfold putP at hq
      rw [if_pos a] at hq
      obtain ⟨w, hw, rfl⟩ := List.mem_map.mp hq
      split
      · exact hs
      · exact h.sq w hw
  · have e : putP ps n x y = ps ++ [(n, x, y)] := if_neg a
    rw [e]
    refine ⟨?_, fun q hq => ?_, fun q hq => ?_⟩
    · unfold namesP
      rw [List.map_append, List.nodup_append]
      refine ⟨h.nd, by simp, fun u hu v hv z => ?_⟩
      rw [show v = n by simpa using hv] at z
      obtain ⟨w, hw, e⟩ := List.mem_map.mp hu
      exact a (List.any_eq_true.mpr ⟨w, hw, decide_eq_true (e.trans z)⟩)
    · rcases List.mem_append.mp hq with hq | hq
      · exact h.nm q hq
      · rw [show q = (n, x, y) by simpa using hq]; exact hn
    · rcases List.mem_append.mp hq with hq | hq
      · exact h.sq q hq
      · rw [show q = (n, x, y) by simpa using hq]; exact hs
theorem Pts.drop {s : Int} {ps : List Pt} {n : Str} (h : Pts s ps) : Pts s (dropP ps n) := by
  refine ⟨?_, fun q hq => h.nm q (List.mem_filter.mp hq).1, fun q hq => h.sq q (List.mem_filter.mp hq).1⟩
  exact h.nd.sublist (List.Sublist.map _ List.filter_sublist)
theorem put_len {ps : List Pt} {n : Str} {x y : Int} : (putP ps n x y).length ≤ ps.length + 1 := by
  unfold putP
  split
  · rw [List.length_map]; omega
  · rw [List.length_append]; exact Nat.le_refl _
theorem drop_len {ps : List Pt} {n : Str} : (dropP ps n).length ≤ ps.length := List.length_filter_le _ _
theorem kvAll_snoc {acc : Es} : ∀ {ps : List Pt}, (namesP ps).Nodup → (∀ n ∈ namesP ps, ∀ q ∈ acc, q.1 ≠ .inr n) → kvAll acc (ep ps) = acc ++ ep ps := by
  intro ps
  induction ps generalizing acc with
  | nil => intro _ _; rw [show ep [] = [] from rfl, List.append_nil]; rfl
  | cons p ps ih =>
    intro nd h
    have nd : p.1 ∉ namesP ps ∧ (namesP ps).Nodup := List.nodup_cons.mp nd
    show kvAll (kvPut acc (.inr p.1) (.dat (xy p.2.1 p.2.2))) (ep ps) = acc ++ (.inr p.1, .dat (xy p.2.1 p.2.2)) :: ep ps
    rw [kvPut_new (h p.1 List.mem_cons_self), ih nd.2 fun n hn q hq => ?_, List.append_assoc]
    · rfl
    · rcases List.mem_append.mp hq with hq | hq
      · exact h n (List.mem_cons_of_mem _ hn) q hq
      · rw [show q = (.inr p.1, .dat (xy p.2.1 p.2.2)) by simpa using hq]
        exact fun z => nd.1 (by rw [show p.1 = n from Sum.inr.inj z]; exact hn)
theorem kvAll_ep {ps : List Pt} (h : (namesP ps).Nodup) : kvAll [] (ep ps) = ep ps := kvAll_snoc h fun _ _ _ z => (nomatch z)
theorem dEq_self {ps : List Pt} (h : (namesP ps).Nodup) : dEq (ep ps) (ep ps) = true := by
  unfold dEq
  rw [beq_self_eq_true, Bool.true_and, List.all_eq_true]
  intro q hq
  obtain ⟨w, hw, rfl⟩ := List.mem_map.mp hq
  have g := getP_of h w hw
  have e : kvGet (ep ps) (.inr w.1) = some (.dat (xy w.2.1 w.2.2)) := by
    rw [ep_get, g]
    rfl
  unfold dEq1
  show (match (Sv.dat (xy w.2.1 w.2.2)), kvGet (ep ps) (.inr w.1) with
    | .dat d, some (.dat d') => PyData.eqv d d'
    | _, _ => false) = true
  rw [e]
  show PyData.eqv (xy w.2.1 w.2.2) (xy w.2.1 w.2.2) = true
  simp [PyData.eqv, PyData.eqvAll]
theorem names_len {ps : List Pt} : (namesP ps).length = ps.length := List.length_map _
theorem Pts.good {s : Int} {ps : List Pt} (h : Pts s ps) (hl : ps.length ≤ 10) : GoodN (namesP ps) := ⟨by rw [names_len]; exact hl, fun n hn => by
  obtain ⟨q, hq, rfl⟩ := List.mem_map.mp hn
  exact h.nm q hq⟩
theorem Pts.ok {s : Int} {ps : List Pt} (h : Pts s ps) : ∀ n ∈ namesP ps, PyData.strOk n = true := fun n hn => by
  obtain ⟨q, hq, rfl⟩ := List.mem_map.mp hn
  exact (h.nm q hq).2
theorem Pts.all {s : Int} {ps : List Pt} (h : Pts s ps) : (namesP ps).filter (inP ps 0 0 (0 + s) (0 + s)) = namesP ps := by
  rw [List.filter_eq_self]
  intro n hn
  obtain ⟨q, hq, rfl⟩ := List.mem_map.mp hn
  obtain ⟨z1, z2, z3, z4⟩ := h.sq q hq
  unfold inP
  rw [getP_of h.nd q hq]
  show inB2 q.2.1 q.2.2 0 0 (0 + s) (0 + s) = true
  unfold inB2
  simp
  omega
theorem Pts.mine {s : Int} {ps : List Pt} (h : Pts s ps) : (mineN ps (namesP ps) 0 0 s).Perm (namesP ps) := by
  unfold mineN
  rw [h.all]
  exact sortS_perm _
theorem within_eq {ps : List Pt} {j : Nat} (h : Pts (2 ^ j) ps) (m a b c d : Int) : sortS (foundT ps a b c d (treeOf ps m j) 0 0 (2 ^ j)) = sortS ((namesP ps).filter (inP ps a b c d)) :=
  sortS_same (found_perm.trans (h.mine.filter _))
theorem leaf_tree {ps : List Pt} {j : Nat} (h : Pts (2 ^ j) ps) (m : Int) : leafB (treeOf ps m j).row = (decide ((ps.length : Int) ≤ m) || decide ((2 : Int) ^ j = 1)) := by
  cases j with
  | zero =>
    show leafB ((mineN ps (namesP ps) 0 0 (2 ^ 0)).map PyData.str) = _
    rw [leaf_d]
    simp
  | succ j =>
    have hl : (mineN ps (namesP ps) 0 0 (2 ^ (j + 1))).length = ps.length := h.mine.length_eq.trans names_len
    have h1 : ¬ (2 : Int) ^ (j + 1) = 1 := fun z => by
      have : (0 : Int) < 2 ^ j := Int.pow_pos (by decide)
      rw [Int.pow_succ] at z
      omega
    rw [decide_eq_false h1, Bool.or_false]
    unfold treeOf cutN
    rw [hl]
    by_cases e : (ps.length : Int) ≤ m
    · rw [if_pos e, decide_eq_true e]
      exact leaf_d _
    · rw [if_neg e, decide_eq_false e]
      rfl
/-! letters -/
abbrev letters : Str := "abcdef"
theorem letter_ok : ∀ i : Fin 6, ∃ c, atI letters.cps.toList ((i : Nat) : Int) = some c ∧ NameOk ⟨#[c]⟩ := by
  have h : ∀ i : Fin 6, (match atI letters.cps.toList ((i : Nat) : Int) with
    | some c => decide ((reprText ⟨#[c]⟩).length ≤ 20) && PyData.strOk (reprText ⟨#[c]⟩) && PyData.strOk ⟨#[c]⟩
    | none => false) = true := by decide +kernel
  intro i
  have h := h i
  cases e : atI letters.cps.toList ((i : Nat) : Int) with
  | none => rw [e] at h; cases h
  | some c =>
    rw [e] at h
    have h : (decide ((reprText ⟨#[c]⟩).length ≤ 20) && PyData.strOk (reprText ⟨#[c]⟩) && PyData.strOk ⟨#[c]⟩) = true := h
    simp only [Bool.and_eq_true, decide_eq_true_eq] at h
    exact ⟨c, rfl, h⟩
/-! numbers of squares, in order -/
abbrev kD (d : Nat) (k : Int) : D := .tuple [.int k, xy (uncX k d) (uncY k d)]
abbrev cellD (d : Nat) (x y : Int) : D := .tuple [.int (codeN x y d), xy x y]
def rowD (d : Nat) (y : Int) : List D := (List.range (2 ^ d)).map fun x : Nat => cellD d x y
def numR (d : Nat) : List (List D) := (List.range (2 ^ d)).map fun y : Nat => rowD d y
def codesN (d : Nat) : List Nat := ((List.range (2 ^ d)).map fun y : Nat => (List.range (2 ^ d)).map fun x : Nat => (codeN x y d).toNat).flatten
theorem codes_perm : ∀ d : Fin 4, (codesN d).Perm (List.range (4 ^ (d : Nat))) := by decide +kernel
theorem cell_k {d x y : Nat} (hd : d < 4) (hx : x < 2 ^ d) (hy : y < 2 ^ d) : cellD d x y = kD d ((codeN x y d).toNat : Nat) := by
  have e8 : (2 : Nat) ^ d ≤ 8 := by
    match d, hd with
    | 0, _ => decide
    | 1, _ => decide
    | 2, _ => decide
    | 3, _ => decide
  obtain ⟨h0, _, h2, h3, _⟩ := codes_all ⟨d, hd⟩ ⟨x, by omega⟩ ⟨y, by omega⟩ hx hy
  have h0 : 0 ≤ codeN x y d := h0
  have h2 : uncX (codeN x y d) d = x := h2
  have h3 : uncY (codeN x y d) d = y := h3
  have e : (((codeN x y d).toNat : Nat) : Int) = codeN x y d := by omega
  unfold kD
  rw [e, h2, h3]
theorem num_codes {d : Nat} (hd : d < 4) : (numR d).flatten = (codesN d).map fun k : Nat => kD d k := by
  unfold numR codesN
  rw [List.map_flatten, List.map_map]
  congr 1
  refine List.map_congr_left fun y hy => ?_
  show rowD d y = List.map (fun k : Nat => kD d k) ((List.range (2 ^ d)).map fun x : Nat => (codeN x y d).toNat)
  rw [List.map_map]
  exact List.map_congr_left fun x hx => cell_k hd (List.mem_range.mp hx) (List.mem_range.mp hy)
theorem num_len {d : Nat} (hd : d < 4) : (numR d).flatten.length = 4 ^ d := by
  rw [num_codes hd, List.length_map, (codes_perm ⟨d, hd⟩).length_eq, List.length_range]
theorem alike_xy (x y x' y' : Int) : PySem.W.alike (xy x y) (xy x' y') = true := by simp [PySem.W.alike, PySem.W.alikeAll]
theorem alike_k (d : Nat) (k k' : Int) : PySem.W.alike (kD d k) (kD d k') = true := by simp [PySem.W.alike, PySem.W.alikeAll]
theorem lt_k {d : Nat} {k k' : Int} : PySem.W.dataLt (kD d k) (kD d k') = decide (k < k') := by
  have e : PySem.W.dataLt (kD d k) (kD d k') = _ := PySem.W.dataLt_pair (by simp [PySem.W.alike]) (alike_xy _ _ _ _)
  rw [e, PySem.W.dataLt_int]
  by_cases h : k = k'
  · subst h
    rw [if_pos (by simp [PyData.eqv]), if_pos (by simp [PyData.eqv, PyData.eqvAll])]
    simp
  · rw [if_neg (by simp [PyData.eqv, h])]
theorem sort_num {d : Nat} (hd : d < 4) : (numR d).flatten.mergeSort leD = (List.range (4 ^ d)).map fun k : Nat => kD d k := by
  have tot := PySem.W.sortLe_total (listOrd itemOrd) false (fun d : D => PySem.W.keyToks d)
  refine List.Perm.eq_of_pairwise (le := fun a b => leD a b = true) ?_ (List.pairwise_mergeSort tot.trans (fun a b => Bool.or_eq_true_iff.mpr (tot.total a b)) _) ?_ ?_
  · intro a b ha hb h1 h2
    rw [List.mem_mergeSort, num_codes hd] at ha
    obtain ⟨p, _, rfl⟩ := List.mem_map.mp ha
    obtain ⟨q, _, rfl⟩ := List.mem_map.mp hb
    have h1 : (!PySem.W.dataLt (kD d q) (kD d p)) = true := h1
    have h2 : (!PySem.W.dataLt (kD d p) (kD d q)) = true := h2
    rw [lt_k] at h1 h2
    simp at h1 h2
    rw [show p = q by omega]
  · rw [List.pairwise_map]
    refine List.pairwise_lt_range.imp fun {a b} h => ?_
    show (!PySem.W.dataLt (kD d b) (kD d a)) = true
    rw [lt_k]
    simp
    omega
  · refine (List.mergeSort_perm _ _).trans ?_
    rw [num_codes hd]
    exact (codes_perm ⟨d, hd⟩).map _
theorem k_alike {d : Nat} (hd : d < 4) : PySem.W.AllAlike (numR d).flatten := by
  rw [num_codes hd]
  exact PySem.W.AllAlike.of fun p q => alike_k d p q
theorem k_sort {d : Nat} (hd : d < 4) : PySem.W.Sortable (numR d).flatten := by
  rw [num_codes hd]
  exact PySem.W.Sortable.tuples fun _ => ⟨_, _, rfl⟩
theorem k_flat {d : Nat} (hd : d < 4) : ∀ z ∈ (numR d).flatten, z.depth ≤ 8 := fun z hz => by
  rw [num_codes hd] at hz
  obtain ⟨p, _, rfl⟩ := List.mem_map.mp hz
  show PyData.depth (kD d p) ≤ 8
  simp [PyData.depth, PyData.depthAll]
theorem k_shape (d n : Nat) : SeqAt.shaped (.list ((List.range n).map fun k : Nat => kD d k)) = true := (shaped_of (n := 3) (by decide) fun x hx => by
  obtain ⟨p, _, rfl⟩ := List.mem_map.mp hx
  exact ⟨rfl, by simp [PyData.depth, PyData.depthAll]⟩).1
theorem ne_refl {d : D} (h : SeqAt.shaped d = true) : eqB true d d = false := by
  have : PyData.eqv d d = true := SeqAt.eqv_refl _ (SeqAt.canLay_of_shaped h)
  show (!PyData.eqv d d) = false
  rw [this]
  rfl
theorem num_at {d i : Nat} {r : Sv} (hd : d < 4) (h : (dats (numR d).flatten)[i]? = some r) : ∃ x y : Nat, x < 2 ^ d ∧ y < 2 ^ d ∧ r = .dat (cellD d x y) := by
  have hm := List.mem_of_getElem? h
  obtain ⟨z, hz, rfl⟩ := List.mem_map.mp hm
  obtain ⟨row, hr, hz⟩ := List.mem_flatten.mp hz
  obtain ⟨y, hy, rfl⟩ := List.mem_map.mp hr
  obtain ⟨x, hx, rfl⟩ := List.mem_map.mp hz
  exact ⟨x, y, List.mem_range.mp hx, List.mem_range.mp hy, rfl⟩
end BW
/-! P17G -/
/-! within -/
namespace BW
open PySem PySem.Spec PyProof.Rows L2 Cal
section
variable {T : Tb} {k : Nat} {ea : Str → Addr}
def sWithin (ea : Str → Addr) (J : Nat) : Sig := ⟨5, [], fun rs M Q E => ∃ (A C : Ms) (p f : Addr) (d m l a b c e : Int) (ps : List Pt) (j : Nat), j ≤ J ∧ rs = [.ptr .ob f, I a, I b, I c, I e] ∧ M = mo ea A p f d m (2 ^ j) l (ep ps) C ∧ ps.length ≤ 100 ∧ (treeOf ps m j).dp ≤ J ∧ (treeOf ps m j).cnt ≤ 100 ∧ HasT ps (treeOf ps m j) ∧
    Q (.dat (.tuple ((sortS (foundT ps a b c e (treeOf ps m j) 0 0 (2 ^ j))).map .str))) (mo ea A p f d m (2 ^ j) (lookT a b c e (treeOf ps m j) 0 0 (2 ^ j)) (ep ps) C),
  fun hQ hE ⟨A, C, p, f, d, m, l, a, b, c, e, ps, j, hj, e1, e2, h1, h2, h3, h4, q⟩ => ⟨A, C, p, f, d, m, l, a, b, c, e, ps, j, hj, e1, e2, h1, h2, h3, h4, hQ _ _ q⟩⟩
set_option smartUnfolding false in
theorem do_within (J : Nat) : DoesS (gi T k ea [] [(("found", 5), sFound ea J), (("tree", 0), sTree ea J)] []) (SS ["self", "low_x", "low_y", "high_x", "high_y"] s_Fours_within) (defBody s_Fours_within) (sWithin ea J) := by
  rintro rs M Q E _ ⟨A, C, p, f, d, m, l, a, b, c, e, ps, j, hj, rfl, rfl, hl, h1, h2, h3, q⟩
  have lf : ((foundT ps a b c e (treeOf ps m j) 0 0 (2 ^ j)).map PyData.str).length ≤ 1000 := by
    rw [List.length_map]
    exact Nat.le_trans (found_len ps a b c e _ 0 0 _) (by omega)
  refine ⟨_, _, _, C, mo_f, fl_ok rfl, Nat.le_of_ble_eq_true rfl, rfl, ea "Fours", sFound ea J, mt_ok rfl, A ++ [(p, .dk (ep ps))], _, _, C, rfl, rfl, rfl, rfl, ea "Fours", sTree ea J, mt_ok rfl, A ++ [(p, .dk (ep ps))], _, _, C, rfl, rfl, rfl, rfl, A, C, p, f, d, m, 0, ps, j, hj, rfl, mo_f.symm, hl,
    A ++ [(p, .dk (ep ps))], _, _, C, rfl, fl_ok rfl, I (2 ^ j), rfl, rfl, A, C, p, f, d, m, _, 0, 0, 0, _, a, b, c, e, ps, treeOf ps m j, rfl, mo_f.symm, h1, h2, h3, fun r => ⟨[], _, _, rfl, _, rfl, alike_str _, sort_str _, lf, depth_str _, fun ys hy => ?_⟩⟩
  have hy : ys = (sortS (foundT ps a b c e (treeOf ps m j) 0 0 (2 ^ j))).map .str := hy.trans (sortS_eq _)
  subst hy
  rw [Int.zero_add]
  refine ⟨?_, .inl ⟨_, rfl, Shr.drop0 (.ok q)⟩⟩
  rw [dats_len, List.length_map, (sortS_perm _).length_eq]
  rw [List.length_map] at lf
  exact lf
end
end BW
/-! P17S -/
/-! the law: what it stands on -/
namespace BW
open PySem PySem.Spec PyProof.Rows L2 Cal
abbrev qLaw : Str := "law.<locals>.<lambda>"
def tLw (ea : Str → Addr) : Tbl := [(("_law_roll", 2), sRoll), (("_law_rounds", 2), sRounds), (("doubled", 1), sDoubled), (("_law_fits", 6), sFits 3), (("_law_looked", 5), sLooked 3), (("_law_deep", 1), sDeep 3), (("code", 3), sCode ea), (("uncoded", 2), sUncoded ea), (("is_leaf", 1), sLeaf), (("depth_of", 1), sDepth 3), (("_law_flat", 1), sFlat2)]
def tmL (ea : Str → Addr) : Tbl := [(("put", 3), sPut ea), (("take", 1), sTake ea), (("tree", 0), sTree ea 3), (("within", 4), sWithin ea 3), (("nearest", 2), sNearest ea)]
def mkL (ea : Str → Addr) : Tbl := [(("Fours", 2), sInit ea)]
abbrev gLw (T : Tb) (k : Nat) (ea : Str → Addr) : Gi := giL T k ea qLaw (tLw ea) (tmL ea) (mkL ea)
abbrev NLw : List Str := ["script", "dice", "depth", "most", "fours", "size", "table", "turn", "name", "x", "y", "told_now", "box_now", "inside", "fars_now", "numbers", "number_now", "tree", "wrong", "one", "k", "pair"]
abbrev SLw : Sc := ⟨NLw, defScope s_law, fun _ => true, true, true, .no⟩
def lawB : List Stmt := match defBody s_law with
  | .For _ _ b _ _ :: _ => b
  | _ => []
def turnB : List Stmt := match lawB.drop 2 with
  | .For _ _ b _ _ :: _ => b
  | _ => []
abbrev LQ (sc di de ms fr sz tb tu na xx yy tn bn ii fn nu nn tr wr on kk pa : Sv) : List Sv := [sc, di, de, ms, fr, sz, tb, tu, na, xx, yy, tn, bn, ii, fn, nu, nn, tr, wr, on, kk, pa]
abbrev Md (o r : Addr) (a b c : Int) : Ms := [(o, .lst [.raw (.ref r)]), (r, di a b c)]
/-- what stands around the dice's pips -/
abbrev mr (ea : Str → Addr) (A : Ms) (p f : Addr) (d m s l : Int) (es : Es) (o r : Addr) : Ms := A ++ [(p, .dk es), (f, .ob (ea "Fours") (fo p d m s l)), (o, .lst [.raw (.ref r)])]
theorem mo_r {ea : Str → Addr} {A : Ms} {p f o r : Addr} {d m s l a b c : Int} {es : Es} : mo ea A p f d m s l es (Md o r a b c) = mr ea A p f d m s l es o r ++ (r, di a b c) :: [] := by simp [mr, mo]
theorem fours_bt {i : Nat} {c : Int} (h : i < 4) : atI ([.int 1, .int 2, .int 4, .int 8] : List D) (i : Int) = some (.int (2 ^ i)) := by
  match i, h with
  | 0, _ => rfl
  | 1, _ => rfl
  | 2, _ => rfl
  | 3, _ => rfl
/-- what a turn of the law leaves -/
structure Turn (s : Int) (ps : List Pt) (i : Nat) : Prop where
  p : Pts s ps
  l : ps.length ≤ i
end BW
/-! P17T -/
/-! the law's body: its last statements -/
namespace BW
open PySem PySem.Spec PyProof.Rows L2 Cal
def stAt (n : Nat) : Stmt := (lawB.drop n).headD (.Pass ⟨0, 0, 0, 0⟩)
theorem nilS {f : StF} {ds : List Sv} {M : Ms} {nx bk ct : Nx} {rt : PoE} {er : Er} (h : nx ds M) : wpSs f [] ds M nx rt bk ct er := h
section
variable {T : Tb} {k : Nat} {ea : Str → Addr} {K bk ct : Nx} {rt : PoE} {er : Er}
variable (sc tu na xx yy tn bn ii fn nu nn tr wr on kk pa : Sv) (a b c : Int) {o r p f q : Addr} {j : Nat} {m l : Int} {ps : List Pt} {A B : Ms}
abbrev LS (r : Addr) (j : Nat) (m : Int) (f q : Addr) (sc tu na xx yy tn bn ii fn nu nn tr wr on kk pa : Sv) : List Sv := LQ sc (.raw (.ref r)) (I (j : Nat)) (I m) (.ptr .ob f) (I (2 ^ j)) (.ptr .dk q) tu na xx yy tn bn ii fn nu nn tr wr on kk pa
abbrev Mw (ea : Str → Addr) (A : Ms) (p f : Addr) (j : Nat) (m l : Int) (ps : List Pt) (o r : Addr) (a b c : Int) : Ms := mo ea A p f (j : Nat) m (2 ^ j) l (ep ps) (Md o r a b c)
theorem mw_q {A B : Ms} : mo ea (B ++ (q, .dk (ep ps)) :: A) p f (j : Nat) m (2 ^ j) l (ep ps) (Md o r a b c) = B ++ (q, .dk (ep ps)) :: mo ea A p f (j : Nat) m (2 ^ j) l (ep ps) (Md o r a b c) := by simp [mo]
set_option smartUnfolding false in
theorem s15 (hj : j < 4) (h : Pts (2 ^ j) ps) (hl : ps.length ≤ 10) (hK : K (LS r j m f q sc tu na xx yy tn bn ii fn nu nn (.dat (treeOf ps m j).d) wr on kk pa) (Mw ea (B ++ (q, .dk (ep ps)) :: A) p f j m l ps o r a b c)) :
    wpS (gLw T k ea) SLw 39 (stAt 15) (LS r j m f q sc tu na xx yy tn bn ii fn nu nn (.dat (treeOf ps m j).d) wr on kk pa) (Mw ea (B ++ (q, .dk (ep ps)) :: A) p f j m l ps o r a b c) K rt bk ct er := by
  have e := leaf_tree h m
  obtain ⟨t1, _, _, t2⟩ := tree_facts (m := m) (j := j) (h.good hl)
  have t3 : (treeOf ps m j).dp ≤ 3 := by omega
  have el : (ep ps).length = ps.length := List.length_map _
  refine ⟨rfl, _, rfl, B, ep ps, _, mw_q a b c, by omega, brS (fun h1 => ⟨rfl, rfl, brF ?_ ⟨rfl, _, rfl, t3, rfl, _, rfl, t3, Nat.le_refl 3, t2, rfl, rfl, brF ?_ (nilS hK)⟩⟩) fun h1 => ⟨rfl, rfl, rfl, rfl, brF ?_ ⟨rfl, _, rfl, t3, rfl, _, rfl, t3, Nat.le_refl 3, t2, rfl, rfl, brF ?_ (nilS hK)⟩⟩⟩
  · rw [e, ← el, show decide (((ep ps).length : Int) ≤ m) = true from h1]
    rfl
  · rw [ne_int]
    simp
  · rw [e, ← el, show decide (((ep ps).length : Int) ≤ m) = false from h1, eq_int, Bool.false_or]
    cases decide ((2 : Int) ^ j = 1) <;> rfl
  · rw [ne_int]
    simp
set_option smartUnfolding false in
theorem s14 (hj : j < 4) (hl : ps.length ≤ 10) (hK : K (LS r j m f q sc tu na xx yy tn bn ii fn nu nn (.dat (treeOf ps m j).d) wr on kk pa) (Mw ea A p f j m l ps o r a b c)) :
    wpS (gLw T k ea) SLw 39 (stAt 14) (LS r j m f q sc tu na xx yy tn bn ii fn nu nn tr wr on kk pa) (Mw ea A p f j m l ps o r a b c) K rt bk ct er := by
  exact ⟨rfl, ea "Fours", sTree ea 3, mt_ok rfl, _, _, _, _, mo_f, rfl, rfl, rfl, A, _, p, f, _, m, l, ps, j, by omega, rfl, rfl, by omega, hK⟩
end
end BW
/-! P17U -/
/-! the law's body: numbers of squares -/
namespace BW
open PySem PySem.Spec PyProof.Rows L2 Cal
theorem pow_lt8 {j : Nat} (hj : j < 4) : (2 : Nat) ^ j ≤ 8 := by
  match j, hj with
  | 0, _ => decide
  | 1, _ => decide
  | 2, _ => decide
  | 3, _ => decide
theorem pow_c (j : Nat) : ((2 ^ j : Nat) : Int) = 2 ^ j := by
  induction j with
  | zero => rfl
  | succ j ih => rw [Nat.pow_succ, Int.pow_succ, Int.natCast_mul, ih]; rfl
theorem p2_c (j : Nat) : p2 (j : Nat) = 2 ^ j := by
  unfold p2 maxI
  rw [show (if (0 : Int) > ((j : Nat) : Int) then (0 : Int) else ((j : Nat) : Int)).toNat = j from by split <;> omega]
theorem fdiv_c (x n : Nat) : ((x : Nat) : Int).fdiv ((n : Nat) : Int) = ((x / n : Nat) : Int) := by
  rw [Int.fdiv_eq_ediv_of_nonneg _ (by omega)]
  rfl
theorem half_sq {x j : Nat} (h : x < 2 ^ j) (h0 : 0 < j) : x / 2 < 2 ^ (j - 1) := by
  obtain ⟨i, rfl⟩ : ∃ i, j = i + 1 := ⟨j - 1, by omega⟩
  rw [Nat.pow_succ] at h
  show x / 2 < 2 ^ i
  omega
theorem lt_p2 {x j : Nat} (h : x < 2 ^ j) : ((x : Nat) : Int) < p2 (j : Nat) := by
  rw [p2_c, ← pow_c]
  omega
theorem half_args {x y j : Nat} (h0 : 0 < j) : [I (((x : Nat) : Int).fdiv 2), I (((y : Nat) : Int).fdiv 2), I (((j : Nat) : Int) - 1)] = [I ((x / 2 : Nat) : Int), I ((y / 2 : Nat) : Int), I ((j - 1 : Nat) : Int)] := by
  rw [show (((x : Nat) : Int).fdiv 2) = _ from fdiv_c x 2, show (((y : Nat) : Int).fdiv 2) = _ from fdiv_c y 2, show ((j : Nat) : Int) - 1 = ((j - 1 : Nat) : Int) by omega]
theorem code_facts {x y j : Nat} (hj : j < 4) (hx : x < 2 ^ j) (hy : y < 2 ^ j) : 0 ≤ codeN x y j ∧ codeN x y j < 4 ^ j ∧ uncX (codeN x y j) j = x ∧ uncY (codeN x y j) j = y ∧ codeN ((x / 2 : Nat) : Int) ((y / 2 : Nat) : Int) (j - 1) = codeN x y j / 4 ∧ (0 < j → codeN x y j % 4 = ((x % 2 + 2 * (y % 2) : Nat) : Int)) := by
  have h8 := pow_lt8 hj
  exact codes_all ⟨j, hj⟩ ⟨x, by omega⟩ ⟨y, by omega⟩ hx hy
section
variable {T : Tb} {k : Nat} {ea : Str → Addr} {K bk ct : Nx} {rt : PoE} {er : Er}
variable (sc tu na xx yy tn bn ii fn nu nn tr wr on kk pa : Sv) (a b c : Int) {o r p f q : Addr} {j : Nat} {m l : Int} {ps : List Pt} {A B M : Ms}
set_option smartUnfolding false in
theorem s13 (hj : j < 4) (hK : ∀ xx yy nn, K (LS r j m f q sc tu na xx yy tn bn ii fn (.dat (.list (numR j).flatten)) nn tr wr on kk pa) M) :
    wpS (gLw T k ea) SLw 39 (stAt 13) (LS r j m f q sc tu na xx yy tn bn ii fn (.dat (.list (numR j).flatten)) nn tr wr on kk pa) M K rt bk ct er := by
  have fd2 : fdivP 2 := ⟨by decide, by decide⟩
  have fd4 : fdivP 4 := ⟨by decide, by decide⟩
  refine .inl ⟨fun i ds M' => M' = M ∧ ∃ xx yy nn, ds = LS r j m f q sc tu na xx yy tn bn ii fn (.dat (.list (numR j).flatten)) nn tr wr on kk pa, ⟨rfl, _, _, _, rfl⟩, fun _ _ _ _ _ => trivial, ?_, ?_⟩
  · rintro i z ds M' hr ⟨rfl, xx, yy, nn, rfl⟩
    obtain ⟨x, y, hx, hy, rfl⟩ := num_at hj hr
    obtain ⟨c0, c1, _, _, c4, c5⟩ := code_facts hj hx hy
    have last : eqB true (.int (codeN x y j % 4)) (.int (if 0 < j then ((x : Nat) : Int) % 2 + 2 * (((y : Nat) : Int) % 2) else 0)) = false := by
      rw [ne_int]
      by_cases h0 : 0 < j
      · rw [if_pos h0, c5 h0, decide_eq_true (by omega)]
        rfl
      · obtain rfl : j = 0 := by omega
        rw [if_neg h0]
        rfl
    refine brS (fun h0 => ⟨fd2, fd2, rfl, _, _, j - 1, half_args ?_, by omega, .inr ⟨by omega, lt_p2 (half_sq hx ?_), by omega, lt_p2 (half_sq hy ?_), fd4, rfl, rfl, brF ?_ ⟨by decide, brT h0 ⟨by decide, by decide, .inl (.inl ⟨by decide, by decide⟩), rfl, rfl, brF ?_ ⟨rfl, _, _, _, rfl⟩⟩⟩⟩⟩) fun h0 => ⟨by decide, brF h0 ⟨rfl, rfl, brF ?_ ⟨rfl, _, _, _, rfl⟩⟩⟩
    · have := of_decide_eq_true h0; omega
    · have := of_decide_eq_true h0; omega
    · have := of_decide_eq_true h0; omega
    · rw [ne_int, c4]
      have e4 : (codeN x y j).fdiv 4 = codeN x y j / 4 := Int.fdiv_eq_ediv_of_nonneg _ (by decide)
      rw [e4]
      simp
    · rw [if_pos (by have := of_decide_eq_true h0; omega)] at last
      exact last
    · rw [if_neg (by have := of_decide_eq_false h0; omega)] at last
      exact last
  · rintro ds M' ⟨rfl, xx, yy, nn, rfl⟩
    exact hK xx yy nn
theorem k_snoc (d i : Nat) : dats ((List.range (i + 1)).map fun k : Nat => kD d k) = dats ((List.range i).map fun k : Nat => kD d k) ++ [.dat (kD d i)] := by
  rw [List.range_succ, List.map_append, dats_app]
  rfl
theorem four_c {j : Nat} (hj : j < 4) : ((2 : Int) ^ j * 2 ^ j).toNat = 4 ^ j ∧ mulP (2 ^ j) (2 ^ j) ∧ rgP ((2 : Int) ^ j * 2 ^ j) ∧ 4 ^ j ≤ 64 := by
  match j, hj with
  | 0, _ => exact ⟨rfl, .inl (.inl ⟨by decide, by decide⟩), ⟨by decide, by decide⟩, by decide⟩
  | 1, _ => exact ⟨rfl, .inl (.inl ⟨by decide, by decide⟩), ⟨by decide, by decide⟩, by decide⟩
  | 2, _ => exact ⟨rfl, .inl (.inl ⟨by decide, by decide⟩), ⟨by decide, by decide⟩, by decide⟩
  | 3, _ => exact ⟨rfl, .inl (.inl ⟨by decide, by decide⟩), ⟨by decide, by decide⟩, by decide⟩
theorem unc_lt {j i : Nat} (h : i < 4 ^ j) : ((i : Nat) : Int) < p2 (2 * ((j : Nat) : Int)) := by
  have e := p2_c (2 * j)
  rw [show (((2 * j : Nat)) : Int) = 2 * ((j : Nat) : Int) by omega] at e
  rw [e, ← pow_c, Nat.pow_mul, show (2 : Nat) ^ 2 = 4 from rfl]
  omega
set_option smartUnfolding false in
theorem s12 (hj : j < 4) (hK : K (LS r j m f q sc tu na xx yy tn bn ii fn (.dat (.list (numR j).flatten)) nn tr wr on kk pa) M) :
    wpS (gLw T k ea) SLw 39 (stAt 12) (LS r j m f q sc tu na xx yy tn bn ii fn (.dat (.list (numR j).flatten)) nn tr wr on kk pa) M K rt bk ct er := by
  obtain ⟨e4, mp, rg, l64⟩ := four_c hj
  have hlen : (numR j).flatten.length ≤ 1000 := by rw [num_len hj]; omega
  refine ⟨_, rfl, k_alike hj, k_sort hj, hlen, k_flat hj, fun ys hy => ?_⟩
  have hy : ys = (List.range (4 ^ j)).map fun k : Nat => kD j k := hy.trans (sort_num hj)
  subst hy
  have ly : (dats ((List.range (4 ^ j)).map fun k : Nat => kD j k)).length ≤ 1000 := by
    rw [dats_len, List.length_map, List.length_range]
    omega
  refine ⟨ly, .inl ⟨_, rfl, .inl ⟨mp, rg, ?_, fun i acc M' => M' = M ∧ acc = dats ((List.range i).map fun k : Nat => kD j k), ⟨rfl, rfl⟩, ?_, ?_, ?_⟩⟩⟩
  · rw [rng_len, e4]
    omega
  · rintro i acc M' hi ⟨rfl, rfl⟩
    refine ⟨trivial, ?_⟩
    rw [dats_len, List.length_map, List.length_range]
    exact Nat.le_refl _
  · rintro D i z acc M' hr ⟨rfl, rfl⟩
    obtain ⟨hi, rfl⟩ := rng_at hr
    rw [e4] at hi
    rw [Int.zero_add]
    exact ⟨_, rfl, rfl, _, j, rfl, by omega, .inr ⟨by omega, unc_lt hi, _, rfl, rfl, (k_snoc j i).symm⟩⟩
  · rintro acc M' ⟨rfl, hacc⟩
    have hacc : acc = dats ((List.range (4 ^ j)).map fun k : Nat => kD j k) := by
      rw [hacc, rng_len, e4]
    subst hacc
    exact ⟨ly, .inl ⟨_, rfl, k_shape _ _, k_shape _ _, brF (ne_refl (k_shape _ _)) (nilS hK)⟩⟩
theorem row_snoc (d y i : Nat) : dats ((List.range (i + 1)).map fun x : Nat => cellD d x y) = dats ((List.range i).map fun x : Nat => cellD d x y) ++ [.dat (cellD d i y)] := by
  rw [List.range_succ, List.map_append, dats_app]
  rfl
theorem rows_snoc (d i : Nat) : dats ((List.range (i + 1)).map fun y : Nat => .list (rowD d y)) = dats ((List.range i).map fun y : Nat => .list (rowD d y)) ++ [.dat (.list (rowD d i))] := by
  rw [List.range_succ, List.map_append, dats_app]
  rfl
theorem two_c {j : Nat} (hj : j < 4) : ((2 : Int) ^ j).toNat = 2 ^ j ∧ rgP ((2 : Int) ^ j) ∧ 2 ^ j ≤ 8 := by
  match j, hj with
  | 0, _ => exact ⟨rfl, ⟨by decide, by decide⟩, by decide⟩
  | 1, _ => exact ⟨rfl, ⟨by decide, by decide⟩, by decide⟩
  | 2, _ => exact ⟨rfl, ⟨by decide, by decide⟩, by decide⟩
  | 3, _ => exact ⟨rfl, ⟨by decide, by decide⟩, by decide⟩
theorem rows_eq (d : Nat) : (List.range (2 ^ d)).map (fun y : Nat => (.list (rowD d y) : D)) = (numR d).map .list := by
  unfold numR
  rw [List.map_map]
  rfl
set_option smartUnfolding false in
theorem s11 (hj : j < 4) (hK : K (LS r j m f q sc tu na xx yy tn bn ii fn (.dat (.list (numR j).flatten)) nn tr wr on kk pa) M) :
    wpS (gLw T k ea) SLw 39 (stAt 11) (LS r j m f q sc tu na xx yy tn bn ii fn nu nn tr wr on kk pa) M K rt bk ct er := by
  obtain ⟨e2, rg, l8⟩ := two_c hj
  have hlen : (numR j).flatten.length ≤ 900 := by
    rw [num_len hj]
    have := (four_c hj).2.2.2
    omega
  refine .inl ⟨rg, ?_, fun i acc M' => M' = M ∧ acc = dats ((List.range i).map fun y : Nat => .list (rowD j y)), ⟨rfl, rfl⟩, ?_, ?_, ?_⟩
  · rw [rng_len, e2]
    omega
  · rintro i acc M' hi ⟨rfl, rfl⟩
    refine ⟨trivial, ?_⟩
    rw [dats_len, List.length_map, List.length_range]
    exact Nat.le_refl _
  · rintro D i z acc M' hr ⟨rfl, rfl⟩
    obtain ⟨hi, rfl⟩ := rng_at hr
    rw [e2] at hi
    rw [Int.zero_add]
    refine ⟨_, rfl, .inl ⟨rg, ?_, fun i2 acc M2 => M2 = (D, _) :: M' ∧ acc = dats ((List.range i2).map fun x : Nat => cellD j x i), ⟨rfl, rfl⟩, ?_, ?_, ?_⟩⟩
    · rw [rng_len, e2]
      omega
    · rintro i2 acc M2 hi2 ⟨rfl, rfl⟩
      refine ⟨trivial, ?_⟩
      rw [dats_len, List.length_map, List.length_range]
      exact Nat.le_refl _
    · rintro D2 i2 z acc M2 hr2 ⟨rfl, rfl⟩
      obtain ⟨hi2, rfl⟩ := rng_at hr2
      rw [e2] at hi2
      rw [Int.zero_add]
      exact ⟨_, rfl, rfl, _, _, j, rfl, by omega, .inr ⟨by omega, lt_p2 hi2, by omega, lt_p2 hi, _, rfl, rfl, (row_snoc j i i2).symm⟩⟩
    · rintro acc M2 ⟨rfl, hacc⟩
      have hacc : acc = dats (rowD j i) := by
        rw [hacc, rng_len, e2]
        rfl
      subst hacc
      refine ⟨?_, .inl ⟨_, rfl, _, rfl, rfl, (rows_snoc j i).symm⟩⟩
      rw [dats_len]
      unfold rowD
      rw [List.length_map, List.length_range]
      omega
  · rintro acc M' ⟨rfl, hacc⟩
    have hacc : acc = dats ((numR j).map .list) := by
      rw [hacc, rng_len, e2, rows_eq]
    subst hacc
    refine ⟨?_, .inl ⟨_, rfl, rfl, numR j, rfl, hlen, hK⟩⟩
    rw [dats_len, List.length_map]
    unfold numR
    rw [List.length_map, List.length_range]
    omega
end
end BW
/-! P17V -/
/-! the law's body: the nearest points -/
namespace BW
open PySem PySem.Spec PyProof.Rows L2 Cal
theorem cmul_sm {i j : Int} (h : i.natAbs ≤ 1000) : mulP i j := .inl (.inl ⟨by omega, by omega⟩)
def kq (x y : Int) (ps : List Pt) : List (L2.Key × D) := ps.map fun q => (.inr q.1, .int (dist x y q))
theorem kq_sq {x y : Int} {ps : List Pt} (hn : (namesP ps).Nodup) : kvAll [] ((kq x y ps).map fun p => (p.1, .dat p.2)) = sq x y ps := by
  have key : ∀ {acc : Es} {ps : List Pt}, (namesP ps).Nodup → (∀ n ∈ namesP ps, ∀ q ∈ acc, q.1 ≠ .inr n) → kvAll acc (sq x y ps) = acc ++ sq x y ps := by
    intro acc ps
    induction ps generalizing acc with
    | nil => intro _ _; rw [show sq x y [] = [] from rfl, List.append_nil]; rfl
    | cons p ps ih =>
      intro nd h
      have nd : p.1 ∉ namesP ps ∧ (namesP ps).Nodup := List.nodup_cons.mp nd
      show kvAll (kvPut acc (.inr p.1) (I (dist x y p))) (sq x y ps) = acc ++ (.inr p.1, I (dist x y p)) :: sq x y ps
      rw [kvPut_new (h p.1 List.mem_cons_self), ih nd.2 fun n hn q hq => ?_, List.append_assoc]
      · rfl
      · rcases List.mem_append.mp hq with hq | hq
        · exact h n (List.mem_cons_of_mem _ hn) q hq
        · rw [show q = (.inr p.1, I (dist x y p)) by simpa using hq]
          exact fun z => nd.1 (by rw [show p.1 = n from Sum.inr.inj z]; exact hn)
  have e : (kq x y ps).map (fun p => (p.1, Sv.dat p.2)) = sq x y ps := by
    unfold kq sq
    rw [List.map_map]
    rfl
  rw [e]
  exact key hn fun _ _ _ z => (nomatch z)
theorem dist_mul (x y : Int) (q : Pt) : (q.2.1 - x) * (q.2.1 - x) + (q.2.2 - y) * (q.2.2 - y) = dist x y q := by
  unfold dist
  rw [Int.pow_succ, Int.pow_succ, Int.pow_succ, Int.pow_succ]
  simp
theorem kq_at {x y : Int} {ps : List Pt} {i : Nat} {w : Pt} (h : ps[i]? = some w) : dats ((kq x y (ps.take (i + 1))).map Cal.pairD) = dats ((kq x y (ps.take i)).map Cal.pairD) ++ [.dat (.tuple [.str w.1, .int (dist x y w)])] := by
  unfold kq
  rw [takeP1 h, List.map_append, List.map_append, dats_app]
  rfl
theorem ep_at {ps : List Pt} {i : Nat} {r : Sv} (h : (dats ((ep ps).map fun p => keyS p.1))[i]? = some r) : ∃ w, ps[i]? = some w ∧ r = .dat (.str w.1) := by
  unfold dats ep at h
  rw [List.map_map, List.map_map, List.getElem?_map] at h
  obtain ⟨t, h1, h2⟩ := Option.map_eq_some_iff.mp h
  exact ⟨t, h1, h2.symm⟩
theorem ep_klen (ps : List Pt) : (dats ((ep ps).map fun p => keyS p.1)).length = ps.length := by
  rw [dats_len, List.length_map]
  exact List.length_map _
theorem get_at {ps : List Pt} (hn : (namesP ps).Nodup) {w : Pt} (h : w ∈ ps) : kvGet (ep ps) (.inr w.1) = some (.dat (xy w.2.1 w.2.2)) := by
  rw [ep_get, getP_of hn w h]
  rfl
section
variable {T : Tb} {k : Nat} {ea : Str → Addr} {K bk ct : Nx} {rt : PoE} {er : Er}
variable (sc tu na xx yy tn bn ii fn nu nn tr wr on kk pa : Sv) (a b c : Int) {o r p f q : Addr} {j : Nat} {m l : Int} {ps : List Pt} {A B M : Ms}
set_option smartUnfolding false in
theorem s8 (hK : ∀ x y a b c : Int, 0 ≤ x → x < 9 → 0 ≤ y → y < 9 → K (LS r j m f q sc tu na (I x) (I y) tn bn ii fn nu nn tr wr on kk pa) (Mw ea A p f j m l ps o r a b c)) :
    wpS (gLw T k ea) SLw 39 (stAt 8) (LS r j m f q sc tu na xx yy tn bn ii fn nu nn tr wr on kk pa) (Mw ea A p f j m l ps o r a b c) K rt bk ct er := by
  have key : ∀ x y a b c : Int, 0 ≤ x → x < 9 → 0 ≤ y → y < 9 → K (LS r j m f q sc tu na (I x) (I y) tn bn ii fn nu nn tr wr on kk pa) (mr ea A p f (j : Nat) m (2 ^ j) l (ep ps) o r ++ (r, di a b c) :: []) := fun x y a b c h1 h2 h3 h4 => by
    rw [← mo_r]
    exact hK x y a b c h1 h2 h3 h4
  refine ⟨fun _ => rfl, rfl, rfl, rfl, r, _, [], a, b, c, 9, rfl, by decide, by decide, mo_r, fun x a1 b1 c1 x0 x1 => ⟨rfl, r, _, [], a1, b1, c1, 9, rfl, by decide, by decide, rfl, fun y a2 b2 c2 y0 y1 => ⟨rfl, ?_⟩⟩⟩
  exact key x y a2 b2 c2 x0 x1 y0 y1
set_option smartUnfolding false in
theorem s9 {x y : Int} (h : Pts (2 ^ j) ps) (hj : j < 4) (hl : ps.length ≤ 10) (x1 : x.natAbs ≤ 10) (y1 : y.natAbs ≤ 10) (hK : ∀ w, K (LS r j m f q sc tu na (I x) (I y) tn bn ii (.ptr .dk w) nu nn tr wr on kk pa) ((w, .dk (sq x y ps)) :: Mw ea ((q, .dk (ep ps)) :: A) p f j m l ps o r a b c)) :
    wpS (gLw T k ea) SLw 39 (stAt 9) (LS r j m f q sc tu na (I x) (I y) tn bn ii fn nu nn tr wr on kk pa) (Mw ea ((q, .dk (ep ps)) :: A) p f j m l ps o r a b c) K rt bk ct er := by
  have p8 : (2 : Int) ^ j ≤ 8 := by
    have := pow_lt8 hj
    rw [← pow_c]
    omega
  refine .inr ⟨[], q, ep ps, _, rfl, fun od kvs => ⟨[], od, kvs, ep ps, _, rfl, by rw [ep_klen]; omega, fun i acc M' => M' = (q, .fk od kvs (ep ps)) :: (mo ea A p f (j : Nat) m (2 ^ j) l (ep ps) (Md o r a b c)) ∧ acc = dats ((kq x y (ps.take i)).map Cal.pairD), ⟨rfl, rfl⟩, ?_, ?_, ?_⟩⟩
  · rintro i acc M' hi ⟨rfl, rfl⟩
    refine ⟨⟨[], _, rfl⟩, ?_⟩
    rw [dats_len, List.length_map]
    unfold kq
    rw [List.length_map]
    exact List.length_take_le _ _
  · rintro D i z acc M' hr ⟨rfl, rfl⟩
    obtain ⟨w, hw, rfl⟩ := ep_at hr
    have hm := List.mem_of_getElem? hw
    have hg := get_at h.nd hm
    obtain ⟨z1, z2, z3, z4⟩ := h.sq w hm
    have m1 : mulP (w.2.1 - x) (w.2.1 - x) := cmul_sm (by omega)
    have m2 : mulP (w.2.2 - y) (w.2.2 - y) := cmul_sm (by omega)
    have e := kq_at (x := x) (y := y) hw
    rw [← dist_mul] at e
    exact ⟨_, rfl, .inr w.1, ep ps, rfl, .inr ⟨[(D, _)], od, kvs, _, rfl⟩, _, hg, _, rfl, .inr w.1, ep ps, rfl, .inr ⟨[(D, _)], od, kvs, _, rfl⟩, _, hg, _, rfl, m1, .inr w.1, ep ps, rfl, .inr ⟨[(D, _)], od, kvs, _, rfl⟩, _, hg, _, rfl, .inr w.1, ep ps, rfl, .inr ⟨[(D, _)], od, kvs, _, rfl⟩, _, hg, _, rfl, m2, _, rfl, rfl, e.symm⟩
  · rintro acc M' ⟨rfl, hacc⟩
    have hacc : acc = dats ((kq x y ps).map Cal.pairD) := by
      rw [hacc, ep_klen, List.take_length]
    subst hacc
    have key : ∀ w, K (LS r j m f q sc tu na (I x) (I y) tn bn ii (.ptr .dk w) nu nn tr wr on kk pa) ((w, .dk (kvAll [] ((kq x y ps).map fun p => (p.1, .dat p.2)))) :: Mw ea ((q, .dk (ep ps)) :: A) p f j m l ps o r a b c) := fun w => by
      rw [kq_sq h.nd]
      exact hK w
    refine ⟨?_, .inl ⟨_, rfl, [], _, rfl, kq x y ps, rfl, fun w => ?_⟩⟩
    · rw [dats_len, List.length_map]
      unfold kq
      rw [List.length_map]
      omega
    · exact key w
end
end BW
/-! P17W -/
/-! the law's body: nearest, told -/
namespace BW
open PySem PySem.Spec PyProof.Rows L2 Cal
theorem es_mem {ea : Str → Addr} {x y : Str} (h : (x, y) ∈ esL) : (ea x, y) ∈ esL.map fun p => (ea p.1, p.2) := List.mem_map_of_mem (f := fun p : Str × Str => (ea p.1, p.2)) h
theorem lsts_app {A B : Ms} (hA : Lsts A) (hB : Lsts B) : Lsts (A ++ B) := fun p hp => (List.mem_append.mp hp).elim (hA p) (hB p)
theorem lsts_dk {q : Addr} {es : Es} {A : Ms} (hA : Lsts A) : Lsts ((q, .dk es) :: A) := fun p hp => by
  rcases List.mem_cons.mp hp with rfl | hp
  · exact fun o z => (nomatch z)
  · exact hA p hp
theorem lsts_ob {q c : Addr} {fs : List (Str × Sv)} {A : Ms} (hA : Lsts A) : Lsts ((q, .ob c fs) :: A) := fun p hp => by
  rcases List.mem_cons.mp hp with rfl | hp
  · exact fun o z => (nomatch z)
  · exact hA p hp
theorem lsts_md (o l : Addr) (a b d : Int) : Lsts (Md o l a b d) := fun p hp => by
  rcases List.mem_cons.mp hp with rfl | hp
  · exact fun o z => (nomatch z)
  · rw [List.mem_singleton] at hp
    subst hp
    exact fun o z => (nomatch z)
theorem lsts_mo {ea : Str → Addr} {A : Ms} {p f o r : Addr} {d m s l a b c : Int} {es : Es} (hA : Lsts A) : Lsts (mo ea A p f d m s l es (Md o r a b c)) := lsts_app hA (lsts_dk (lsts_ob (lsts_md o r a b c)))
theorem shaped_nt {ns : List Str} (h : ∀ n ∈ ns, PyData.strOk n = true) : SeqAt.shaped (.tuple (ns.map PyData.str)) = true := (shaped_of (n := 0) (by decide) fun x hx => by
  obtain ⟨m, hm, rfl⟩ := List.mem_map.mp hx
  exact ⟨h m hm, Nat.le_refl _⟩).2
theorem near_ok {x y n : Int} {s : Int} {ps : List Pt} (h : Pts s ps) : ∀ w ∈ nearS x y n ps, PyData.strOk w = true := fun w hw => by
  unfold nearS at hw
  obtain ⟨u, hu, rfl⟩ := List.mem_map.mp ((sortS_perm _).mem_iff.mp hw)
  exact (h.nm u (List.mem_filter.mp hu).1).2
theorem sh_such : SeqAt.shaped (.str "no such") = true := by decide +kernel
theorem nq_such : eqB true (.str "no such") (.str "no such") = false := by decide +kernel
theorem dne_nil {ps : List Pt} (h : ps ≠ []) : dEqB true (ep ps) [] = true := by
  cases ps with
  | nil => exact absurd rfl h
  | cons q ps => rfl
section
variable {T : Tb} {k : Nat} {ea : Str → Addr} {K bk ct : Nx} {rt : PoE} {er : Er}
variable (sc tu na xx yy tn bn ii fn nu nn tr wr on kk pa : Sv) (a b c : Int) {o r p f q w : Addr} {j : Nat} {m l : Int} {ps : List Pt} {A B M : Ms}
set_option smartUnfolding false in
theorem s10 {x y : Int} (hA : Lsts A) (h : Pts (2 ^ j) ps) (hj : j < 4) (hl : ps.length ≤ 10) (x1 : x.natAbs ≤ 10) (y1 : y.natAbs ≤ 10)
    (hK : ∀ z, K (LS r j m f q sc tu na (I x) (I y) tn bn ii (.ptr .dk w) nu nn tr wr on kk pa) (Mw ea ((z, .dk []) :: (w, .dk (sq x y ps)) :: (q, .dk (ep ps)) :: A) p f j m l ps o r a b c)) :
    wpS (gLw T k ea) SLw 39 (stAt 10) (LS r j m f q sc tu na (I x) (I y) tn bn ii (.ptr .dk w) nu nn tr wr on kk pa) (Mw ea ((w, .dk (sq x y ps)) :: (q, .dk (ep ps)) :: A) p f j m l ps o r a b c) K rt bk ct er := by
  have p8 : (2 : Int) ^ j ≤ 8 := by
    have := pow_lt8 hj
    rw [← pow_c]
    omega
  have hq : ∀ u ∈ ps, u.2.1.natAbs ≤ 1000 ∧ u.2.2.natAbs ≤ 1000 := fun u hu => by
    obtain ⟨z1, z2, z3, z4⟩ := h.sq u hu
    exact ⟨by omega, by omega⟩
  refine ⟨lsts_mo (lsts_dk (lsts_dk hA)), fun _ => rfl, fun _ _ _ _ _ => rfl, rfl, ea "Fours", sNearest ea, mt_ok rfl, _, _, _, _, mo_f, rfl, rfl, rfl, (w, .dk (sq x y ps)) :: (q, .dk (ep ps)) :: A, _, p, f, _, m, _, l, x, y, ps, rfl, rfl, by omega, h.nd, by omega, by omega, hq, ?_⟩
  by_cases ne : ps = []
  · refine .inl ⟨ne, fun z0 => ⟨"no such", es_mem (by decide), _, List.sublist_cons_self _ _, fun z => ⟨ep ps, [], .inl ⟨[(z, _), (w, _)], _, rfl⟩, .inl ⟨[], _, rfl⟩, dat_ep ps, fun _ h => (nomatch h), brF ?_ ⟨sh_such, sh_such, brF nq_such (nilS (hK z))⟩⟩⟩⟩
    rw [ne]
    rfl
  · refine .inr ⟨ne, fun n hex hmin => fun z => ⟨ep ps, [], .inl ⟨[(z, _), (w, _)], _, rfl⟩, .inl ⟨[], _, rfl⟩, dat_ep ps, fun _ h => (nomatch h), brT (dne_nil ne) ?_⟩⟩
    have hl2 : (dats ((sq x y ps).map fun p => keyS p.1)).length ≤ 1000 := by
      rw [dats_len, List.length_map]
      unfold sq
      rw [List.length_map]
      omega
    refine .inr ⟨[(z, _)], w, sq x y ps, _, rfl, fun o2 kvs2 => ⟨[(z, _)], o2, kvs2, sq x y ps, _, rfl, hl2, fun i acc M' => M' = (z, .dk []) :: (w, .fk o2 kvs2 (sq x y ps)) :: Mw ea ((q, .dk (ep ps)) :: A) p f j m l ps o r a b c ∧ acc = dats ((((ps.take i).filter fun q => dist x y q == n).map fun q => q.1).map .str), ⟨rfl, rfl⟩, ?_, ?_, ?_⟩⟩
    · rintro i acc M' hi ⟨rfl, rfl⟩
      refine ⟨⟨[(z, _)], _, rfl⟩, ?_⟩
      rw [dats_len, List.length_map, List.length_map]
      exact Nat.le_trans (List.length_filter_le _ _) (List.length_take_le _ _)
    · rintro D i r acc M' hr ⟨rfl, rfl⟩
      obtain ⟨u, hu, rfl⟩ := key_at hr
      have hg := sq_get (x := x) (y := y) h.nd u (List.mem_of_getElem? hu)
      refine ⟨.inr u.1, sq x y ps, rfl, .inr ⟨[(D, _), (z, _)], o2, kvs2, _, rfl⟩, _, hg, sq x y ps, ps.map (dist x y), .inr ⟨[(D, _), (z, _)], o2, kvs2, _, rfl⟩, ?_, ?_, fun n2 hm2 hmin2 => ?_⟩
      · unfold sq
        rw [List.map_map, List.map_map]
        rfl
      · simpa using ne
      · have en : n2 = n := by
          obtain ⟨v, hv, rfl⟩ := hex
          obtain ⟨v2, hv2, rfl⟩ := List.mem_map.mp hm2
          exact Int.le_antisymm (hmin2 _ (List.mem_map.mpr ⟨v, hv, rfl⟩)) (hmin v2 hv2)
        subst en
        refine ⟨rfl, rfl, _, rfl, brS (fun h => ⟨_, rfl, rfl, (filtP1 hu ?_).symm⟩) fun h => ⟨rfl, (filtP0 hu ?_).symm⟩⟩
        · rw [eq_int] at h
          exact beq_iff_eq.mpr (of_decide_eq_true h)
        · rw [eq_int] at h
          exact beq_eq_false_iff_ne.mpr (of_decide_eq_false h)
    · rintro acc M' ⟨rfl, hacc⟩
      have hacc : acc = dats (((ps.filter fun q => dist x y q == n).map fun q => q.1).map .str) := by
        rw [hacc, dats_len, List.length_map]
        unfold sq
        rw [List.length_map, List.take_length]
      subst hacc
      have lf : (((ps.filter fun q => dist x y q == n).map fun q => q.1).map PyData.str).length ≤ 1000 := by
        rw [List.length_map, List.length_map]
        exact Nat.le_trans (List.length_filter_le _ _) (by omega)
      refine ⟨by rw [dats_len]; exact lf, .inl ⟨_, rfl, [(z, _)], _, rfl, _, rfl, alike_str _, sort_str _, lf, depth_str _, fun ys hy => ?_⟩⟩
      have hy : ys = (nearS x y n ps).map .str := hy.trans (sortS_eq _)
      subst hy
      have sh := shaped_nt (near_ok (x := x) (y := y) (n := n) h)
      refine ⟨?_, .inl ⟨_, rfl, sh, sh, brF (ne_refl sh) (nilS (hK z))⟩⟩
      rw [dats_len, List.length_map]
      unfold nearS
      rw [(sortS_perm _).length_eq]
      rw [List.length_map] at lf
      exact lf
end
end BW
/-! P17X -/
/-! the law's body: what lies in a box -/
namespace BW
open PySem PySem.Spec PyProof.Rows L2 Cal
section
variable {T : Tb} {k : Nat} {ea : Str → Addr} {K bk ct : Nx} {rt : PoE} {er : Er}
variable (sc tu na xx yy tn bn ii fn nu nn tr wr on kk pa : Sv) (a b c : Int) {o r p f q w : Addr} {j : Nat} {m l : Int} {ps : List Pt} {A B M : Ms} (u1 u2 u3 u4 : Int)
abbrev lookP' (ps : List Pt) (m : Int) (j : Nat) (u1 u2 u3 u4 : Int) : Int := lookT u1 u2 u3 u4 (treeOf ps m j) 0 0 (2 ^ j)
abbrev insD (ps : List Pt) (u1 u2 u3 u4 : Int) : Sv := .dat (.list ((sortS ((namesP ps).filter (inP ps u1 u2 u3 u4))).map .str))
set_option smartUnfolding false in
theorem s7 (h : Pts (2 ^ j) ps) (hj : j < 4) (hl : ps.length ≤ 10) (hK : K (LS r j m f q sc tu na xx yy tn (b4 u1 u2 u3 u4) ii fn nu nn tr wr on kk pa) (Mw ea A p f j m (lookP' ps m j u1 u2 u3 u4) ps o r a b c)) :
    wpS (gLw T k ea) SLw 39 (stAt 7) (LS r j m f q sc tu na xx yy tn (b4 u1 u2 u3 u4) ii fn nu nn tr wr on kk pa) (Mw ea A p f j m (lookP' ps m j u1 u2 u3 u4) ps o r a b c) K rt bk ct er := by
  obtain ⟨t1, _, _, t2⟩ := tree_facts (m := m) (j := j) (h.good hl)
  have t3 : (treeOf ps m j).dp ≤ 3 := by omega
  have hj3 : j ≤ 3 := by omega
  have hl2 : ps.length ≤ 100 := by omega
  refine ⟨_, _, _, _, mo_f, fl_ok rfl, I (lookP' ps m j u1 u2 u3 u4), rfl, rfl, ea "Fours", sTree ea 3, mt_ok rfl, _, _, _, _, mo_f, rfl, rfl, rfl, A, _, p, f, _, m, _, ps, j, hj3, rfl, rfl, hl2, rfl, treeOf ps m j, 0, 0, _, u1, u2, u3, u4, rfl, t3, Nat.le_refl 3, t2, rfl, rfl, brF ?_ (nilS hK)⟩
  rw [ne_int]
  simp
set_option smartUnfolding false in
theorem s6 (h : Pts (2 ^ j) ps) (hj : j < 4) (hl : ps.length ≤ 10) (hK : K (LS r j m f q sc tu na xx yy tn (b4 u1 u2 u3 u4) (insD ps u1 u2 u3 u4) fn nu nn tr wr on kk pa) (Mw ea A p f j m (lookP' ps m j u1 u2 u3 u4) ps o r a b c)) :
    wpS (gLw T k ea) SLw 39 (stAt 6) (LS r j m f q sc tu na xx yy tn (b4 u1 u2 u3 u4) (insD ps u1 u2 u3 u4) fn nu nn tr wr on kk pa) (Mw ea A p f j m l ps o r a b c) K rt bk ct er := by
  obtain ⟨t1, t4, t5, t2⟩ := tree_facts (m := m) (j := j) (h.good hl)
  have t3 : (treeOf ps m j).dp ≤ 3 := by omega
  have hj3 : j ≤ 3 := by omega
  have hl2 : ps.length ≤ 100 := by omega
  have ew := within_eq h m u1 u2 u3 u4
  have om : ∀ n ∈ sortS (foundT ps u1 u2 u3 u4 (treeOf ps m j) 0 0 (2 ^ j)), PyData.strOk n = true := fun n hn => by
    rw [ew] at hn
    exact h.ok n (List.mem_filter.mp ((sortS_perm _).mem_iff.mp hn)).1
  have sh := shaped_ns om
  have sh2 : SeqAt.shaped (.list ((sortS ((namesP ps).filter (inP ps u1 u2 u3 u4))).map PyData.str)) = true := by
    rw [← ew]
    exact sh
  have ne : eqB true (.list ((sortS (foundT ps u1 u2 u3 u4 (treeOf ps m j) 0 0 (2 ^ j))).map PyData.str)) (.list ((sortS ((namesP ps).filter (inP ps u1 u2 u3 u4))).map PyData.str)) = false := by
    rw [← ew]
    exact ne_refl sh
  refine ⟨rfl, ea "Fours", sWithin ea 3, mt_ok rfl, _, _, _, _, mo_f, rfl, rfl, _, rfl, _, rfl, _, rfl, _, rfl, rfl, A, _, p, f, _, m, l, u1, u2, u3, u4, ps, j, hj3, rfl, rfl, hl2, t3, t4, t5, ?_, .inl ⟨_, rfl, sh, sh2, brF ne (nilS hK)⟩⟩
  rw [dats_len, List.length_map, (sortS_perm _).length_eq]
  have := found_len ps u1 u2 u3 u4 (treeOf ps m j) 0 0 (2 ^ j)
  omega
set_option smartUnfolding false in
theorem s5 (h : Pts (2 ^ j) ps) (hl : ps.length ≤ 10) (hK : K (LS r j m f q sc tu na xx yy tn (b4 u1 u2 u3 u4) (insD ps u1 u2 u3 u4) fn nu nn tr wr on kk pa) (Mw ea ((q, .dk (ep ps)) :: A) p f j m l ps o r a b c)) :
    wpS (gLw T k ea) SLw 39 (stAt 5) (LS r j m f q sc tu na xx yy tn (b4 u1 u2 u3 u4) ii fn nu nn tr wr on kk pa) (Mw ea ((q, .dk (ep ps)) :: A) p f j m l ps o r a b c) K rt bk ct er := by
  refine .inr ⟨[], q, ep ps, _, rfl, fun od kvs => ⟨[], od, kvs, ep ps, _, rfl, by rw [ep_klen]; omega, fun i acc M' => M' = (q, .fk od kvs (ep ps)) :: (mo ea A p f (j : Nat) m (2 ^ j) l (ep ps) (Md o r a b c)) ∧ acc = dats ((((namesP ps).take i).filter (inP ps u1 u2 u3 u4)).map .str), ⟨rfl, rfl⟩, ?_, ?_, ?_⟩⟩
  · rintro i acc M' hi ⟨rfl, rfl⟩
    exact ⟨⟨[], _, rfl⟩, filt_len⟩
  · rintro D i z acc M' hr ⟨rfl, rfl⟩
    have hr2 : (dats ((namesP ps).map PyData.str))[i]? = some z := by
      rw [← ep_keys]
      exact hr
    obtain ⟨n, hn2, rfl⟩ := str_at hr2
    obtain ⟨px, py, hp⟩ := names_has ps n (List.mem_of_getElem? hn2)
    have hg : kvGet (ep ps) (.inr n) = some (.dat (xy px py)) := by rw [ep_get, hp]; rfl
    have eb : inP ps u1 u2 u3 u4 n = inB2 px py u1 u2 u3 u4 := by
      unfold inP
      rw [hp]
    have no : inB2 px py u1 u2 u3 u4 = false → inP ps u1 u2 u3 u4 n = false := fun h => eb.trans h
    refine ⟨_, rfl, .inr n, ep ps, rfl, .inr ⟨[(D, _)], od, kvs, _, rfl⟩, .dat (xy px py), hg, _, rfl, brS (fun a1 => ⟨_, rfl, brS (fun a2 => ⟨_, rfl, .inr n, ep ps, rfl, .inr ⟨[(D, _)], od, kvs, _, rfl⟩, .dat (xy px py), hg, _, rfl, brS (fun a3 => ⟨_, rfl, _, rfl, brS (fun a4 => ⟨_, rfl, rfl, (filt1 hn2 (eb.trans ?_)).symm⟩) fun a4 => ⟨rfl, (filt0 hn2 (no ?_)).symm⟩⟩) fun a3 => ⟨_, rfl, rfl, (filt0 hn2 (no ?_)).symm⟩⟩) fun a2 => ⟨_, rfl, rfl, (filt0 hn2 (no ?_)).symm⟩⟩) fun a1 => ⟨_, rfl, rfl, (filt0 hn2 (no ?_)).symm⟩⟩
    · unfold inB2
      rw [show decide (u1 ≤ px) = true from a1, show decide (px < u3) = true from a2, show decide (u2 ≤ py) = true from a3, show decide (py < u4) = true from a4]
      rfl
    · unfold inB2
      rw [show decide (py < u4) = false from a4]
      simp
    · unfold inB2
      rw [show decide (u2 ≤ py) = false from a3]
      simp
    · unfold inB2
      rw [show decide (px < u3) = false from a2]
      simp
    · unfold inB2
      rw [show decide (u1 ≤ px) = false from a1]
      simp
  · rintro acc M' ⟨rfl, hacc⟩
    have hacc : acc = dats (((namesP ps).filter (inP ps u1 u2 u3 u4)).map .str) := by
      rw [hacc, ep_keys, dats_len, List.length_map, List.take_length]
    subst hacc
    have lf : (((namesP ps).filter (inP ps u1 u2 u3 u4)).map PyData.str).length ≤ 1000 := by
      rw [List.length_map]
      refine Nat.le_trans (List.length_filter_le _ _) ?_
      rw [names_len]
      omega
    refine ⟨by rw [dats_len]; exact lf, .inl ⟨_, rfl, [], _, rfl, _, rfl, alike_str _, sort_str _, lf, depth_str _, fun ys hy => ?_⟩⟩
    have hy : ys = (sortS ((namesP ps).filter (inP ps u1 u2 u3 u4))).map .str := hy.trans (sortS_eq _)
    subst hy
    refine ⟨?_, .inl ⟨_, rfl, hK⟩⟩
    rw [dats_len, List.length_map, (sortS_perm _).length_eq]
    rw [List.length_map] at lf
    exact lf
set_option smartUnfolding false in
theorem s4 (hK : ∀ u1 u2 u3 u4 a b c : Int, K (LS r j m f q sc tu na xx yy tn (b4 u1 u2 u3 u4) ii fn nu nn tr wr on kk pa) (Mw ea A p f j m l ps o r a b c)) :
    wpS (gLw T k ea) SLw 39 (stAt 4) (LS r j m f q sc tu na xx yy tn bn ii fn nu nn tr wr on kk pa) (Mw ea A p f j m l ps o r a b c) K rt bk ct er := by
  have key : ∀ u1 u2 u3 u4 a b c : Int, K (LS r j m f q sc tu na xx yy tn (b4 u1 u2 u3 u4) ii fn nu nn tr wr on kk pa) (mr ea A p f (j : Nat) m (2 ^ j) l (ep ps) o r ++ (r, di a b c) :: []) := fun u1 u2 u3 u4 a b c => by
    rw [← mo_r]
    exact hK u1 u2 u3 u4 a b c
  exact ⟨rfl, r, _, [], a, b, c, 9, rfl, by decide, by decide, mo_r, fun u1 a1 b1 c1 _ _ => ⟨rfl, r, _, [], a1, b1, c1, 9, rfl, by decide, by decide, rfl, fun u2 a2 b2 c2 _ _ => ⟨rfl, r, _, [], a2, b2, c2, 10, rfl, by decide, by decide, rfl, fun u3 a3 b3 c3 _ _ => ⟨rfl, r, _, [], a3, b3, c3, 10, rfl, by decide, by decide, rfl, fun u4 a4 b4 c4 _ _ => .inl (key u1 u2 u3 u4 a4 b4 c4)⟩⟩⟩⟩
end
end BW
/-! P17Y -/
/-! the law's body: points put and taken -/
namespace BW
open PySem PySem.Spec PyProof.Rows L2 Cal
theorem two_j (j : Nat) : (2 : Int) ^ (maxI ((j : Nat) : Int) 0).toNat = 2 ^ j := p2_c j
theorem mine_same {ps : List Pt} {j : Nat} : mineN ps (namesP ps) 0 0 (2 ^ j) = mineN ps (namesP ps) 0 0 (2 ^ j) := rfl
def putB : List Stmt := match turnB.drop 1 with
  | .If _ b _ _ :: _ => b
  | _ => []
def takeB : List Stmt := match turnB.drop 1 with
  | .If _ _ b _ :: _ => b
  | _ => []
theorem sh_size : SeqAt.shaped (.str "size") = true := by decide +kernel
theorem nq_size : eqB true (.str "size") (.str "size") = false := by decide +kernel
theorem nq_none : eqB true .none .none = false := by decide +kernel
def kd (ps : List Pt) : List (L2.Key × D) := ps.map fun q => (.inr q.1, xy q.2.1 q.2.2)
theorem kd_ep (ps : List Pt) : (kd ps).map (fun p => (p.1, Sv.dat p.2)) = ep ps := by
  unfold kd ep
  rw [List.map_map]
  rfl
theorem kd_yes {ps : List Pt} {i : Nat} {w : Pt} {n : Str} (h : ps[i]? = some w) (e : w.1 ≠ n) : dats ((kd (dropP (ps.take (i + 1)) n)).map Cal.pairD) = dats ((kd (dropP (ps.take i) n)).map Cal.pairD) ++ [.dat (.tuple [.str w.1, xy w.2.1 w.2.2])] := by
  unfold kd dropP
  rw [takeP1 h, List.filter_append, List.filter_cons_of_pos (by simpa using e), List.map_append, List.map_append, dats_app]
  rfl
theorem kd_no {ps : List Pt} {i : Nat} {w : Pt} {n : Str} (h : ps[i]? = some w) (e : w.1 = n) : dats ((kd (dropP (ps.take (i + 1)) n)).map Cal.pairD) = dats ((kd (dropP (ps.take i) n)).map Cal.pairD) := by
  unfold kd dropP
  rw [takeP1 h, List.filter_append, List.filter_cons_of_neg (by simpa using e)]
  simp
theorem drop_none {ps : List Pt} {n : Str} (h : kvGet (ep ps) (.inr n) = none) : dropP ps n = ps := by
  unfold dropP
  rw [List.filter_eq_self]
  intro q hq
  refine decide_eq_true fun e => ?_
  have : ((ep ps).any fun p => decide (p.1 = .inr n)) = true := by
    rw [ep_any]
    exact List.any_eq_true.mpr ⟨q, hq, decide_eq_true e⟩
  rw [kvGet_any, h] at this
  cases this
theorem ne_str {x y : Str} : eqB true (.str x) (.str y) = !decide (x = y) := by
  unfold eqB
  by_cases h : x = y <;> simp [PyData.eqv, h]
section
variable {T : Tb} {k : Nat} {ea : Str → Addr} {K bk ct : Nx} {rt : PoE} {er : Er}
variable (sc tu na xx yy tn bn ii fn nu nn tr wr on kk pa : Sv) (a b c : Int) {o r p f q w : Addr} {j : Nat} {m l : Int} {ps : List Pt} {A B M : Ms}
set_option smartUnfolding false in
theorem s3 (h : Pts (2 ^ j) ps) (hj : j < 4) (hl : ps.length ≤ 10) (hK : K (LS r j m f q sc tu na xx yy tn bn ii fn nu nn tr wr on kk pa) (Mw ea ((q, .dk (ep ps)) :: A) p f j m l ps o r a b c)) :
    wpS (gLw T k ea) SLw 39 (stAt 3) (LS r j m f q sc tu na xx yy tn bn ii fn nu nn tr wr on kk pa) (Mw ea ((q, .dk (ep ps)) :: A) p f j m l ps o r a b c) K rt bk ct er := by
  have hj3 : j ≤ 3 := by omega
  have hl2 : ps.length ≤ 100 := by omega
  have hn2 : (namesP ps).length ≤ 100 := by rw [names_len]; omega
  have hd : ((j : Nat) : Int) ≤ 100 := by omega
  refine ⟨_, _, _, _, mo_f, fl_ok rfl, .ptr .dk p, rfl, ep ps, ep ps, .inl ⟨(q, .dk (ep ps)) :: A, _, rfl⟩, .inl ⟨[], _, rfl⟩, dat_ep ps, dat_ep ps, brF ?_ ⟨_, _, _, _, mo_f, fl_ok rfl, I (2 ^ j), rfl, rfl, rfl, brF ?_ ⟨rfl, _, rfl, hd, rfl, rfl, brF ?_
    ⟨rfl, ea "Fours", sTree ea 3, mt_ok rfl, _, _, _, _, mo_f, rfl, rfl, rfl, (q, .dk (ep ps)) :: A, _, p, f, _, m, l, ps, j, hj3, rfl, rfl, hl2, rfl, [], _, q, ps, m, j, namesP ps, 0, 0, hj3, rfl, rfl, hl2, h.nd, h.ok, rfl, hn2, hK⟩⟩⟩⟩
  · show (!dEq (ep ps) (ep ps)) = false
    rw [dEq_self h.nd]
    rfl
  · rw [ne_int]
    simp
  · rw [ne_int, two_j]
    simp
set_option smartUnfolding false in
theorem tPut {i : Nat} {x y : Int} {n : Str} (hM : M = Mw ea ((q, .dk (ep ps)) :: A) p f j m 0 ps o r a b c) (h : Turn (2 ^ j) ps i) (hi : i ≤ 10) (hA : Lsts A) (hn : NameOk n) (x0 : 0 ≤ x) (y0 : 0 ≤ y)
    (hK : ∀ ps tn, Turn (2 ^ j) ps (i + 1) → K (LS r j m f q sc tu (.dat (.str n)) (I x) (I y) tn bn ii fn nu nn tr wr on kk pa) (Mw ea ((q, .dk (ep ps)) :: A) p f j m 0 ps o r a b c)) :
    wpSs (wpS (gLw T k ea) SLw 37) putB (LS r j m f q sc tu (.dat (.str n)) (I x) (I y) tn bn ii fn nu nn tr wr on kk pa) M K rt bk ct er := by
  subst hM
  have hl := h.l
  have el : (ep ps).length ≤ 100 := by
    rw [show (ep ps).length = ps.length from List.length_map _]
    omega
  have el2 : (ep ps).length ≤ 1000 := by omega
  refine ⟨lsts_mo (lsts_dk hA), fun _ => rfl, fun _ _ _ _ _ => rfl, rfl, ea "Fours", sPut ea, mt_ok rfl, _, _, _, _, mo_f, rfl, rfl, rfl, (q, .dk (ep ps)) :: A, _, p, f, _, m, _, 0, x, y, ep ps, n, rfl, rfl, el, ?_⟩
  by_cases hin : inS2 x y (2 ^ j)
  · have key : K (LS r j m f q sc tu (.dat (.str n)) (I x) (I y) (.dat .none) bn ii fn nu nn tr wr on kk pa) ((q, .dk (kvPut (ep ps) (.inr n) (.dat (xy x y)))) :: mo ea A p f (j : Nat) m (2 ^ j) 0 (kvPut (ep ps) (.inr n) (.dat (xy x y))) (Md o r a b c)) := by
      rw [ep_put]
      exact hK _ _ ⟨h.p.put hn hin, Nat.le_trans put_len (by omega)⟩
    refine .inr ⟨hin, brT (decide_eq_true hin.2.1) (brT (decide_eq_true hin.2.2.2) ⟨rfl, rfl, brF nq_none ?_⟩)⟩
    exact ⟨.inr n, [], ep ps, _, rfl, rfl, el2, key⟩
  · refine .inl ⟨hin, "size", es_mem (by decide), _, List.Sublist.refl _, brS (fun h1 => brF ?_ ⟨sh_size, sh_size, brF nq_size ?_⟩) fun h1 => ⟨sh_size, sh_size, brF nq_size ?_⟩⟩
    · have h1 : x < 2 ^ j := of_decide_eq_true h1
      exact decide_eq_false fun h2 => hin ⟨x0, h1, y0, h2⟩
    · exact hK _ _ ⟨h.p, by omega⟩
    · exact hK _ _ ⟨h.p, by omega⟩
set_option smartUnfolding false in
theorem tTake {i : Nat} {x y : Int} {n : Str} (hM : M = Mw ea ((q, .dk (ep ps)) :: A) p f j m 0 ps o r a b c) (h : Turn (2 ^ j) ps i) (hi : i ≤ 10) (hA : Lsts A) (hn : NameOk n)
    (hK : ∀ ps tn q A, Turn (2 ^ j) ps (i + 1) → Lsts A → K (LS r j m f q sc tu (.dat (.str n)) (I x) (I y) tn bn ii fn nu nn tr wr on kk pa) (Mw ea ((q, .dk (ep ps)) :: A) p f j m 0 ps o r a b c)) :
    wpSs (wpS (gLw T k ea) SLw 37) takeB (LS r j m f q sc tu (.dat (.str n)) (I x) (I y) tn bn ii fn nu nn tr wr on kk pa) M K rt bk ct er := by
  subst hM
  have hl := h.l
  have hkl : (dats ((ep ps).map fun p => keyS p.1)).length ≤ 1000 := by rw [ep_klen]; omega
  have hdl : (dats ((kd (dropP ps n)).map Cal.pairD)).length ≤ 1000 := by
    rw [dats_len, List.length_map]
    unfold kd
    rw [List.length_map]
    have := drop_len (ps := ps) (n := n)
    omega
  have hT : Turn (2 ^ j) (dropP ps n) (i + 1) := ⟨h.p.drop, Nat.le_trans drop_len (by omega)⟩
  have ekv : kvAll [] ((kd (dropP ps n)).map fun p => (p.1, Sv.dat p.2)) = ep (dropP ps n) := by
    rw [kd_ep]
    exact kvAll_ep hT.p.nd
  have made : ∀ (es : Es) tn, es = ep (dropP ps n) → ∀ w, K (LS r j m f w sc tu (.dat (.str n)) (I x) (I y) tn bn ii fn nu nn tr wr on kk pa) ((w, .dk (kvAll [] ((kd (dropP ps n)).map fun p => (p.1, Sv.dat p.2)))) :: (q, .dk (ep ps)) :: mo ea A p f (j : Nat) m (2 ^ j) 0 es (Md o r a b c)) := fun es tn e w => by
    rw [ekv, e]
    exact hK _ tn w ((q, .dk (ep ps)) :: A) hT (lsts_dk hA)
  have look : kvGet (ep ps) (.inr n) = none ∨ kvGet (ep ps) (.inr n) ≠ none := Classical.em _
  refine ⟨lsts_mo (lsts_dk hA), fun _ => rfl, fun _ _ _ _ _ => rfl, rfl, ea "Fours", sTake ea, mt_ok rfl, _, _, _, _, mo_f, rfl, rfl, rfl, (q, .dk (ep ps)) :: A, _, p, f, _, m, _, 0, ep ps, n, rfl, rfl, ?_⟩
  rcases look with hg | hg
  · have hs : (kvGet (ep ps) (.inr n)).isSome = false := by rw [hg]; rfl
    refine .inl ⟨hg, "no such", es_mem (by decide), _, List.Sublist.refl _, .inr n, ep ps, rfl, .inl ⟨[], _, rfl⟩, brF hs ⟨sh_such, sh_such, brF nq_such ?_⟩⟩
    refine .inr ⟨[], q, ep ps, _, rfl, fun od kvs => ⟨[], od, kvs, ep ps, _, rfl, hkl, fun i acc M' => M' = (q, .fk od kvs (ep ps)) :: (mo ea A p f (j : Nat) m (2 ^ j) 0 (ep ps) (Md o r a b c)) ∧ acc = dats ((kd (dropP (ps.take i) n)).map Cal.pairD), ⟨rfl, rfl⟩, ?_, ?_, ?_⟩⟩
    · rintro i acc M' hi ⟨rfl, rfl⟩
      refine ⟨⟨[], _, rfl⟩, ?_⟩
      rw [dats_len, List.length_map]
      unfold kd
      rw [List.length_map]
      exact Nat.le_trans drop_len (List.length_take_le _ _)
    · rintro D i z acc M' hr ⟨rfl, rfl⟩
      obtain ⟨w, hw, rfl⟩ := ep_at hr
      have hm := List.mem_of_getElem? hw
      have hg := get_at h.p.nd hm
      refine ⟨shaped_y (h.p.nm w hm).2, shaped_y hn.2, _, rfl, brS (fun e => ⟨.inr w.1, ep ps, rfl, .inr ⟨[(D, _)], od, kvs, _, rfl⟩, _, hg, _, rfl, rfl, (kd_yes hw ?_).symm⟩) fun e => ⟨rfl, (kd_no hw ?_).symm⟩⟩
      · rw [ne_str] at e
        simpa using e
      · rw [ne_str] at e
        simpa using e
    · rintro acc M' ⟨rfl, hacc⟩
      have hacc : acc = dats ((kd (dropP ps n)).map Cal.pairD) := by
        rw [hacc, ep_klen, List.take_length]
      subst hacc
      exact ⟨hdl, .inl ⟨_, rfl, [], _, rfl, kd (dropP ps n), rfl, fun w => made _ _ (by rw [drop_none hg]) w⟩⟩
  · have hs : (kvGet (ep ps) (.inr n)).isSome = true := by
      cases e : kvGet (ep ps) (.inr n) with
      | none => exact absurd e hg
      | some z => rfl
    refine .inr ⟨hg, .inr n, ep ps, rfl, .inl ⟨[], _, rfl⟩, brT hs ⟨rfl, rfl, brF nq_none ?_⟩⟩
    refine .inr ⟨[], q, ep ps, _, rfl, fun od kvs => ⟨[], od, kvs, ep ps, _, rfl, hkl, fun i acc M' => M' = (q, .fk od kvs (ep ps)) :: (mo ea A p f (j : Nat) m (2 ^ j) 0 (kvDrop (ep ps) (.inr n)) (Md o r a b c)) ∧ acc = dats ((kd (dropP (ps.take i) n)).map Cal.pairD), ⟨rfl, rfl⟩, ?_, ?_, ?_⟩⟩
    · rintro i acc M' hi ⟨rfl, rfl⟩
      refine ⟨⟨[], _, rfl⟩, ?_⟩
      rw [dats_len, List.length_map]
      unfold kd
      rw [List.length_map]
      exact Nat.le_trans drop_len (List.length_take_le _ _)
    · rintro D i z acc M' hr ⟨rfl, rfl⟩
      obtain ⟨w, hw, rfl⟩ := ep_at hr
      have hm := List.mem_of_getElem? hw
      have hg := get_at h.p.nd hm
      refine ⟨shaped_y (h.p.nm w hm).2, shaped_y hn.2, _, rfl, brS (fun e => ⟨.inr w.1, ep ps, rfl, .inr ⟨[(D, _)], od, kvs, _, rfl⟩, _, hg, _, rfl, rfl, (kd_yes hw ?_).symm⟩) fun e => ⟨rfl, (kd_no hw ?_).symm⟩⟩
      · rw [ne_str] at e
        simpa using e
      · rw [ne_str] at e
        simpa using e
    · rintro acc M' ⟨rfl, hacc⟩
      have hacc : acc = dats ((kd (dropP ps n)).map Cal.pairD) := by
        rw [hacc, ep_klen, List.take_length]
      subst hacc
      exact ⟨hdl, .inl ⟨_, rfl, [], _, rfl, kd (dropP ps n), rfl, fun w => made _ _ (ep_drop ps n) w⟩⟩
end
end BW
/-! P17Z -/
/-! the law's body: its first statements -/
namespace BW
open PySem PySem.Spec PyProof.Rows L2 Cal
theorem setG {S : Sc} {n i : Nat} {x : Str} {p : Pos} {r : Sv} {ds : List Sv} {Q : List Sv → Prop} (h : slotL S x = some i) (hq : setK ds i r Q) : wpG S (n + 1) (.Name x p) r ds Q := by
  unfold wpG
  rw [h]
  exact hq
theorem setTu {sc di de ms fr sz tb tu na xx yy tn bn ii fn nu nn tr wr on kk pa r : Sv} {K : List Sv → Prop} (h : K (LQ sc di de ms fr sz tb r na xx yy tn bn ii fn nu nn tr wr on kk pa)) : setK (LQ sc di de ms fr sz tb tu na xx yy tn bn ii fn nu nn tr wr on kk pa) 7 r K := h
theorem setDi {sc di de ms fr sz tb tu na xx yy tn bn ii fn nu nn tr wr on kk pa r : Sv} {K : List Sv → Prop} (h : K (LQ sc r de ms fr sz tb tu na xx yy tn bn ii fn nu nn tr wr on kk pa)) : setK (LQ sc di de ms fr sz tb tu na xx yy tn bn ii fn nu nn tr wr on kk pa) 1 r K := h
section
variable {T : Tb} {k : Nat} {ea : Str → Addr} {K bk ct : Nx} {rt : PoE} {er : Er}
variable (sc fr sz tb tu na xx yy tn bn ii fn nu nn tr wr on kk pa : Sv) (a b c : Int) {o r p f q w : Addr} {j : Nat} {m l : Int} {ps : List Pt} {A B M : Ms}
set_option smartUnfolding false in
theorem tTurn {i : Nat} (h : Turn (2 ^ j) ps i) (hi : i ≤ 10) (hA : Lsts A)
    (hK : ∀ ps na xx yy tn q A a b c, Turn (2 ^ j) ps (i + 1) → Lsts A → K (LS r j m f q sc tu na xx yy tn bn ii fn nu nn tr wr on kk pa) (Mw ea ((q, .dk (ep ps)) :: A) p f j m 0 ps o r a b c)) :
    wpSs (wpS (gLw T k ea) SLw 38) turnB (LS r j m f q sc tu na xx yy tn bn ii fn nu nn tr wr on kk pa) (Mw ea ((q, .dk (ep ps)) :: A) p f j m 0 ps o r a b c) K rt bk ct er := by
  refine ⟨fun _ => rfl, rfl, rfl, rfl, r, _, [], a, b, c, 6, rfl, by decide, by decide, mo_r, fun n a1 b1 c1 n0 n1 => ?_⟩
  obtain ⟨ch, h1, h2⟩ := letter_ok ⟨n.toNat, by omega⟩
  have h1 : atI letters.cps.toList ((n.toNat : Nat) : Int) = some ch := h1
  rw [Int.toNat_of_nonneg n0] at h1
  refine ⟨ch, h1, by decide, rfl, r, _, [], a1, b1, c1, 9, rfl, by decide, by decide, rfl, fun x a2 b2 c2 x0 x1 => ⟨rfl, r, _, [], a2, b2, c2, 9, rfl, by decide, by decide, rfl, fun y a3 b3 c3 y0 y1 => ⟨rfl, rfl, r, _, [], a3, b3, c3, 4, rfl, by decide, by decide, rfl, fun z a4 b4 c4 z0 z1 => brS (fun _ => ?_) fun _ => ?_⟩⟩⟩
  · exact tPut sc tu tn bn ii fn nu nn tr wr on kk pa a4 b4 c4 mo_r.symm h hi hA h2 x0 y0 fun ps tn ht => hK ps _ _ _ tn q A a4 b4 c4 ht hA
  · exact tTake sc tu tn bn ii fn nu nn tr wr on kk pa a4 b4 c4 mo_r.symm h hi hA h2 fun ps tn q A ht hA => hK ps _ _ _ tn q A a4 b4 c4 ht hA
set_option smartUnfolding false in
theorem s2 (hA : Lsts A) (hK : ∀ ps tu na xx yy tn q A a b c, Pts (2 ^ j) ps → ps.length ≤ 10 → Lsts A → K (LS r j m f q sc tu na xx yy tn bn ii fn nu nn tr wr on kk pa) (Mw ea ((q, .dk (ep ps)) :: A) p f j m 0 ps o r a b c)) :
    wpS (gLw T k ea) SLw 39 (stAt 2) (LS r j m f q sc tu na xx yy tn bn ii fn nu nn tr wr on kk pa) (Mw ea ((q, .dk (ep [])) :: A) p f j m 0 [] o r a b c) K rt bk ct er := by
  refine .inl ⟨rfl, r, _, [], a, b, c, 8, rfl, by decide, by decide, mo_r, fun n a1 b1 c1 n0 n1 => ⟨⟨by omega, by omega⟩, fun i ds M' => ∃ ps q A tu na xx yy tn a b c, Turn (2 ^ j) ps i ∧ Lsts A ∧ ds = LS r j m f q sc tu na xx yy tn bn ii fn nu nn tr wr on kk pa ∧ M' = Mw ea ((q, .dk (ep ps)) :: A) p f j m 0 ps o r a b c,
    ⟨[], q, A, tu, na, xx, yy, tn, a1, b1, c1, ⟨Pts.nil, Nat.le_refl _⟩, hA, rfl, mo_r.symm⟩, fun _ _ _ _ _ => trivial, ?_, ?_⟩⟩
  · rintro i z ds M' hr ⟨ps, q, A, tu, na, xx, yy, tn, a, b, c, h, hA, rfl, rfl⟩
    obtain ⟨hi, rfl⟩ := rng_at hr
    refine setG (i := 7) rfl (setTu ?_)
    exact tTurn sc (I (0 + ((i : Nat) : Int))) na xx yy tn bn ii fn nu nn tr wr on kk pa a b c h (by omega) hA fun ps na xx yy tn q A a b c ht hA => ⟨ps, q, A, _, na, xx, yy, tn, a, b, c, ht, hA, rfl, rfl⟩
  · rintro ds M' ⟨ps, q, A, tu, na, xx, yy, tn, a, b, c, h, hA, rfl, rfl⟩
    have hl := h.l
    rw [rng_len] at hl
    exact hK ps tu na xx yy tn q A a b c h.p (by omega) hA
set_option smartUnfolding false in
theorem s1 (hj : j < 4) (hm : 1 ≤ m) (hK : ∀ f p q, K (LS r j m f q sc tu na xx yy tn bn ii fn nu nn tr wr on kk pa) (Mw ea ((q, .dk (ep [])) :: []) p f j m 0 [] o r a b c)) :
    wpS (gLw T k ea) SLw 39 (stAt 1) (LQ sc (.raw (.ref r)) (I (j : Nat)) (I m) fr sz tb tu na xx yy tn bn ii fn nu nn tr wr on kk pa) (Md o r a b c) K rt bk ct er := by
  have key : ∀ f p q, K (LS r j m f q sc tu na xx yy tn bn ii fn nu nn tr wr on kk pa) ((q, .dk []) :: mo ea [] p f (j : Nat) m (p2 (j : Nat)) 0 [] (Md o r a b c)) := fun f p q => by
    rw [p2_c]
    exact hK f p q
  have ok : okI ((j : Nat) : Int) m := ⟨by omega, by omega, hm⟩
  exact ⟨fun _ => rfl, rfl, rfl, rfl, fun f => ⟨f, (j : Nat), m, _, rfl, rfl, .inr ⟨ok, fun p => ⟨rfl, .inl ⟨_, fours_bt (c := 0) hj, fun q => ⟨rfl, key f p q⟩⟩⟩⟩⟩⟩
set_option smartUnfolding false in
theorem s0 (de ms : Sv) (hK : ∀ (j : Nat) (m a b c : Int), j < 4 → 1 ≤ m → K (LQ sc (.raw (.ref r)) (I (j : Nat)) (I m) fr sz tb tu na xx yy tn bn ii fn nu nn tr wr on kk pa) (Md o r a b c)) :
    wpS (gLw T k ea) SLw 39 (stAt 0) (LQ sc (.raw (.ref r)) de ms fr sz tb tu na xx yy tn bn ii fn nu nn tr wr on kk pa) (Md o r a b c) K rt bk ct er := by
  refine ⟨fun _ => rfl, rfl, rfl, rfl, r, [_], [], a, b, c, 4, rfl, by decide, by decide, rfl, fun d a1 b1 c1 d0 d1 => ?_⟩
  obtain ⟨j, rfl⟩ : ∃ j : Nat, d = j := ⟨d.toNat, by omega⟩
  refine ⟨rfl, r, [_], [], a1, b1, c1, 2, rfl, by decide, by decide, rfl, fun e a2 b2 c2 e0 e1 => ⟨rfl, ?_⟩⟩
  exact hK j (1 + e) a2 b2 c2 (by omega) (by omega)
end
end BW
/-! P18A -/
/-! the law's body, whole; the closed deeds; the law -/
namespace BW
open PySem PySem.Spec PyProof.Rows L2 Cal LamX
theorem xA {s : Stmt} {ss : List Stmt} {f : StF} {ds : List Sv} {M : Ms} {nx bk ct : Nx} {rt : PoE} {er : Er} : wpSs f (s :: ss) ds M nx rt bk ct er = f s ds M (fun ds1 M1 => wpSs f ss ds1 M1 nx rt bk ct er) rt bk ct er := rfl
theorem stW {s : Stmt} {ss : List Stmt} {f : StF} {xs : List Stmt} {ds : List Sv} {M : Ms} {nx bk ct : Nx} {rt : PoE} {er : Er} (e : xs = s :: ss) (h : f s ds M (fun ds1 M1 => wpSs f ss ds1 M1 nx rt bk ct er) rt bk ct er) : wpSs f xs ds M nx rt bk ct er := by
  rw [e, xA]
  exact h
theorem b0 : lawB = stAt 0 :: lawB.drop 1 := rfl
theorem b1 : lawB.drop 1 = stAt 1 :: lawB.drop 2 := rfl
theorem b2 : lawB.drop 2 = stAt 2 :: lawB.drop 3 := rfl
theorem b3 : lawB.drop 3 = stAt 3 :: lawB.drop 4 := rfl
theorem b4' : lawB.drop 4 = stAt 4 :: lawB.drop 5 := rfl
theorem b5 : lawB.drop 5 = stAt 5 :: lawB.drop 6 := rfl
theorem b6 : lawB.drop 6 = stAt 6 :: lawB.drop 7 := rfl
theorem b7 : lawB.drop 7 = stAt 7 :: lawB.drop 8 := rfl
theorem b8 : lawB.drop 8 = stAt 8 :: lawB.drop 9 := rfl
theorem b9 : lawB.drop 9 = stAt 9 :: lawB.drop 10 := rfl
theorem b10 : lawB.drop 10 = stAt 10 :: lawB.drop 11 := rfl
theorem b11 : lawB.drop 11 = stAt 11 :: lawB.drop 12 := rfl
theorem b12 : lawB.drop 12 = stAt 12 :: lawB.drop 13 := rfl
theorem b13 : lawB.drop 13 = stAt 13 :: lawB.drop 14 := rfl
theorem b14 : lawB.drop 14 = stAt 14 :: lawB.drop 15 := rfl
theorem b15 : lawB.drop 15 = stAt 15 :: [] := rfl
section
variable {T : Tb} {k : Nat} {ea : Str → Addr} {nx bk ct : Nx} {rt : PoE} {er : Er} {o r : Addr}
theorem bodyW (hn : ∀ (ds : List Sv) (A : Ms) (p f : Addr) (d m s l : Int) (es : Es) (a b c : Int), ds.length = 22 → Lsts A → nx ds (mo ea A p f d m s l es (Md o r a b c)))
    (sc de ms fr sz tb tu na xx yy tn bn ii fn nu nn tr wr on kk pa : Sv) (a b c : Int) :
    wpSs (wpS (gLw T k ea) SLw 39) lawB (LQ sc (.raw (.ref r)) de ms fr sz tb tu na xx yy tn bn ii fn nu nn tr wr on kk pa) (Md o r a b c) nx rt bk ct er := by
  refine stW b0 (s0 (hK := fun j m a b c hj hm => ?_) ..)
  refine stW b1 (s1 (hj := hj) (hm := hm) (hK := fun f p q => ?_) ..)
  refine stW b2 (s2 (hA := lsts_nil) (hK := fun ps tu na xx yy tn q A a b c hp hl hA => ?_) ..)
  refine stW b3 (s3 (h := hp) (hj := hj) (hl := hl) (hK := ?_) ..)
  refine stW b4' (s4 (hK := fun u1 u2 u3 u4 a b c => ?_) ..)
  refine stW b5 (s5 (u1 := u1) (u2 := u2) (u3 := u3) (u4 := u4) (h := hp) (hl := hl) (hK := ?_) ..)
  refine stW b6 (s6 (u1 := u1) (u2 := u2) (u3 := u3) (u4 := u4) (h := hp) (hj := hj) (hl := hl) (hK := ?_) ..)
  refine stW b7 (s7 (u1 := u1) (u2 := u2) (u3 := u3) (u4 := u4) (h := hp) (hj := hj) (hl := hl) (hK := ?_) ..)
  refine stW b8 (s8 (hK := fun x y a b c x0 x1 y0 y1 => ?_) ..)
  refine stW b9 (s9 (h := hp) (hj := hj) (hl := hl) (x1 := by omega) (y1 := by omega) (hK := fun w => ?_) ..)
  refine stW b10 (s10 (hA := hA) (h := hp) (hj := hj) (hl := hl) (x1 := by omega) (y1 := by omega) (hK := fun z => ?_) ..)
  refine stW b11 (s11 (hj := hj) (hK := ?_) ..)
  refine stW b12 (s12 (hj := hj) (hK := ?_) ..)
  refine stW b13 (s13 (hj := hj) (hK := fun xx yy nn => ?_) ..)
  refine stW b14 (s14 (hj := hj) (hl := hl) (hK := ?_) ..)
  refine stW b15 (s15 (B := [(z, .dk []), (w, .dk (sq x y ps))]) (hj := hj) (h := hp) (hl := hl) (hK := ?_) ..)
  exact nilS (hn _ _ _ _ _ _ _ _ _ _ _ _ rfl (lsts_dk (lsts_dk (lsts_dk hA))))
end
end BW
/-! P18B -/
/-! the closed deeds; the law -/
namespace BW
open PySem PySem.Spec PyProof.Rows L2 Cal LamX
theorem six {α : Type} {r0 r1 r2 r3 r4 r5 : α} {p : Nat → α → Prop} (h0 : p 0 r0) (h1 : p 1 r1) (h2 : p 2 r2) (h3 : p 3 r3) (h4 : p 4 r4) (h5 : p 5 r5) : ∀ (i : Nat) (r : α), [r0, r1, r2, r3, r4, r5][i]? = some r → p i r := by
  intro i r h
  match i, h with
  | 0, h => rw [← Option.some.inj h]; exact h0
  | 1, h => rw [← Option.some.inj h]; exact h1
  | 2, h => rw [← Option.some.inj h]; exact h2
  | 3, h => rw [← Option.some.inj h]; exact h3
  | 4, h => rw [← Option.some.inj h]; exact h4
  | 5, h => rw [← Option.some.inj h]; exact h5
theorem bad1 : ¬ okI (0 - 1) 1 := by unfold okI; omega
theorem bad2 : ¬ okI 11 1 := by unfold okI; omega
theorem bad3 : ¬ okI 1 0 := by unfold okI; omega
theorem good4 : okI 1 1 := by unfold okI; omega
theorem bad4 {s : Int} : ¬ inS2 (0 - 1) 0 s := fun h => absurd h.1 (by decide)
theorem bad5 : ¬ (0 ≤ (2 : Int) ∧ (2 : Int) < p2 ((1 : Nat) : Int) ∧ 0 ≤ (0 : Int) ∧ (0 : Int) < p2 ((1 : Nat) : Int)) := by rw [p2_c]; decide
theorem bad6 : ¬ (0 ≤ (4 : Int) ∧ (4 : Int) < p2 (2 * ((1 : Nat) : Int))) := by
  have e := p2_c 2
  intro h
  have h := h.2
  rw [show (2 * ((1 : Nat) : Int)) = ((2 : Nat) : Int) by decide, e] at h
  exact absurd h (by decide)
theorem nil_eq : eqB false (.list []) (.list []) = true := by decide +kernel
def lawT : List Stmt := (defBody s_law).drop 1
section
variable {T : Tb} {k : Nat} {ea : Str → Addr}
set_option smartUnfolding false in
theorem tailW {Q : PoE} {M : Ms} {nx bk ct : Nx} {er : Er} (hM : Lsts M) (q : ∀ M', Q (B true) M') (sc di de ms fr sz tb tu na xx yy tn bn ii fn nu nn tr wr on kk pa : Sv) :
    wpSs (wpS (gLw T k ea) SLw 40) lawT (LQ sc di de ms fr sz tb tu na xx yy tn bn ii fn nu nn tr wr on kk pa) M nx Q bk ct er := by
  refine ⟨hM, fun _ => rfl, fun _ => rfl, by decide, hM, fun _ => rfl, fun _ => rfl, by decide, hM, fun _ => rfl, fun _ => rfl, by decide, hM, fun _ => rfl, fun _ => rfl, by decide, hM, fun _ => rfl, fun _ => rfl, by decide, hM, fun _ => rfl, fun _ => rfl, by decide, .inr fun l => ?_⟩
  refine .inl ⟨[], _, _, rfl, Nat.le_of_ble_eq_true rfl, fun i acc M' => acc = [] ∧ M' = (l, .lst _) :: M, ⟨rfl, rfl⟩, ?_, ?_, ?_⟩
  · rintro i acc M' hi ⟨rfl, rfl⟩
    exact ⟨⟨[], _, rfl⟩, Nat.zero_le _⟩
  · intro Dl i r acc M' hr hinv
    obtain ⟨rfl, rfl⟩ := hinv
    revert i r
    refine six (p := fun i r => _) ?_ ?_ ?_ ?_ ?_ ?_
    · exact ⟨_, _, rfl, .inl ⟨rfl, _, rfl, rfl, rfl, fun _ => rfl, fun _ _ _ => rfl, rfl, fun f => ⟨f, _, _, _, rfl, rfl, .inl ⟨bad1, "size", es_mem (by decide), _, List.sublist_cons_self _ _, _, _, rfl, .inr ⟨rfl, sh_size, sh_size, _, rfl, brF nq_size ⟨rfl, rfl⟩⟩⟩⟩⟩⟩
    · exact ⟨_, _, rfl, .inl ⟨rfl, _, rfl, rfl, rfl, fun _ => rfl, fun _ _ _ => rfl, rfl, fun f => ⟨f, _, _, _, rfl, rfl, .inl ⟨bad2, "size", es_mem (by decide), _, List.sublist_cons_self _ _, _, _, rfl, .inr ⟨rfl, sh_size, sh_size, _, rfl, brF nq_size ⟨rfl, rfl⟩⟩⟩⟩⟩⟩
    · exact ⟨_, _, rfl, .inl ⟨rfl, _, rfl, rfl, rfl, fun _ => rfl, fun _ _ _ => rfl, rfl, fun f => ⟨f, _, _, _, rfl, rfl, .inl ⟨bad3, "size", es_mem (by decide), _, List.sublist_cons_self _ _, _, _, rfl, .inr ⟨rfl, sh_size, sh_size, _, rfl, brF nq_size ⟨rfl, rfl⟩⟩⟩⟩⟩⟩
    · exact ⟨_, _, rfl, .inl ⟨rfl, _, rfl, rfl, rfl, fun _ => rfl, fun _ _ _ => rfl, rfl, ea "Fours", sPut ea, mt_ok rfl, rfl, fun f => ⟨f, _, _, _, rfl, rfl, .inr ⟨good4, fun p => ⟨rfl, [(p, _)], _, _, _, rfl, rfl, rfl, rfl, [], _, p, f, _, _, _, 0, _, _, [], "a", rfl, rfl, Nat.zero_le _, .inl ⟨bad4, "size", es_mem (by decide), _, (List.sublist_cons_self _ _).trans (List.sublist_cons_self _ _), _, _, rfl, .inr ⟨rfl, sh_size, sh_size, _, rfl, brF nq_size ⟨rfl, rfl⟩⟩⟩⟩⟩⟩⟩⟩
    · exact ⟨_, _, rfl, .inl ⟨rfl, _, rfl, rfl, rfl, fun _ => rfl, fun _ _ _ => rfl, rfl, 2, 0, 1, rfl, by decide, .inl ⟨bad5, "size", es_mem (by decide), _, List.Sublist.refl _, _, _, rfl, .inr ⟨rfl, sh_size, sh_size, _, rfl, brF nq_size ⟨rfl, rfl⟩⟩⟩⟩⟩
    · exact ⟨_, _, rfl, .inl ⟨rfl, _, rfl, rfl, rfl, fun _ => rfl, fun _ _ _ => rfl, rfl, 4, 1, rfl, by decide, .inl ⟨bad6, "size", es_mem (by decide), _, List.Sublist.refl _, _, _, rfl, .inr ⟨rfl, sh_size, sh_size, _, rfl, brF nq_size ⟨rfl, rfl⟩⟩⟩⟩⟩
  · rintro acc M' ⟨rfl, rfl⟩
    have e : ∀ M', Q (B (eqB false (.list []) (.list []))) M' := by
      rw [nil_eq]
      exact q
    exact ⟨Nat.zero_le _, .inl ⟨[], rfl, .inl ⟨rfl, rfl, e _⟩⟩⟩
end
end BW
/-! P18C -/
/-! the law -/
namespace BW
open PySem PySem.Spec PyProof.Rows L2 Cal LamX
def sLaw : Sig := ⟨1, [], fun rs M Q E => ∃ ns : List Int, rs = [.dat (.list (ns.map .int))] ∧ M = [] ∧ ∀ M', Q (B true) M', fun hQ hE ⟨ns, e, h, q⟩ => ⟨ns, e, h, fun M' => hQ _ _ (q M')⟩⟩
theorem of22 {ds : List Sv} (h : ds.length = 22) : ∃ sc di de ms fr sz tb tu na xx yy tn bn ii fn nu nn tr wr on kk pa, ds = LQ sc di de ms fr sz tb tu na xx yy tn bn ii fn nu nn tr wr on kk pa := by
  match ds, h with
  | [sc, di, de, ms, fr, sz, tb, tu, na, xx, yy, tn, bn, ii, fn, nu, nn, tr, wr, on, kk, pa], _ => exact ⟨sc, di, de, ms, fr, sz, tb, tu, na, xx, yy, tn, bn, ii, fn, nu, nn, tr, wr, on, kk, pa, rfl⟩
theorem md_in {ea : Str → Addr} {A : Ms} {p f o r : Addr} {d m s l a b c : Int} {es : Es} : mo ea A p f d m s l es (Md o r a b c) = (A ++ [(p, .dk es), (f, .ob (ea "Fours") (fo p d m s l))]) ++ (o, .lst [.raw (.ref r)]) :: [(r, di a b c)] := by simp [mo]
section
variable {T : Tb} {k : Nat} {ea : Str → Addr}
theorem do_law : DoesS (gLw T k ea) SLw (defBody s_law) sLaw := by
  rintro rs M Q E _ ⟨ns, rfl, rfl, q⟩
  refine .inl ⟨rfl, ns, rfl, fun o r a b c => ⟨[], _, _, rfl, fun i ds M' => (i = 0 → ds = startD SLw.N.length [.dat (.list (ns.map .int))] ∧ ∃ a b c, M' = Md o r a b c) ∧ ds.length = 22 ∧ Lsts M' ∧ (∃ A C, M' = A ++ (o, .lst [.raw (.ref r)]) :: C), ⟨fun _ => ⟨rfl, a, b, c, rfl⟩, rfl, lsts_md o r a b c, [], _, rfl⟩, ?_, ?_, ?_⟩⟩
  · rintro i ds M' hi ⟨_, _, _, A, C, rfl⟩
    exact ⟨A, C, rfl⟩
  · rintro i z ds M' hr ⟨h0, _, _, _⟩
    match i, hr with
    | 0, hr =>
      cases hr
      obtain ⟨rfl, a, b, c, rfl⟩ := h0 rfl
      have e0 : startD SLw.N.length [.dat (.list (ns.map .int))] = LQ (.dat (.list (ns.map .int))) .no .no .no .no .no .no .no .no .no .no .no .no .no .no .no .no .no .no .no .no .no := rfl
      rw [e0]
      refine setG (i := 1) rfl (setDi ?_)
      refine bodyW (fun ds A p f d m s l es a b c h1 h2 => ?_) ..
      refine ⟨fun h => absurd h (by decide), h1, lsts_mo h2, _, _, md_in⟩
  · rintro ds M' ⟨_, h1, h2, _⟩
    obtain ⟨sc, di, de, ms, fr, sz, tb, tu, na, xx, yy, tn, bn, ii, fn, nu, nn, tr, wr, on, kk, pa, rfl⟩ := of22 h1
    exact tailW h2 (fun M' => .ok (q M')) ..
end
end BW
/-! P18D -/
namespace BW
open PySem PySem.Spec PyProof.Rows L2 Cal LamX
def es9 (K : PySem.W.Frag) : List (Addr × Str) := esL.map fun p => (He.ga K p.1, p.2)
theorem gives9 {X : Cx} {q : Str} {g : Addr} (hx : ∀ p ∈ es9 X.K, ∀ q ∈ es9 X.K, PySem.W.exmOne X.K (.ref p.1) (.ref q.1) = some (decide (p = q))) (hme : ∀ x ∈ errs, X.mg x = some (.ref (He.ga X.K x))) (cdg : Value) :
    GivesTo X ["what"] "_law_told" (defScope s__law_told) g cdg (defBody s__law_told) "what" q (TT9 X.K (es9 X.K)) :=
  told9_gives (es := es9 X.K) hx (fun s H => .cons ⟨rfl, by decide, .inl (hme "BadPart" (by decide))⟩ (fun a oe cls d pn _ _ => pss_one (ps_ret pe_str)) (.cons ⟨rfl, by decide, .inl (hme "BadPoint" (by decide))⟩ (fun a oe cls d pn _ _ => pss_one (ps_ret pe_str))
    (.cons ⟨rfl, by decide, .inl (hme "BadRing" (by decide))⟩ (fun a oe cls d pn _ _ => pss_one (ps_ret pe_str)) (.cons ⟨rfl, by decide, .inl (hme "BadMap" (by decide))⟩ (fun a oe cls d pn _ _ => pss_one (ps_ret pe_str))
    (.cons ⟨rfl, by decide, .inl (hme "BadPaper" (by decide))⟩ (fun a oe cls d pn _ _ => pss_one (ps_ret pe_str)) (.cons ⟨rfl, by decide, .inl (hme "BadSize" (by decide))⟩ (fun a oe cls d pn _ _ => pss_one (ps_ret pe_str))
    (.cons ⟨rfl, by decide, .inl (hme "BadText" (by decide))⟩ (fun a oe cls d pn _ _ => pss_one (ps_ret pe_str)) (.cons ⟨rfl, by decide, .inl (hme "BadStore" (by decide))⟩ (fun a oe cls d pn _ _ => pss_one (ps_ret pe_str))
    (.cons ⟨rfl, by decide, .inl (hme "NoSuch" (by decide))⟩ (fun a oe cls d pn _ _ => pss_one (ps_ret pe_str)) .nil))))))))) (fun f => rfl)
/-- a def and its name -/
structure Dn (K : PySem.W.Frag) (mg : Str → Option Value) (x : Str) (st : Stmt) (dvs : List V) : Prop where
  fd : ∃ fd, FunD K x x (defArgs st) (defBody st) (defScope st) dvs [] (He.ga K x) fd
  mg : mg x = some (.ref (He.ga K x))
/-- a method of Fours -/
abbrev mAd (K : PySem.W.Frag) (m : Str) : Addr := He.ma K (He.ga K "Fours") m
/-- what the head tells -/
structure Hd (K : PySem.W.Frag) (mg : Str → Option Value) : Prop where
  bi : ∀ x ∈ biL, mg x = none
  most : ∃ t, mg "MOST_DEPTH" = some (.int 10 t)
  me : ∀ x ∈ errs, mg x = some (.ref (He.ga K x))
  xp : ∀ x ∈ errs, (He.Fa.exc x).ok K = true
  xm : ∀ p ∈ es9 K, ∀ q ∈ es9 K, PySem.W.exmOne K (.ref p.1) (.ref q.1) = some (decide (p = q))
  fours : mg "Fours" = some (.ref (He.ga K "Fours"))
  cls : Cls K (He.ga K "Fours")
  mkr : Mk K (He.ga K "Fours") (mAd K "__init__")
  noat : ∀ f ∈ atL, NoAttr K (He.ga K "Fours") f
  d_in_box : Dn K mg "in_box" s_in_box []
  d_quarters : Dn K mg "quarters" s_quarters []
  d_doubled : Dn K mg "doubled" s_doubled []
  d_is_leaf : Dn K mg "is_leaf" s_is_leaf []
  d_code : Dn K mg "code" s_code []
  d_uncoded : Dn K mg "uncoded" s_uncoded []
  d_sign_at : Dn K mg "sign_at" s_sign_at []
  d_depth_of : Dn K mg "depth_of" s_depth_of []
  d__law_flat : Dn K mg "_law_flat" s__law_flat []
  d__law_dice : Dn K mg "_law_dice" s__law_dice []
  d__law_roll : Dn K mg "_law_roll" s__law_roll []
  d__law_rounds : Dn K mg "_law_rounds" s__law_rounds []
  d__law_told : Dn K mg "_law_told" s__law_told []
  d__law_fits : Dn K mg "_law_fits" s__law_fits []
  d__law_looked : Dn K mg "_law_looked" s__law_looked []
  d__law_deep : Dn K mg "_law_deep" s__law_deep []
  d_law : Dn K mg "law" s_law []
  f_init : ∃ fd, FunD K "__init__" "Fours.__init__" (defArgs s_Fours___init__) (defBody s_Fours___init__) (defScope s_Fours___init__) [] [] (mAd K "__init__") fd
  f_put : ∃ fd, FunD K "put" "Fours.put" (defArgs s_Fours_put) (defBody s_Fours_put) (defScope s_Fours_put) [] [] (mAd K "put") fd
  m_put : Meth K (He.ga K "Fours") "put" (mAd K "put")
  f_take : ∃ fd, FunD K "take" "Fours.take" (defArgs s_Fours_take) (defBody s_Fours_take) (defScope s_Fours_take) [] [] (mAd K "take") fd
  m_take : Meth K (He.ga K "Fours") "take" (mAd K "take")
  f_tree : ∃ fd, FunD K "tree" "Fours.tree" (defArgs s_Fours_tree) (defBody s_Fours_tree) (defScope s_Fours_tree) [] [] (mAd K "tree") fd
  m_tree : Meth K (He.ga K "Fours") "tree" (mAd K "tree")
  f_cut : ∃ fd, FunD K "cut" "Fours.cut" (defArgs s_Fours_cut) (defBody s_Fours_cut) (defScope s_Fours_cut) [] [] (mAd K "cut") fd
  m_cut : Meth K (He.ga K "Fours") "cut" (mAd K "cut")
  f_within : ∃ fd, FunD K "within" "Fours.within" (defArgs s_Fours_within) (defBody s_Fours_within) (defScope s_Fours_within) [] [] (mAd K "within") fd
  m_within : Meth K (He.ga K "Fours") "within" (mAd K "within")
  f_found : ∃ fd, FunD K "found" "Fours.found" (defArgs s_Fours_found) (defBody s_Fours_found) (defScope s_Fours_found) [] [] (mAd K "found") fd
  m_found : Meth K (He.ga K "Fours") "found" (mAd K "found")
  f_nearest : ∃ fd, FunD K "nearest" "Fours.nearest" (defArgs s_Fours_nearest) (defBody s_Fours_nearest) (defScope s_Fours_nearest) [] [] (mAd K "nearest") fd
  m_nearest : Meth K (He.ga K "Fours") "nearest" (mAd K "nearest")
theorem lookup_mem {x : Str × Nat} {s : Sig} : ∀ {t : List ((Str × Nat) × Sig)}, t.lookup x = some s → (x, s) ∈ t
  | [], h => by cases h
  | (y, r) :: t, h => by
    rw [List.lookup_cons] at h
    split at h
    · rename_i e
      have e2 := eq_of_beq e
      have e3 := Option.some.inj h
      subst e2
      subst e3
      exact List.mem_cons_self
    · exact List.mem_cons_of_mem _ (lookup_mem h)
section
variable {w : World} {K : PySem.W.Frag} {mg : Str → Option Value} {base : Heap} {T : Tb}
abbrev Kn (w : World) (K : PySem.W.Frag) (mg : Str → Option Value) (base : Heap) (T : Tb) (k : Nat) (t : Tbl) : Prop := ∀ p ∈ t, FnP prog w K mg base T k p.1.1 p.2 ∧ mg p.1.1 = some (.ref (He.ga K p.1.1))
abbrev Km (w : World) (K : PySem.W.Frag) (mg : Str → Option Value) (base : Heap) (T : Tb) (k : Nat) (t : Tbl) : Prop := ∀ p ∈ t, MtP prog w K mg base T k (He.ga K "Fours") p.1.1 p.2
abbrev Kk (w : World) (K : PySem.W.Frag) (mg : Str → Option Value) (base : Heap) (T : Tb) (k : Nat) (t : Tbl) : Prop := ∀ p ∈ t, MkP prog w K mg base T k p.1.1 (He.ga K "Fours") p.2
theorem Kn.nil {k : Nat} : Kn w K mg base T k [] := fun p hp => by cases hp
theorem Kn.cons {k : Nat} {x : Str} {n : Nat} {s : Sig} {t : Tbl} (h : FnP prog w K mg base T k x s) (hm : mg x = some (.ref (He.ga K x))) (r : Kn w K mg base T k t) : Kn w K mg base T k (((x, n), s) :: t) := fun p hp => by
  rcases List.mem_cons.mp hp with e | hp
  · rw [e]
    exact ⟨h, hm⟩
  · exact r p hp
theorem Km.nil {k : Nat} : Km w K mg base T k [] := fun p hp => by cases hp
theorem Km.cons {k : Nat} {x : Str} {n : Nat} {s : Sig} {t : Tbl} (h : MtP prog w K mg base T k (He.ga K "Fours") x s) (r : Km w K mg base T k t) : Km w K mg base T k (((x, n), s) :: t) := fun p hp => by
  rcases List.mem_cons.mp hp with e | hp
  · rw [e]
    exact h
  · exact r p hp
theorem Kk.nil {k : Nat} : Kk w K mg base T k [] := fun p hp => by cases hp
theorem Kk.cons {k : Nat} {x : Str} {n : Nat} {s : Sig} {t : Tbl} (h : MkP prog w K mg base T k x (He.ga K "Fours") s) (r : Kk w K mg base T k t) : Kk w K mg base T k (((x, n), s) :: t) := fun p hp => by
  rcases List.mem_cons.mp hp with e | hp
  · rw [e]
    exact h
  · exact r p hp
theorem gi_ok {k : Nat} {lq : Str} {t tm mk : Tbl} (h : Hd K mg) (hf : Kn w K mg base T k t) (hm : Km w K mg base T k tm) (hk : Kk w K mg base T k mk) : GiOk (giL T k (He.ga K) lq t tm mk) prog w K mg base where
  sg := fun x n s e => (hf _ (lookup_mem e)).1
  fa := fun x n s e => (hf _ (lookup_mem e)).2
  gv := fun x r e => by
    have e : gvL.lookup x = some r := e
    unfold gvL at e
    rw [List.lookup_cons] at e
    split at e
    · rename_i e1
      have e2 := eq_of_beq e1
      have e3 := Option.some.inj e
      subst e2
      subst e3
      obtain ⟨t, ht⟩ := h.most
      exact ⟨.int 10, _, ht, ⟨t, rfl⟩, fun G => .int 10⟩
    · cases e
  bi := fun x e => h.bi x (List.contains_iff_mem.mp e)
  gc := fun x e => (nomatch e)
  ex := fun x c e => by
    have e : exF (He.ga K) x = some c := e
    unfold exF at e
    split at e
    · rename_i hc
      have hx := List.contains_iff_mem.mp hc
      cases e
      exact ⟨rfl, h.me x hx, h.xp x hx⟩
    · cases e
  fl := fun c f e => by
    have e : flF (He.ga K) c f = true := e
    unfold flF at e
    split at e
    · rename_i hc
      rw [eq_of_beq hc]
      exact ⟨h.cls, h.noat f (List.contains_iff_mem.mp e)⟩
    · cases e
  mt := fun c m n s e => by
    have e : mtF (He.ga K) tm c m n = some s := e
    unfold mtF at e
    split at e
    · rename_i hc
      rw [eq_of_beq hc]
      exact hm _ (lookup_mem e)
    · cases e
  mkr := fun x n c s e => by
    have e : mkF (He.ga K) mk x n = some (c, s) := e
    unfold mkF at e
    split at e
    · rename_i s' hs
      cases e
      exact hk _ (lookup_mem hs)
    · cases e
theorem mkD {g : Gi} {x : Str} {st : Stmt} {N ps : List Str} {s : Sig} (ok : GiOk g prog w K mg base) (d : Dn K mg x st []) (hdo : Does g (SS N st) (defBody st) s) (Sf : FnScope N ps (defScope st)) (hb : ∀ (kV doc pm : Value) (an : Option Addr) (cdv ct : Value) (us : List Value), us.length = ps.length → bindArgs (PySem.W.fnOf x x (defArgs st) (defBody st) (defScope st) .none kV doc pm an cdv ct) ⟨us, []⟩ = pure (ps.zip us))
    (hdr : s.dr = []) (hn : ps.length = s.n) (hbk : (defScope st).kind = .function) : FnP prog w K mg base g.T (g.k + 1) x s := by
  obtain ⟨⟨fd, F⟩, m⟩ := d
  exact does_ok ok F Sf m (F.bindsN hb) .nil (fun G => by rw [hdr]; exact .nil) hn hbk hdo
theorem mkS {g : Gi} {x : Str} {st : Stmt} {N ps : List Str} {s : Sig} (ok : GiOk g prog w K mg base) (d : Dn K mg x st []) (hdo : DoesS g (SS N st) (defBody st) s) (Sf : FnScope N ps (defScope st)) (hb : ∀ (kV doc pm : Value) (an : Option Addr) (cdv ct : Value) (us : List Value), us.length = ps.length → bindArgs (PySem.W.fnOf x x (defArgs st) (defBody st) (defScope st) .none kV doc pm an cdv ct) ⟨us, []⟩ = pure (ps.zip us))
    (hdr : s.dr = []) (hn : ps.length = s.n) : FnP prog w K mg base g.T (g.k + 1) x s := by
  obtain ⟨⟨fd, F⟩, m⟩ := d
  exact doesS_ok ok F Sf m (F.bindsN hb) .nil (fun G => by rw [hdr]; exact .nil) hn hdo
/-- a method, from its body's reading -/
theorem mtM {g : Gi} {x q : Str} {st : Stmt} {N ps : List Str} {s : Sig} (h : Hd K mg) (ok : GiOk g prog w K mg base) (d : ∃ fd, FunD K x q (defArgs st) (defBody st) (defScope st) [] [] (mAd K x) fd) (m : Meth K (He.ga K "Fours") x (mAd K x)) (hdo : Does g (SS N st) (defBody st) s) (Sf : FnScope N ps (defScope st))
    (hb : ∀ (kV doc pm : Value) (an : Option Addr) (cdv ct : Value) (us : List Value), us.length = ps.length → bindArgs (PySem.W.fnOf x q (defArgs st) (defBody st) (defScope st) .none kV doc pm an cdv ct) ⟨us, []⟩ = pure (ps.zip us)) (hdr : s.dr = []) (hn : ps.length = s.n) : MtP prog w K mg base g.T (g.k + 1) (He.ga K "Fours") x s := by
  obtain ⟨fd, F⟩ := d
  exact ⟨mAd K x, fd, ps, [], [], doesM_ok ok F Sf hn hdo, h.cls, m, F.bindsN hb, .nil, fun G => by rw [hdr]; exact .nil⟩
theorem mtS {g : Gi} {x q : Str} {st : Stmt} {N ps : List Str} {s : Sig} (h : Hd K mg) (ok : GiOk g prog w K mg base) (d : ∃ fd, FunD K x q (defArgs st) (defBody st) (defScope st) [] [] (mAd K x) fd) (m : Meth K (He.ga K "Fours") x (mAd K x)) (hdo : DoesS g (SS N st) (defBody st) s) (Sf : FnScope N ps (defScope st))
    (hb : ∀ (kV doc pm : Value) (an : Option Addr) (cdv ct : Value) (us : List Value), us.length = ps.length → bindArgs (PySem.W.fnOf x q (defArgs st) (defBody st) (defScope st) .none kV doc pm an cdv ct) ⟨us, []⟩ = pure (ps.zip us)) (hdr : s.dr = []) (hn : ps.length = s.n) : MtP prog w K mg base g.T (g.k + 1) (He.ga K "Fours") x s := by
  obtain ⟨fd, F⟩ := d
  exact ⟨mAd K x, fd, ps, [], [], doesMS_ok ok F Sf hn hdo, h.cls, m, F.bindsN hb, .nil, fun G => by rw [hdr]; exact .nil⟩
/-- the maker -/
theorem mkM {g : Gi} {x q : Str} {st : Stmt} {N ps : List Str} {s : Sig} {k : Nat} (h : Hd K mg) (hk : g.k + 2 ≤ k) (ok : GiOk g prog w K mg base) (d : ∃ fd, FunD K x q (defArgs st) (defBody st) (defScope st) [] [] (mAd K "__init__") fd) (hdo : Does g (SS N st) (defBody st) s) (Sf : FnScope N ps (defScope st))
    (hb : ∀ (kV doc pm : Value) (an : Option Addr) (cdv ct : Value) (us : List Value), us.length = ps.length → bindArgs (PySem.W.fnOf x q (defArgs st) (defBody st) (defScope st) .none kV doc pm an cdv ct) ⟨us, []⟩ = pure (ps.zip us)) (hdr : s.dr = []) (hn : ps.length = s.n) : MkP prog w K mg base g.T k "Fours" (He.ga K "Fours") s := by
  obtain ⟨fd, F⟩ := d
  exact ⟨g.k + 1, mAd K "__init__", fd, ps, [], [], hk, doesM_ok ok F Sf hn hdo, h.mkr, h.fours, F.bindsN hb, .nil, fun G => by rw [hdr]; exact .nil⟩
theorem _root_.Cal.MtP.up {k k' : Nat} {c : Addr} {m : Str} {s : Sig} (h : MtP prog w K mg base T k c m s) (l : k ≤ k') : MtP prog w K mg base T k' c m s := by
  obtain ⟨f, fd, ps, us, dvs, F, r⟩ := h.ex
  exact ⟨f, fd, ps, us, dvs, F.mono l, r⟩
end
end BW
/-! P18E -/
namespace BW
open PySem PySem.Spec PyProof.Rows L2 Cal LamX
section
variable {w : World} {K : PySem.W.Frag} {mg : Str → Option Value} {base : Heap} {T : Tb}
structure Rg (w : World) (K : PySem.W.Frag) (mg : Str → Option Value) (base : Heap) (T : Tb) : Prop where
  fn : Kn w K mg base T 7 (tLw (He.ga K))
  mt : Km w K mg base T 7 (tmL (He.ga K))
  mkr : Kk w K mg base T 7 (mkL (He.ga K))
theorem all_ok (h : Hd K mg) : Rg w K mg base T := by
  have f_in_box : FnP prog w K mg base T 1 "in_box" sInBox := mkD (ps := ["spot", "box"]) (gi_ok (k := 0) h .nil .nil .nil) h.d_in_box do_in_box ⟨rfl, rfl, rfl, by decide +kernel, rfl, by decide +kernel, by decide +kernel⟩ (fun _ _ _ _ _ _ us hl => match us, hl with | [_, _], _ => rfl) rfl rfl rfl
  have f_quarters : FnP prog w K mg base T 1 "quarters" sQuarters := mkD (ps := ["x", "y", "size"]) (gi_ok (k := 0) h .nil .nil .nil) h.d_quarters do_quarters ⟨rfl, rfl, rfl, by decide +kernel, rfl, by decide +kernel, by decide +kernel⟩ (fun _ _ _ _ _ _ us hl => match us, hl with | [_, _, _], _ => rfl) rfl rfl rfl
  have f_doubled : FnP prog w K mg base T 1 "doubled" sDoubled := mkD (ps := ["count"]) (gi_ok (k := 0) h .nil .nil .nil) h.d_doubled do_doubled ⟨rfl, rfl, rfl, by decide +kernel, rfl, by decide +kernel, by decide +kernel⟩ (fun _ _ _ _ _ _ us hl => match us, hl with | [_], _ => rfl) rfl rfl rfl
  have f_is_leaf : FnP prog w K mg base T 1 "is_leaf" sLeaf := mkD (ps := ["tree"]) (gi_ok (k := 0) h .nil .nil .nil) h.d_is_leaf do_is_leaf ⟨rfl, rfl, rfl, by decide +kernel, rfl, by decide +kernel, by decide +kernel⟩ (fun _ _ _ _ _ _ us hl => match us, hl with | [_], _ => rfl) rfl rfl rfl
  have f_sign_at : FnP prog w K mg base T 1 "sign_at" sSign := mkD (ps := ["number", "place"]) (gi_ok (k := 0) h .nil .nil .nil) h.d_sign_at do_sign ⟨rfl, rfl, rfl, by decide +kernel, rfl, by decide +kernel, by decide +kernel⟩ (fun _ _ _ _ _ _ us hl => match us, hl with | [_, _], _ => rfl) rfl rfl rfl
  have f_code : FnP prog w K mg base T 2 "code" (sCode (He.ga K)) := mkD (ps := ["x", "y", "depth"]) (gi_ok (k := 1) h (Kn.cons (f_doubled) h.d_doubled.mg (Kn.cons (f_sign_at) h.d_sign_at.mg .nil)) .nil .nil) h.d_code do_code ⟨rfl, rfl, rfl, by decide +kernel, rfl, by decide +kernel, by decide +kernel⟩ (fun _ _ _ _ _ _ us hl => match us, hl with | [_, _, _], _ => rfl) rfl rfl rfl
  have f_uncoded : FnP prog w K mg base T 2 "uncoded" (sUncoded (He.ga K)) := mkD (ps := ["number", "depth"]) (gi_ok (k := 1) h (Kn.cons (f_doubled) h.d_doubled.mg (Kn.cons (f_sign_at) h.d_sign_at.mg .nil)) .nil .nil) h.d_uncoded do_uncoded ⟨rfl, rfl, rfl, by decide +kernel, rfl, by decide +kernel, by decide +kernel⟩ (fun _ _ _ _ _ _ us hl => match us, hl with | [_, _], _ => rfl) rfl rfl rfl
  have dep0 : FnP prog w K mg base T 2 "depth_of" (sDepth 0) := mkD (ps := ["tree"]) (gi_ok (k := 1) h (Kn.cons (f_is_leaf) h.d_is_leaf.mg .nil) .nil .nil) h.d_depth_of do_depth0 ⟨rfl, rfl, rfl, by decide +kernel, rfl, by decide +kernel, by decide +kernel⟩ (fun _ _ _ _ _ _ us hl => match us, hl with | [_], _ => rfl) rfl rfl rfl
  have dep1 : FnP prog w K mg base T 3 "depth_of" (sDepth 1) := mkD (ps := ["tree"]) (gi_ok (k := 2) h (Kn.cons (f_is_leaf.up (by decide)) h.d_is_leaf.mg (Kn.cons dep0 h.d_depth_of.mg .nil)) .nil .nil) h.d_depth_of do_depth ⟨rfl, rfl, rfl, by decide +kernel, rfl, by decide +kernel, by decide +kernel⟩ (fun _ _ _ _ _ _ us hl => match us, hl with | [_], _ => rfl) rfl rfl rfl
  have dep2 : FnP prog w K mg base T 4 "depth_of" (sDepth 2) := mkD (ps := ["tree"]) (gi_ok (k := 3) h (Kn.cons (f_is_leaf.up (by decide)) h.d_is_leaf.mg (Kn.cons dep1 h.d_depth_of.mg .nil)) .nil .nil) h.d_depth_of do_depth ⟨rfl, rfl, rfl, by decide +kernel, rfl, by decide +kernel, by decide +kernel⟩ (fun _ _ _ _ _ _ us hl => match us, hl with | [_], _ => rfl) rfl rfl rfl
  have dep3 : FnP prog w K mg base T 5 "depth_of" (sDepth 3) := mkD (ps := ["tree"]) (gi_ok (k := 4) h (Kn.cons (f_is_leaf.up (by decide)) h.d_is_leaf.mg (Kn.cons dep2 h.d_depth_of.mg .nil)) .nil .nil) h.d_depth_of do_depth ⟨rfl, rfl, rfl, by decide +kernel, rfl, by decide +kernel, by decide +kernel⟩ (fun _ _ _ _ _ _ us hl => match us, hl with | [_], _ => rfl) rfl rfl rfl
  have t_put : MtP prog w K mg base T 1 (He.ga K "Fours") "put" (sPut (He.ga K)) := mtM (ps := ["self", "name", "x", "y"]) h (gi_ok (k := 0) h .nil .nil .nil) h.f_put h.m_put do_put ⟨rfl, rfl, rfl, by decide +kernel, rfl, by decide +kernel, by decide +kernel⟩ (fun _ _ _ _ _ _ us hl => match us, hl with | [_, _, _, _], _ => rfl) rfl rfl
  have t_take : MtP prog w K mg base T 1 (He.ga K "Fours") "take" (sTake (He.ga K)) := mtM (ps := ["self", "name"]) h (gi_ok (k := 0) h .nil .nil .nil) h.f_take h.m_take do_take ⟨rfl, rfl, rfl, by decide +kernel, rfl, by decide +kernel, by decide +kernel⟩ (fun _ _ _ _ _ _ us hl => match us, hl with | [_, _], _ => rfl) rfl rfl
  have t_nearest : MtP prog w K mg base T 1 (He.ga K "Fours") "nearest" (sNearest (He.ga K)) := mtS (ps := ["self", "x", "y"]) h (gi_ok (k := 0) h .nil .nil .nil) h.f_nearest h.m_nearest do_nearest ⟨rfl, rfl, rfl, by decide +kernel, rfl, by decide +kernel, by decide +kernel⟩ (fun _ _ _ _ _ _ us hl => match us, hl with | [_, _, _], _ => rfl) rfl rfl
  have cut0 : MtP prog w K mg base T 2 (He.ga K "Fours") "cut" (sCut (He.ga K) 0) := mtM (ps := ["self", "names", "x", "y", "size"]) h (gi_ok (k := 1) h (Kn.cons (f_in_box) h.d_in_box.mg (Kn.cons (f_quarters) h.d_quarters.mg .nil)) .nil .nil) h.f_cut h.m_cut (do_cut 0 [] (fun i z => absurd z (by omega))) ⟨rfl, rfl, rfl, by decide +kernel, rfl, by decide +kernel, by decide +kernel⟩ (fun _ _ _ _ _ _ us hl => match us, hl with | [_, _, _, _, _], _ => rfl) rfl rfl
  have cut1 : MtP prog w K mg base T 3 (He.ga K "Fours") "cut" (sCut (He.ga K) 1) := mtM (ps := ["self", "names", "x", "y", "size"]) h (gi_ok (k := 2) h (Kn.cons (f_in_box.up (by decide)) h.d_in_box.mg (Kn.cons (f_quarters.up (by decide)) h.d_quarters.mg .nil)) (Km.cons (n := 4) cut0 .nil) .nil) h.f_cut h.m_cut (do_cut 1 [(("cut", 4), sCut (He.ga K) 0)] (fun i z => by cases z; rfl)) ⟨rfl, rfl, rfl, by decide +kernel, rfl, by decide +kernel, by decide +kernel⟩ (fun _ _ _ _ _ _ us hl => match us, hl with | [_, _, _, _, _], _ => rfl) rfl rfl
  have cut2 : MtP prog w K mg base T 4 (He.ga K "Fours") "cut" (sCut (He.ga K) 2) := mtM (ps := ["self", "names", "x", "y", "size"]) h (gi_ok (k := 3) h (Kn.cons (f_in_box.up (by decide)) h.d_in_box.mg (Kn.cons (f_quarters.up (by decide)) h.d_quarters.mg .nil)) (Km.cons (n := 4) cut1 .nil) .nil) h.f_cut h.m_cut (do_cut 2 [(("cut", 4), sCut (He.ga K) 1)] (fun i z => by cases z; rfl)) ⟨rfl, rfl, rfl, by decide +kernel, rfl, by decide +kernel, by decide +kernel⟩ (fun _ _ _ _ _ _ us hl => match us, hl with | [_, _, _, _, _], _ => rfl) rfl rfl
  have cut3 : MtP prog w K mg base T 5 (He.ga K "Fours") "cut" (sCut (He.ga K) 3) := mtM (ps := ["self", "names", "x", "y", "size"]) h (gi_ok (k := 4) h (Kn.cons (f_in_box.up (by decide)) h.d_in_box.mg (Kn.cons (f_quarters.up (by decide)) h.d_quarters.mg .nil)) (Km.cons (n := 4) cut2 .nil) .nil) h.f_cut h.m_cut (do_cut 3 [(("cut", 4), sCut (He.ga K) 2)] (fun i z => by cases z; rfl)) ⟨rfl, rfl, rfl, by decide +kernel, rfl, by decide +kernel, by decide +kernel⟩ (fun _ _ _ _ _ _ us hl => match us, hl with | [_, _, _, _, _], _ => rfl) rfl rfl
  have t_tree : MtP prog w K mg base T 6 (He.ga K "Fours") "tree" (sTree (He.ga K) 3) := mtM (ps := ["self"]) h (gi_ok (k := 5) h .nil (Km.cons (n := 4) cut3 .nil) .nil) h.f_tree h.m_tree (do_tree 3) ⟨rfl, rfl, rfl, by decide +kernel, rfl, by decide +kernel, by decide +kernel⟩ (fun _ _ _ _ _ _ us hl => match us, hl with | [_], _ => rfl) rfl rfl
  have fou0 : MtP prog w K mg base T 2 (He.ga K "Fours") "found" (sFound (He.ga K) 0) := mtS (ps := ["self", "tree", "x", "y", "size", "box"]) h (gi_ok (k := 1) h (Kn.cons (f_in_box) h.d_in_box.mg (Kn.cons (f_is_leaf) h.d_is_leaf.mg (Kn.cons (f_quarters) h.d_quarters.mg .nil))) .nil .nil) h.f_found h.m_found (do_found 0 [] (fun i z => absurd z (by omega))) ⟨rfl, rfl, rfl, by decide +kernel, rfl, by decide +kernel, by decide +kernel⟩ (fun _ _ _ _ _ _ us hl => match us, hl with | [_, _, _, _, _, _], _ => rfl) rfl rfl
  have fou1 : MtP prog w K mg base T 3 (He.ga K "Fours") "found" (sFound (He.ga K) 1) := mtS (ps := ["self", "tree", "x", "y", "size", "box"]) h (gi_ok (k := 2) h (Kn.cons (f_in_box.up (by decide)) h.d_in_box.mg (Kn.cons (f_is_leaf.up (by decide)) h.d_is_leaf.mg (Kn.cons (f_quarters.up (by decide)) h.d_quarters.mg .nil))) (Km.cons (n := 5) fou0 .nil) .nil) h.f_found h.m_found (do_found 1 [(("found", 5), sFound (He.ga K) 0)] (fun i z => by cases z; rfl)) ⟨rfl, rfl, rfl, by decide +kernel, rfl, by decide +kernel, by decide +kernel⟩ (fun _ _ _ _ _ _ us hl => match us, hl with | [_, _, _, _, _, _], _ => rfl) rfl rfl
  have fou2 : MtP prog w K mg base T 4 (He.ga K "Fours") "found" (sFound (He.ga K) 2) := mtS (ps := ["self", "tree", "x", "y", "size", "box"]) h (gi_ok (k := 3) h (Kn.cons (f_in_box.up (by decide)) h.d_in_box.mg (Kn.cons (f_is_leaf.up (by decide)) h.d_is_leaf.mg (Kn.cons (f_quarters.up (by decide)) h.d_quarters.mg .nil))) (Km.cons (n := 5) fou1 .nil) .nil) h.f_found h.m_found (do_found 2 [(("found", 5), sFound (He.ga K) 1)] (fun i z => by cases z; rfl)) ⟨rfl, rfl, rfl, by decide +kernel, rfl, by decide +kernel, by decide +kernel⟩ (fun _ _ _ _ _ _ us hl => match us, hl with | [_, _, _, _, _, _], _ => rfl) rfl rfl
  have fou3 : MtP prog w K mg base T 5 (He.ga K "Fours") "found" (sFound (He.ga K) 3) := mtS (ps := ["self", "tree", "x", "y", "size", "box"]) h (gi_ok (k := 4) h (Kn.cons (f_in_box.up (by decide)) h.d_in_box.mg (Kn.cons (f_is_leaf.up (by decide)) h.d_is_leaf.mg (Kn.cons (f_quarters.up (by decide)) h.d_quarters.mg .nil))) (Km.cons (n := 5) fou2 .nil) .nil) h.f_found h.m_found (do_found 3 [(("found", 5), sFound (He.ga K) 2)] (fun i z => by cases z; rfl)) ⟨rfl, rfl, rfl, by decide +kernel, rfl, by decide +kernel, by decide +kernel⟩ (fun _ _ _ _ _ _ us hl => match us, hl with | [_, _, _, _, _, _], _ => rfl) rfl rfl
  have t_within : MtP prog w K mg base T 7 (He.ga K "Fours") "within" (sWithin (He.ga K) 3) := mtS (ps := ["self", "low_x", "low_y", "high_x", "high_y"]) h (gi_ok (k := 6) h .nil (Km.cons (n := 5) (fou3.up (by decide)) (Km.cons (n := 0) t_tree .nil)) .nil) h.f_within h.m_within (do_within 3) ⟨rfl, rfl, rfl, by decide +kernel, rfl, by decide +kernel, by decide +kernel⟩ (fun _ _ _ _ _ _ us hl => match us, hl with | [_, _, _, _, _], _ => rfl) rfl rfl
  have k_fours : MkP prog w K mg base T 7 "Fours" (He.ga K "Fours") (sInit (He.ga K)) := mkM (ps := ["self", "depth", "most"]) h (show 1 + 2 ≤ 7 by decide) (gi_ok (k := 1) h (Kn.cons (f_doubled) h.d_doubled.mg .nil) .nil .nil) h.f_init do_init ⟨rfl, rfl, rfl, by decide +kernel, rfl, by decide +kernel, by decide +kernel⟩ (fun _ _ _ _ _ _ us hl => match us, hl with | [_, _, _], _ => rfl) rfl rfl
  have f__law_dice : FnP prog w K mg base T 1 "_law_dice" sDice := mkS (ps := ["cell"]) (gi_ok (k := 0) h .nil .nil .nil) h.d__law_dice do_dice ⟨rfl, rfl, rfl, by decide +kernel, rfl, by decide +kernel, by decide +kernel⟩ (fun _ _ _ _ _ _ us hl => match us, hl with | [_], _ => rfl) rfl rfl
  have f__law_roll : FnP prog w K mg base T 1 "_law_roll" sRoll := mkS (ps := ["dice", "many"]) (gi_ok (k := 0) h .nil .nil .nil) h.d__law_roll do_roll ⟨rfl, rfl, rfl, by decide +kernel, rfl, by decide +kernel, by decide +kernel⟩ (fun _ _ _ _ _ _ us hl => match us, hl with | [_, _], _ => rfl) rfl rfl
  have f__law_flat : FnP prog w K mg base T 1 "_law_flat" sFlat2 := mkD (ps := ["rows"]) (gi_ok (k := 0) h .nil .nil .nil) h.d__law_flat do_flat2 ⟨rfl, rfl, rfl, by decide +kernel, rfl, by decide +kernel, by decide +kernel⟩ (fun _ _ _ _ _ _ us hl => match us, hl with | [_], _ => rfl) rfl rfl rfl
  have f__law_rounds : FnP prog w K mg base T 2 "_law_rounds" sRounds := mkD (ps := ["script", "most"]) (gi_ok (k := 1) h (Kn.cons (f__law_dice) h.d__law_dice.mg (Kn.cons (f__law_roll) h.d__law_roll.mg .nil)) .nil .nil) h.d__law_rounds do_rounds ⟨rfl, rfl, rfl, by decide +kernel, rfl, by decide +kernel, by decide +kernel⟩ (fun _ _ _ _ _ _ us hl => match us, hl with | [_, _], _ => rfl) rfl rfl rfl
  have deep0 : FnP prog w K mg base T 1 "_law_deep" (sDeep 0) := mkD (ps := ["tree"]) (gi_ok (k := 0) h .nil .nil .nil) h.d__law_deep (do_deep 0) ⟨rfl, rfl, rfl, by decide +kernel, rfl, by decide +kernel, by decide +kernel⟩ (fun _ _ _ _ _ _ us hl => match us, hl with | [_], _ => rfl) rfl rfl rfl
  have deep1 : FnP prog w K mg base T 2 "_law_deep" (sDeep 1) := mkD (ps := ["tree"]) (gi_ok (k := 1) h (Kn.cons deep0 h.d__law_deep.mg .nil) .nil .nil) h.d__law_deep (do_deep 1) ⟨rfl, rfl, rfl, by decide +kernel, rfl, by decide +kernel, by decide +kernel⟩ (fun _ _ _ _ _ _ us hl => match us, hl with | [_], _ => rfl) rfl rfl rfl
  have deep2 : FnP prog w K mg base T 3 "_law_deep" (sDeep 2) := mkD (ps := ["tree"]) (gi_ok (k := 2) h (Kn.cons deep1 h.d__law_deep.mg .nil) .nil .nil) h.d__law_deep (do_deep 2) ⟨rfl, rfl, rfl, by decide +kernel, rfl, by decide +kernel, by decide +kernel⟩ (fun _ _ _ _ _ _ us hl => match us, hl with | [_], _ => rfl) rfl rfl rfl
  have deep3 : FnP prog w K mg base T 4 "_law_deep" (sDeep 3) := mkD (ps := ["tree"]) (gi_ok (k := 3) h (Kn.cons deep2 h.d__law_deep.mg .nil) .nil .nil) h.d__law_deep (do_deep 3) ⟨rfl, rfl, rfl, by decide +kernel, rfl, by decide +kernel, by decide +kernel⟩ (fun _ _ _ _ _ _ us hl => match us, hl with | [_], _ => rfl) rfl rfl rfl
  have looked0 : FnP prog w K mg base T 1 "_law_looked" (sLooked 0) := mkD (ps := ["tree", "x", "y", "size", "box"]) (gi_ok (k := 0) h .nil .nil .nil) h.d__law_looked (do_looked 0) ⟨rfl, rfl, rfl, by decide +kernel, rfl, by decide +kernel, by decide +kernel⟩ (fun _ _ _ _ _ _ us hl => match us, hl with | [_, _, _, _, _], _ => rfl) rfl rfl rfl
  have looked1 : FnP prog w K mg base T 2 "_law_looked" (sLooked 1) := mkD (ps := ["tree", "x", "y", "size", "box"]) (gi_ok (k := 1) h (Kn.cons looked0 h.d__law_looked.mg .nil) .nil .nil) h.d__law_looked (do_looked 1) ⟨rfl, rfl, rfl, by decide +kernel, rfl, by decide +kernel, by decide +kernel⟩ (fun _ _ _ _ _ _ us hl => match us, hl with | [_, _, _, _, _], _ => rfl) rfl rfl rfl
  have looked2 : FnP prog w K mg base T 3 "_law_looked" (sLooked 2) := mkD (ps := ["tree", "x", "y", "size", "box"]) (gi_ok (k := 2) h (Kn.cons looked1 h.d__law_looked.mg .nil) .nil .nil) h.d__law_looked (do_looked 2) ⟨rfl, rfl, rfl, by decide +kernel, rfl, by decide +kernel, by decide +kernel⟩ (fun _ _ _ _ _ _ us hl => match us, hl with | [_, _, _, _, _], _ => rfl) rfl rfl rfl
  have looked3 : FnP prog w K mg base T 4 "_law_looked" (sLooked 3) := mkD (ps := ["tree", "x", "y", "size", "box"]) (gi_ok (k := 3) h (Kn.cons looked2 h.d__law_looked.mg .nil) .nil .nil) h.d__law_looked (do_looked 3) ⟨rfl, rfl, rfl, by decide +kernel, rfl, by decide +kernel, by decide +kernel⟩ (fun _ _ _ _ _ _ us hl => match us, hl with | [_, _, _, _, _], _ => rfl) rfl rfl rfl
  have fits0 : FnP prog w K mg base T 1 "_law_fits" (sFits 0) := mkD (ps := ["tree", "table", "x", "y", "size", "most"]) (gi_ok (k := 0) h .nil .nil .nil) h.d__law_fits do_fits0 ⟨rfl, rfl, rfl, by decide +kernel, rfl, by decide +kernel, by decide +kernel⟩ (fun _ _ _ _ _ _ us hl => match us, hl with | [_, _, _, _, _, _], _ => rfl) rfl rfl rfl
  have fits1 : FnP prog w K mg base T 2 "_law_fits" (sFits 1) := mkD (ps := ["tree", "table", "x", "y", "size", "most"]) (gi_ok (k := 1) h (Kn.cons fits0 h.d__law_fits.mg .nil) .nil .nil) h.d__law_fits (do_fits 0) ⟨rfl, rfl, rfl, by decide +kernel, rfl, by decide +kernel, by decide +kernel⟩ (fun _ _ _ _ _ _ us hl => match us, hl with | [_, _, _, _, _, _], _ => rfl) rfl rfl rfl
  have fits2 : FnP prog w K mg base T 3 "_law_fits" (sFits 2) := mkD (ps := ["tree", "table", "x", "y", "size", "most"]) (gi_ok (k := 2) h (Kn.cons fits1 h.d__law_fits.mg .nil) .nil .nil) h.d__law_fits (do_fits 1) ⟨rfl, rfl, rfl, by decide +kernel, rfl, by decide +kernel, by decide +kernel⟩ (fun _ _ _ _ _ _ us hl => match us, hl with | [_, _, _, _, _, _], _ => rfl) rfl rfl rfl
  have fits3 : FnP prog w K mg base T 4 "_law_fits" (sFits 3) := mkD (ps := ["tree", "table", "x", "y", "size", "most"]) (gi_ok (k := 3) h (Kn.cons fits2 h.d__law_fits.mg .nil) .nil .nil) h.d__law_fits (do_fits 2) ⟨rfl, rfl, rfl, by decide +kernel, rfl, by decide +kernel, by decide +kernel⟩ (fun _ _ _ _ _ _ us hl => match us, hl with | [_, _, _, _, _, _], _ => rfl) rfl rfl rfl
  exact ⟨(Kn.cons (f__law_roll.up (by decide)) h.d__law_roll.mg (Kn.cons (f__law_rounds.up (by decide)) h.d__law_rounds.mg (Kn.cons (f_doubled.up (by decide)) h.d_doubled.mg (Kn.cons (fits3.up (by decide)) h.d__law_fits.mg (Kn.cons (looked3.up (by decide)) h.d__law_looked.mg (Kn.cons (deep3.up (by decide)) h.d__law_deep.mg (Kn.cons (f_code.up (by decide)) h.d_code.mg (Kn.cons (f_uncoded.up (by decide)) h.d_uncoded.mg (Kn.cons (f_is_leaf.up (by decide)) h.d_is_leaf.mg (Kn.cons (dep3.up (by decide)) h.d_depth_of.mg (Kn.cons (f__law_flat.up (by decide)) h.d__law_flat.mg .nil))))))))))),
    (Km.cons (t_put.up (by decide)) (Km.cons (t_take.up (by decide)) (Km.cons (t_tree.up (by decide)) (Km.cons t_within (Km.cons (t_nearest.up (by decide)) .nil))))), Kk.cons k_fours .nil⟩
end
end BW
/-! P18F -/
namespace BW
open PySem PySem.Spec PyProof.Rows L2 Cal LamX
section
variable {P : Program} {w : World} {K : PySem.W.Frag} {mg : Str → Option Value} {base : Heap}
theorem fnL_ok {g : Gi} {x : Str} {params : Arguments} {body : List Stmt} {scope : Scope} {f Pt : Addr} {fd : FuncData} {N ps : List Str} {s : Sig} (ok : GiOk g P w K mg base) (FD : FunD K x x params body scope [] [] f fd) (Sf : FnScope N ps scope)
    (hn : ps.length = s.n) (hf : He.fAd K (x, none) = f) (TB : TabB base mg (He.codeOf K (x, none)) Pt) (hmT : (Pt, g.lq) ∈ g.T) (hu : ∀ p ∈ g.T, p.1 = Pt → p.2 = g.lq)
    (hq : ∀ (n a : Addr) (v : Value), (envOfC x scope n a v).qual ++ "<lambda>" = g.lq) (tk : ToldK g K mg) (hdo : DoesS g ⟨N, scope, fun _ => true, true, true, .no⟩ body s) : FnOk P w K mg base (L2.CX P w) (g.k + 3) f fd ps (spP K g.T s) := by
  obtain ⟨oc, od, dV, kV, doc, pm, an, cdv, ct, osl, rfl, lk, hcd, _, _⟩ := FD.ex
  obtain ⟨c, rfl⟩ := He.codeIn_ref hcd
  have ec : He.codeOf K (x, none) = c := He.codeOf_eq (by rw [hf]; exact lk) rfl
  rw [ec] at TB
  refine fn_of lk hcd Sf (fun vs H Q E h => (spP_len vs H Q E h).trans hn.symm) fun A outer s' H vs Q E hr h => ?_
  obtain ⟨G, rs, M, Qp, Ep, hl, w0, hvs, hT, hok, her⟩ := h
  have hl2 : rs.length = s.n := hvs.len.symm.trans hl
  have o : Xo g ⟨N, scope, fun _ => true, true, true, .no⟩ (Bx P w K mg base N x scope f (.ref c) A outer s' H E) (wE E) := ⟨ok, rfl, rfl, fun _ _ => rfl, Sf.nd, rfl, hr.mono (by omega), takesB, fun _ => ⟨⟨c, Pt, TB, rfl, hmT, hu⟩, hq _ _ _⟩, fun _ => ⟨tk, hq _ _ _, hr⟩, fun _ z => (nomatch z), fun _ _ _ _ _ z => (nomatch z)⟩
  have hw := wpSs_ok (k := ⟨fun _ M1 => Shr Qp (.dat .none) M1, Shr Qp, fun _ _ => False, fun _ _ => False, Ep⟩) (wpS_ok ⟨o, passB⟩ 40) (hdo rs M Qp Ep hl2 hT)
  have hok2 := shr_ok hok
  exact ⟨_, hw, G, w0, Sl.start hvs, fun ds' M' σ' G' H' h sg w' s' => hok2 (.dat .none) M' .non G' H' h sg w' Dp.non, hok2, fun _ _ _ _ _ h => h.elim, fun _ _ _ _ _ h => h.elim, fun c M' G' H' σ' he sg w' => her c M' G' H' he sg w'⟩
end
section
variable {w : World} {K : PySem.W.Frag} {mg : Str → Option Value} {base : Heap}
abbrev cQ (K : PySem.W.Frag) (x : Str) : Addr := (He.cT K (x, none)).2
abbrev Tt (K : PySem.W.Frag) : Tb := [(cQ K "law", qLaw)]
theorem tt_mem {K : PySem.W.Frag} {p : Addr × Str} (h : p ∈ Tt K) : p = (cQ K "law", qLaw) := by
  rcases List.mem_cons.mp h with h | h
  · exact h
  · cases h
theorem told_of (h : Hd K mg) {g : Gi} (hes : g.es = es9 K) : ToldK g K mg := by
  obtain ⟨⟨fd, F⟩, m⟩ := h.d__law_told
  refine ⟨defArgs s__law_told, defBody s__law_told, defScope s__law_told, _, fd, F, m, ⟨rfl, rfl, rfl, by decide +kernel, rfl, by decide +kernel, by decide +kernel⟩, .inl rfl, (fun _ _ _ _ _ _ us hl => match us, hl with | [_], _ => rfl), fun X hK hm cdg => ?_⟩
  subst hK
  subst hm
  rw [hes]
  exact gives9 h.xm h.me cdg
def spLaw (K : PySem.W.Frag) (T : Tb) : Sp := fun vs H Q _ => ∃ (a : Addr) (ns : List Int), vs = [.ref a] ∧ SqL K H a (ns.map V.int) ∧ Tabs T H ∧ ∀ H', Q (.bl true) H'
theorem vk_nums {K : PySem.W.Frag} {G : Hp} : ∀ ns : List Int, DpAll K G (ns.map V.int) (ns.map .int)
  | [] => .nil
  | n :: ns => .cons (.int n) (vk_nums ns)
theorem law_fn (h : Hd K mg) (TB : TabB base mg (He.cT K ("law", none)).1 (He.cT K ("law", none)).2)
    {fd : FuncData} (F : FunD K "law" "law" (defArgs s_law) (defBody s_law) (defScope s_law) [] [] (He.ga K "law") fd) : FnOk prog w K mg base (L2.CX prog w) 10 (He.ga K "law") fd ["script"] (spLaw K (Tt K)) := by
  have tr := all_ok (w := w) (base := base) (T := Tt K) h
  refine FnOk.imp (fnL_ok (g := gLw (Tt K) 7 (He.ga K)) (N := NLw) (s := sLaw) (Pt := (He.cT K ("law", none)).2) (gi_ok h tr.fn tr.mt tr.mkr) F ⟨rfl, rfl, rfl, by decide +kernel, rfl, by decide +kernel, by decide +kernel⟩ rfl rfl TB List.mem_cons_self (fun p hp _ => congrArg Prod.snd (tt_mem hp)) (fun _ _ _ => rfl) (told_of h rfl) do_law) fun vs H Q E hs => ?_
  obtain ⟨a, ns, rfl, hS, t, q⟩ := hs
  have base0 : ∃ G, Wo K [] G H ∧ SqL K G a (ns.map V.int) := by
    rcases hS with hr0 | hk
    · have hnt : ∀ ps, H a ≠ some (.tbl ps) := fun ps e => by
        rcases hr0 with z | ⟨ob, z⟩
        · rw [z] at e
          cases e
        · rw [z] at e
          cases e
      refine ⟨fun b => if b = a then H a else none, ⟨fun b o e => ?_, fun p hp => absurd hp (by simp), List.nodup_nil, fun b ps e => ?_⟩, .inl ?_⟩
      · have e : (if b = a then H a else none) = some o := e
        split at e
        · rename_i hb
          rw [hb]
          exact e
        · cases e
      · have e : (if b = a then H a else none) = some (.tbl ps) := e
        split at e
        · exact hnt ps e
        · cases e
      · rcases hr0 with z | ⟨ob, z⟩
        · exact .inl ((if_pos rfl).trans z)
        · exact .inr ⟨ob, (if_pos rfl).trans z⟩
    · refine ⟨fun _ => none, ⟨fun b o e => ?_, fun p hp => absurd hp (by simp), List.nodup_nil, fun b ps e => ?_⟩, .inr hk⟩
      · cases (show (none : Option HO) = some o from e)
      · cases (show (none : Option HO) = some (.tbl ps) from e)
  obtain ⟨G, w0, hG⟩ := base0
  refine ⟨G, [.dat (.list (ns.map .int))], [], fun r _ => r = B true, fun _ _ => False, rfl, ⟨w0, t⟩, .cons (Dp.lst hG (vk_nums ns)) .nil, ⟨ns, rfl, rfl, fun _ => rfl⟩, fun r M' v G' H' hr sg w hv => ?_, fun _ _ _ _ he => he.elim⟩
  cases hr
  cases vk_bl hv
  exact q H'
end
end BW
/-! P18G -/
namespace BW
open PySem PySem.Spec PyProof.Rows L2 Cal LamX
theorem exm_of {K : PySem.W.Frag} (h : exmB K = true) {x y : Str} (hx : x ∈ errs) (hy : y ∈ errs) : PySem.W.exmOne K (.ref (He.ga K x)) (.ref (He.ga K y)) = some (decide (x = y)) :=
  He.exm_ok (List.all_eq_true.mp (List.all_eq_true.mp h x hx) y hy)
theorem esN_inj : ∀ p ∈ esL, ∀ q ∈ esL, (p.1 ∈ errs) ∧ (decide (p.1 = q.1) = decide (p.2 = q.2)) ∧ (decide (p.1 = q.1) = decide (p = q)) := by decide +kernel
theorem xm_of {K : PySem.W.Frag} (h : exmB K = true) : ∀ p ∈ es9 K, ∀ q ∈ es9 K, PySem.W.exmOne K (.ref p.1) (.ref q.1) = some (decide (p = q)) := by
  have e : es9 K = esL.map fun z => (He.ga K z.1, z.2) := rfl
  rw [e]
  intro p hp q hq
  obtain ⟨p', hp', rfl⟩ := List.mem_map.mp hp
  obtain ⟨q', hq', rfl⟩ := List.mem_map.mp hq
  have z := exm_of h (esN_inj p' hp' q' hq').1 (esN_inj q' hq' p' hp').1
  show PySem.W.exmOne K (.ref (He.ga K p'.1)) (.ref (He.ga K q'.1)) = _
  rw [z]
  have e2 := (esN_inj p' hp' q' hq').2.1
  by_cases hpq : p'.1 = q'.1
  · have h2 : p'.2 = q'.2 := by
      rw [decide_eq_true hpq] at e2
      exact of_decide_eq_true e2.symm
    rw [decide_eq_true hpq, decide_eq_true (by rw [hpq, h2])]
  · have h2 : ¬p'.2 = q'.2 := by
      rw [decide_eq_false hpq] at e2
      exact of_decide_eq_false e2.symm
    rw [decide_eq_false hpq, decide_eq_false (fun z => h2 (Prod.mk.inj z).2)]
theorem me_of {mg : Str → Option Value} {K : PySem.W.Frag} {h : Heap} {w : World} (X : K.In h) (G : h.Ns mainGlobals mg) (c : He.SaysD fa fn K) : ∀ x ∈ errs, mg x = some (.ref (He.ga K x)) := by
  intro x hx
  simp only [errs, List.mem_cons, List.not_mem_nil, or_false] at hx
  rcases hx with rfl | rfl | rfl | rfl | rfl | rfl | rfl | rfl | rfl
  · exact He.glo_ok X G (c.fact 18 (f := .glo "BadPart") rfl)
  · exact He.glo_ok X G (c.fact 19 (f := .glo "BadPoint") rfl)
  · exact He.glo_ok X G (c.fact 20 (f := .glo "BadRing") rfl)
  · exact He.glo_ok X G (c.fact 21 (f := .glo "BadMap") rfl)
  · exact He.glo_ok X G (c.fact 22 (f := .glo "BadPaper") rfl)
  · exact He.glo_ok X G (c.fact 23 (f := .glo "BadSize") rfl)
  · exact He.glo_ok X G (c.fact 24 (f := .glo "BadText") rfl)
  · exact He.glo_ok X G (c.fact 25 (f := .glo "BadStore") rfl)
  · exact He.glo_ok X G (c.fact 26 (f := .glo "NoSuch") rfl)
theorem xp_of {mg : Str → Option Value} {K : PySem.W.Frag} {h : Heap} {w : World} (X : K.In h) (G : h.Ns mainGlobals mg) (c : He.SaysD fa fn K) : ∀ x ∈ errs, (He.Fa.exc x).ok K = true := by
  intro x hx
  simp only [errs, List.mem_cons, List.not_mem_nil, or_false] at hx
  rcases hx with rfl | rfl | rfl | rfl | rfl | rfl | rfl | rfl | rfl
  · exact c.fact 28 (f := .exc "BadPart") rfl
  · exact c.fact 29 (f := .exc "BadPoint") rfl
  · exact c.fact 30 (f := .exc "BadRing") rfl
  · exact c.fact 31 (f := .exc "BadMap") rfl
  · exact c.fact 32 (f := .exc "BadPaper") rfl
  · exact c.fact 33 (f := .exc "BadSize") rfl
  · exact c.fact 34 (f := .exc "BadText") rfl
  · exact c.fact 35 (f := .exc "BadStore") rfl
  · exact c.fact 36 (f := .exc "NoSuch") rfl
theorem bi_of {mg : Str → Option Value} {K : PySem.W.Frag} {h : Heap} {w : World} (X : K.In h) (G : h.Ns mainGlobals mg) (c : He.SaysD fa fn K) : ∀ x ∈ biL, mg x = none := by
  intro x hx
  simp only [biL, List.mem_cons, List.not_mem_nil, or_false] at hx
  rcases hx with rfl | rfl | rfl | rfl | rfl | rfl | rfl | rfl | rfl | rfl | rfl | rfl | rfl | rfl
  · exact He.free_ok X G (c.fact 51 (f := .free "abs") rfl)
  · exact He.free_ok X G (c.fact 52 (f := .free "dict") rfl)
  · exact He.free_ok X G (c.fact 53 (f := .free "int") rfl)
  · exact He.free_ok X G (c.fact 54 (f := .free "isinstance") rfl)
  · exact He.free_ok X G (c.fact 55 (f := .free "len") rfl)
  · exact He.free_ok X G (c.fact 56 (f := .free "list") rfl)
  · exact He.free_ok X G (c.fact 57 (f := .free "max") rfl)
  · exact He.free_ok X G (c.fact 58 (f := .free "min") rfl)
  · exact He.free_ok X G (c.fact 59 (f := .free "range") rfl)
  · exact He.free_ok X G (c.fact 60 (f := .free "sorted") rfl)
  · exact He.free_ok X G (c.fact 61 (f := .free "str") rfl)
  · exact He.free_ok X G (c.fact 62 (f := .free "sum") rfl)
  · exact He.free_ok X G (c.fact 63 (f := .free "tuple") rfl)
  · exact He.free_ok X G (c.fact 64 (f := .free "zip") rfl)
theorem at_of {mg : Str → Option Value} {K : PySem.W.Frag} {h : Heap} {w : World} (X : K.In h) (G : h.Ns mainGlobals mg) (c : He.SaysD fa fn K) : ∀ x ∈ atL, NoAttr K (He.ga K "Fours") x := by
  intro x hx
  simp only [atL, List.mem_cons, List.not_mem_nil, or_false] at hx
  rcases hx with rfl | rfl | rfl | rfl | rfl
  · exact He.noat_ok (c.fact 39 (f := .noat "Fours" "depth") rfl)
  · exact He.noat_ok (c.fact 40 (f := .noat "Fours" "looked") rfl)
  · exact He.noat_ok (c.fact 41 (f := .noat "Fours" "most") rfl)
  · exact He.noat_ok (c.fact 42 (f := .noat "Fours" "points") rfl)
  · exact He.noat_ok (c.fact 43 (f := .noat "Fours" "size") rfl)
theorem hd_of {mg : Str → Option Value} {K : PySem.W.Frag} {h : Heap} {w : World} (X : K.In h) (G : h.Ns mainGlobals mg) (c : He.SaysX fa fn [] tf ex w h K) : Hd K mg where
  bi := bi_of (w := w) X G c.t.d
  most := He.int_ok X G (c.t.d.fact 65 (f := .int "MOST_DEPTH" 10) rfl)
  me := me_of (w := w) X G c.t.d
  xp := xp_of (w := w) X G c.t.d
  xm := xm_of (c.more)
  fours := He.glo_ok X G (c.t.d.fact 27 (f := .glo "Fours") rfl)
  cls := He.cls_ok (c.t.d.fact 37 (f := .cls "Fours") rfl)
  mkr := He.mkr_ok (c.t.d.fact 38 (f := .mkr "Fours") rfl)
  noat := at_of (w := w) X G c.t.d
  d_in_box := ⟨c.t.d.def_ 0 (d := d_in_box) rfl, He.glo_ok X G (c.t.d.fact 0 (f := .glo "in_box") rfl)⟩
  d_quarters := ⟨c.t.d.def_ 1 (d := d_quarters) rfl, He.glo_ok X G (c.t.d.fact 1 (f := .glo "quarters") rfl)⟩
  d_doubled := ⟨c.t.d.def_ 2 (d := d_doubled) rfl, He.glo_ok X G (c.t.d.fact 2 (f := .glo "doubled") rfl)⟩
  d_is_leaf := ⟨c.t.d.def_ 3 (d := d_is_leaf) rfl, He.glo_ok X G (c.t.d.fact 3 (f := .glo "is_leaf") rfl)⟩
  d_code := ⟨c.t.d.def_ 4 (d := d_code) rfl, He.glo_ok X G (c.t.d.fact 4 (f := .glo "code") rfl)⟩
  d_uncoded := ⟨c.t.d.def_ 5 (d := d_uncoded) rfl, He.glo_ok X G (c.t.d.fact 5 (f := .glo "uncoded") rfl)⟩
  d_sign_at := ⟨c.t.d.def_ 6 (d := d_sign_at) rfl, He.glo_ok X G (c.t.d.fact 6 (f := .glo "sign_at") rfl)⟩
  d_depth_of := ⟨c.t.d.def_ 7 (d := d_depth_of) rfl, He.glo_ok X G (c.t.d.fact 7 (f := .glo "depth_of") rfl)⟩
  d__law_flat := ⟨c.t.d.def_ 8 (d := d__law_flat) rfl, He.glo_ok X G (c.t.d.fact 8 (f := .glo "_law_flat") rfl)⟩
  d__law_dice := ⟨c.t.d.def_ 9 (d := d__law_dice) rfl, He.glo_ok X G (c.t.d.fact 9 (f := .glo "_law_dice") rfl)⟩
  d__law_roll := ⟨c.t.d.def_ 10 (d := d__law_roll) rfl, He.glo_ok X G (c.t.d.fact 10 (f := .glo "_law_roll") rfl)⟩
  d__law_rounds := ⟨c.t.d.def_ 11 (d := d__law_rounds) rfl, He.glo_ok X G (c.t.d.fact 11 (f := .glo "_law_rounds") rfl)⟩
  d__law_told := ⟨c.t.d.def_ 12 (d := d__law_told) rfl, He.glo_ok X G (c.t.d.fact 12 (f := .glo "_law_told") rfl)⟩
  d__law_fits := ⟨c.t.d.def_ 13 (d := d__law_fits) rfl, He.glo_ok X G (c.t.d.fact 13 (f := .glo "_law_fits") rfl)⟩
  d__law_looked := ⟨c.t.d.def_ 14 (d := d__law_looked) rfl, He.glo_ok X G (c.t.d.fact 14 (f := .glo "_law_looked") rfl)⟩
  d__law_deep := ⟨c.t.d.def_ 15 (d := d__law_deep) rfl, He.glo_ok X G (c.t.d.fact 15 (f := .glo "_law_deep") rfl)⟩
  d_law := ⟨c.t.d.def_ 16 (d := d_law) rfl, He.glo_ok X G (c.t.d.fact 16 (f := .glo "law") rfl)⟩
  f_init := c.t.d.def_ 17 (d := d_Fours___init__) rfl
  f_put := c.t.d.def_ 18 (d := d_Fours_put) rfl
  m_put := He.meth_ok (c.t.d.fact 44 (f := .meth "Fours" "put") rfl)
  f_take := c.t.d.def_ 19 (d := d_Fours_take) rfl
  m_take := He.meth_ok (c.t.d.fact 45 (f := .meth "Fours" "take") rfl)
  f_tree := c.t.d.def_ 20 (d := d_Fours_tree) rfl
  m_tree := He.meth_ok (c.t.d.fact 46 (f := .meth "Fours" "tree") rfl)
  f_cut := c.t.d.def_ 21 (d := d_Fours_cut) rfl
  m_cut := He.meth_ok (c.t.d.fact 47 (f := .meth "Fours" "cut") rfl)
  f_within := c.t.d.def_ 22 (d := d_Fours_within) rfl
  m_within := He.meth_ok (c.t.d.fact 48 (f := .meth "Fours" "within") rfl)
  f_found := c.t.d.def_ 23 (d := d_Fours_found) rfl
  m_found := He.meth_ok (c.t.d.fact 49 (f := .meth "Fours" "found") rfl)
  f_nearest := c.t.d.def_ 24 (d := d_Fours_nearest) rfl
  m_nearest := He.meth_ok (c.t.d.fact 50 (f := .meth "Fours" "nearest") rfl)
theorem law_at {mg : Str → Option Value} {h : Heap} {w : World} {f : Addr} (Y : hk.says w h) (G : h.Ns mainGlobals mg) (hmg : mg "law" = some (.ref f)) : ∃ K : PySem.W.Frag, K.In h ∧ LawAtS PySem.Challenge.rw_borderwright_k17_boxes_in_fours w K (L2.CX prog w) 10 63 "script" mg f h := by
  obtain ⟨K, KX, c⟩ := Y
  have hd := hd_of KX G c
  obtain ⟨⟨fd, F⟩, m⟩ := hd.d_law
  have e : f = He.ga K "law" := by
    rw [hmg] at m
    exact Value.ref.inj (Option.some.inj m)
  subst e
  have b := FunD.bindsA (ps := ["script"]) F fun _ _ _ _ _ _ us hl => match us, hl with | [_], _ => rfl
  refine ⟨K, KX, fd, tf.map (He.cT K), spLaw K (Tt K), ?_, ?_, ?_, fun s u => b s [u] rfl, ?_, ?_⟩
  · intro p hp
    obtain ⟨q, hq, rfl⟩ := List.mem_map.mp hp
    exact c.empty q hq
  · intro p hp
    obtain ⟨q, hq, rfl⟩ := List.mem_map.mp hp
    exact c.out q hq
  · intro p hp
    obtain ⟨q, hq, rfl⟩ := List.mem_map.mp hp
    exact PySem.W.codeHd_of_K KX (c.hd q hq)
  · intro H a ns hl hbits hT hS
    refine ⟨a, ns, rfl, hS, fun p hp => ?_, fun H' => rfl⟩
    rw [tt_mem hp]
    exact TabS.nil (hT _ (List.mem_map.mpr ⟨("law", none), by decide, rfl⟩))
  · intro base KB GB TB
    exact law_fn hd (TB _ (List.mem_map.mpr ⟨("law", none), by decide, rfl⟩)) F
end BW
open PySem PySem.W PySem.Calls PyProof.Rows
theorem PySem.Challenge.cw_borderwright_k17_boxes_in_fours_holds : PySem.Challenge.rw_borderwright_k17_boxes_in_fours.Holds := by
  w_on; o_law
  refine HandSHeadRun.head_imp (r := OpenLaw.row PySem.Challenge.rw_borderwright_k17_boxes_in_fours) (q := view (OpenLaw.row PySem.Challenge.rw_borderwright_k17_boxes_in_fours).prog BW.vw) (H := BW.hk) (ob := BW.ob) (M := 20000) (loose := BW.loose) (d := HandSHeadRun.topDef (OpenLaw.row PySem.Challenge.rw_borderwright_k17_boxes_in_fours).prog 31) (kwd := []) BW.ob_eq BW.run
    (by kernel_rfl) (by kernel_rfl) (by kernel_rfl) (by kernel_rfl) (by kernel_rfl) (by kernel_rfl) ?hb ?hw ?hc
  case hb => exact ⟨rfl, rfl, rfl, rfl, rfl, by decide +kernel⟩
  case hw => w_witness2
  case hc =>
    refine LamX.walk_ofTsE (l := PySem.Challenge.rw_borderwright_k17_boxes_in_fours) (n := 63) (k := 10) (x := "script") (CX := fun w => L2.CX BW.prog w) rfl (by decide) (by kernel_rfl) ⟨rfl, by decide, by decide⟩ ?F ?X
    case F =>
      intro w mg fa h Y G hmg0
      have hmg : mg ("law" : PySem.Str) = some (.ref fa) := by
        have e : (HandSHeadRun.topDef (OpenLaw.row PySem.Challenge.rw_borderwright_k17_boxes_in_fours).prog 31).name = ("law" : PySem.Str) := by kernel_rfl
        rw [← e]
        exact hmg0
      exact BW.law_at Y G hmg
    case X =>
      intro w H s e s' z
      obtain ⟨_, _, _, _, _, _, _, _, _, _, _, _, z⟩ := z
      exact z
