import PyProof.Rows.All
import Wide.All
import OpenK.AllK
import Wide.FinOn
import HandS.ForMost
import HandS.Exc
import HandS.ExcOwn
import HandS.WordsExc
import HandS.CallSlots
import HandS.Walk
import HandS.Lambda
import HandS.Wide
import HandS.IsInst
import HandS.Style
import HandS.ClsMeth
import HandS.DictComp
import HandS.RevRange
import HandS.Conv
import PySem.Challenge.RW_thinwall_k00_split_tells_its_cells
import KE.KExcSuper
import HandS.ExcInit
import HandS.FStr
import HandS.OwnEq
import KE.KExcIs
import HandS.TryMany
import HandS.ExcField
import HandS.ExcIs
import HandS.EndTab
import KE.KNestM
set_option Elab.async false
set_option linter.all false
set_option maxRecDepth 100000
set_option maxHeartbeats 1000000
/-! The data layer: values as trees of data, a stable heap S, owned cells w, a frame F; wishes in data. -/
namespace DL
open PySem PySem.Spec PyProof.Rows L2 LamX
/-- data: a value as it is, a list that stands, a tuple, a list that is only read, an instance that stands -/
inductive D where
  | val (v : V)
  | lst (ds : List D)
  | tup (ds : List D)
  | rd (ds : List D)
  | obj (C : Addr) (ns : List Str) (ds : List D)
  | exc (a dd : Addr) (ns : List Str) (ds : List D)
  | dic (kvs : List (Key × V))
  | dct (kvs : List (List Key × V))
abbrev I (i : Int) : D := .val (.int i)
abbrev B (b : Bool) : D := .val (.bl b)
abbrev T (s : Str) : D := .val (.str s)
abbrev N : D := .val .non
abbrev R (a : Addr) : D := .val (.ref a)
mutual
def Rep (K : PySem.W.Frag) (S : Hp) : D → V → Prop
  | .val v, x => x = v
  | .lst ds, x => ∃ a xs, x = .ref a ∧ S a = some (.lst xs) ∧ RepL K S ds xs
  | .tup ds, x => ∃ a xs, x = .ref a ∧ S a = some (.tup xs) ∧ RepL K S ds xs
  | .rd ds, x => ∃ a xs, x = .ref a ∧ SqL K S a xs ∧ RepL K S ds xs
  | .obj C ns ds, x => ∃ a dx ys, x = .ref a ∧ S a = some (.ins C dx ys) ∧ ys.map (·.1) = ns ∧ RepL K S ds (ys.map (·.2))
  | .exc a dd ns ds, x => ∃ ys, x = .ref a ∧ S dd = some (.xd ys) ∧ ys.map (·.1) = ns ∧ RepL K S ds (ys.map (·.2))
  | .dic kvs, x => ∃ a, x = .ref a ∧ S a = some (.dK kvs)
  | .dct kvs, x => ∃ a, x = .ref a ∧ S a = some (.dT kvs)
def RepL (K : PySem.W.Frag) (S : Hp) : List D → List V → Prop
  | [], xs => xs = []
  | d :: ds, xs => ∃ y ys, xs = y :: ys ∧ Rep K S d y ∧ RepL K S ds ys
end
section
variable {K : PySem.W.Frag} {S S' H H' : Hp}
mutual
theorem Rep.mono (e : Same S S') : ∀ {d : D} {v : V}, Rep K S d v → Rep K S' d v
  | .val v, x, h => h
  | .lst ds, x, h => by
    obtain ⟨a, xs, h1, h2, h3⟩ := h
    exact ⟨a, xs, h1, e _ _ h2, RepL.mono e h3⟩
  | .tup ds, x, h => by
    obtain ⟨a, xs, h1, h2, h3⟩ := h
    exact ⟨a, xs, h1, e _ _ h2, RepL.mono e h3⟩
  | .rd ds, x, h => by
    obtain ⟨a, xs, h1, h2, h3⟩ := h
    exact ⟨a, xs, h1, e.seq h2, RepL.mono e h3⟩
  | .obj C ns ds, x, h => by
    obtain ⟨a, dx, ys, h1, h2, h3, h4⟩ := h
    exact ⟨a, dx, ys, h1, e _ _ h2, h3, RepL.mono e h4⟩
  | .exc a dd ns ds, x, h => by
    obtain ⟨ys, h1, h2, h3, h4⟩ := h
    exact ⟨ys, h1, e _ _ h2, h3, RepL.mono e h4⟩
  | .dic kvs, x, h => by
    obtain ⟨a, h1, h2⟩ := h
    exact ⟨a, h1, e _ _ h2⟩
  | .dct kvs, x, h => by
    obtain ⟨a, h1, h2⟩ := h
    exact ⟨a, h1, e _ _ h2⟩
theorem RepL.mono (e : Same S S') : ∀ {ds : List D} {xs : List V}, RepL K S ds xs → RepL K S' ds xs
  | [], xs, h => h
  | d :: ds, xs, h => by
    obtain ⟨y, ys, h1, h2, h3⟩ := h
    exact ⟨y, ys, h1, Rep.mono e h2, RepL.mono e h3⟩
end
theorem RepL.length : ∀ {ds : List D} {xs : List V}, RepL K S ds xs → xs.length = ds.length
  | [], xs, h => by
    have h' : xs = [] := h
    rw [h']
    rfl
  | d :: ds, xs, h => by
    obtain ⟨y, ys, rfl, h2, h3⟩ := h
    show ys.length + 1 = ds.length + 1
    rw [RepL.length h3]
theorem RepL.get : ∀ {ds : List D} {xs : List V}, RepL K S ds xs → ∀ {i : Nat} {d : D}, ds[i]? = some d → ∃ x, xs[i]? = some x ∧ Rep K S d x
  | [], _, _, i, d, e => by simp at e
  | d0 :: ds, xs, h, i, d, e => by
    obtain ⟨y, ys, rfl, h2, h3⟩ := h
    cases i with
    | zero =>
      have e' : d0 = d := Option.some.inj e
      subst e'
      exact ⟨y, rfl, h2⟩
    | succ i => exact RepL.get h3 (i := i) e
theorem RepL.app : ∀ {ds es : List D} {xs ys : List V}, RepL K S ds xs → RepL K S es ys → RepL K S (ds ++ es) (xs ++ ys)
  | [], es, xs, ys, h, k => by
    have h' : xs = [] := h
    subst h'
    exact k
  | d :: ds, es, xs, ys, h, k => by
    obtain ⟨y, zs, rfl, h2, h3⟩ := h
    exact ⟨y, zs ++ ys, rfl, h2, RepL.app h3 k⟩
theorem RepL.one {d : D} {x : V} (h : Rep K S d x) : RepL K S [d] [x] := ⟨x, [], rfl, h, rfl⟩
theorem RepL.ints : ∀ {ns : List Int} {xs : List V}, RepL K S (ns.map I) xs → xs = ns.map V.int
  | [], xs, h => h
  | n :: ns, xs, h => by
    obtain ⟨y, ys, rfl, h2, h3⟩ := h
    have h2' : y = V.int n := h2
    rw [h2', RepL.ints h3]
    rfl
theorem RepL.vals : ∀ {vs : List V} {xs : List V}, RepL K S (vs.map D.val) xs → xs = vs
  | [], xs, h => h
  | n :: ns, xs, h => by
    obtain ⟨y, ys, rfl, h2, h3⟩ := h
    have h2' : y = n := h2
    rw [h2', RepL.vals h3]
theorem RepL.of_vals : ∀ {vs : List V}, RepL K S (vs.map D.val) vs
  | [] => rfl
  | n :: ns => ⟨n, ns, rfl, rfl, RepL.of_vals⟩
/-- a part -/
theorem RepL.drop : ∀ {ds : List D} {xs : List V} (n : Nat), RepL K S ds xs → RepL K S (ds.drop n) (xs.drop n)
  | ds, xs, 0, h => h
  | [], xs, n + 1, h => by
    have h' : xs = [] := h
    subst h'
    rfl
  | d :: ds, xs, n + 1, h => by
    obtain ⟨y, ys, rfl, h2, h3⟩ := h
    exact RepL.drop n h3
theorem RepL.take : ∀ {ds : List D} {xs : List V} (n : Nat), RepL K S ds xs → RepL K S (ds.take n) (xs.take n)
  | ds, xs, 0, h => rfl
  | [], xs, n + 1, h => by
    have h' : xs = [] := h
    subst h'
    rfl
  | d :: ds, xs, n + 1, h => by
    obtain ⟨y, ys, rfl, h2, h3⟩ := h
    exact ⟨y, ys.take n, rfl, h2, RepL.take n h3⟩
theorem RepL.set : ∀ {ds : List D} {xs : List V} (n : Nat) {d : D} {x : V}, RepL K S ds xs → Rep K S d x → RepL K S (ds.set n d) (xs.set n x)
  | [], xs, n, d, x, h, k => by
    have h' : xs = [] := h
    subst h'
    rfl
  | d0 :: ds, xs, 0, d, x, h, k => by
    obtain ⟨y, ys, rfl, h2, h3⟩ := h
    exact ⟨x, ys, rfl, k, h3⟩
  | d0 :: ds, xs, n + 1, d, x, h, k => by
    obtain ⟨y, ys, rfl, h2, h3⟩ := h
    exact ⟨y, ys.set n x, rfl, h2, RepL.set n h3 k⟩
theorem RepL.rev : ∀ {ds : List D} {xs : List V}, RepL K S ds xs → RepL K S ds.reverse xs.reverse
  | [], xs, h => by
    have h' : xs = [] := h
    subst h'
    rfl
  | d :: ds, xs, h => by
    obtain ⟨y, ys, rfl, h2, h3⟩ := h
    rw [List.reverse_cons, List.reverse_cons]
    exact RepL.app (RepL.rev h3) (RepL.one h2)
theorem RepL.dropLast : ∀ {ds : List D} {xs : List V}, RepL K S ds xs → RepL K S ds.dropLast xs.dropLast := fun {ds xs} h => by
  rw [List.dropLast_eq_take, List.dropLast_eq_take, RepL.length h]
  exact RepL.take _ h
theorem RepL.eraseIdx : ∀ {ds : List D} {xs : List V} (n : Nat), RepL K S ds xs → RepL K S (ds.eraseIdx n) (xs.eraseIdx n)
  | [], xs, n, h => by
    have h' : xs = [] := h
    subst h'
    rfl
  | d0 :: ds, xs, 0, h => by
    obtain ⟨y, ys, rfl, h2, h3⟩ := h
    exact h3
  | d0 :: ds, xs, n + 1, h => by
    obtain ⟨y, ys, rfl, h2, h3⟩ := h
    exact ⟨y, ys.eraseIdx n, rfl, h2, RepL.eraseIdx n h3⟩
end
/-- an owned cell -/
inductive HD where
  | lst (ds : List D)
  | ins (C dx : Addr) (ns : List Str) (ds : List D)
def RepH (K : PySem.W.Frag) (S : Hp) : HD → HO → Prop
  | .lst ds, o => ∃ xs, o = .lst xs ∧ RepL K S ds xs
  | .ins C dx ns ds, o => ∃ ys, o = .ins C dx ys ∧ ys.map (·.1) = ns ∧ RepL K S ds (ys.map (·.2))
theorem RepH.mono {K : PySem.W.Frag} {S S' : Hp} (e : Same S S') : ∀ {h : HD} {o : HO}, RepH K S h o → RepH K S' h o
  | .lst ds, o, h => by
    obtain ⟨xs, h1, h2⟩ := h
    exact ⟨xs, h1, h2.mono e⟩
  | .ins C dx ns ds, o, h => by
    obtain ⟨ys, h1, h2, h3⟩ := h
    exact ⟨ys, h1, h2, h3.mono e⟩
abbrev Wp := Addr → Option HD
def wu (w : Wp) (a : Addr) (h : HD) : Wp := fun b => if b = a then some h else w b
def wd (w : Wp) (a : Addr) : Wp := fun b => if b = a then none else w b
def w0 : Wp := fun _ => none
theorem wu_same {w : Wp} {a : Addr} {h : HD} : wu w a h a = some h := if_pos rfl
theorem wu_ne {w : Wp} {a b : Addr} {h : HD} (e : b ≠ a) : wu w a h b = w b := if_neg e
theorem wu_wu {w : Wp} {a : Addr} {h k : HD} : wu (wu w a h) a k = wu w a k := by
  funext b
  by_cases e : b = a
  · rw [e, wu_same, wu_same]
  · rw [wu_ne e, wu_ne e, wu_ne e]
theorem wd_wu {w : Wp} {a : Addr} {h : HD} (e : w a = none) : wd (wu w a h) a = w := by
  funext b
  by_cases q : b = a
  · rw [q, e]
    exact if_pos rfl
  · show (if b = a then none else wu w a h b) = w b
    rw [if_neg q, wu_ne q]
/-- how the heap H stands: S stands for ever, w is owned, F is somebody else's -/
structure World (K : PySem.W.Frag) (T : List (Addr × Str)) (S : Hp) (w : Wp) (F H : Hp) : Prop where
  same : Same S H
  notbl : ∀ a ps, S a ≠ some (.tbl ps)
  own : ∀ a h, w a = some h → S a = none ∧ F a = none ∧ ∃ o, H a = some o ∧ RepH K S h o
  frm : ∀ a o, F a = some o → S a = none ∧ H a = some o
  tabs : Tabs T H
  nf : ∀ a ps, F a ≠ some (.tbl ps)
section
variable {K : PySem.W.Frag} {T : List (Addr × Str)} {S S' F H H' : Hp} {w : Wp} {a : Addr} {o : HO} {h : HD}
theorem World.free (W : World K T S w F H) (e : H a = none) : S a = none ∧ w a = none ∧ F a = none := by
  refine ⟨W.same.free e, ?_, ?_⟩
  · cases q : w a with
    | none => rfl
    | some h =>
      obtain ⟨_, _, o, q2, _⟩ := W.own a h q
      rw [e] at q2
      cases q2
  · cases q : F a with
    | none => rfl
    | some o =>
      have q2 := (W.frm a o q).2
      rw [e] at q2
      cases q2
theorem same_upd {H : Hp} {p : Addr} {o : HO} (h : H p = none) : Same H (upd H p o) := fun b x e => by
  rw [upd_ne (ne_of_none e h)]
  exact e
/-- a new object that stands -/
theorem World.laid (W : World K T S w F H) (e : H a = none) (hn : ∀ ps, o ≠ .tbl ps) : World K T (upd S a o) w F (upd H a o) := by
  obtain ⟨e1, e2, e3⟩ := W.free e
  have sS : Same S (upd S a o) := same_upd e1
  have sH : Same H (upd H a o) := same_upd e
  refine ⟨fun b x q => ?_, fun b ps q => ?_, fun b h q => ?_, fun b x q => ?_, W.tabs.ext sH, W.nf⟩
  · by_cases hb : b = a
    · subst hb
      rw [upd_same] at q ⊢
      exact q
    · rw [upd_ne hb] at q ⊢
      exact W.same _ _ q
  · by_cases hb : b = a
    · subst hb
      rw [upd_same] at q
      exact hn ps (Option.some.inj q)
    · rw [upd_ne hb] at q
      exact W.notbl _ _ q
  · have hb : b ≠ a := fun z => by
      rw [z, e2] at q
      cases q
    obtain ⟨q1, q2, x, q3, q4⟩ := W.own b h q
    exact ⟨by rw [upd_ne hb]; exact q1, q2, x, sH _ _ q3, q4.mono sS⟩
  · have hb : b ≠ a := fun z => by
      rw [z, e3] at q
      cases q
    obtain ⟨q1, q2⟩ := W.frm b x q
    exact ⟨by rw [upd_ne hb]; exact q1, sH _ _ q2⟩
/-- a new object that nobody looks at -/
theorem World.junk (W : World K T S w F H) (e : H a = none) : World K T S w F (upd H a o) := by
  have sH : Same H (upd H a o) := same_upd e
  refine ⟨W.same.trans sH, W.notbl, fun b h q => ?_, fun b x q => ?_, W.tabs.ext sH, W.nf⟩
  · obtain ⟨q1, q2, x, q3, q4⟩ := W.own b h q
    exact ⟨q1, q2, x, sH _ _ q3, q4⟩
  · obtain ⟨q1, q2⟩ := W.frm b x q
    exact ⟨q1, sH _ _ q2⟩
/-- a new owned cell -/
theorem World.take (W : World K T S w F H) (e : H a = none) (r : RepH K S h o) : World K T S (wu w a h) F (upd H a o) := by
  obtain ⟨e1, e2, e3⟩ := W.free e
  have sH : Same H (upd H a o) := same_upd e
  refine ⟨W.same.trans sH, W.notbl, fun b k q => ?_, fun b x q => ?_, W.tabs.ext sH, W.nf⟩
  · by_cases hb : b = a
    · subst hb
      rw [wu_same] at q
      cases q
      exact ⟨e1, e3, o, upd_same, r⟩
    · rw [wu_ne hb] at q
      obtain ⟨q1, q2, x, q3, q4⟩ := W.own b k q
      exact ⟨q1, q2, x, sH _ _ q3, q4⟩
  · obtain ⟨q1, q2⟩ := W.frm b x q
    exact ⟨q1, sH _ _ q2⟩
theorem nf_upd {F : Hp} {a : Addr} {o : HO} (h : ∀ a ps, F a ≠ some (.tbl ps)) (hn : ∀ ps, o ≠ .tbl ps) : ∀ b ps, upd F a o b ≠ some (.tbl ps) := fun b ps z => by
  by_cases e : b = a
  · rw [e, upd_same] at z
    exact hn ps (Option.some.inj z)
  · rw [upd_ne e] at z
    exact h b ps z
/-- a new cell of the frame -/
theorem World.takeF (W : World K T S w F H) (e : H a = none) (hn : ∀ ps, o ≠ .tbl ps) : World K T S w (upd F a o) (upd H a o) := by
  obtain ⟨e1, e2, e3⟩ := W.free e
  have sH : Same H (upd H a o) := same_upd e
  refine ⟨W.same.trans sH, W.notbl, fun b k q => ?_, fun b x q => ?_, W.tabs.ext sH, nf_upd W.nf hn⟩
  · have hb : b ≠ a := fun z => by
      rw [z, e2] at q
      cases q
    obtain ⟨q1, q2, x, q3, q4⟩ := W.own b k q
    exact ⟨q1, by rw [upd_ne hb]; exact q2, x, sH _ _ q3, q4⟩
  · by_cases hb : b = a
    · subst hb
      rw [upd_same] at q ⊢
      exact ⟨e1, q⟩
    · rw [upd_ne hb] at q
      obtain ⟨q1, q2⟩ := W.frm b x q
      exact ⟨q1, sH _ _ q2⟩
theorem TabS.put {H : Hp} {P a : Addr} {q : Str} {u o : HO} (t : TabS H P q) (e : H a = some u) (h1 : ∀ ps, u ≠ .tbl ps) (h2 : ∀ φ, u ≠ .ext φ) : TabS (upd H a o) P q := by
  obtain ⟨ps, k1, k2, k3⟩ := t
  refine ⟨ps, ?_, k2, fun pos cv hc => ?_⟩
  · rw [upd_ne (ne_of k1 e (fun z => h1 ps z.symm))]
    exact k1
  · obtain ⟨c, e1, e2⟩ := k3 pos cv hc
    refine ⟨c, e1, ?_⟩
    rw [upd_ne (ne_of e2 e (fun z => h2 _ z.symm))]
    exact e2
theorem RepH.notbl {h : HD} {o : HO} (r : RepH K S h o) : (∀ ps, o ≠ .tbl ps) ∧ (∀ φ, o ≠ .ext φ) := by
  cases h with
  | lst ds =>
    obtain ⟨xs, rfl, _⟩ := r
    exact ⟨fun _ z => (by cases z), fun _ z => (by cases z)⟩
  | ins C dx ns ds =>
    obtain ⟨ys, rfl, _⟩ := r
    exact ⟨fun _ z => (by cases z), fun _ z => (by cases z)⟩
/-- an owned cell is written -/
theorem World.put (W : World K T S w F H) {k : HD} (e : w a = some k) (r : RepH K S h o) : World K T S (wu w a h) F (upd H a o) := by
  obtain ⟨e1, e2, u, e3, e4⟩ := W.own a k e
  refine ⟨fun b x q => ?_, W.notbl, fun b k q => ?_, fun b x q => ?_, fun p hp => TabS.put (W.tabs p hp) e3 e4.notbl.1 e4.notbl.2, W.nf⟩
  · rw [upd_ne (ne_of_none q e1)]
    exact W.same _ _ q
  · by_cases hb : b = a
    · subst hb
      rw [wu_same] at q
      cases q
      exact ⟨e1, e2, o, upd_same, r⟩
    · rw [wu_ne hb] at q
      obtain ⟨q1, q2, x, q3, q4⟩ := W.own b k q
      exact ⟨q1, q2, x, by rw [upd_ne hb]; exact q3, q4⟩
  · obtain ⟨q1, q2⟩ := W.frm b x q
    refine ⟨q1, ?_⟩
    rw [upd_ne (fun z => by rw [z, e2] at q; cases q)]
    exact q2
/-- an owned cell stands from now on -/
theorem World.freeze (W : World K T S w F H) (e : w a = some h) : ∃ o, S a = none ∧ RepH K S h o ∧ World K T (upd S a o) (wd w a) F H := by
  obtain ⟨e1, e2, o, e3, e4⟩ := W.own a h e
  have sS : Same S (upd S a o) := same_upd e1
  refine ⟨o, e1, e4, fun b x q => ?_, fun b ps q => ?_, fun b k q => ?_, fun b x q => ?_, W.tabs, W.nf⟩
  · by_cases hb : b = a
    · subst hb
      rw [upd_same] at q
      rw [e3]
      exact q
    · rw [upd_ne hb] at q
      exact W.same _ _ q
  · by_cases hb : b = a
    · subst hb
      rw [upd_same] at q
      exact e4.notbl.1 ps (Option.some.inj q)
    · rw [upd_ne hb] at q
      exact W.notbl _ _ q
  · have hb : b ≠ a := fun z => by
      rw [z] at q
      have q' : (if a = a then none else w a) = some k := q
      rw [if_pos rfl] at q'
      cases q'
    have q' : w b = some k := by
      have q' : (if b = a then none else w b) = some k := q
      rw [if_neg hb] at q'
      exact q'
    obtain ⟨q1, q2, x, q3, q4⟩ := W.own b k q'
    exact ⟨by rw [upd_ne hb]; exact q1, q2, x, q3, q4.mono sS⟩
  · obtain ⟨q1, q2⟩ := W.frm b x q
    refine ⟨?_, q2⟩
    rw [upd_ne (fun z => by rw [z, e2] at q; cases q)]
    exact q1
/-- a cell of the frame is written; is taken out and stands -/
theorem World.putF (W : World K T S w F H) {u : HO} (e : F a = some u) (h1 : ∀ ps, u ≠ .tbl ps) (h2 : ∀ φ, u ≠ .ext φ) (hn : ∀ ps, o ≠ .tbl ps) : World K T S w (upd F a o) (upd H a o) := by
  obtain ⟨e1, e2⟩ := W.frm a u e
  refine ⟨fun b x q => ?_, W.notbl, fun b k q => ?_, fun b x q => ?_, fun p hp => TabS.put (W.tabs p hp) e2 h1 h2, nf_upd W.nf hn⟩
  · rw [upd_ne (ne_of_none q e1)]
    exact W.same _ _ q
  · obtain ⟨q1, q2, x, q3, q4⟩ := W.own b k q
    have hb : b ≠ a := fun z => by
      rw [z, e] at q2
      cases q2
    exact ⟨q1, by rw [upd_ne hb]; exact q2, x, by rw [upd_ne hb]; exact q3, q4⟩
  · by_cases hb : b = a
    · subst hb
      rw [upd_same] at q ⊢
      exact ⟨e1, q⟩
    · rw [upd_ne hb] at q
      obtain ⟨q1, q2⟩ := W.frm b x q
      exact ⟨q1, by rw [upd_ne hb]; exact q2⟩
theorem World.freezeF {F0 : Hp} (W : World K T S w (upd F0 a o) H) (e : F0 a = none) (h1 : ∀ ps, o ≠ .tbl ps) : S a = none ∧ World K T (upd S a o) w F0 H := by
  obtain ⟨e1, e2⟩ := W.frm a o upd_same
  have sS : Same S (upd S a o) := same_upd e1
  refine ⟨e1, fun b x q => ?_, fun b ps q => ?_, fun b k q => ?_, fun b x q => ?_, W.tabs, fun b ps z => ?_⟩
  · by_cases hb : b = a
    · subst hb
      rw [upd_same] at q
      rw [e2]
      exact q
    · rw [upd_ne hb] at q
      exact W.same _ _ q
  · by_cases hb : b = a
    · subst hb
      rw [upd_same] at q
      exact h1 ps (Option.some.inj q)
    · rw [upd_ne hb] at q
      exact W.notbl _ _ q
  · obtain ⟨q1, q2, x, q3, q4⟩ := W.own b k q
    have hb : b ≠ a := fun z => by
      rw [z, upd_same] at q2
      cases q2
    refine ⟨by rw [upd_ne hb]; exact q1, ?_, x, q3, q4.mono sS⟩
    rw [upd_ne hb] at q2
    exact q2
  · have hb : b ≠ a := fun z => by
      rw [z, e] at q
      cases q
    obtain ⟨q1, q2⟩ := W.frm b x (by rw [upd_ne hb]; exact q)
    exact ⟨by rw [upd_ne hb]; exact q1, q2⟩
  · by_cases hb : b = a
    · rw [hb, e] at z
      cases z
    · exact W.nf b ps (by rw [upd_ne hb]; exact z)
end
/-! ### the frame's slots, in data -/
abbrev Dn := List (Option D)
structure EnvD (K : PySem.W.Frag) (S : Hp) (δ : Dn) (σ : L2.St) : Prop where
  len : δ.length = σ.length
  at_ : ∀ (i : Nat) (d : D), δ[i]? = some (some d) → ∃ v, σ[i]? = some (some v) ∧ Rep K S d v
theorem EnvD.mono {K : PySem.W.Frag} {S S' : Hp} {δ : Dn} {σ : L2.St} (e : Same S S') (h : EnvD K S δ σ) : EnvD K S' δ σ := ⟨h.len, fun i d q => by
  obtain ⟨v, h1, h2⟩ := h.at_ i d q
  exact ⟨v, h1, h2.mono e⟩⟩
theorem EnvD.set {K : PySem.W.Frag} {S : Hp} {δ : Dn} {σ : L2.St} (h : EnvD K S δ σ) (i : Nat) {d : D} {v : V} (r : Rep K S d v) : EnvD K S (δ.set i (some d)) (σ.set i (some v)) := by
  refine ⟨by rw [List.length_set, List.length_set]; exact h.len, fun j d' q => ?_⟩
  by_cases e : i = j
  · subst e
    by_cases hl : i < δ.length
    · rw [List.getElem?_set_self hl] at q
      cases q
      exact ⟨v, by rw [List.getElem?_set_self (by rw [← h.len]; exact hl)], r⟩
    · rw [List.getElem?_eq_none (by simpa using hl)] at q
      cases q
  · rw [List.getElem?_set_ne e] at q
    obtain ⟨v', h1, h2⟩ := h.at_ j d' q
    exact ⟨v', by rw [List.getElem?_set_ne e]; exact h1, h2⟩
theorem EnvD.unset {K : PySem.W.Frag} {S : Hp} {δ : Dn} {σ : L2.St} (h : EnvD K S δ σ) (i : Nat) : EnvD K S (δ.set i none) (σ.set i none) := by
  refine ⟨by rw [List.length_set, List.length_set]; exact h.len, fun j d' q => ?_⟩
  by_cases e : i = j
  · subst e
    by_cases hl : i < δ.length
    · rw [List.getElem?_set_self hl] at q
      cases q
    · rw [List.getElem?_eq_none (by simpa using hl)] at q
      cases q
  · rw [List.getElem?_set_ne e] at q
    obtain ⟨v', h1, h2⟩ := h.at_ j d' q
    exact ⟨v', by rw [List.getElem?_set_ne e]; exact h1, h2⟩
def wipeD (δ : Dn) : List Nat → Dn
  | [] => δ
  | v :: vs => (wipeD δ vs).set v none
theorem EnvD.wipe {K : PySem.W.Frag} {S : Hp} {δ : Dn} {σ : L2.St} (h : EnvD K S δ σ) : ∀ vs : List Nat, EnvD K S (wipeD δ vs) (L2.wipe σ vs)
  | [] => h
  | v :: vs => (EnvD.wipe h vs).unset v
/-- a slot's data is told otherwise -/
theorem EnvD.tell {K : PySem.W.Frag} {S : Hp} {δ : Dn} {σ : L2.St} (h : EnvD K S δ σ) (i : Nat) {d d' : D} (q : δ[i]? = some (some d)) (r : ∀ v, Rep K S d v → Rep K S d' v) : EnvD K S (δ.set i (some d')) σ := by
  refine ⟨by rw [List.length_set]; exact h.len, fun j e q' => ?_⟩
  by_cases z : i = j
  · subst z
    have hl : i < δ.length := (List.getElem?_eq_some_iff.mp q).1
    rw [List.getElem?_set_self hl] at q'
    cases q'
    obtain ⟨v, h1, h2⟩ := h.at_ i d q
    exact ⟨v, h1, r v h2⟩
  · rw [List.getElem?_set_ne z] at q'
    exact h.at_ j e q'
end DL

set_option Elab.async false
set_option linter.all false
set_option maxRecDepth 100000
set_option maxHeartbeats 1000000
/-! The judgements in data: expressions, tests, argument lists, statements. -/
namespace DL
open PySem PySem.Spec PyProof.Rows L2 LamX
/-! ### the weakest readings -/
section
variable (X : Cx)
def wpE (e : Expr) : TE := fun σ H Q => ∀ pins s, Inv X pins σ H s → wpAny (model X.prog X.w) X.A (eval e X.env) (EP X pins σ Q) X.xe s
def wpT (e : Expr) : TT := fun σ H Q => ∀ pins s, Inv X pins σ H s → wpAny (model X.prog X.w) X.A (isTrue e X.env (eval e X.env)) (TP X pins σ Q) X.xe s
def wpA (es : List Expr) : TA := fun σ H Q => ∀ (pos : Pos) pins s, Inv X pins σ H s → wpAny (model X.prog X.w) X.A (spliced (backTo pos (starEach es X.env))) (AP X pins σ Q) X.xe s
def wpS (st : Stmt) : TS := fun D σ H => ∀ pins s, Inv X pins σ H s → wpAny (model X.prog X.w) X.A (exec st X.env) (SP X pins D) X.xe s
def wpSs (st : List Stmt) : TS := fun D σ H => ∀ pins s, Inv X pins σ H s → wpAny (model X.prog X.w) X.A (execs st X.env) (SP X pins D) X.xe s
def wpG (tg : Expr) : TG := fun v σ H Q => ∀ pins s u, Inv X pins σ H s → RelV v u → wpAny (model X.prog X.w) X.A (assign tg X.env u) (fun _ s' => ∃ σ' H', Inv X pins σ' H' s' ∧ Q σ' H') X.xe s
def wpTs (ifs : List Expr) : TT := fun σ H Q => ∀ pins s, Inv X pins σ H s → wpAny (model X.prog X.w) X.A (forIn ifs true fun c r => if r = true then do let ok ← isTrue c X.env (eval c X.env); pure (ForInStep.yield ok) else pure (ForInStep.yield r)) (TP X pins σ Q) X.xe s
end
section
variable {X : Cx}
theorem pe_wp (e : Expr) : PE X e (wpE X e) := ⟨fun pins s _ _ _ I h => h pins s I⟩
theorem pt_wp (e : Expr) : PT X e (wpT X e) := ⟨fun pins s _ _ _ I h => h pins s I⟩
theorem pa_wp (es : List Expr) : PA X es (wpA X es) := ⟨fun pos pins s _ _ _ I h => h pos pins s I⟩
theorem ps_wp (st : Stmt) : PS X st (wpS X st) := ⟨fun pins s _ _ _ I h => h pins s I⟩
theorem pss_wp (st : List Stmt) : PSs X st (wpSs X st) := ⟨fun pins s _ _ _ I h => h pins s I⟩
theorem pg_wp (tg : Expr) : PG X tg (wpG X tg) := ⟨fun pins s _ _ _ u _ I r h => h pins s u I r⟩
theorem pts_wp (ifs : List Expr) : PTs X ifs (wpTs X ifs) := ⟨fun pins s _ _ _ I h => h pins s I⟩
theorem wp_pe {e : Expr} {t : TE} (h : PE X e t) {σ : L2.St} {H : Hp} {Q : VK} (q : t σ H Q) : wpE X e σ H Q := fun pins s I => h.run pins s σ H Q I q
theorem wp_pt {e : Expr} {t : TT} (h : PT X e t) {σ : L2.St} {H : Hp} {Q : Bool → Hp → Prop} (q : t σ H Q) : wpT X e σ H Q := fun pins s I => h.run pins s σ H Q I q
theorem wp_pa {es : List Expr} {t : TA} (h : PA X es t) {σ : L2.St} {H : Hp} {Q : List V → Hp → Prop} (q : t σ H Q) : wpA X es σ H Q := fun pos pins s I => h.run pos pins s σ H Q I q
theorem wp_ps {st : Stmt} {t : TS} (h : PS X st t) {σ : L2.St} {H : Hp} {D : Ends} (q : t D σ H) : wpS X st D σ H := fun pins s I => h.run pins s σ H D I q
theorem wp_pss {st : List Stmt} {t : TS} (h : PSs X st t) {σ : L2.St} {H : Hp} {D : Ends} (q : t D σ H) : wpSs X st D σ H := fun pins s I => h.run pins s σ H D I q
theorem wp_pg {tg : Expr} {t : TG} (h : PG X tg t) {v : V} {σ : L2.St} {H : Hp} {Q : L2.St → Hp → Prop} (q : t v σ H Q) : wpG X tg v σ H Q := fun pins s u I r => h.run pins s σ H v u Q I r q
end
/-! ### wishes in data -/
/-- an exception's wish: class, fields, owned cells -/
abbrev XD := Addr → List Str → List D → Wp → Prop
abbrev noX : XD := fun _ _ _ _ => False
/-- an exception's own dict -/
def XdR (K : PySem.W.Frag) (S : Hp) (d : Addr) (ns : List Str) (ds : List D) : Prop := ∃ ys, S d = some (.xd ys) ∧ ys.map (·.1) = ns ∧ RepL K S ds (ys.map (·.2))
/-- W takes what χ tells -/
def ExD (K : PySem.W.Frag) (T : List (Addr × Str)) (W : WX) (χ : XD) (σ : L2.St) (S F : Hp) : Prop :=
  ∀ C ns ds w' d S' H', χ C ns ds w' → Same S S' → World K T S' w' F H' → XdR K S' d ns ds → W (.ref C) (some d) σ H'
def KD (K : PySem.W.Frag) (T : List (Addr × Str)) (κ : D → Wp → Prop) (S F : Hp) (Q : VK) : Prop :=
  ∀ d w' v S' H', κ d w' → Same S S' → World K T S' w' F H' → Rep K S' d v → Q v H'
def KB (K : PySem.W.Frag) (T : List (Addr × Str)) (κ : Bool → Wp → Prop) (S F : Hp) (Q : Bool → Hp → Prop) : Prop :=
  ∀ b w' S' H', κ b w' → Same S S' → World K T S' w' F H' → Q b H'
def KA (K : PySem.W.Frag) (T : List (Addr × Str)) (κ : List D → Wp → Prop) (S F : Hp) (Q : List V → Hp → Prop) : Prop :=
  ∀ ds w' vs S' H', κ ds w' → Same S S' → World K T S' w' F H' → RepL K S' ds vs → Q vs H'
def KS (K : PySem.W.Frag) (T : List (Addr × Str)) (κ : Dn → Wp → Prop) (S F : Hp) (Q : L2.St → Hp → Prop) : Prop :=
  ∀ δ' w' σ' S' H', κ δ' w' → Same S S' → EnvD K S' δ' σ' → World K T S' w' F H' → Q σ' H'
section
variable {K : PySem.W.Frag} {T : List (Addr × Str)} {W : WX} {χ : XD} {σ : L2.St} {S S' F : Hp}
theorem ExD.mono (e : Same S S') (h : ExD K T W χ σ S F) : ExD K T W χ σ S' F := fun C ns ds w' d S2 H2 x s1 wd r => h C ns ds w' d S2 H2 x (e.trans s1) wd r
theorem KD.mono {κ : D → Wp → Prop} {Q : VK} (e : Same S S') (h : KD K T κ S F Q) : KD K T κ S' F Q := fun d w' v S2 H2 x s1 wd r => h d w' v S2 H2 x (e.trans s1) wd r
theorem KB.mono {κ : Bool → Wp → Prop} {Q : Bool → Hp → Prop} (e : Same S S') (h : KB K T κ S F Q) : KB K T κ S' F Q := fun d w' S2 H2 x s1 wd => h d w' S2 H2 x (e.trans s1) wd
theorem KA.mono {κ : List D → Wp → Prop} {Q : List V → Hp → Prop} (e : Same S S') (h : KA K T κ S F Q) : KA K T κ S' F Q := fun d w' v S2 H2 x s1 wd r => h d w' v S2 H2 x (e.trans s1) wd r
theorem KS.mono {κ : Dn → Wp → Prop} {Q : L2.St → Hp → Prop} (e : Same S S') (h : KS K T κ S F Q) : KS K T κ S' F Q := fun d w' v S2 H2 x s1 en wd => h d w' v S2 H2 x (e.trans s1) en wd
end
/-! ### the judgements -/
section
variable (X : Cx) (T : List (Addr × Str)) (W : WX) (χ : XD)
def PD (e : Expr) (δ : Dn) (w : Wp) (κ : D → Wp → Prop) : Prop :=
  ∀ (F : Hp) (σ : L2.St) (S H : Hp) (Q : VK), EnvD X.K S δ σ → World X.K T S w F H → ExD X.K T W χ σ S F → KD X.K T κ S F Q → wpE X e σ H Q
def PTD (e : Expr) (δ : Dn) (w : Wp) (κ : Bool → Wp → Prop) : Prop :=
  ∀ (F : Hp) (σ : L2.St) (S H : Hp) (Q : Bool → Hp → Prop), EnvD X.K S δ σ → World X.K T S w F H → ExD X.K T W χ σ S F → KB X.K T κ S F Q → wpT X e σ H Q
/-- a test whatever its whole is -/
def PWD (e : Expr) (δ : Dn) (w : Wp) (κ : Bool → Wp → Prop) : Prop :=
  ∀ (F : Hp) (σ : L2.St) (S H : Hp) (Q : Bool → Hp → Prop), EnvD X.K S δ σ → World X.K T S w F H → ExD X.K T W χ σ S F → KB X.K T κ S F Q →
    ∀ (whole : Sem Value) pins s, Inv X pins σ H s → wpAny (model X.prog X.w) X.A (isTrue e X.env whole) (TP X pins σ Q) X.xe s
def PAD (es : List Expr) (δ : Dn) (w : Wp) (κ : List D → Wp → Prop) : Prop :=
  ∀ (F : Hp) (σ : L2.St) (S H : Hp) (Q : List V → Hp → Prop), EnvD X.K S δ σ → World X.K T S w F H → ExD X.K T W χ σ S F → KA X.K T κ S F Q → wpA X es σ H Q
def PGD (tg : Expr) (d : D) (δ : Dn) (w : Wp) (κ : Dn → Wp → Prop) : Prop :=
  ∀ (F : Hp) (v : V) (σ : L2.St) (S H : Hp) (Q : L2.St → Hp → Prop), Rep X.K S d v → EnvD X.K S δ σ → World X.K T S w F H → KS X.K T κ S F Q → wpG X tg v σ H Q
structure Fin where
  nx : Dn → Wp → Prop
  rt : D → Wp → Prop
  bk : Dn → Wp → Prop := fun _ _ => False
  ct : Dn → Wp → Prop := fun _ _ => False
structure KE (C : Fin) (S F : Hp) (E : Ends) : Prop where
  nx : KS X.K T C.nx S F E.nx
  rt : KD X.K T C.rt S F E.rt
  bk : KS X.K T C.bk S F E.bk
  ct : KS X.K T C.ct S F E.ct
def ExS (S F : Hp) : Prop := ∀ σ, ExD X.K T W χ σ S F
def PSD (st : Stmt) (δ : Dn) (w : Wp) (C : Fin) : Prop :=
  ∀ (F : Hp) (σ : L2.St) (S H : Hp) (E : Ends), EnvD X.K S δ σ → World X.K T S w F H → ExS X T W χ S F → KE X T C S F E → wpS X st E σ H
def PSsD (sts : List Stmt) (δ : Dn) (w : Wp) (C : Fin) : Prop :=
  ∀ (F : Hp) (σ : L2.St) (S H : Hp) (E : Ends), EnvD X.K S δ σ → World X.K T S w F H → ExS X T W χ S F → KE X T C S F E → wpSs X sts E σ H
end
section
variable {X : Cx} {T : List (Addr × Str)} {W : WX} {χ : XD} {δ : Dn} {w : Wp} {pos : Pos}
theorem KE.mono {C : Fin} {S S' F : Hp} {E : Ends} (e : Same S S') (h : KE X T C S F E) : KE X T C S' F E := ⟨h.nx.mono e, h.rt.mono e, h.bk.mono e, h.ct.mono e⟩
theorem ExS.mono {S S' F : Hp} (e : Same S S') (h : ExS X T W χ S F) : ExS X T W χ S' F := fun σ => (h σ).mono e
theorem PD.imp {e : Expr} {κ κ' : D → Wp → Prop} (h : PD X T W χ e δ w κ) (i : ∀ d w', κ d w' → κ' d w') : PD X T W χ e δ w κ' :=
  fun F σ S H Q hE hW hX hK => h F σ S H Q hE hW hX fun d w' v S' H' x => hK d w' v S' H' (i d w' x)
theorem PSsD.imp {sts : List Stmt} {C C' : Fin} (h : PSsD X T W χ sts δ w C) (hn : ∀ δ' w', C.nx δ' w' → C'.nx δ' w') (hr : ∀ d w', C.rt d w' → C'.rt d w') (hb : ∀ δ' w', C.bk δ' w' → C'.bk δ' w') (hc : ∀ δ' w', C.ct δ' w' → C'.ct δ' w') : PSsD X T W χ sts δ w C' :=
  fun F σ S H E hE hW hX hK => h F σ S H E hE hW hX ⟨fun δ' w' σ' S' H' x => hK.nx δ' w' σ' S' H' (hn _ _ x), fun d w' v S' H' x => hK.rt d w' v S' H' (hr _ _ x), fun δ' w' σ' S' H' x => hK.bk δ' w' σ' S' H' (hb _ _ x), fun δ' w' σ' S' H' x => hK.ct δ' w' σ' S' H' (hc _ _ x)⟩
/-! ### names and constants -/
theorem pd_var {x : Str} {i : Nat} {d : D} {κ : D → Wp → Prop} (hN : X.N[i]? = some x) (hd : δ[i]? = some (some d)) (k : κ d w)
    (hv : Vis X.env.scope x := by first | exact Or.inl rfl | exact Or.inr (Or.inl rfl) | exact Or.inr (Or.inr rfl)) (h1 : (x == ("__debug__" : Str)) = false := by decide) (h2 : (x == ("__classdict__" : Str)) = false := by decide) :
    PD X T W χ (.Name x pos) δ w κ := fun F σ S H Q hE hW hX hK => by
  obtain ⟨v, e1, r⟩ := hE.at_ i d hd
  exact wp_pe (pe_var hN hv h1 h2) ⟨v, e1, hK d w v S H k (Same.refl _) hW r⟩
theorem pd_int {i : Int} {j : Nat} {κ : D → Wp → Prop} (k : κ (I i) w) : PD X T W χ (.Constant (.int i) j pos) δ w κ := fun F σ S H Q hE hW hX hK => wp_pe pe_int (hK _ w _ S H k (Same.refl _) hW rfl)
theorem pd_bl {b : Bool} {j : Nat} {κ : D → Wp → Prop} (k : κ (B b) w) : PD X T W χ (.Constant (.bool b) j pos) δ w κ := fun F σ S H Q hE hW hX hK => wp_pe pe_bl (hK _ w _ S H k (Same.refl _) hW rfl)
theorem pd_non {j : Nat} {κ : D → Wp → Prop} (k : κ N w) : PD X T W χ (.Constant .none j pos) δ w κ := fun F σ S H Q hE hW hX hK => wp_pe pe_non (hK _ w _ S H k (Same.refl _) hW rfl)
theorem pd_str {x : Str} {j : Nat} {κ : D → Wp → Prop} (k : κ (DL.T x) w) : PD X T W χ (.Constant (.str x) j pos) δ w κ := fun F σ S H Q hE hW hX hK => wp_pe pe_str (hK _ w _ S H k (Same.refl _) hW rfl)
/-! ### argument lists -/
theorem pad_nil {κ : List D → Wp → Prop} (k : κ [] w) : PAD X T W χ [] δ w κ := fun F σ S H Q hE hW hX hK => wp_pa pa_nil (hK _ w _ S H k (Same.refl _) hW rfl)
theorem pad_cons {e : Expr} {es : List Expr} {κ : List D → Wp → Prop} (h : PD X T W χ e δ w fun d w1 => PAD X T W χ es δ w1 fun ds w2 => κ (d :: ds) w2)
    (hs : starEach (e :: es) X.env = (false, eval e X.env) :: starEach es X.env := by rfl) : PAD X T W χ (e :: es) δ w κ := fun F σ S H Q hE hW hX hK => by
  refine wp_pa (pa_cons (pe_wp e) (pa_wp es) hs) ?_
  refine h F σ S H _ hE hW hX fun d w1 v S1 H1 k s1 W1 r => ?_
  refine k F σ S1 H1 _ (hE.mono s1) W1 (hX.mono s1) fun ds w2 vs S2 H2 k2 s2 W2 r2 => ?_
  exact hK _ w2 _ S2 H2 k2 (s1.trans s2) W2 ⟨v, vs, rfl, r.mono s2, r2⟩
/-! ### operators, by values -/
/-- the value rule r, in data -/
def VR1 (K : PySem.W.Frag) (T : List (Addr × Str)) (r : V → Hp → VK → Prop) (d : D) (w : Wp) (κ : D → Wp → Prop) : Prop :=
  ∀ (F S H : Hp) (x : V) (Q : VK), World K T S w F H → Rep K S d x → KD K T κ S F Q → r x H Q
def VR2 (K : PySem.W.Frag) (T : List (Addr × Str)) (r : R2) (d e : D) (w : Wp) (κ : D → Wp → Prop) : Prop :=
  ∀ (F S H : Hp) (x y : V) (Q : VK), World K T S w F H → Rep K S d x → Rep K S e y → KD K T κ S F Q → r x y H Q
def VRA (K : PySem.W.Frag) (T : List (Addr × Str)) (r : List V → Hp → VK → Prop) (ds : List D) (w : Wp) (κ : D → Wp → Prop) : Prop :=
  ∀ (F S H : Hp) (xs : List V) (Q : VK), World K T S w F H → RepL K S ds xs → KD K T κ S F Q → r xs H Q
def VRM (K : PySem.W.Frag) (T : List (Addr × Str)) (r : V → List V → Hp → VK → Prop) (d : D) (ds : List D) (w : Wp) (κ : D → Wp → Prop) : Prop :=
  ∀ (F S H : Hp) (x : V) (xs : List V) (Q : VK), World K T S w F H → Rep K S d x → RepL K S ds xs → KD K T κ S F Q → r x xs H Q
theorem two {a b : Expr} {r : R2} {κ : D → Wp → Prop} (h : PD X T W χ a δ w fun d w1 => PD X T W χ b δ w1 fun e w2 => VR2 X.K T r d e w2 κ) {F : Hp} {σ : L2.St} {S H : Hp} {Q : VK} (hE : EnvD X.K S δ σ) (hW : World X.K T S w F H) (hX : ExD X.K T W χ σ S F) (hK : KD X.K T κ S F Q) :
    tOp r (wpE X a) (wpE X b) σ H Q := by
  refine h F σ S H _ hE hW hX fun d w1 v S1 H1 k s1 W1 r1 => ?_
  refine k F σ S1 H1 _ (hE.mono s1) W1 (hX.mono s1) fun e w2 u S2 H2 k2 s2 W2 r2 => ?_
  exact k2 F S2 H2 v u _ W2 (r1.mono s2) r2 (hK.mono (s1.trans s2))
theorem pd_op {a b : Expr} {op : Operator} {r : R2} {κ : D → Wp → Prop} (ho : OpR X (binaryOp op) r) (h : PD X T W χ a δ w fun d w1 => PD X T W χ b δ w1 fun e w2 => VR2 X.K T r d e w2 κ) : PD X T W χ (.BinOp a op b pos) δ w κ :=
  fun F σ S H Q hE hW hX hK => wp_pe (pe_op ho (pe_wp a) (pe_wp b)) (two h hE hW hX hK)
theorem pd_cmp {a b : Expr} {op : CmpOp} {r : R2} {κ : D → Wp → Prop} (ho : OpR X (compareOp op) r) (h : PD X T W χ a δ w fun d w1 => PD X T W χ b δ w1 fun e w2 => VR2 X.K T r d e w2 κ)
    (hm : behindInMarks op b = false := by first | exact nomark _ | rfl) : PD X T W χ (.Compare a [op] [b] pos) δ w κ :=
  fun F σ S H Q hE hW hX hK => wp_pe (pe_cmpR ho (pe_wp a) (pe_wp b) hm) (two h hE hW hX hK)
theorem pd_un {a : Expr} {op : UnaryOp} {r : V → Hp → VK → Prop} {κ : D → Wp → Prop} (ho : UnR X (unaryOp op) r) (h : PD X T W χ a δ w fun d w1 => VR1 X.K T r d w1 κ) : PD X T W χ (.UnaryOp op a pos) δ w κ :=
  fun F σ S H Q hE hW hX hK => wp_pe (pe_un ho (pe_wp a)) (by
    refine h F σ S H _ hE hW hX fun d w1 v S1 H1 k s1 W1 r1 => ?_
    exact k F S1 H1 v _ W1 r1 (hK.mono s1))
theorem pd_ix {a b : Expr} {r : R2} {κ : D → Wp → Prop} (ho : IxR X r) (h : PD X T W χ a δ w fun d w1 => PD X T W χ b δ w1 fun e w2 => VR2 X.K T r d e w2 κ) (hs : PlainIx b := by exact fun _ _ => rfl) : PD X T W χ (.Subscript a b pos) δ w κ :=
  fun F σ S H Q hE hW hX hK => wp_pe (pe_ix ho (pe_wp a) (pe_wp b) hs) (two h hE hW hX hK)
/-! ### tests -/
/-- an expression whose value is a bool, as a test -/
theorem ptd_val {e : Expr} {κ : Bool → Wp → Prop} (h : PD X T W χ e δ w fun d w' => ∃ b, d = B b ∧ κ b w')
    (he : ∀ whole, isTrue e X.env whole = (do let v ← whole; standAt e.pos; holding [v] (truthy v)) := by intro _; rfl) : PTD X T W χ e δ w κ :=
  fun F σ S H Q hE hW hX hK => wp_pt (pt_val (pe_wp e) he) (by
    refine h F σ S H _ hE hW hX fun d w' v S' H' k s1 W1 r => ?_
    obtain ⟨b, rfl, k⟩ := k
    have rv : v = .bl b := r
    exact ⟨b, rv, hK b w' S' H' k s1 W1⟩)
/-- a comparison, as a test -/
theorem ptd_cmp {a b : Expr} {op : CmpOp} {r : R2} {κ : Bool → Wp → Prop} (ho : OpR X (compareOp op) r) (h : PD X T W χ a δ w fun d w1 => PD X T W χ b δ w1 fun e w2 => VR2 X.K T r d e w2 fun d w' => ∃ b, d = B b ∧ κ b w')
    (hm : behindInMarks op b = false := by first | exact nomark _ | rfl) : PTD X T W χ (.Compare a [op] [b] pos) δ w κ :=
  fun F σ S H Q hE hW hX hK => wp_pt (pt_cmpR ho (pe_wp a) (pe_wp b) hm) (two (κ := fun d w' => ∃ b, d = B b ∧ κ b w') h hE hW hX fun d w' v S' H' k s1 W1 r => by
    obtain ⟨b, rfl, k⟩ := k
    have rv : v = .bl b := r
    exact ⟨b, rv, hK b w' S' H' k s1 W1⟩)
theorem ptd_not {e : Expr} {κ : Bool → Wp → Prop} (h : PTD X T W χ e δ w fun b w' => κ (!b) w') : PTD X T W χ (.UnaryOp .Not e pos) δ w κ :=
  fun F σ S H Q hE hW hX hK => wp_pt (pt_not (pt_wp e)) (by
    refine h F σ S H _ hE hW hX fun b w' S' H' k s1 W1 => ?_
    exact hK _ w' S' H' k s1 W1)
theorem pwd_pt {e : Expr} {κ : Bool → Wp → Prop} (h : PWD X T W χ e δ w κ) : PTD X T W χ e δ w κ := fun F σ S H Q hE hW hX hK pins s I => h F σ S H Q hE hW hX hK _ pins s I
theorem pwd_and1 {a : Expr} {κ : Bool → Wp → Prop} (h : PTD X T W χ a δ w κ) : PWD X T W χ (.BoolOp .And [a] pos) δ w κ := fun F σ S H Q hE hW hX hK whole pins s I =>
  (pw_and1 (pt_wp a)).run whole pins s σ H Q I (h F σ S H Q hE hW hX hK)
theorem pwd_or1 {a : Expr} {κ : Bool → Wp → Prop} (h : PTD X T W χ a δ w κ) : PWD X T W χ (.BoolOp .Or [a] pos) δ w κ := fun F σ S H Q hE hW hX hK whole pins s I =>
  (pw_or1 (pt_wp a)).run whole pins s σ H Q I (h F σ S H Q hE hW hX hK)
def wpW (X : Cx) (e : Expr) : TT := fun σ H Q => ∀ whole pins s, Inv X pins σ H s → wpAny (model X.prog X.w) X.A (isTrue e X.env whole) (TP X pins σ Q) X.xe s
theorem pw_wp (e : Expr) : PW X e (wpW X e) := ⟨fun whole pins s _ _ _ I h => h whole pins s I⟩
theorem pwd_and {a b : Expr} {rest : List Expr} {κ : Bool → Wp → Prop} (h : PTD X T W χ a δ w fun c w1 => if c = true then PWD X T W χ (.BoolOp .And (b :: rest) pos) δ w1 κ else κ false w1) : PWD X T W χ (.BoolOp .And (a :: b :: rest) pos) δ w κ :=
  fun F σ S H Q hE hW hX hK whole pins s I => (pw_and (pt_wp a) (pw_wp _)).run whole pins s σ H Q I (by
    refine h F σ S H _ hE hW hX fun c w1 S1 H1 k s1 W1 => ?_
    cases c with
    | true =>
      rw [if_pos rfl] at k ⊢
      exact fun whole pins s I => k F σ S1 H1 Q (hE.mono s1) W1 (hX.mono s1) (hK.mono s1) whole pins s I
    | false =>
      rw [if_neg Bool.false_ne_true] at k ⊢
      exact hK _ w1 S1 H1 k s1 W1)
theorem pwd_or {a b : Expr} {rest : List Expr} {κ : Bool → Wp → Prop} (h : PTD X T W χ a δ w fun c w1 => if c = true then κ true w1 else PWD X T W χ (.BoolOp .Or (b :: rest) pos) δ w1 κ) : PWD X T W χ (.BoolOp .Or (a :: b :: rest) pos) δ w κ :=
  fun F σ S H Q hE hW hX hK whole pins s I => (pw_or (pt_wp a) (pw_wp _)).run whole pins s σ H Q I (by
    refine h F σ S H _ hE hW hX fun c w1 S1 H1 k s1 W1 => ?_
    cases c with
    | true =>
      rw [if_pos rfl] at k ⊢
      exact hK _ w1 S1 H1 k s1 W1
    | false =>
      rw [if_neg Bool.false_ne_true] at k ⊢
      exact fun whole pins s I => k F σ S1 H1 Q (hE.mono s1) W1 (hX.mono s1) (hK.mono s1) whole pins s I)
/-- and, or as values -/
theorem pd_and {a b : Expr} {rest : List Expr} {κ : D → Wp → Prop} (h : PD X T W χ a δ w fun d w1 => ∃ c, d = B c ∧ if c = true then PD X T W χ (.BoolOp .And (b :: rest) pos) δ w1 κ else κ (B false) w1) : PD X T W χ (.BoolOp .And (a :: b :: rest) pos) δ w κ :=
  fun F σ S H Q hE hW hX hK => wp_pe (pe_and (pe_wp a) (pe_wp _)) (by
    refine h F σ S H _ hE hW hX fun d w1 v S1 H1 k s1 W1 r => ?_
    obtain ⟨c, rfl, k⟩ := k
    have rv : v = .bl c := r
    refine ⟨c, rv, ?_⟩
    cases c with
    | true =>
      rw [if_pos rfl] at k ⊢
      exact k F σ S1 H1 Q (hE.mono s1) W1 (hX.mono s1) (hK.mono s1)
    | false =>
      rw [if_neg Bool.false_ne_true] at k ⊢
      exact hK _ w1 _ S1 H1 k s1 W1 rfl)
theorem pd_or {a b : Expr} {rest : List Expr} {κ : D → Wp → Prop} (h : PD X T W χ a δ w fun d w1 => ∃ c, d = B c ∧ if c = true then κ (B true) w1 else PD X T W χ (.BoolOp .Or (b :: rest) pos) δ w1 κ) : PD X T W χ (.BoolOp .Or (a :: b :: rest) pos) δ w κ :=
  fun F σ S H Q hE hW hX hK => wp_pe (pe_or (pe_wp a) (pe_wp _)) (by
    refine h F σ S H _ hE hW hX fun d w1 v S1 H1 k s1 W1 r => ?_
    obtain ⟨c, rfl, k⟩ := k
    have rv : v = .bl c := r
    refine ⟨c, rv, ?_⟩
    cases c with
    | true =>
      rw [if_pos rfl] at k ⊢
      exact hK _ w1 _ S1 H1 k s1 W1 rfl
    | false =>
      rw [if_neg Bool.false_ne_true] at k ⊢
      exact k F σ S1 H1 Q (hE.mono s1) W1 (hX.mono s1) (hK.mono s1))
theorem pd_one {op : BoolOp} {a : Expr} {κ : D → Wp → Prop} (h : PD X T W χ a δ w κ) : PD X T W χ (.BoolOp op [a] pos) δ w κ := fun F σ S H Q hE hW hX hK => wp_pe (pe_one (pe_wp a)) (h F σ S H Q hE hW hX hK)
theorem pd_not {a : Expr} {κ : D → Wp → Prop} (h : PD X T W χ a δ w fun d w1 => ∃ c, d = B c ∧ κ (B (!c)) w1) : PD X T W χ (.UnaryOp .Not a pos) δ w κ := fun F σ S H Q hE hW hX hK => wp_pe (pe_not (pe_wp a)) (by
  refine h F σ S H _ hE hW hX fun d w1 v S1 H1 k s1 W1 r => ?_
  obtain ⟨c, rfl, k⟩ := k
  have rv : v = .bl c := r
  exact ⟨c, rv, hK _ w1 _ S1 H1 k s1 W1 rfl⟩)
theorem pd_if {c a b : Expr} {κ : D → Wp → Prop} (h : PTD X T W χ c δ w fun k w1 => if k = true then PD X T W χ a δ w1 κ else PD X T W χ b δ w1 κ) : PD X T W χ (.IfExp c a b pos) δ w κ := fun F σ S H Q hE hW hX hK => wp_pe (pe_ifExp (pt_wp c) (pe_wp a) (pe_wp b)) (by
  refine h F σ S H _ hE hW hX fun k w1 S1 H1 q s1 W1 => ?_
  cases k with
  | true =>
    rw [if_pos rfl] at q ⊢
    exact q F σ S1 H1 Q (hE.mono s1) W1 (hX.mono s1) (hK.mono s1)
  | false =>
    rw [if_neg Bool.false_ne_true] at q ⊢
    exact q F σ S1 H1 Q (hE.mono s1) W1 (hX.mono s1) (hK.mono s1))
/-! ### displays -/
theorem pd_lst {es : List Expr} {κ : D → Wp → Prop} (h : PAD X T W χ es δ w fun ds w1 => ds.length ≤ sizeLine ∧ κ (.lst ds) w1) : PD X T W χ (.List es pos) δ w κ := fun F σ S H Q hE hW hX hK => wp_pe (pe_lst (pa_wp es)) (by
  refine h F σ S H _ hE hW hX fun ds w1 vs S1 H1 k s1 W1 r => ?_
  refine ⟨by rw [r.length]; exact k.1, fun p hp => ?_⟩
  have s2 : Same S1 (upd S1 p (.lst vs)) := same_upd (W1.free hp).1
  exact hK _ w1 _ _ _ k.2 (s1.trans s2) (W1.laid hp fun _ z => by cases z) ⟨p, vs, rfl, upd_same, r.mono s2⟩)
/-- an owned list -/
theorem pd_lstO {es : List Expr} {κ : D → Wp → Prop} (h : PAD X T W χ es δ w fun ds w1 => ds.length ≤ sizeLine ∧ ∀ a, w1 a = none → κ (R a) (wu w1 a (.lst ds))) : PD X T W χ (.List es pos) δ w κ := fun F σ S H Q hE hW hX hK => wp_pe (pe_lst (pa_wp es)) (by
  refine h F σ S H _ hE hW hX fun ds w1 vs S1 H1 k s1 W1 r => ?_
  refine ⟨by rw [r.length]; exact k.1, fun p hp => ?_⟩
  exact hK _ _ _ _ _ (k.2 p (W1.free hp).2.1) s1 (W1.take hp ⟨vs, rfl, r⟩) rfl)
theorem pd_tup {es : List Expr} {x1 : Nat} {κ : D → Wp → Prop} (h : PAD X T W χ es δ w fun ds w1 => ds.length ≤ sizeLine ∧ κ (.tup ds) w1) : PD X T W χ (.Tuple es x1 pos) δ w κ := fun F σ S H Q hE hW hX hK => wp_pe (pe_tup (pa_wp es)) (by
  refine h F σ S H _ hE hW hX fun ds w1 vs S1 H1 k s1 W1 r => ?_
  refine ⟨by rw [r.length]; exact k.1, fun p hp => ?_⟩
  have s2 : Same S1 (upd S1 p (.tup vs)) := same_upd (W1.free hp).1
  exact hK _ w1 _ _ _ k.2 (s1.trans s2) (W1.laid hp fun _ z => by cases z) ⟨p, vs, rfl, upd_same, r.mono s2⟩)
/-! ### blocks and small statements -/
theorem pssd_nil {C : Fin} (k : C.nx δ w) : PSsD X T W χ [] δ w C := fun F σ S H E hE hW hX hK => wp_pss pss_nil (hK.nx δ w σ S H k (Same.refl _) hE hW)
theorem pssd_cons {st : Stmt} {rest : List Stmt} {C : Fin} (h : PSD X T W χ st δ w { C with nx := fun δ' w' => PSsD X T W χ rest δ' w' C }) : PSsD X T W χ (st :: rest) δ w C := fun F σ S H E hE hW hX hK => wp_pss (pss_cons (ps_wp st) (pss_wp rest)) (by
  refine h F σ S H _ hE hW hX ⟨fun δ' w' σ' S' H' k s1 hE1 W1 => ?_, hK.rt, hK.bk, hK.ct⟩
  exact k F σ' S' H' E hE1 W1 (hX.mono s1) (hK.mono s1))
theorem pssd_one {st : Stmt} {C : Fin} (h : PSD X T W χ st δ w C) : PSsD X T W χ [st] δ w C := fun F σ S H E hE hW hX hK => wp_pss (pss_one (ps_wp st)) (h F σ S H E hE hW hX hK)
theorem psd_pass {C : Fin} (k : C.nx δ w) : PSD X T W χ (.Pass pos) δ w C := fun F σ S H E hE hW hX hK => wp_ps ps_pass (hK.nx δ w σ S H k (Same.refl _) hE hW)
theorem psd_break {C : Fin} (k : C.bk δ w) : PSD X T W χ (.Break pos) δ w C := fun F σ S H E hE hW hX hK => wp_ps ps_break (hK.bk δ w σ S H k (Same.refl _) hE hW)
theorem psd_cont {C : Fin} (k : C.ct δ w) : PSD X T W χ (.Continue pos) δ w C := fun F σ S H E hE hW hX hK => wp_ps ps_continue (hK.ct δ w σ S H k (Same.refl _) hE hW)
theorem psd_ret {e : Expr} {C : Fin} (h : PD X T W χ e δ w C.rt) : PSD X T W χ (.Return (some e) pos) δ w C := fun F σ S H E hE hW hX hK => wp_ps (ps_ret (pe_wp e)) (h F σ S H _ hE hW (hX σ) hK.rt)
theorem psd_retN {C : Fin} (k : C.rt N w) : PSD X T W χ (.Return none pos) δ w C := fun F σ S H E hE hW hX hK => wp_ps ps_retN (hK.rt N w _ S H k (Same.refl _) hW rfl)
theorem psd_expr {e : Expr} {C : Fin} (h : PD X T W χ e δ w fun _ w' => C.nx δ w') (hs : swapsWith e none pos.line X.env = pure false := by rfl) : PSD X T W χ (.Expr e pos) δ w C := fun F σ S H E hE hW hX hK => wp_ps (ps_expr (pe_wp e) hs) (by
  refine h F σ S H _ hE hW (hX σ) fun d w' v S' H' k s1 W1 r => ?_
  exact hK.nx δ w' σ S' H' k s1 (hE.mono s1) W1)
theorem psd_if {c : Expr} {a b : List Stmt} {C : Fin} (h : PTD X T W χ c δ w fun k w1 => if k = true then PSsD X T W χ a δ w1 C else PSsD X T W χ b δ w1 C) : PSD X T W χ (.If c a b pos) δ w C := fun F σ S H E hE hW hX hK => wp_ps (ps_if (pt_wp c) (pss_wp a) (pss_wp b)) (by
  refine h F σ S H _ hE hW (hX σ) fun k w1 S1 H1 q s1 W1 => ?_
  cases k with
  | true =>
    rw [if_pos rfl] at q ⊢
    exact q F σ S1 H1 E (hE.mono s1) W1 (hX.mono s1) (hK.mono s1)
  | false =>
    rw [if_neg Bool.false_ne_true] at q ⊢
    exact q F σ S1 H1 E (hE.mono s1) W1 (hX.mono s1) (hK.mono s1))
/-! ### targets -/
theorem pgd_name {i : Nat} {x : Str} {d : D} {κ : Dn → Wp → Prop} (hN : X.N.Nodup) (hi : X.N[i]? = some x) (k : κ (δ.set i (some d)) w) (hx : Loc X.env.scope x := by first | exact .inl rfl | exact .inr rfl)
    (hf : X.fn x = true ∨ X.env.scope.names.lookup x = some .local := by first | exact .inl rfl | exact .inr rfl) : PGD X T (.Name x pos) d δ w κ := fun F v σ S H Q r hE hW hK => wp_pg (pg_name hN hi hx hf) (hK _ w _ S H k (Same.refl _) (hE.set i r) hW)
theorem psd_set {i : Nat} {x : Str} {e : Expr} {pos' : Pos} {C : Fin} (hN : X.N.Nodup) (hi : X.N[i]? = some x) (h : PD X T W χ e δ w fun d w' => C.nx (δ.set i (some d)) w') (hx : Loc X.env.scope x := by first | exact .inl rfl | exact .inr rfl)
    (hs : swapsWith e (some (.Name x pos')) pos.line X.env = pure false := by rfl) (hf : X.fn x = true ∨ X.env.scope.names.lookup x = some .local := by first | exact .inl rfl | exact .inr rfl) : PSD X T W χ (.Assign [.Name x pos'] e pos) δ w C :=
  fun F σ S H E hE hW hX hK => wp_ps (ps_set hN hi hx (pe_wp e) hs hf) (by
    refine h F σ S H _ hE hW (hX σ) fun d w' v S' H' k s1 W1 r => ?_
    exact hK.nx _ w' _ S' H' k s1 ((hE.mono s1).set i r) W1)
/-- o[i] = e, an owned list -/
def VRS (K : PySem.W.Frag) (T : List (Addr × Str)) (t : TSet) (o i d : D) (w : Wp) (κ : Wp → Prop) : Prop :=
  ∀ (F S H : Hp) (x y v : V) (Q : Hp → Prop), World K T S w F H → Rep K S o x → Rep K S i y → Rep K S d v → (∀ w' S' H', κ w' → Same S S' → World K T S' w' F H' → Q H') → t x y v H Q
theorem psd_sub {o i e : Expr} {t : TSet} {tp : Pos} {C : Fin} (hs : PSet X t) (h : PD X T W χ e δ w fun d w1 => PD X T W χ o δ w1 fun od w2 => PD X T W χ i δ w2 fun id w3 => VRS X.K T t od id d w3 fun w' => C.nx δ w')
    (h1 : swapsWithSole [.Subscript o i tp] e pos.line X.env = pure false := by rfl) (h2 : swappedStores [.Subscript o i tp] e X.env = pure none := by rfl) (h3 : (assignEach [.Subscript o i tp] X.env).map (·.2) = [assign (.Subscript o i tp) X.env] := by rfl)
    (ha : ∀ v, assign (.Subscript o i tp) X.env v = (do
      let ov ← holding [v] (eval o X.env)
      let iv ← holding [v, ov] (eval i X.env)
      standAt tp
      holding [v, ov, iv] (setItem ov iv v)
      release [v, ov, iv] []) := by intro _; rfl) : PSD X T W χ (.Assign [.Subscript o i tp] e pos) δ w C :=
  fun F σ S H E hE hW hX hK => wp_ps (ps_asg (pe_wp e) (pg_sub (pe_wp o) (pe_wp i) hs ha) h1 h2 h3) (by
    refine h F σ S H _ hE hW (hX σ) fun d w1 v S1 H1 k s1 W1 r => ?_
    refine k F σ S1 H1 _ (hE.mono s1) W1 ((hX σ).mono s1) fun od w2 x S2 H2 k2 s2 W2 r2 => ?_
    refine k2 F σ S2 H2 _ (hE.mono (s1.trans s2)) W2 ((hX σ).mono (s1.trans s2)) fun id w3 y S3 H3 k3 s3 W3 r3 => ?_
    refine k3 F S3 H3 x y v _ W3 (r2.mono s3) r3 (r.mono (s2.trans s3)) fun w' S' H' k' s' W' => ?_
    have ss := s1.trans (s2.trans (s3.trans s'))
    exact hK.nx δ w' σ S' H' k' ss (hE.mono ss) W')
/-! ### ghost steps -/
/-- an owned list stands from now on -/
theorem pssd_freeze {sts : List Stmt} {C : Fin} {a : Addr} {ds : List D} (i : Nat) (hi : δ[i]? = some (some (R a))) (hw : w a = some (.lst ds)) (h : PSsD X T W χ sts (δ.set i (some (.lst ds))) (wd w a) C) : PSsD X T W χ sts δ w C :=
  fun F σ S H E hE hW hX hK => by
    obtain ⟨o, e1, r, W1⟩ := hW.freeze hw
    obtain ⟨xs, rfl, r⟩ := r
    have s1 : Same S (upd S a (.lst xs)) := same_upd e1
    refine h F σ _ H E ((hE.mono s1).tell i hi fun v q => ?_) W1 (hX.mono s1) (hK.mono s1)
    have q' : v = .ref a := q
    exact ⟨a, xs, q', upd_same, r.mono s1⟩
end
end DL

set_option Elab.async false
set_option linter.all false
set_option maxRecDepth 100000
set_option maxHeartbeats 1000000
/-! Value rules in data; calls; loops; comprehensions; defs. -/
namespace DL
open PySem PySem.Spec PyProof.Rows L2 LamX
section
variable {K : PySem.W.Frag} {T : List (Addr × Str)} {w : Wp} {κ : D → Wp → Prop}
/-! ### numbers -/
theorem vr_I {f : Int → Int → V} {i j : Int} (k : κ (.val (f i j)) w) : VR2 K T (rI0 f) (I i) (I j) w κ := fun F S H x y Q hW r1 r2 hK => ⟨i, j, r1, r2, hK _ w _ S H k (Same.refl _) hW rfl⟩
theorem vr_IC {C : Int → Int → Prop} {f : Int → Int → V} {i j : Int} (c : C i j) (k : κ (.val (f i j)) w) : VR2 K T (rI C f) (I i) (I j) w κ := fun F S H x y Q hW r1 r2 hK => ⟨i, j, r1, r2, c, hK _ w _ S H k (Same.refl _) hW rfl⟩
theorem vr_U {f : Int → V} {i : Int} (k : κ (.val (f i)) w) : VR1 K T (rU f) (I i) w κ := fun F S H x Q hW r1 hK => ⟨i, r1, hK _ w _ S H k (Same.refl _) hW rfl⟩
theorem vr_eq {v u : V} (s : scal v u = true) (k : κ (B (decide (v = u))) w) : VR2 K T rEq (.val v) (.val u) w κ := fun F S H x y Q hW r1 r2 hK => by
  have e1 : x = v := r1
  have e2 : y = u := r2
  subst e1 e2
  exact ⟨s, hK _ w _ S H k (Same.refl _) hW rfl⟩
theorem vr_ne {v u : V} (s : scal v u = true) (k : κ (B (!decide (v = u))) w) : VR2 K T rNe (.val v) (.val u) w κ := fun F S H x y Q hW r1 r2 hK => by
  have e1 : x = v := r1
  have e2 : y = u := r2
  subst e1 e2
  exact ⟨s, hK _ w _ S H k (Same.refl _) hW rfl⟩
/-! ### is -/
def isV (d : D) (v : V) : Bool := match d with
  | .val u => decide (u = v)
  | _ => false
theorem Rep.isn {S : Hp} {d : D} {x : V} (r : Rep K S d x) (v : V) (hv : ∀ a, v ≠ .ref a) : decide (x = v) = isV d v := by
  cases d with
  | val u =>
    have e : x = u := r
    rw [e]
    rfl
  | lst ds =>
    obtain ⟨a, xs, rfl, _⟩ := r
    exact decide_eq_false fun z => hv a z.symm
  | tup ds =>
    obtain ⟨a, xs, rfl, _⟩ := r
    exact decide_eq_false fun z => hv a z.symm
  | rd ds =>
    obtain ⟨a, xs, rfl, _⟩ := r
    exact decide_eq_false fun z => hv a z.symm
  | obj C ns ds =>
    obtain ⟨a, dx, xs, rfl, _⟩ := r
    exact decide_eq_false fun z => hv a z.symm
  | exc a dd ns ds =>
    obtain ⟨ys, rfl, _⟩ := r
    exact decide_eq_false fun z => hv a z.symm
  | dic kvs =>
    obtain ⟨a, rfl, _⟩ := r
    exact decide_eq_false fun z => hv a z.symm
  | dct kvs =>
    obtain ⟨a, rfl, _⟩ := r
    exact decide_eq_false fun z => hv a z.symm
theorem vr_isN {d : D} (k : κ (B (isV d .non)) w) : VR2 K T (fun x y H Q => y = .non ∧ Q (.bl (decide (x = .non))) H) d N w κ := fun F S H x y Q hW r1 r2 hK => ⟨r2, by
  rw [r1.isn .non (fun a z => by cases z)]
  exact hK _ w _ S H k (Same.refl _) hW rfl⟩
theorem vr_notN {d : D} (k : κ (B (!isV d .non)) w) : VR2 K T (fun x y H Q => y = .non ∧ Q (.bl (!decide (x = .non))) H) d N w κ := fun F S H x y Q hW r1 r2 hK => ⟨r2, by
  rw [r1.isn .non (fun a z => by cases z)]
  exact hK _ w _ S H k (Same.refl _) hW rfl⟩
def rIsBl : R2 := fun x y H Q => ∃ b : Bool, y = .bl b ∧ Q (.bl (decide (x = .bl b))) H
theorem op_isBl {X : Cx} : OpR X (compareOp .Is) rIsBl := by
  intro pins s σ H x y v u Q I rx ry h
  obtain ⟨b, rfl, q⟩ := h
  cases (show u = Value.bool b from ry)
  have hp : ∀ v : Value, (∀ z, v ≠ .builtin z) → PySem.plainIs v (.bool b) = true := fun v hv => by
    cases v <;> first | rfl | exact absurd rfl (hv _)
  have go : ∀ c : Bool, (v == Value.bool b) = c → decide (x = V.bl b) = c := fun c e => by
    rw [← e]
    by_cases z : x = .bl b
    · subst z
      cases (show v = Value.bool b from rx)
      simp
    · have : v ≠ Value.bool b := fun z2 => by
        subst z2
        cases x <;> first | exact Value.noConfusion (show Value.bool b = _ from rx) | (obtain ⟨t, q⟩ := rx; cases q) | skip
        rename_i c
        have e2 : Value.bool b = Value.bool c := rx
        cases e2
        exact z rfl
      simp [z, this]
  refine PySem.wpAny_is_plain (hp v fun z e => ?_) ?_
  · subst e
    cases x <;> first | exact Value.noConfusion (show Value.builtin z = _ from rx) | (obtain ⟨t, q⟩ := rx; cases q)
  · refine ⟨.bl (decide (x = V.bl b)), H, I, ?_, q⟩
    show Value.bool _ = Value.bool _
    rw [go _ rfl]
theorem vr_isBl {d : D} {b : Bool} (k : κ (B (isV d (.bl b))) w) : VR2 K T rIsBl d (B b) w κ := fun F S H x y Q hW r1 r2 hK => ⟨b, r2, by
  rw [r1.isn (.bl b) (fun a z => by cases z)]
  exact hK _ w _ S H k (Same.refl _) hW rfl⟩
/-! ### lists -/
theorem ix_at {α : Type} {xs : List α} {i : Nat} {v : α} (h : xs[i]? = some v) : atI xs (i : Int) = some v := atI_nat h
theorem vr_ixL {ds : List D} {i : Nat} {d : D} (h : ds[i]? = some d) (k : κ d w) : VR2 K T (rIxL K) (.lst ds) (I (i : Int)) w κ := fun F S H x y Q hW r1 r2 hK => by
  obtain ⟨a, xs, rfl, h1, h2⟩ := r1
  obtain ⟨v, h3, h4⟩ := h2.get h
  exact ⟨a, xs, i, v, rfl, r2, SqL.of (hW.same _ _ h1), ix_at h3, hK d w v S H k (Same.refl _) hW h4⟩
theorem vr_ixT {ds : List D} {i : Nat} {d : D} (h : ds[i]? = some d) (k : κ d w) : VR2 K T (rIxT K) (.tup ds) (I (i : Int)) w κ := fun F S H x y Q hW r1 r2 hK => by
  obtain ⟨a, xs, rfl, h1, h2⟩ := r1
  obtain ⟨v, h3, h4⟩ := h2.get h
  exact ⟨a, xs, i, v, rfl, r2, SqT.of (hW.same _ _ h1), ix_at h3, hK d w v S H k (Same.refl _) hW h4⟩
/-- an item of an owned list -/
theorem vr_ixO {a : Addr} {ds : List D} {i : Nat} {d : D} (hw : w a = some (.lst ds)) (h : ds[i]? = some d) (k : κ d w) : VR2 K T (rIxL K) (R a) (I (i : Int)) w κ := fun F S H x y Q hW r1 r2 hK => by
  obtain ⟨_, _, o, h1, h2⟩ := hW.own a _ hw
  obtain ⟨xs, rfl, h2⟩ := h2
  obtain ⟨v, h3, h4⟩ := h2.get h
  exact ⟨a, xs, i, v, r1, r2, SqL.of h1, ix_at h3, hK d w v S H k (Same.refl _) hW h4⟩
/-- a store into an owned list -/
theorem vr_setO {a : Addr} {ds : List D} {i : Nat} {d : D} {κ : Wp → Prop} (hw : w a = some (.lst ds)) (h : i < ds.length) (k : κ (wu w a (.lst (ds.set i d)))) : VRS K T rSetL (R a) (I (i : Int)) d w κ := fun F S H x y v Q hW r1 r2 r3 hK => by
  obtain ⟨_, _, o, h1, h2⟩ := hW.own a _ hw
  obtain ⟨xs, rfl, h2⟩ := h2
  refine ⟨a, xs, (i : Int), i, r1, r2, h1, ?_, hK _ S _ k (Same.refl _) (hW.put hw ⟨_, rfl, h2.set i r3⟩)⟩
  rw [h2.length]
  unfold ixN
  rw [if_pos (by omega), if_pos (by omega)]
  rfl
theorem vr_cat {ds es : List D} (hz : ds.length + es.length ≤ sizeLine) (k : κ (.lst (ds ++ es)) w) : VR2 K T rCat (.lst ds) (.lst es) w κ := fun F S H x y Q hW r1 r2 hK => by
  obtain ⟨a, xs, rfl, h1, h2⟩ := r1
  obtain ⟨b, ys, rfl, h3, h4⟩ := r2
  refine ⟨a, b, xs, ys, rfl, rfl, hW.same _ _ h1, hW.same _ _ h3, by rw [h2.length, h4.length]; exact hz, fun p hp => ?_⟩
  have s1 : Same S (upd S p (.lst (xs ++ ys))) := same_upd (hW.free hp).1
  exact hK _ w _ _ _ k s1 (hW.laid hp fun _ z => by cases z) ⟨p, _, rfl, upd_same, (h2.app h4).mono s1⟩
theorem RepL.rep {S : Hp} {ds : List D} {xs : List V} (h : RepL K S ds xs) : ∀ n : Nat, RepL K S (List.replicate n ds).flatten (List.replicate n xs).flatten
  | 0 => rfl
  | n + 1 => by
    rw [List.replicate_succ, List.replicate_succ, List.flatten_cons, List.flatten_cons]
    exact h.app (RepL.rep h n)
theorem vr_rep {ds : List D} {n : Nat} (h1 : (n : Int) < 2 ^ 63) (hz : ds.length * n ≤ sizeLine) (k : κ (.lst (List.replicate n ds).flatten) w) : VR2 K T rRep (.lst ds) (I (n : Int)) w κ := fun F S H x y Q hW r1 r2 hK => by
  obtain ⟨a, xs, rfl, h3, h4⟩ := r1
  refine ⟨a, n, xs, rfl, r2, hW.same _ _ h3, by omega, h1, by rw [h4.length]; exact hz, fun p hp => ?_⟩
  have s1 : Same S (upd S p (.lst (List.replicate (n : Int).toNat xs).flatten)) := same_upd (hW.free hp).1
  exact hK _ w _ _ _ k s1 (hW.laid hp fun _ z => by cases z) ⟨p, _, rfl, upd_same, (h4.rep n).mono s1⟩
/-! ### == of data -/
mutual
def pyD : D → Option PyData
  | .val .non => some .none
  | .val (.bl b) => some (.bool b)
  | .val (.int i) => some (.int i)
  | .val (.str x) => some (.str x)
  | .val _ => none
  | .lst ds => (pyDs ds).map PyData.list
  | .tup ds => (pyDs ds).map PyData.tuple
  | .rd ds => (pyDs ds).map PyData.list
  | .obj _ _ _ => none
  | .exc _ _ _ _ => none
  | .dic _ => none
  | .dct _ => none
def pyDs : List D → Option (List PyData)
  | [] => some []
  | d :: ds => (pyD d).bind fun x => (pyDs ds).map fun xs => x :: xs
end
mutual
theorem dp_of {S H : Hp} (e : Same S H) : ∀ {d : D} {p : PyData} {x : V}, pyD d = some p → Rep K S d x → Dp K H x p
  | .val v, p, x, h, r => by
    have r' : x = v := r
    subst r'
    cases x <;> first | (cases h; constructor) | cases h
  | .lst ds, p, x, h, r => by
    obtain ⟨a, xs, rfl, h1, h2⟩ := r
    have h' : (pyDs ds).map PyData.list = some p := h
    cases q : pyDs ds with
    | none =>
      rw [q] at h'
      cases h'
    | some ps =>
      rw [q] at h'
      cases h'
      exact .lst (SqL.of (e _ _ h1)) (dp_all e q h2)
  | .tup ds, p, x, h, r => by
    obtain ⟨a, xs, rfl, h1, h2⟩ := r
    have h' : (pyDs ds).map PyData.tuple = some p := h
    cases q : pyDs ds with
    | none =>
      rw [q] at h'
      cases h'
    | some ps =>
      rw [q] at h'
      cases h'
      exact .tup (SqT.of (e _ _ h1)) (dp_all e q h2)
  | .rd ds, p, x, h, r => by
    obtain ⟨a, xs, rfl, h1, h2⟩ := r
    have h' : (pyDs ds).map PyData.list = some p := h
    cases q : pyDs ds with
    | none =>
      rw [q] at h'
      cases h'
    | some ps =>
      rw [q] at h'
      cases h'
      exact .lst (e.seq h1) (dp_all e q h2)
  | .obj _ _ _, p, x, h, r => by cases h
  | .exc _ _ _ _, p, x, h, r => by cases h
  | .dic _, p, x, h, r => by cases h
  | .dct _, p, x, h, r => by cases h
theorem dp_all {S H : Hp} (e : Same S H) : ∀ {ds : List D} {ps : List PyData} {xs : List V}, pyDs ds = some ps → RepL K S ds xs → DpAll K H xs ps
  | [], ps, xs, h, r => by
    have r' : xs = [] := r
    subst r'
    cases h
    exact .nil
  | d :: ds, ps, xs, h, r => by
    obtain ⟨y, ys, rfl, h1, h2⟩ := r
    have h' : ((pyD d).bind fun x => (pyDs ds).map fun xs => x :: xs) = some ps := h
    cases q : pyD d with
    | none =>
      rw [q] at h'
      cases h'
    | some p =>
      cases q2 : pyDs ds with
      | none =>
        rw [q, q2] at h'
        cases h'
      | some qs =>
        rw [q, q2] at h'
        cases h'
        exact .cons (dp_of e q h1) (dp_all e q2 h2)
end
theorem vr_eqD {d e : D} {p q : PyData} (hd : pyD d = some p) (he : pyD e = some q) (s1 : SeqAt.shaped p = true) (s2 : SeqAt.shaped q = true) (k : κ (B (PyData.eqv p q)) w) : VR2 K T (rEqD K) d e w κ := fun F S H x y Q hW r1 r2 hK =>
  ⟨p, q, dp_of hW.same hd r1, dp_of hW.same he r2, s1, s2, hK _ w _ S H k (Same.refl _) hW rfl⟩
theorem vr_neD {d e : D} {p q : PyData} (hd : pyD d = some p) (he : pyD e = some q) (s1 : SeqAt.shaped p = true) (s2 : SeqAt.shaped q = true) (k : κ (B (!PyData.eqv p q)) w) : VR2 K T (rNeD K) d e w κ := fun F S H x y Q hW r1 r2 hK =>
  ⟨p, q, dp_of hW.same hd r1, dp_of hW.same he r2, s1, s2, hK _ w _ S H k (Same.refl _) hW rfl⟩
/-- an owned list against data -/
theorem vr_neDO {a : Addr} {ds : List D} {e : D} {ps : List PyData} {q : PyData} (hw : w a = some (.lst ds)) (hd : pyDs ds = some ps) (he : pyD e = some q) (s1 : SeqAt.shaped (.list ps) = true) (s2 : SeqAt.shaped q = true) (k : κ (B (!PyData.eqv (.list ps) q)) w) : VR2 K T (rNeD K) (R a) e w κ := fun F S H x y Q hW r1 r2 hK => by
  obtain ⟨_, _, o, h1, h2⟩ := hW.own a _ hw
  obtain ⟨xs, rfl, h2⟩ := h2
  have r1' : x = .ref a := r1
  subst r1'
  exact ⟨.list ps, q, .lst (SqL.of h1) (dp_all hW.same hd h2 |> fun z => z), dp_of hW.same he r2, s1, s2, hK _ w _ S H k (Same.refl _) hW rfl⟩
end
section
variable {X : Cx} {T : List (Addr × Str)} {W : WX} {χ : XD} {δ : Dn} {w : Wp} {pos : Pos}
/-! ### built-ins -/
theorem pd_callB {x : Str} {id : String} {r : List V → Hp → VK → Prop} {e : Expr} {es : List Expr} {p : Pos} {κ : D → Wp → Prop} (hc : CallR X (.builtin id) r) (hg : Gl X x) (hm : X.mg x = none) (hv : bootBuiltins x = some (.builtin id))
    (h : PAD X T W χ (e :: es) δ w fun ds w1 => VRA X.K T r ds w1 κ) (hn : x ≠ "__name__" := by decide) (hdb : (x == ("__debug__" : Str)) = false := by decide)
    (he : starEach (e :: es) X.env = (false, eval e X.env) :: starEach es X.env := by rfl) (hpl : (backTo pos (starEach es X.env)).any (·.1) = false := by rfl) : PD X T W χ (.Call (.Name x p) (e :: es) [] pos) δ w κ :=
  fun F σ S H Q hE hW hX hK => wp_pe (pe_callB hc hg hm hv (pa_wp _) hn hdb he hpl) (by
    refine h F σ S H _ hE hW hX fun ds w1 vs S1 H1 k s1 W1 r1 => ?_
    exact k F S1 H1 vs _ W1 r1 (hK.mono s1))
theorem pd_callTy {x : Str} {id : String} {r : List V → Hp → VK → Prop} {e : Expr} {es : List Expr} {p : Pos} {κ : D → Wp → Prop} (hc : CallR X (.type id) r) (hg : Gl X x) (hm : X.mg x = none) (hv : bootBuiltins x = some (.type id))
    (h : PAD X T W χ (e :: es) δ w fun ds w1 => VRA X.K T r ds w1 κ) (hn : x ≠ "__name__" := by decide) (hdb : (x == ("__debug__" : Str)) = false := by decide)
    (he : starEach (e :: es) X.env = (false, eval e X.env) :: starEach es X.env := by rfl) (hpl : (backTo pos (starEach es X.env)).any (·.1) = false := by rfl) : PD X T W χ (.Call (.Name x p) (e :: es) [] pos) δ w κ :=
  fun F σ S H Q hE hW hX hK => wp_pe (pe_callTy hc hg hm hv (pa_wp _) hn hdb he hpl) (by
    refine h F σ S H _ hE hW hX fun ds w1 vs S1 H1 k s1 W1 r1 => ?_
    exact k F S1 H1 vs _ W1 r1 (hK.mono s1))
/-- a type's method -/
def TyD (K : PySem.W.Frag) (TT : String) (d : D) (w : Wp) : Prop := match d with
  | .lst _ => TT = "list"
  | .rd _ => TT = "list"
  | .val (.ref a) => TT = "list" ∧ ∃ ds, w a = some (.lst ds)
  | .val (.str _) => TT = "str"
  | _ => False
theorem TyD.is {K : PySem.W.Frag} {TT : String} {d : D} {w : Wp} {S F H : Hp} {x : V} (t : TyD K TT d w) (hW : World K T S w F H) (r : Rep K S d x) : tyV K TT x H := by
  cases d with
  | val v =>
    have e : x = v := r
    subst e
    cases x with
    | ref a =>
      obtain ⟨t, ds, hw⟩ := t
      obtain ⟨_, _, o, h1, h2⟩ := hW.own a _ hw
      obtain ⟨xs, rfl, h2⟩ := h2
      exact .inl ⟨t, xs, SqL.of h1⟩
    | str z => exact t
    | _ => exact t.elim
  | lst ds =>
    obtain ⟨a, xs, rfl, h1, h2⟩ := r
    exact .inl ⟨t, xs, SqL.of (hW.same _ _ h1)⟩
  | rd ds =>
    obtain ⟨a, xs, rfl, h1, h2⟩ := r
    exact .inl ⟨t, xs, hW.same.seq h1⟩
  | tup ds => exact t.elim
  | obj C ns ds => exact t.elim
  | exc a dd ns ds => exact t.elim
  | dic kvs => exact t.elim
  | dct kvs => exact t.elim
theorem pd_bm0 {TT id : String} {r : V → List V → Hp → VK → Prop} {o : Expr} {name : Str} {apos cpos : Pos} {κ : D → Wp → Prop} (pa : PlainAttrs TT) (slot : Slot TT name id) (hty : typeOf (.builtin id) = pure (.type "method_descriptor")) (hm : MtR X id r)
    (h : PD X T W χ o δ w fun d w1 => TyD X.K TT d w1 ∧ VRM X.K T r d [] w1 κ)
    (hbase : attributeBase o name X.env (eval o X.env) = eval o X.env := by rfl) (hline : (apos.endLine == cpos.line) = true := by rfl) : PD X T W χ (.Call (.Attribute o name apos) [] [] cpos) δ w κ :=
  fun F σ S H Q hE hW hX hK => wp_pe (pe_bm0 pa slot hty hm (pe_wp o) hbase hline) (by
    refine h F σ S H _ hE hW hX fun d w1 v S1 H1 k s1 W1 r1 => ?_
    exact ⟨k.1.is W1 r1, k.2 F S1 H1 v [] _ W1 r1 rfl (hK.mono s1)⟩)
theorem pd_bm {TT id : String} {r : V → List V → Hp → VK → Prop} {o e : Expr} {es : List Expr} {name : Str} {apos cpos : Pos} {κ : D → Wp → Prop} (pa : PlainAttrs TT) (slot : Slot TT name id) (hty : typeOf (.builtin id) = pure (.type "method_descriptor")) (hm : MtR X id r)
    (h : PD X T W χ o δ w fun d w1 => TyD X.K TT d w1 ∧ PAD X T W χ (e :: es) δ w1 fun ds w2 => VRM X.K T r d ds w2 κ)
    (hbase : attributeBase o name X.env (eval o X.env) = eval o X.env := by rfl)
    (hfew : ((backTo cpos (starEach (e :: es) X.env)).all (fun x => !x.1) && (backToKw cpos (keywordEach [] X.env)).all (fun x => x.1.isSome)
      && decide ((e :: es).length + ([] : List Keyword).length + (if ([] : List Keyword).isEmpty then 0 else 1) < 30)) = true := by rfl)
    (hline : (apos.endLine == cpos.line) = true := by rfl) (hs : starEach (e :: es) X.env = (false, eval e X.env) :: starEach es X.env := by rfl) (hplain : (backTo cpos (starEach es X.env)).any (·.1) = false := by rfl) : PD X T W χ (.Call (.Attribute o name apos) (e :: es) [] cpos) δ w κ :=
  fun F σ S H Q hE hW hX hK => wp_pe (pe_bm pa slot hty hm (pe_wp o) (pa_wp _) hbase hfew hline hs hplain) (by
    refine h F σ S H _ hE hW hX fun d w1 v S1 H1 k s1 W1 r1 => ?_
    refine ⟨k.1.is W1 r1, ?_⟩
    refine k.2 F σ S1 H1 _ (hE.mono s1) W1 (hX.mono s1) fun ds w2 vs S2 H2 k2 s2 W2 r2 => ?_
    exact k2 F S2 H2 v vs _ W2 (r1.mono s2) r2 (hK.mono (s1.trans s2)))
end
section
variable {K : PySem.W.Frag} {T : List (Addr × Str)} {w : Wp} {κ : D → Wp → Prop}
theorem va_int {i : Int} (k : κ (I i) w) : VRA K T (fun xs H Q => (∃ i, xs = [.int i] ∧ Q (.int i) H) ∨ ∃ k, xs = [.bl k] ∧ Q (.int (if k then 1 else 0)) H) [I i] w κ := fun F S H xs Q hW r hK => by
  obtain ⟨y, ys, rfl, h1, h2⟩ := r
  have h1' : y = .int i := h1
  have h2' : ys = [] := h2
  subst h1' h2'
  exact .inl ⟨i, rfl, hK _ w _ S H k (Same.refl _) hW rfl⟩
theorem va_len {ds : List D} (k : κ (I (ds.length : Int)) w) : VRA K T (fun xs H Q => ∃ p ys, xs = [.ref p] ∧ (SqL K H p ys ∨ SqT K H p ys) ∧ Q (.int ys.length) H) [.lst ds] w κ := fun F S H xs Q hW r hK => by
  obtain ⟨y, ys, rfl, h1, h2⟩ := r
  obtain ⟨a, zs, rfl, h3, h4⟩ := h1
  have h2' : ys = [] := h2
  subst h2'
  refine ⟨a, zs, rfl, .inl (SqL.of (hW.same _ _ h3)), ?_⟩
  rw [h4.length]
  exact hK _ w _ S H k (Same.refl _) hW rfl
theorem va_lenT {ds : List D} (k : κ (I (ds.length : Int)) w) : VRA K T (fun xs H Q => ∃ p ys, xs = [.ref p] ∧ (SqL K H p ys ∨ SqT K H p ys) ∧ Q (.int ys.length) H) [.tup ds] w κ := fun F S H xs Q hW r hK => by
  obtain ⟨y, ys, rfl, h1, h2⟩ := r
  obtain ⟨a, zs, rfl, h3, h4⟩ := h1
  have h2' : ys = [] := h2
  subst h2'
  refine ⟨a, zs, rfl, .inr (SqT.of (hW.same _ _ h3)), ?_⟩
  rw [h4.length]
  exact hK _ w _ S H k (Same.refl _) hW rfl
abbrev rListOf (K : PySem.W.Frag) : List V → Hp → VK → Prop := fun xs H Q => ∃ p ys, xs = [.ref p] ∧ (SqL K H p ys ∨ SqT K H p ys) ∧ ∀ l, H l = none → Q (.ref l) (upd H l (.lst ys))
theorem va_listS {ds : List D} (k : κ (.lst ds) w) : VRA K T (rListOf K) [.lst ds] w κ := fun F S H xs Q hW r hK => by
  obtain ⟨y, ys, rfl, h1, h2⟩ := r
  obtain ⟨a, zs, rfl, h3, h4⟩ := h1
  have h2' : ys = [] := h2
  subst h2'
  refine ⟨a, zs, rfl, .inl (SqL.of (hW.same _ _ h3)), fun p hp => ?_⟩
  have s1 : Same S (upd S p (.lst zs)) := same_upd (hW.free hp).1
  exact hK _ w _ _ _ k s1 (hW.laid hp fun _ z => by cases z) ⟨p, _, rfl, upd_same, h4.mono s1⟩
/-- list(xs), owned -/
theorem va_listO {ds : List D} (k : ∀ a, w a = none → κ (R a) (wu w a (.lst ds))) : VRA K T (rListOf K) [.lst ds] w κ := fun F S H xs Q hW r hK => by
  obtain ⟨y, ys, rfl, h1, h2⟩ := r
  obtain ⟨a, zs, rfl, h3, h4⟩ := h1
  have h2' : ys = [] := h2
  subst h2'
  refine ⟨a, zs, rfl, .inl (SqL.of (hW.same _ _ h3)), fun p hp => ?_⟩
  exact hK _ _ _ _ _ (k p (hW.free hp).2.1) (Same.refl _) (hW.take hp ⟨zs, rfl, h4⟩) rfl
abbrev rTupleOf (K : PySem.W.Frag) : List V → Hp → VK → Prop := fun xs H Q => ∃ p ys, xs = [.ref p] ∧ ((SqL K H p ys ∧ ∀ l, H l = none → Q (.ref l) (upd H l (.tup ys))) ∨ (SqT K H p ys ∧ Q (.ref p) H))
theorem va_tuple {ds : List D} (k : κ (.tup ds) w) : VRA K T (rTupleOf K) [.lst ds] w κ := fun F S H xs Q hW r hK => by
  obtain ⟨y, ys, rfl, h1, h2⟩ := r
  obtain ⟨a, zs, rfl, h3, h4⟩ := h1
  have h2' : ys = [] := h2
  subst h2'
  refine ⟨a, zs, rfl, .inl ⟨SqL.of (hW.same _ _ h3), fun p hp => ?_⟩⟩
  have s1 : Same S (upd S p (.tup zs)) := same_upd (hW.free hp).1
  exact hK _ w _ _ _ k s1 (hW.laid hp fun _ z => by cases z) ⟨p, _, rfl, upd_same, h4.mono s1⟩
/-! ### methods of lists -/
theorem vm_append {a : Addr} {ds : List D} {d : D} (hw : w a = some (.lst ds)) (hz : ds.length < sizeLine) (k : κ N (wu w a (.lst (ds ++ [d])))) : VRM K T rAppend (R a) [d] w κ := fun F S H x xs Q hW r1 r2 hK => by
  obtain ⟨_, _, o, h1, h2⟩ := hW.own a _ hw
  obtain ⟨zs, rfl, h2⟩ := h2
  obtain ⟨y, ys, rfl, h3, h4⟩ := r2
  have h4' : ys = [] := h4
  subst h4'
  refine ⟨a, zs, y, r1, rfl, h1, by rw [h2.length]; exact hz, ?_⟩
  exact hK _ _ _ S _ k (Same.refl _) (hW.put hw ⟨_, rfl, h2.app (RepL.one h3)⟩) rfl
theorem vm_pop0 {a : Addr} {d : D} {ds : List D} (hw : w a = some (.lst (d :: ds))) (k : κ d (wu w a (.lst ds))) : VRM K T rPopAt (R a) [I 0] w κ := fun F S H x xs Q hW r1 r2 hK => by
  obtain ⟨_, _, o, h1, h2⟩ := hW.own a _ hw
  obtain ⟨zs, rfl, h2⟩ := h2
  obtain ⟨y, ys, rfl, h3, h4⟩ := r2
  have h4' : ys = [] := h4
  have h3' : y = .int 0 := h3
  subst h4' h3'
  obtain ⟨v, vs, rfl, h5, h6⟩ := h2
  refine ⟨a, v :: vs, 0, 0, v, r1, rfl, h1, by omega, by omega, ?_, rfl, ?_⟩
  · unfold seqIndex?
    simp
  · exact hK _ _ _ S _ k (Same.refl _) (hW.put hw ⟨_, rfl, h6⟩) h5
theorem vm_pop {a : Addr} {d : D} {ds : List D} (hw : w a = some (.lst ds)) (hd : ds[ds.length - 1]? = some d) (k : κ d (wu w a (.lst ds.dropLast))) : VRM K T rPop (R a) [] w κ := fun F S H x xs Q hW r1 r2 hK => by
  obtain ⟨_, _, o, h1, h2⟩ := hW.own a _ hw
  obtain ⟨zs, rfl, h2⟩ := h2
  have r2' : xs = [] := r2
  subst r2'
  obtain ⟨v, h5, h6⟩ := h2.get hd
  rw [← h2.length] at h5
  exact ⟨a, zs, v, r1, rfl, h1, h5, hK _ _ _ S _ k (Same.refl _) (hW.put hw ⟨_, rfl, h2.dropLast⟩) h6⟩
theorem vm_reverse {a : Addr} {ds : List D} (hw : w a = some (.lst ds)) (k : κ N (wu w a (.lst ds.reverse))) : VRM K T rReverse (R a) [] w κ := fun F S H x xs Q hW r1 r2 hK => by
  obtain ⟨_, _, o, h1, h2⟩ := hW.own a _ hw
  obtain ⟨zs, rfl, h2⟩ := h2
  have r2' : xs = [] := r2
  subst r2'
  exact ⟨a, zs, r1, rfl, h1, hK _ _ _ S _ k (Same.refl _) (hW.put hw ⟨_, rfl, h2.rev⟩) rfl⟩
theorem vm_clear {a : Addr} {ds : List D} (hw : w a = some (.lst ds)) (k : κ N (wu w a (.lst []))) : VRM K T rClear (R a) [] w κ := fun F S H x xs Q hW r1 r2 hK => by
  obtain ⟨_, _, o, h1, h2⟩ := hW.own a _ hw
  obtain ⟨zs, rfl, h2⟩ := h2
  have r2' : xs = [] := r2
  subst r2'
  exact ⟨a, zs, r1, rfl, h1, hK _ _ _ S _ k (Same.refl _) (hW.put hw ⟨_, rfl, rfl⟩) rfl⟩
end
end DL

set_option Elab.async false
set_option linter.all false
set_option maxRecDepth 100000
set_option maxHeartbeats 1000000
/-! Loops, comprehensions, calls, fields, defs. -/
namespace DL
open PySem PySem.Spec PyProof.Rows L2 LamX
/-! ### iteration -/
section
variable (X : Cx) (T : List (Addr × Str)) (W : WX) (χ : XD)
def IterD (tg iter : Expr) (δ : Dn) (w : Wp) (κ : List D → Wp → Prop) : Prop :=
  ∃ wi, PI X tg iter wi ∧ ∀ (F : Hp) (σ : L2.St) (S H : Hp) (R : It → Hp → Prop), EnvD X.K S δ σ → World X.K T S w F H → ExD X.K T W χ σ S F →
    (∀ (ds : List D) (w1 : Wp) (S1 H1 : Hp) (J : It) (G : Hp → Prop) (Y : Nat → Hp → V → Hp → Prop), κ ds w1 → Same S S1 → World X.K T S1 w1 F H1 → Walk J ds.length G Y →
      (∀ S2 w2 F2 H2, Same S1 S2 → World X.K T S2 w2 F2 H2 → G H2) →
      (∀ (i : Nat) (d : D) S2 w2 F2 H2 x H3, ds[i]? = some d → Same S1 S2 → World X.K T S2 w2 F2 H2 → Y i H2 x H3 → ∃ S3, Same S2 S3 ∧ World X.K T S3 w2 F2 H3 ∧ Rep X.K S3 d x) → R J H1) → wi σ H R
end
section
variable {X : Cx} {T : List (Addr × Str)} {W : WX} {χ : XD} {δ : Dn} {w : Wp} {pos : Pos}
theorem it_list {tg e : Expr} {κ : List D → Wp → Prop} (h : PD X T W χ e δ w fun d w1 => ∃ ds, d = .lst ds ∧ κ ds w1) : IterD X T W χ tg e δ w κ :=
  ⟨_, pi_list (pe_wp e), fun F σ S H R hE hW hX hK => by
    refine h F σ S H _ hE hW hX fun d w1 v S1 H1 k s1 W1 r => ?_
    obtain ⟨ds, rfl, k⟩ := k
    obtain ⟨a, xs, rfl, h1, h2⟩ := r
    refine ⟨a, rfl, ⟨xs, SqL.of (W1.same _ _ h1)⟩, ?_⟩
    have ww := walk_list (K := X.K) (a := a) (xs := xs)
    rw [h2.length] at ww
    refine hK ds w1 S1 H1 _ _ _ k s1 W1 ww (fun S2 w2 F2 H2 s2 W2 => SqL.of (W2.same _ _ (s2 _ _ h1))) fun i d S2 w2 F2 H2 x H3 hd s2 W2 y => ?_
    obtain ⟨rfl, hx⟩ := y
    obtain ⟨v, h3, h4⟩ := h2.get hd
    rw [hx] at h3
    cases h3
    exact ⟨S2, Same.refl _, W2, h4.mono s2⟩⟩
theorem it_rd {tg e : Expr} {κ : List D → Wp → Prop} (h : PD X T W χ e δ w fun d w1 => ∃ ds, d = .rd ds ∧ κ ds w1) : IterD X T W χ tg e δ w κ :=
  ⟨_, pi_list (pe_wp e), fun F σ S H R hE hW hX hK => by
    refine h F σ S H _ hE hW hX fun d w1 v S1 H1 k s1 W1 r => ?_
    obtain ⟨ds, rfl, k⟩ := k
    obtain ⟨a, xs, rfl, h1, h2⟩ := r
    refine ⟨a, rfl, ⟨xs, W1.same.seq h1⟩, ?_⟩
    have ww := walk_list (K := X.K) (a := a) (xs := xs)
    rw [h2.length] at ww
    refine hK ds w1 S1 H1 _ _ _ k s1 W1 ww (fun S2 w2 F2 H2 s2 W2 => W2.same.seq (s2.seq h1)) fun i d S2 w2 F2 H2 x H3 hd s2 W2 y => ?_
    obtain ⟨rfl, hx⟩ := y
    obtain ⟨v, h3, h4⟩ := h2.get hd
    rw [hx] at h3
    cases h3
    exact ⟨S2, Same.refl _, W2, h4.mono s2⟩⟩
theorem it_tup {tg e : Expr} {κ : List D → Wp → Prop} (h : PD X T W χ e δ w fun d w1 => ∃ ds, d = .tup ds ∧ κ ds w1) : IterD X T W χ tg e δ w κ :=
  ⟨_, pi_tup (pe_wp e), fun F σ S H R hE hW hX hK => by
    refine h F σ S H _ hE hW hX fun d w1 v S1 H1 k s1 W1 r => ?_
    obtain ⟨ds, rfl, k⟩ := k
    obtain ⟨a, xs, rfl, h1, h2⟩ := r
    refine ⟨a, rfl, ⟨xs, SqT.of (W1.same _ _ h1)⟩, ?_⟩
    have ww := walk_tup (K := X.K) (a := a) (xs := xs)
    rw [h2.length] at ww
    refine hK ds w1 S1 H1 _ _ _ k s1 W1 ww (fun S2 w2 F2 H2 s2 W2 => SqT.of (W2.same _ _ (s2 _ _ h1))) fun i d S2 w2 F2 H2 x H3 hd s2 W2 y => ?_
    obtain ⟨rfl, hx⟩ := y
    obtain ⟨v, h3, h4⟩ := h2.get hd
    rw [hx] at h3
    cases h3
    exact ⟨S2, Same.refl _, W2, h4.mono s2⟩⟩
def ups (n : Nat) : List D := (List.range n).map fun (k : Nat) => I (k : Int)
theorem ups_len (n : Nat) : (ups n).length = n := by unfold ups; rw [List.length_map, List.length_range]
theorem ups_at {n i : Nat} {d : D} (h : (ups n)[i]? = some d) : i < n ∧ d = I (i : Int) := by
  unfold ups at h
  rw [List.getElem?_map] at h
  by_cases hi : i < n
  · rw [List.getElem?_range hi] at h
    exact ⟨hi, (Option.some.inj h).symm⟩
  · rw [List.getElem?_eq_none (by simpa using hi)] at h
    cases h
/-- range(n), n known not to be below 0 -/
theorem it_range {tg e : Expr} {p : Pos} {κ : List D → Wp → Prop} (hm : X.mg "range" = none) (h : PD X T W χ e δ w fun d w1 => ∃ n : Nat, d = I (n : Int) ∧ (n : Int) < 2 ^ 62 ∧ κ (ups n) w1)
    (hg : Gl X "range" := by rfl) (he : starEach [e] X.env = [(false, eval e X.env)] := by rfl) : IterD X T W χ tg (.Call (.Name "range" p) [e] [] pos) δ w κ :=
  ⟨_, pi_range1 hg hm (pa_wp [e]) he, fun F σ S H R hE hW hX hK => by
    have ha : PAD X T W χ [e] δ w fun ds w1 => ∃ n : Nat, ds = [I (n : Int)] ∧ (n : Int) < 2 ^ 62 ∧ κ (ups n) w1 := pad_cons (h.imp fun d w1 ⟨n, e1, h1, k⟩ => pad_nil ⟨n, by rw [e1], h1, k⟩) he
    refine ha F σ S H _ hE hW hX fun ds w1 vs S1 H1 k s1 W1 r => ?_
    obtain ⟨n, rfl, hn, k⟩ := k
    obtain ⟨y, ys, rfl, h1, h2⟩ := r
    have h1' : y = .int n := h1
    have h2' : ys = [] := h2
    subst h1' h2'
    refine ⟨n, rfl, by omega, by omega, ?_⟩
    have ww := walk_range (lo := 0) (n := n)
    have en : ((n : Int)).toNat = n := Int.toNat_natCast n
    rw [en]
    refine hK (ups n) w1 S1 H1 _ (fun _ => True) (YFn fun i => .int (0 + i)) k s1 W1 (by rw [ups_len]; exact ww) (fun S2 w2 F2 H2 s2 W2 => True.intro) fun i d S2 w2 F2 H2 x H3 hd s2 W2 y => ?_
    obtain ⟨rfl, hx⟩ := y
    obtain ⟨_, rfl⟩ := ups_at hd
    refine ⟨S2, Same.refl _, W2, ?_⟩
    show x = .int (i : Int)
    rw [hx]
    show V.int (0 + (i : Int)) = _
    rw [Int.zero_add]⟩
def pairs (ds : List D) : List D := (List.range ds.length).zipWith (fun (k : Nat) d => .tup [I (k : Int), d]) ds
theorem pairs_len (ds : List D) : (pairs ds).length = ds.length := by unfold pairs; rw [List.length_zipWith, List.length_range, Nat.min_self]
theorem pairs_at {ds : List D} {i : Nat} {d : D} (h : (pairs ds)[i]? = some d) : ∃ e, ds[i]? = some e ∧ d = .tup [I (i : Int), e] := by
  have hi : i < ds.length := by
    have := (List.getElem?_eq_some_iff.mp h).1
    rwa [pairs_len] at this
  refine ⟨ds[i], List.getElem?_eq_getElem hi, ?_⟩
  unfold pairs at h
  rw [List.getElem?_zipWith, List.getElem?_range hi, List.getElem?_eq_getElem hi] at h
  exact (Option.some.inj h).symm
/-- enumerate(xs) -/
theorem it_enum {elts : List Expr} {kk : Nat} {tpos : Pos} {e : Expr} {p : Pos} {κ : List D → Wp → Prop} (hm : X.mg "enumerate" = none) (h : PD X T W χ e δ w fun d w1 => ∃ ds, d = .lst ds ∧ κ (pairs ds) w1)
    (hg : Gl X "enumerate" := by rfl) (he : starEach [e] X.env = [(false, eval e X.env)] := by rfl) : IterD X T W χ (.Tuple elts kk tpos) (.Call (.Name "enumerate" p) [e] [] pos) δ w κ :=
  ⟨_, pi_enum hg hm (pa_wp [e]) he, fun F σ S H R hE hW hX hK => by
    have ha : PAD X T W χ [e] δ w fun ds w1 => ∃ es, ds = [.lst es] ∧ κ (pairs es) w1 := pad_cons (h.imp fun d w1 ⟨es, e1, k⟩ => pad_nil ⟨es, by rw [e1], k⟩) he
    refine ha F σ S H _ hE hW hX fun ds w1 vs S1 H1 k s1 W1 r => ?_
    obtain ⟨es, rfl, k⟩ := k
    obtain ⟨y, ys, rfl, h1, h2⟩ := r
    obtain ⟨a, xs, rfl, h3, h4⟩ := h1
    have h2' : ys = [] := h2
    subst h2'
    refine ⟨a, xs, rfl, SqL.of (W1.same _ _ h3), ?_⟩
    have ww := walk_enum (K := X.K) (a := a) (xs := xs)
    rw [h4.length] at ww
    refine hK (pairs es) w1 S1 H1 _ _ _ k s1 W1 (by rw [pairs_len]; exact ww) (fun S2 w2 F2 H2 s2 W2 => SqL.of (W2.same _ _ (s2 _ _ h3))) fun i d S2 w2 F2 H2 x H3 hd s2 W2 y => ?_
    obtain ⟨t, x1, x2, rfl, nt, rfl, f1, f2⟩ := y
    obtain ⟨e, he, rfl⟩ := pairs_at hd
    obtain ⟨v, h5, h6⟩ := h4.get he
    have f2' : xs[i]? = some x2 := f2
    rw [h5] at f2'
    cases f2'
    cases f1
    have s3 : Same S2 (upd S2 t (.tup [.int (i : Int), x2])) := same_upd (W2.free nt).1
    exact ⟨_, s3, W2.laid nt fun _ z => (by cases z), t, _, rfl, upd_same, V.int i, [x2], rfl, rfl, x2, [], rfl, (h6.mono s2).mono s3, rfl⟩⟩
/-! ### for -/
theorem psd_for {tg iter : Expr} {body : List Stmt} {C : Fin} (hp : PassesOwn (model X.prog X.w) X.A X.env X.xe) (hc : X.calm = true)
    (h : IterD X T W χ tg iter δ w (fun ds w1 => ∃ Pv : Nat → Dn → Wp → Prop, Pv 0 δ w1 ∧
      (∀ (i : Nat) (d : D) δ' w', ds[i]? = some d → Pv i δ' w' → PGD X T tg d δ' w' fun δ2 w2 => PSsD X T W χ body δ2 w2 { nx := Pv (i + 1), rt := C.rt, bk := C.nx, ct := Pv (i + 1) }) ∧
      ∀ δ' w', Pv ds.length δ' w' → C.nx δ' w'))
    (hs : ∀ x, foldedSetIterable iter X.env x = pure x := by intro _; rfl) : PSD X T W χ (.For tg iter body [] pos) δ w C := fun F σ S H E hE hW hX hK => by
  obtain ⟨wi, hi, h⟩ := h
  refine wp_ps (ps_for hp hc hi (pg_wp tg) (pss_wp body) hs) ?_
  refine h F σ S H _ hE hW (hX σ) fun ds w1 S1 H1 J G Y k s1 W1 ww hG hY => ?_
  obtain ⟨Pv, p0, turn, done⟩ := k
  refine for_it ww (D := E) (fun i σ' H' => ∃ δ' w' S', Pv i δ' w' ∧ Same S1 S' ∧ EnvD X.K S' δ' σ' ∧ World X.K T S' w' F H') ⟨δ, w1, S1, p0, Same.refl _, hE.mono s1, W1⟩ (fun i σ' H' _ ⟨δ', w', S', _, s2, _, W2⟩ => hG S' w' F H' s2 W2) ?_ ?_
  · rintro i x σ' H' H3 hi ⟨δ', w', S', pv, s2, hE2, W2⟩ y
    obtain ⟨S3, s3, W3, r⟩ := hY i ds[i] S' w' F H' x H3 (List.getElem?_eq_getElem hi) s2 W2 y
    refine turn i ds[i] δ' w' (List.getElem?_eq_getElem hi) pv F x σ' S3 H3 _ r (hE2.mono s3) W3 fun δ2 w2 σ2 S4 H4 k s4 hE4 W4 => ?_
    have ss := s1.trans (s2.trans (s3.trans s4))
    refine k F σ2 S4 H4 _ hE4 W4 (hX.mono ss) ⟨fun δ5 w5 σ5 S5 H5 k5 s5 hE5 W5 => ⟨δ5, w5, S5, k5, s2.trans (s3.trans (s4.trans s5)), hE5, W5⟩, hK.rt.mono ss, hK.nx.mono ss, fun δ5 w5 σ5 S5 H5 k5 s5 hE5 W5 => ⟨δ5, w5, S5, k5, s2.trans (s3.trans (s4.trans s5)), hE5, W5⟩⟩
  · rintro σ' H' ⟨δ', w', S', pv, s2, hE2, W2⟩
    exact hK.nx δ' w' σ' S' H' (done δ' w' pv) (s1.trans s2) hE2 W2
/-! ### targets that touch only some slots -/
def PGL (X : Cx) (T : List (Addr × Str)) (is : List Nat) (tg : Expr) (d : D) (δ : Dn) (w : Wp) (κ : Dn → Wp → Prop) : Prop :=
  ∀ (F : Hp) (v : V) (σ : L2.St) (S H : Hp) (Q : L2.St → Hp → Prop), Rep X.K S d v → EnvD X.K S δ σ → World X.K T S w F H →
    (∀ δ' w' σ' S' H', κ δ' w' → Same S S' → EnvD X.K S' δ' σ' → World X.K T S' w' F H' → (∀ j, j ∉ is → σ'[j]? = σ[j]?) → σ'.length = σ.length → Q σ' H') → wpG X tg v σ H Q
theorem PGL.pgd {is : List Nat} {tg : Expr} {d : D} {κ : Dn → Wp → Prop} (h : PGL X T is tg d δ w κ) : PGD X T tg d δ w κ := fun F v σ S H Q r hE hW hK => h F v σ S H Q r hE hW fun δ' w' σ' S' H' k s e W _ _ => hK δ' w' σ' S' H' k s e W
theorem pgl_name {i : Nat} {x : Str} {d : D} {κ : Dn → Wp → Prop} (hN : X.N.Nodup) (hi : X.N[i]? = some x) (k : κ (δ.set i (some d)) w) (hx : Loc X.env.scope x := by first | exact .inl rfl | exact .inr rfl)
    (hf : X.fn x = true ∨ X.env.scope.names.lookup x = some .local := by first | exact .inl rfl | exact .inr rfl) : PGL X T [i] (.Name x pos) d δ w κ := fun F v σ S H Q r hE hW hK => wp_pg (pg_name hN hi hx hf) (hK _ w _ S H k (Same.refl _) (hE.set i r) hW (fun j hj => by
  rw [List.getElem?_set_ne (fun z => hj (by rw [z]; exact List.mem_singleton.mpr rfl))]) (by rw [List.length_set]))
theorem pgl_two {i j : Nat} {a b : Expr} {k0 : Nat} {d e : D} {κ : Dn → Wp → Prop} (hc : X.calm = true) (h : PGL X T [i] a d δ w fun δ1 w1 => PGL X T [j] b e δ1 w1 κ)
    (hs1 : (assignEach [a, b] X.env).map (·.2) = assign a X.env :: (assignEach [b] X.env).map (·.2) := by rfl) (hs2 : (assignEach [b] X.env).map (·.2) = assign b X.env :: (assignEach [] X.env).map (·.2) := by rfl)
    (hn : (assignEach [a, b] X.env).length = 2 := by rfl) (hst : (assignEach [a, b] X.env).findIdx? (·.1) = none := by rfl) : PGL X T [i, j] (.Tuple [a, b] k0 pos) (.tup [d, e]) δ w κ := fun F v σ S H Q r hE hW hK => by
  refine wp_pg (pg_tup hc (pgs_cons (pg_wp a) (pgs_cons (pg_wp b) pgs_nil hs2) hs1) hn hst) ?_
  obtain ⟨t, xs, rfl, h1, y, ys, rfl, h2, z, zs, rfl, h3, h4⟩ := r
  have h4' : zs = [] := h4
  subst h4'
  refine ⟨t, [y, z], rfl, SqT.of (hW.same _ _ h1), rfl, y, [z], rfl, ?_⟩
  refine h F y σ S H _ h2 hE hW fun δ1 w1 σ1 S1 H1 k1 s1 hE1 W1 o1 l1 => ?_
  refine ⟨z, [], rfl, ?_⟩
  refine k1 F z σ1 S1 H1 _ (h3.mono s1) hE1 W1 fun δ2 w2 σ2 S2 H2 k2 s2 hE2 W2 o2 l2 => ⟨rfl, ?_⟩
  exact hK δ2 w2 σ2 S2 H2 k2 (s1.trans s2) hE2 W2 (fun n hn => by
    rw [o2 n (fun z => hn (by simp at z; simp [z])), o1 n (fun z => hn (by simp at z; simp [z]))]) (l2.trans l1)
theorem wipe_eq {σ1 σ2 : L2.St} {vs : List Nat} (hl : σ2.length = σ1.length) (h : ∀ j, j ∉ vs → σ2[j]? = σ1[j]?) : L2.wipe σ2 vs = L2.wipe σ1 vs := by
  refine List.ext_getElem? fun j => ?_
  have key : ∀ (σ : L2.St) (vs : List Nat), (L2.wipe σ vs)[j]? = if j ∈ vs then (if j < σ.length then some none else none) else σ[j]? := by
    intro σ vs
    induction vs with
    | nil => rfl
    | cons v vs ih =>
      show ((L2.wipe σ vs).set v none)[j]? = _
      by_cases e : v = j
      · subst e
        rw [if_pos (List.mem_cons_self ..)]
        by_cases hj : v < σ.length
        · rw [if_pos hj, List.getElem?_set_self (by rw [L2.wipe_length]; exact hj)]
        · rw [if_neg hj, List.getElem?_eq_none (by rw [List.length_set, L2.wipe_length]; omega)]
      · rw [List.getElem?_set_ne e, ih]
        by_cases hm : j ∈ vs
        · rw [if_pos hm, if_pos (List.mem_cons_of_mem _ hm)]
        · rw [if_neg hm, if_neg (fun z => by cases z with | head => exact e rfl | tail _ z => exact hm z)]
  rw [key, key]
  by_cases hm : j ∈ vs
  · rw [if_pos hm, if_pos hm, hl]
  · rw [if_neg hm, if_neg hm, h j hm]
/-! ### comprehensions -/
/-- the list that a comprehension made: it stands, or is owned -/
theorem fin_stay {K : PySem.W.Frag} {κ : D → Wp → Prop} {S F : Hp} {Q : VK} (hK : KD K T κ S F Q) : ∀ (L : Addr) (acc : List D) w' S' xs H', κ (.lst acc) w' → Same S S' → F L = none → World K T S' w' (upd F L (.lst xs)) H' → RepL K S' acc xs → Q (.ref L) H' := fun L acc w' S' xs H' k s1 fL W2 ra => by
  obtain ⟨e1, W3⟩ := W2.freezeF fL fun _ z => by cases z
  have s3 : Same S' (upd S' L (.lst xs)) := same_upd e1
  exact hK _ w' _ _ H' k (s1.trans s3) W3 ⟨L, xs, rfl, upd_same, ra.mono s3⟩
theorem World.moveF {K : PySem.W.Frag} {S F0 H : Hp} {w : Wp} {a : Addr} {o : HO} {h : HD} (W : World K T S w (upd F0 a o) H) (e : F0 a = none) (r : RepH K S h o) : w a = none ∧ World K T S (wu w a h) F0 H := by
  obtain ⟨e1, e2⟩ := W.frm a o upd_same
  have ew : w a = none := by
    cases q : w a with
    | none => rfl
    | some k =>
      have q2 := (W.own a k q).2.1
      rw [upd_same] at q2
      cases q2
  refine ⟨ew, W.same, W.notbl, fun b k q => ?_, fun b x q => ?_, W.tabs, fun b ps z => W.nf b ps (by rw [upd_ne (fun q => by rw [q, e] at z; cases z)]; exact z)⟩
  · by_cases hb : b = a
    · subst hb
      rw [wu_same] at q
      cases q
      exact ⟨e1, e, o, e2, r⟩
    · rw [wu_ne hb] at q
      obtain ⟨q1, q2, x, q3, q4⟩ := W.own b k q
      rw [upd_ne hb] at q2
      exact ⟨q1, q2, x, q3, q4⟩
  · have hb : b ≠ a := fun z => by
      rw [z, e] at q
      cases q
    exact W.frm b x (by rw [upd_ne hb]; exact q)
theorem fin_own {K : PySem.W.Frag} {κ : D → Wp → Prop} {S F : Hp} {Q : VK} (hK : KD K T κ S F Q) : ∀ (L : Addr) (acc : List D) w' S' xs H', (∀ a, w' a = none → κ (R a) (wu w' a (.lst acc))) → Same S S' → F L = none → World K T S' w' (upd F L (.lst xs)) H' → RepL K S' acc xs → Q (.ref L) H' := fun L acc w' S' xs H' k s1 fL W2 ra => by
  obtain ⟨e1, W3⟩ := W2.moveF fL (h := .lst acc) ⟨xs, rfl, ra⟩
  exact hK _ _ _ S' H' (k L e1) s1 W3 rfl
def PTsD (X : Cx) (T : List (Addr × Str)) (ifs : List Expr) (δ : Dn) (w : Wp) (κ : Bool → Wp → Prop) : Prop :=
  ∀ (F : Hp) (σ : L2.St) (S H : Hp) (Q : Bool → Hp → Prop), EnvD X.K S δ σ → World X.K T S w F H → KB X.K T κ S F Q → wpTs X ifs σ H Q
abbrev Wf : WX := fun _ _ _ _ => False
theorem ptsd_nil {κ : Bool → Wp → Prop} (k : κ true w) : PTsD X T [] δ w κ := fun F σ S H Q hE hW hK pins s I => (pts_nil).run pins s σ H Q I (hK true w S H k (Same.refl _) hW)
theorem exf {K : PySem.W.Frag} {σ : L2.St} {S F : Hp} {W : WX} : ExD K T W noX σ S F := fun _ _ _ _ _ _ _ z => z.elim
theorem exsf {S F : Hp} {W : WX} : ExS X T W noX S F := fun _ => exf
theorem ptsd_one {c : Expr} {κ : Bool → Wp → Prop} (h : PTD X T Wf noX c δ w κ) : PTsD X T [c] δ w κ := fun F σ S H Q hE hW hK pins s I => (pts_one (pt_wp c)).run pins s σ H Q I (h F σ S H Q hE hW exf hK)
abbrev bx (X : Cx) (s : Shared) (H : Hp) (scope : Scope) (cl : List (Str × Addr)) (C : Addr) (fp : List Addr) : Cx := X.blk s H scope (compEnvC scope cl C X.env) fp
/-- what a comprehension asks -/
def LcD (X : Cx) (T : List (Addr × Str)) (is : List Nat) (tg : Expr) (ifs : List Expr) (elt : Expr) (scope : Scope) (vs : List Nat) (δ : Dn) (κ : List D → Wp → Prop) (ds : List D) (w1 : Wp) : Prop :=
  ds.length < sizeLine ∧ ∃ Pv : Nat → List D → Wp → Prop, Pv 0 [] w1 ∧
    (∀ (i : Nat) (d : D) acc w', ds[i]? = some d → Pv i acc w' → ∀ s H0 C cl fp, PGL (bx X s H0 scope cl C fp) T is tg d (wipeD δ vs) w' fun δ2 w2 => ∀ s H0 C cl fp, PTsD (bx X s H0 scope cl C fp) T ifs δ2 w2 fun b w3 =>
      if b = true then ∀ s H0 C cl fp, PD (bx X s H0 scope cl C fp) T Wf noX elt δ2 w3 fun y w4 => Pv (i + 1) (acc ++ [y]) w4 else Pv (i + 1) acc w3) ∧
    ∀ acc w', Pv ds.length acc w' → κ acc w'
abbrev lcG (X : Cx) (scope : Scope) (tg : Expr) : TG := fun v σ' H' Q' => ∀ s H0 C cl fp, wpG (bx X s H0 scope cl C fp) tg v σ' H' Q'
abbrev lcT (X : Cx) (scope : Scope) (ifs : List Expr) : TT := fun σ' H' Q' => ∀ s H0 C cl fp, wpTs (bx X s H0 scope cl C fp) ifs σ' H' Q'
abbrev lcE (X : Cx) (scope : Scope) (elt : Expr) : TE := fun σ' H' Q' => ∀ s H0 C cl fp, wpE (bx X s H0 scope cl C fp) elt σ' H' Q'
theorem lc_read {tg elt : Expr} {ifs : List Expr} {scope : Scope} {vs is : List Nat} {κ : List D → Wp → Prop} {wi : TI} {F : Hp} {σ : L2.St} {S H : Hp} {Q : VK} (hsub : ∀ i ∈ is, i ∈ vs) (hE : EnvD X.K S δ σ) (hW : World X.K T S w F H)
    (h : ∀ (R : It → Hp → Prop), (∀ (ds : List D) (w1 : Wp) (S1 H1 : Hp) (J : It) (G : Hp → Prop) (Y : Nat → Hp → V → Hp → Prop), LcD X T is tg ifs elt scope vs δ κ ds w1 → Same S S1 → World X.K T S1 w1 F H1 → Walk J ds.length G Y →
      (∀ S2 w2 F2 H2, Same S1 S2 → World X.K T S2 w2 F2 H2 → G H2) →
      (∀ (i : Nat) (d : D) S2 w2 F2 H2 x H3, ds[i]? = some d → Same S1 S2 → World X.K T S2 w2 F2 H2 → Y i H2 x H3 → ∃ S3, Same S2 S3 ∧ World X.K T S3 w2 F2 H3 ∧ Rep X.K S3 d x) → R J H1) → wi σ H R)
    (hK : ∀ (L : Addr) acc w' S' xs H', κ acc w' → Same S S' → F L = none → World X.K T S' w' (upd F L (.lst xs)) H' → RepL X.K S' acc xs → Q (.ref L) H') :
    tLc wi (lcG X scope tg) (lcT X scope ifs) (lcE X scope elt) vs σ H Q := by
  refine h _ fun ds w1 S1 H1 J G Y k s1 W1 ww hG hY L nL => ?_
  obtain ⟨hz, Pv, p0, turn, done⟩ := k
  have fL : F L = none := (W1.free nL).2.2
  refine lc_it ww (g := lcG X scope tg) (tt := lcT X scope ifs) (te := lcE X scope elt) (vs := vs) (σ := σ) (H1 := H1) (D := L) (Qd := fun H => Q (.ref L) H) (fun i H' => ∃ acc w' S' xs, Pv i acc w' ∧ acc.length ≤ i ∧ Same S1 S' ∧ World X.K T S' w' (upd F L (.lst xs)) H' ∧ RepL X.K S' acc xs) ?_ (fun i H' _ ⟨acc, w', S', xs, _, _, s2, W2, _⟩ => hG S' w' _ H' s2 W2) ?_ ?_
  · exact ⟨[], w1, S1, [], p0, Nat.le_refl _, Same.refl _, W1.takeF nL (fun _ z => by cases z), rfl⟩
  · rintro i x H' H3 hi ⟨acc, w', S', xs, pv, hacc, s2, W2, ra⟩ y
    obtain ⟨S3, s3, W3, r⟩ := hY i ds[i] S' w' _ H' x H3 (List.getElem?_eq_getElem hi) s2 W2 y
    intro s H0 C cl fp
    refine turn i ds[i] acc w' (List.getElem?_eq_getElem hi) pv s H0 C cl fp (upd F L (.lst xs)) x (L2.wipe σ vs) S3 H3 _ r ((hE.mono (s1.trans (s2.trans s3))).wipe vs) W3 fun δ2 w2 σ2 S4 H4 k s4 hE4 W4 o4 l4 => ?_
    refine ⟨?_, ?_⟩
    · rw [wipe_eq (σ1 := L2.wipe σ vs) (σ2 := σ2) l4 fun j hj => o4 j fun z => hj (hsub j z)]
      exact wipe_eq (L2.wipe_length σ vs) fun j hj => L2.wipe_out hj
    · intro s H0 C cl fp
      refine k s H0 C cl fp (upd F L (.lst xs)) σ2 S4 H4 _ hE4 W4 fun b w5 S5 H5 k5 s5 W5 => ?_
      cases b with
      | false =>
        rw [if_neg Bool.false_ne_true] at k5 ⊢
        exact ⟨acc, w5, S5, xs, k5, Nat.le_succ_of_le hacc, s2.trans (s3.trans (s4.trans s5)), W5, ra.mono (s3.trans (s4.trans s5))⟩
      | true =>
        rw [if_pos rfl] at k5 ⊢
        intro s H0 C cl fp
        refine k5 s H0 C cl fp (upd F L (.lst xs)) σ2 S5 H5 _ (hE4.mono s5) W5 exf fun d6 w6 v6 S6 H6 k6 s6 W6 r6 => ?_
        have ra6 := ra.mono (s3.trans (s4.trans (s5.trans s6)))
        refine ⟨xs, (W6.frm L _ upd_same).2, by rw [ra6.length]; omega, acc ++ [d6], w6, S6, xs ++ [v6], k6, ?_, s2.trans (s3.trans (s4.trans (s5.trans s6))), ?_, ra6.app (RepL.one r6)⟩
        · rw [List.length_append]
          show acc.length + 1 ≤ i + 1
          omega
        · have W7 := W6.putF (o := .lst (xs ++ [v6])) upd_same (fun _ z => by cases z) (fun _ z => by cases z) (fun _ z => by cases z)
          rw [upd_upd] at W7
          exact W7
  · rintro H' ⟨acc, w', S', xs, pv, hacc, s2, W2, ra⟩
    exact hK L acc w' S' xs H' (done acc w' pv) (s1.trans s2) fL W2 ra
end
end DL

set_option Elab.async false
set_option linter.all false
set_option maxRecDepth 100000
set_option maxHeartbeats 1000000
/-! Comprehensions as expressions and stored; calls of own defs, methods, classes; fields; the rule for a def. -/
namespace DL
open PySem PySem.Spec PyProof.Rows L2 LamX
section
variable {X : Cx} {T : List (Addr × Str)} {W : WX} {χ : XD} {δ : Dn} {w : Wp} {pos : Pos}
theorem pg_bx {scope : Scope} {tg : Expr} (s : Shared) (H : Hp) (C : Addr) (cl : List (Str × Addr)) (fp : List Addr) : PG (X.blk s H scope (compEnvC scope cl C X.env) fp) tg (lcG X scope tg) := ⟨fun pins s1 σ H1 v u Q I r h => h s H C cl fp pins s1 u I r⟩
theorem pt_bx {scope : Scope} {ifs : List Expr} (s : Shared) (H : Hp) (C : Addr) (cl : List (Str × Addr)) (fp : List Addr) : PTs (X.blk s H scope (compEnvC scope cl C X.env) fp) ifs (lcT X scope ifs) := ⟨fun pins s1 σ H1 Q I h => h s H C cl fp pins s1 I⟩
theorem pe_bx {scope : Scope} {e : Expr} (s : Shared) (H : Hp) (C : Addr) (cl : List (Str × Addr)) (fp : List Addr) : PE (X.blk s H scope (compEnvC scope cl C X.env) fp) e (lcE X scope e) := ⟨fun pins s1 σ H1 Q I h => h s H C cl fp pins s1 I⟩
theorem pd_lc {elt tg iter : Expr} {ifs : List Expr} {scope : Scope} (own : List (Str × Nat)) (is : List Nat) {κ : D → Wp → Prop} (hc : X.calm = true) (hN : X.N.Nodup) (ok : BlkOk X.N X.env.scope scope own) (hsub : ∀ i ∈ is, i ∈ own.map (·.2))
    (h : IterD X T W χ tg iter δ w (LcD X T is tg ifs elt scope (own.map (·.2)) δ (fun acc w' => κ (.lst acc) w'))) (hs : ∀ x, foldedSetIterable iter X.env x = pure x := by intro _; rfl) : PD X T W χ (.ListComp elt [⟨tg, iter, ifs, 0⟩] scope pos) δ w κ := fun F σ S H Q hE hW hX hK => by
  obtain ⟨wi, hi, h⟩ := h
  exact wp_pe (pe_lc hc hN hi ok pg_bx pt_bx pe_bx hs) (lc_read hsub hE hW (fun R hR => h F σ S H R hE hW hX hR) (fin_stay hK))
theorem psd_setLc {i : Nat} {y : Str} {py spos : Pos} {elt tg iter : Expr} {ifs : List Expr} {scope : Scope} {C : Fin} (own : List (Str × Nat)) (is : List Nat) (hc : X.calm = true) (hN : X.N.Nodup) (hy : X.N[i]? = some y) (hyl : X.env.scope.names.lookup y = some .local)
    (hsw : swapsWith (.ListComp elt [⟨tg, iter, ifs, 0⟩] scope pos) (some (.Name y py)) spos.line X.env = pure true) (ok : BlkOk X.N X.env.scope scope own) (hsub : ∀ i ∈ is, i ∈ own.map (·.2))
    (h : IterD X T W χ tg iter δ w (LcD X T is tg ifs elt scope (own.map (·.2)) δ (fun acc w' => (fun d w' => C.nx (δ.set i (some d)) w') (.lst acc) w'))) (hs : ∀ x, foldedSetIterable iter X.env x = pure x := by intro _; rfl) : PSD X T W χ (.Assign [.Name y py] (.ListComp elt [⟨tg, iter, ifs, 0⟩] scope pos) spos) δ w C := fun F σ S H E hE hW hX hK => by
  obtain ⟨wi, hi, h⟩ := h
  refine wp_ps (ps_setLc hc hN hy hyl hsw hi ok pg_bx pt_bx pe_bx hs) ?_
  have q := lc_read (Q := fun v H' => gName i v σ H' E.nx) hsub hE hW (fun R hR => h F σ S H R hE hW (hX σ) hR) (fin_stay (κ := fun d w' => C.nx (δ.set i (some d)) w') fun d w' v S' H' k s1 W1 r => hK.nx _ w' _ S' H' k s1 ((hE.mono s1).set i r) W1)
  exact q
theorem pd_lcO {elt tg iter : Expr} {ifs : List Expr} {scope : Scope} (own : List (Str × Nat)) (is : List Nat) {κ : D → Wp → Prop} (hc : X.calm = true) (hN : X.N.Nodup) (ok : BlkOk X.N X.env.scope scope own) (hsub : ∀ i ∈ is, i ∈ own.map (·.2))
    (h : IterD X T W χ tg iter δ w (LcD X T is tg ifs elt scope (own.map (·.2)) δ (fun acc w' => ∀ a, w' a = none → κ (R a) (wu w' a (.lst acc))))) (hs : ∀ x, foldedSetIterable iter X.env x = pure x := by intro _; rfl) : PD X T W χ (.ListComp elt [⟨tg, iter, ifs, 0⟩] scope pos) δ w κ := fun F σ S H Q hE hW hX hK => by
  obtain ⟨wi, hi, h⟩ := h
  exact wp_pe (pe_lc hc hN hi ok pg_bx pt_bx pe_bx hs) (lc_read hsub hE hW (fun R hR => h F σ S H R hE hW hX hR) (fin_own hK))
theorem psd_setLcO {i : Nat} {y : Str} {py spos : Pos} {elt tg iter : Expr} {ifs : List Expr} {scope : Scope} {C : Fin} (own : List (Str × Nat)) (is : List Nat) (hc : X.calm = true) (hN : X.N.Nodup) (hy : X.N[i]? = some y) (hyl : X.env.scope.names.lookup y = some .local)
    (hsw : swapsWith (.ListComp elt [⟨tg, iter, ifs, 0⟩] scope pos) (some (.Name y py)) spos.line X.env = pure true) (ok : BlkOk X.N X.env.scope scope own) (hsub : ∀ i ∈ is, i ∈ own.map (·.2))
    (h : IterD X T W χ tg iter δ w (LcD X T is tg ifs elt scope (own.map (·.2)) δ (fun acc w' => ∀ a, w' a = none → (fun d w' => C.nx (δ.set i (some d)) w') (R a) (wu w' a (.lst acc))))) (hs : ∀ x, foldedSetIterable iter X.env x = pure x := by intro _; rfl) : PSD X T W χ (.Assign [.Name y py] (.ListComp elt [⟨tg, iter, ifs, 0⟩] scope pos) spos) δ w C := fun F σ S H E hE hW hX hK => by
  obtain ⟨wi, hi, h⟩ := h
  refine wp_ps (ps_setLc hc hN hy hyl hsw hi ok pg_bx pt_bx pe_bx hs) ?_
  have q := lc_read (Q := fun v H' => gName i v σ H' E.nx) hsub hE hW (fun R hR => h F σ S H R hE hW (hX σ) hR) (fin_own (κ := fun d w' => C.nx (δ.set i (some d)) w') fun d w' v S' H' k s1 W1 r => hK.nx _ w' _ S' H' k s1 ((hE.mono s1).set i r) W1)
  exact q
/-! ### specs in data -/
abbrev SpD := List D → Wp → (D → Wp → Prop) → XD → Prop
def spOf (K : PySem.W.Frag) (T : List (Addr × Str)) (sp : SpD) : Sp := fun vs H Q E => ∃ ds w F S κ χ, sp ds w κ χ ∧ RepL K S ds vs ∧ World K T S w F H ∧ KD K T κ S F Q ∧
  (∀ C ns fs w' d S' H', χ C ns fs w' → Same S S' → World K T S' w' F H' → XdR K S' d ns fs → E (.ref C) (some d) H')
theorem pass0At {X : Cx} {σ : L2.St} {E : XK} : PassesAt CX0 X σ E := fun _ _ _ _ _ _ h => h.elim
theorem pd_call {CX : CXT} {k : Nat} {f : Addr} {fd : FuncData} {ps : List Str} {sp : SpD} {x : Str} {p : Pos} {e : Expr} {es : List Expr} {κ : D → Wp → Prop} (G : FnOk X.prog X.w X.K X.mg X.base CX k f fd ps (spOf X.K T sp)) (hr : Room k X.A) (hm : X.mg x = some (.ref f))
    (hk : PySem.W.keepIn X.K (.ref f) = true) (hb : Binds X.K fd ps []) (hx : ∀ σ, PassesAt CX X σ (WE W σ)) (h : PAD X T W χ (e :: es) δ w fun ds w1 => sp ds w1 κ χ) (hg : Gl X x := by rfl) (hdb : (x == ("__debug__" : Str)) = false := by decide)
    (he : starEach (e :: es) X.env = (false, eval e X.env) :: starEach es X.env := by rfl) (hpl : (backTo pos (starEach es X.env)).any (·.1) = false := by rfl) : PD X T W χ (.Call (.Name x p) (e :: es) [] pos) δ w κ := fun F σ S H Q hE hW hX hK =>
  wp_pe (pe_callSD G hr hg hm hk hb .nil hx (pa_wp _) hdb he hpl) (by
    refine h F σ S H _ hE hW hX fun ds w1 vs S1 H1 k s1 W1 r => ?_
    show spOf X.K T sp (vs ++ []) H1 Q (WE W σ)
    rw [List.append_nil]
    exact ⟨ds, w1, F, S1, κ, χ, k, r, W1, hK.mono s1, fun C ns fs w' d S' H' x s2 W2 xr => hX C ns fs w' d S' H' x (s1.trans s2) W2 xr⟩)
/-- a receiver: an instance of the class at C that has no field m -/
def InsD (C : Addr) (m : Str) (d : D) (w : Wp) : Prop := match d with
  | .obj C' ns _ => C' = C ∧ m ∉ ns
  | .val (.ref a) => ∃ dx ns ds, w a = some (.ins C dx ns ds) ∧ m ∉ ns
  | _ => False
theorem lookup_no {ys : List (Str × V)} {m : Str} (h : m ∉ ys.map (·.1)) : ys.lookup m = none := by
  induction ys with
  | nil => rfl
  | cons p ys ih =>
    obtain ⟨g, x⟩ := p
    have h1 : ¬ m = g := fun z => h (by rw [z]; exact List.mem_cons_self ..)
    have hb : (m == g) = false := beq_eq_false_iff_ne.mpr h1
    simp only [List.lookup, hb]
    exact ih fun z => h (List.mem_cons_of_mem _ z)
theorem InsD.is {K : PySem.W.Frag} {C : Addr} {m : Str} {d : D} {w : Wp} {S F H : Hp} {x : V} (i : InsD C m d w) (hW : World K T S w F H) (r : Rep K S d x) : ∃ a dx fs, x = .ref a ∧ H a = some (.ins C dx fs) ∧ fs.lookup m = none := by
  cases d with
  | obj C' ns ds =>
    obtain ⟨rfl, hm⟩ := i
    obtain ⟨a, dx, ys, rfl, h1, rfl, _⟩ := r
    exact ⟨a, dx, ys, rfl, hW.same _ _ h1, lookup_no hm⟩
  | val v =>
    have e : x = v := r
    subst e
    cases x with
    | ref a =>
      obtain ⟨dx, ns, ds, hw, hm⟩ := i
      obtain ⟨_, _, o, h1, h2⟩ := hW.own a _ hw
      obtain ⟨ys, rfl, rfl, h3⟩ := h2
      exact ⟨a, dx, ys, rfl, h1, lookup_no hm⟩
    | _ => exact i.elim
  | _ => exact i.elim
def tMethSD (C : Addr) (m : Str) (sp : Sp) (E : L2.St → XK) (ta : TE) (t : TA) : TE := fun σ H Q => ta σ H fun x H1 => ∃ a dx fs, x = .ref a ∧ H1 a = some (.ins C dx fs) ∧ fs.lookup m = none ∧
  t σ H1 fun vs H2 => sp (x :: vs) H2 Q (E σ)
theorem pe_methSD {CX : CXT} {k : Nat} {f C : Addr} {fd : FuncData} {ps : List Str} {sp : Sp} {E : L2.St → XK} {m : Str} {apos : Pos} {e o : Expr} {es : List Expr} {ta : TE} {t : TA} {pl : Sem Bool} (he : PE X o ta) (c : Cls X.K C) (hm : Meth X.K C m f) (G : FnOk X.prog X.w X.K X.mg X.base CX k f fd ps sp) (hr : Room k X.A) (hb : Binds X.K fd ps [])
    (hx : ∀ σ, PassesAt CX X σ (E σ)) (ha : PA X (e :: es) t)
    (hst : starEach (e :: es) X.env = (false, eval e X.env) :: starEach es X.env := by rfl) (hpl : (backTo pos (starEach es X.env)).any (·.1) = false := by rfl)
    (ht : eval (.Call (.Attribute o m apos) (e :: es) [] pos) X.env = (do
      let ov ← eval o X.env
      standAt apos.atName
      let (f, first) ← holding [ov] (getMethod ov m pl)
      callWith pos f first (backTo pos (starEach (e :: es) X.env)) (backToKw pos (keywordEach [] X.env))) := by rfl) : PE X (.Call (.Attribute o m apos) (e :: es) [] pos) (tMethSD C m sp E ta t) := by
  refine ⟨fun pins s σ H Q I h => ?_⟩
  refine PySem.W.methodCall_KW (pl := pl) (thn (he.run pins s σ H _ I h) fun u s1 ⟨x, H1, I1, rx, a, dx, fs, ex, ea, l, q⟩ => ?_) ht
  subst ex
  obtain rfl : u = Value.ref a := rx
  refine getmeth_ok I1 ea c hm l ?_
  refine PySem.W.callWith_K (first := [.ref a]) (h₀ := X.base) I.ok.mod.kin hm.kp (thn (ha.run pos pins s1 σ H1 _ I1 q) fun us s2 ⟨vs, H2, I2, r, q2⟩ => ⟨I2.kIn, ?_⟩) hst hpl
  exact run_fnSD (us := .ref a :: us) (vs := .ref a :: vs) (dvs := []) (ds := []) G hr hb .nil (hx σ) I2 (.cons rfl r) (by rw [List.append_nil]; exact q2)
theorem pe_meth0SD {CX : CXT} {k : Nat} {f C : Addr} {fd : FuncData} {ps : List Str} {sp : Sp} {E : L2.St → XK} {m : Str} {apos : Pos} {o : Expr} {ta : TE} {pl : Sem Bool} (he : PE X o ta) (c : Cls X.K C) (hm : Meth X.K C m f) (G : FnOk X.prog X.w X.K X.mg X.base CX k f fd ps sp) (hr : Room k X.A) (hb : Binds X.K fd ps [])
    (hx : ∀ σ, PassesAt CX X σ (E σ))
    (ht : eval (.Call (.Attribute o m apos) [] [] pos) X.env = (do
      let ov ← eval o X.env
      standAt apos.atName
      let (f, first) ← holding [ov] (getMethod ov m pl)
      callWith pos f first (backTo pos (starEach [] X.env)) (backToKw pos (keywordEach [] X.env))) := by rfl) : PE X (.Call (.Attribute o m apos) [] [] pos) (tMethSD C m sp E ta tNil) := by
  refine ⟨fun pins s σ H Q I h => ?_⟩
  refine PySem.W.methodCall_KW (pl := pl) (thn (he.run pins s σ H _ I h) fun u s1 ⟨x, H1, I1, rx, a, dx, fs, ex, ea, l, q⟩ => ?_) ht
  subst ex
  obtain rfl : u = Value.ref a := rx
  refine getmeth_ok I1 ea c hm l ?_
  exact PySem.W.callWith_K0 (first := [.ref a]) I1.kIn hm.kp (run_fnSD (us := [.ref a]) (vs := [.ref a]) (dvs := []) (ds := []) G hr hb .nil (hx σ) I1 (.cons rfl .nil) q)
theorem pd_meth {CX : CXT} {k : Nat} {f C : Addr} {fd : FuncData} {ps : List Str} {sp : SpD} {m : Str} {apos : Pos} {e o : Expr} {es : List Expr} {κ : D → Wp → Prop} {pl : Sem Bool} (c : Cls X.K C) (hm : Meth X.K C m f) (G : FnOk X.prog X.w X.K X.mg X.base CX k f fd ps (spOf X.K T sp)) (hr : Room k X.A) (hb : Binds X.K fd ps [])
    (hx : ∀ σ, PassesAt CX X σ (WE W σ)) (h : PD X T W χ o δ w fun d w1 => InsD C m d w1 ∧ PAD X T W χ (e :: es) δ w1 fun ds w2 => sp (d :: ds) w2 κ χ)
    (hst : starEach (e :: es) X.env = (false, eval e X.env) :: starEach es X.env := by rfl) (hpl : (backTo pos (starEach es X.env)).any (·.1) = false := by rfl)
    (ht : eval (.Call (.Attribute o m apos) (e :: es) [] pos) X.env = (do
      let ov ← eval o X.env
      standAt apos.atName
      let (f, first) ← holding [ov] (getMethod ov m pl)
      callWith pos f first (backTo pos (starEach (e :: es) X.env)) (backToKw pos (keywordEach [] X.env))) := by rfl) : PD X T W χ (.Call (.Attribute o m apos) (e :: es) [] pos) δ w κ := fun F σ S H Q hE hW hX hK =>
  wp_pe (pe_methSD (pe_wp o) c hm G hr hb hx (pa_wp _) hst hpl ht) (by
    refine h F σ S H _ hE hW hX fun d w1 v S1 H1 k s1 W1 r => ?_
    obtain ⟨a, dx, fs, rfl, h1, h2⟩ := k.1.is W1 r
    refine ⟨a, dx, fs, rfl, h1, h2, ?_⟩
    refine k.2 F σ S1 H1 _ (hE.mono s1) W1 (hX.mono s1) fun ds w2 vs S2 H2 k2 s2 W2 r2 => ?_
    exact ⟨d :: ds, w2, F, S2, κ, χ, k2, ⟨_, vs, rfl, r.mono s2, r2⟩, W2, hK.mono (s1.trans s2), fun C ns fs w' d S' H' x s3 W3 xr => hX C ns fs w' d S' H' x (s1.trans (s2.trans s3)) W3 xr⟩)
theorem pd_meth0 {CX : CXT} {k : Nat} {f C : Addr} {fd : FuncData} {ps : List Str} {sp : SpD} {m : Str} {apos : Pos} {o : Expr} {κ : D → Wp → Prop} {pl : Sem Bool} (c : Cls X.K C) (hm : Meth X.K C m f) (G : FnOk X.prog X.w X.K X.mg X.base CX k f fd ps (spOf X.K T sp)) (hr : Room k X.A) (hb : Binds X.K fd ps [])
    (hx : ∀ σ, PassesAt CX X σ (WE W σ)) (h : PD X T W χ o δ w fun d w1 => InsD C m d w1 ∧ sp [d] w1 κ χ)
    (ht : eval (.Call (.Attribute o m apos) [] [] pos) X.env = (do
      let ov ← eval o X.env
      standAt apos.atName
      let (f, first) ← holding [ov] (getMethod ov m pl)
      callWith pos f first (backTo pos (starEach [] X.env)) (backToKw pos (keywordEach [] X.env))) := by rfl) : PD X T W χ (.Call (.Attribute o m apos) [] [] pos) δ w κ := fun F σ S H Q hE hW hX hK =>
  wp_pe (pe_meth0SD (pe_wp o) c hm G hr hb hx ht) (by
    refine h F σ S H _ hE hW hX fun d w1 v S1 H1 k s1 W1 r => ?_
    obtain ⟨a, dx, fs, rfl, h1, h2⟩ := k.1.is W1 r
    refine ⟨a, dx, fs, rfl, h1, h2, ?_⟩
    exact ⟨[d], w1, F, S1, κ, χ, k.2, ⟨_, [], rfl, r, rfl⟩, W1, hK.mono s1, fun C ns fs w' d S' H' x s3 W3 xr => hX C ns fs w' d S' H' x (s1.trans s3) W3 xr⟩)
/-- C(e, ..) -/
theorem run_makeSD {CX : CXT} {k : Nat} {f C : Addr} {fd : FuncData} {ps : List Str} {sp : Sp} {E : XK} {pins : List (Addr × Obj)} {σ : L2.St} {H : Hp} {s : Shared} {Q : VK} {us : List Value} {vs : List V} (M : Mk X.K C f) (G : FnOk X.prog X.w X.K X.mg X.base CX k f fd ps sp) (hr : Room (k + 1) X.A) (hb : Binds X.K fd ps [])
    (hx : PassesAt CX X σ E) (I : Inv X pins σ H s) (r : Vals vs us)
    (h : ∀ x dx, H x = none → H dx = none → dx ≠ x → sp (.ref x :: vs) (upd (upd H dx (.own x)) x (.ins C dx [])) (fun v H2 => v = .non ∧ Q (.ref x) H2) E) :
    wpAny (model X.prog X.w) X.A (call (.ref C) us) (EP X pins σ Q) X.xe s := by
  have hq := h (s.heap.objs.size + 1) s.heap.objs.size (I.hok.fresh (Nat.le_succ _)) (I.hok.fresh (Nat.le_refl _)) (Nat.ne_of_lt (Nat.lt_succ_self _))
  have I2 := Inv.made (C := C) I
  have r2 : Vals (V.ref (s.heap.objs.size + 1) :: vs) (Value.ref (s.heap.objs.size + 1) :: us) := .cons rfl r
  have hl : ((Value.ref (s.heap.objs.size + 1) :: us) ++ []).length = ps.length := by
    have e := r2.length
    rw [F_len G hq] at e
    rw [List.append_nil]
    exact e.symm
  have bb := hb _ (Value.ref (s.heap.objs.size + 1) :: us) I2.kIn hl
  rw [List.append_nil] at bb
  refine wpAny_call (make_map (f := f) I.kIn M.makes M.init (beq_iff_eq.mp M.fn) (codeAny_mono (G.run _ X.stack _ _ ⟨Value.ref (s.heap.objs.size + 1) :: us, []⟩ (Value.ref (s.heap.objs.size + 1) :: us) _ _ E (hr.make C us [])
    (I2.env0.make C us []) bb r2 hq) fun r s' hq' => ?_))
  cases r with
  | error e => exact hx pins _ _ e s' I2 hq'
  | ok fl =>
    cases fl with
    | ret u =>
      obtain ⟨v, H', I3, rv, ev, q3⟩ := I2.after hq'
      subst ev
      exact ⟨rv, ⟨V.ref (s.heap.objs.size + 1), H', I3, rfl, q3⟩⟩
    | next => exact False.elim hq'
    | brk => exact False.elim hq'
    | cont => exact False.elim hq'
where F_len {CX : CXT} {k : Nat} {f : Addr} {fd : FuncData} {ps : List Str} {sp : Sp} {E : XK} {Q : VK} {H : Hp} {vs : List V} (G : FnOk X.prog X.w X.K X.mg X.base CX k f fd ps sp) (h : sp vs H Q E) : vs.length = ps.length := G.len _ _ _ _ h
def tMakeSD (C : Addr) (sp : Sp) (E : L2.St → XK) (t : TA) : TE := fun σ H Q => t σ H fun vs H1 => ∀ x dx, H1 x = none → H1 dx = none → dx ≠ x →
  sp (.ref x :: vs) (upd (upd H1 dx (.own x)) x (.ins C dx [])) (fun v H2 => v = .non ∧ Q (.ref x) H2) (E σ)
theorem pe_makeSD {CX : CXT} {k : Nat} {f C : Addr} {fd : FuncData} {ps : List Str} {sp : Sp} {E : L2.St → XK} {x : Str} {p : Pos} {e : Expr} {es : List Expr} {t : TA} (M : Mk X.K C f) (G : FnOk X.prog X.w X.K X.mg X.base CX k f fd ps sp) (hr : Room (k + 1) X.A) (hg : Gl X x) (hm : X.mg x = some (.ref C)) (hb : Binds X.K fd ps []) (hx : ∀ σ, PassesAt CX X σ (E σ))
    (ha : PA X (e :: es) t) (hdb : (x == ("__debug__" : Str)) = false := by decide) (he : starEach (e :: es) X.env = (false, eval e X.env) :: starEach es X.env := by rfl) (hpl : (backTo pos (starEach es X.env)).any (·.1) = false := by rfl) :
    PE X (.Call (.Name x p) (e :: es) [] pos) (tMakeSD C sp E t) := by
  refine ⟨fun pins s σ H Q I h => ?_⟩
  refine wpAny_Call_Name_kw (ld_glob I hg hm ?_ hdb)
  refine PySem.W.callWith_K (h₀ := X.base) I.ok.mod.kin M.kp (thn (ha.run pos pins s σ H _ I h) fun us s1 ⟨vs, H1, I1, r, q⟩ => ⟨I1.kIn, ?_⟩) he hpl
  exact run_makeSD M G hr hb (hx σ) I1 r q
theorem pd_make {CX : CXT} {k : Nat} {f C : Addr} {fd : FuncData} {ps : List Str} {sp : SpD} {x : Str} {p : Pos} {e : Expr} {es : List Expr} {κ : D → Wp → Prop} (M : Mk X.K C f) (G : FnOk X.prog X.w X.K X.mg X.base CX k f fd ps (spOf X.K T sp)) (hr : Room (k + 1) X.A) (hm : X.mg x = some (.ref C)) (hb : Binds X.K fd ps []) (hx : ∀ σ, PassesAt CX X σ (WE W σ))
    (h : PAD X T W χ (e :: es) δ w fun ds w1 => ∀ a dx, w1 a = none → sp (R a :: ds) (wu w1 a (.ins C dx [] [])) (fun d w2 => d = N ∧ ∃ ns es, w2 a = some (.ins C dx ns es) ∧ κ (.obj C ns es) (wd w2 a)) χ)
    (hg : Gl X x := by rfl) (hdb : (x == ("__debug__" : Str)) = false := by decide) (he : starEach (e :: es) X.env = (false, eval e X.env) :: starEach es X.env := by rfl) (hpl : (backTo pos (starEach es X.env)).any (·.1) = false := by rfl) :
    PD X T W χ (.Call (.Name x p) (e :: es) [] pos) δ w κ := fun F σ S H Q hE hW hX hK => wp_pe (pe_makeSD M G hr hg hm hb hx (pa_wp _) hdb he hpl) (by
  refine h F σ S H _ hE hW hX fun ds w1 vs S1 H1 k s1 W1 r => ?_
  intro a dx na ndx nad
  have W2 := (W1.junk (o := .own a) ndx).take (a := a) (h := .ins C dx [] []) (o := .ins C dx []) (by rw [upd_ne (Ne.symm nad)]; exact na) ⟨[], rfl, rfl, rfl⟩
  refine ⟨R a :: ds, _, F, S1, _, χ, k a dx (W1.free na).2.1, ⟨_, vs, rfl, rfl, r⟩, W2, ?_, fun C ns fs w' d S' H' x s3 W3 xr => hX C ns fs w' d S' H' x (s1.trans s3) W3 xr⟩
  rintro d w' v S' H' ⟨rfl, ns, es, ew, kk⟩ s2 W3 rv
  refine ⟨rv, ?_⟩
  obtain ⟨o, e1, r3, W4⟩ := W3.freeze ew
  obtain ⟨ys, rfl, hys, r4⟩ := r3
  have s3 : Same S' (upd S' a (.ins C dx ys)) := same_upd e1
  exact hK _ _ _ _ _ kk (s1.trans (s2.trans s3)) W4 ⟨a, dx, ys, rfl, upd_same, hys, r4.mono s3⟩)
/-! ### fields -/
def look2 : List Str → List D → Str → Option D
  | n :: ns, d :: ds, f => if f = n then some d else look2 ns ds f
  | _, _, _ => none
theorem look2_at {K : PySem.W.Frag} {S : Hp} : ∀ {ys : List (Str × V)} {ds : List D} {f : Str} {d : D}, RepL K S ds (ys.map (·.2)) → look2 (ys.map (·.1)) ds f = some d → ∃ v, ys.lookup f = some v ∧ Rep K S d v
  | [], ds, f, d, r, h => by cases h
  | (g, x) :: ys, [], f, d, r, h => by cases h
  | (g, x) :: ys, d0 :: ds, f, d, r, h => by
    obtain ⟨y, zs, e, r1, r2⟩ := r
    have e' : x :: ys.map (·.2) = y :: zs := e
    cases e'
    have h' : (if f = g then some d0 else look2 (ys.map (·.1)) ds f) = some d := h
    by_cases q : f = g
    · rw [if_pos q] at h'
      cases h'
      subst q
      exact ⟨x, by simp [List.lookup], r1⟩
    · rw [if_neg q] at h'
      obtain ⟨v, h1, h2⟩ := look2_at r2 h'
      have hb : (f == g) = false := beq_eq_false_iff_ne.mpr q
      exact ⟨v, by simp only [List.lookup, hb]; exact h1, h2⟩
/-- the instance d of the class at C has at f the data u -/
def FldD (C : Addr) (f : Str) (d : D) (w : Wp) (u : D) : Prop := match d with
  | .obj C' ns ds => C' = C ∧ look2 ns ds f = some u
  | .val (.ref a) => ∃ dx ns ds, w a = some (.ins C dx ns ds) ∧ look2 ns ds f = some u
  | _ => False
theorem pd_fld {e : Expr} {f : Str} {C : Addr} {κ : D → Wp → Prop} (c : Cls X.K C) (n : NoAttr X.K C f) (h : PD X T W χ e δ w fun d w1 => ∃ u, FldD C f d w1 u ∧ κ u w1)
    (hb : attributeBase e f X.env (eval e X.env) = eval e X.env := by rfl) : PD X T W χ (.Attribute e f pos) δ w κ := fun F σ S H Q hE hW hX hK => wp_pe (pe_fld (pe_wp e) hb) (by
  refine h F σ S H _ hE hW hX fun d w1 v S1 H1 k s1 W1 r => ?_
  obtain ⟨u, hf, k⟩ := k
  cases d with
  | obj C' ns ds =>
    obtain ⟨rfl, hl⟩ := hf
    obtain ⟨a, dx, ys, rfl, h1, rfl, h3⟩ := r
    obtain ⟨v, h4, h5⟩ := look2_at h3 hl
    exact ⟨a, _, dx, ys, v, rfl, W1.same _ _ h1, c, n, h4, hK u w1 v S1 H1 k s1 W1 h5⟩
  | val v' =>
    have e' : v = v' := r
    subst e'
    cases v with
    | ref a =>
      obtain ⟨dx, ns, ds, hw, hl⟩ := hf
      obtain ⟨_, _, o, h1, h2⟩ := W1.own a _ hw
      obtain ⟨ys, rfl, rfl, h3⟩ := h2
      obtain ⟨v, h4, h5⟩ := look2_at h3 hl
      exact ⟨a, _, dx, ys, v, rfl, h1, c, n, h4, hK u w1 v S1 H1 k s1 W1 h5⟩
    | _ => exact hf.elim
  | _ => exact hf.elim)
theorem putF_new {f : Str} {v : V} : ∀ {ys : List (Str × V)}, f ∉ ys.map (·.1) → putF f v ys = ys ++ [(f, v)]
  | [], _ => rfl
  | (g, x) :: ys, h => by
    show (if g = f then (g, v) :: ys else (g, x) :: putF f v ys) = _
    rw [if_neg (fun z => h (by rw [← z]; exact List.mem_cons_self ..)), putF_new fun z => h (List.mem_cons_of_mem _ z)]
    rfl
/-- self.f = e, f new -/
theorem psd_fldNew {o e : Expr} {f : Str} {fp : Pos} {C : Addr} {Fi : Fin} (c : Cls X.K C) (n : NoAttr X.K C f) (h : PD X T W χ e δ w fun d w1 => PD X T W χ o δ w1 fun od w2 => ∃ a dx ns ds, od = R a ∧ w2 a = some (.ins C dx ns ds) ∧ f ∉ ns ∧ ns.length < 1000 ∧ Fi.nx δ (wu w2 a (.ins C dx (ns ++ [f]) (ds ++ [d]))))
    (hs : swapsWith e (some (.Attribute o f fp)) pos.line X.env = pure false := by rfl) : PSD X T W χ (.Assign [.Attribute o f fp] e pos) δ w Fi := fun F σ S H E hE hW hX hK => wp_ps (ps_fld (pe_wp o) (pe_wp e) hs) (by
  refine h F σ S H _ hE hW (hX σ) fun d w1 v S1 H1 k s1 W1 r => ?_
  refine k F σ S1 H1 _ (hE.mono s1) W1 ((hX σ).mono s1) fun od w2 x S2 H2 k2 s2 W2 r2 => ?_
  obtain ⟨a, dx, ns, ds, rfl, hw, hn, hl, k2⟩ := k2
  have r2' : x = .ref a := r2
  subst r2'
  obtain ⟨_, _, ob, h1, h2⟩ := W2.own a _ hw
  obtain ⟨ys, rfl, rfl, h3⟩ := h2
  refine ⟨a, C, dx, ys, rfl, h1, c, n, by rw [List.length_map] at hl; exact hl, ?_⟩
  rw [putF_new hn]
  refine hK.nx δ _ σ S2 _ k2 (s1.trans s2) (hE.mono (s1.trans s2)) (W2.put hw ⟨_, rfl, by rw [List.map_append]; rfl, ?_⟩)
  rw [List.map_append]
  exact h3.app (RepL.one (r.mono s2)))
/-- a class's constant -/
theorem pd_cval {e : Expr} {f : Str} {mc : Value} {C : Addr} {v : V} {u : Value} {κ : D → Wp → Prop} (r : ClX.CRead X.K C mc) (k : ClX.CVal X.K C mc f v u) (h : PD X T W χ e δ w fun d w1 => d = R C ∧ κ (.val v) w1)
    (hb : attributeBase e f X.env (eval e X.env) = eval e X.env := by rfl) : PD X T W χ (.Attribute e f pos) δ w κ := fun F σ S H Q hE hW hX hK => wp_pe (ClX.pe_cval (pe_wp e) hb) (by
  refine h F σ S H _ hE hW hX fun d w1 x S1 H1 q s1 W1 r1 => ?_
  obtain ⟨rfl, q⟩ := q
  exact ⟨C, mc, v, u, r1, r, k, hK _ w1 _ S1 H1 q s1 W1 rfl⟩)
theorem pd_glob {x : Str} {v : V} {u : Value} {κ : D → Wp → Prop} (hm : X.mg x = some u) (r : RelV v u) (k : κ (.val v) w) (hg : Gl X x := by rfl) (hd : (x == ("__debug__" : Str)) = false := by decide) : PD X T W χ (.Name x pos) δ w κ :=
  fun F σ S H Q hE hW hX hK => wp_pe (pe_glob hg hm r hd) (hK _ w _ S H k (Same.refl _) hW rfl)
theorem pd_bltn {x : Str} {v : V} {u : Value} {κ : D → Wp → Prop} (hm : X.mg x = none) (hv : bootBuiltins x = some u) (r : RelV v u) (k : κ (.val v) w) (hg : Gl X x := by rfl) (hn : x ≠ "__name__" := by decide) (hd : (x == ("__debug__" : Str)) = false := by decide) : PD X T W χ (.Name x pos) δ w κ :=
  fun F σ S H Q hE hW hX hK => wp_pe (pe_bltn hg hm hv r hn hd) (hK _ w _ S H k (Same.refl _) hW rfl)
end
/-! ### defs -/
def startD (N : List Str) (ds : List D) : Dn := ds.map some ++ List.replicate (N.length - ds.length) none
theorem env_start {K : PySem.W.Frag} {S : Hp} {N : List Str} {ds : List D} {vs : List V} (r : RepL K S ds vs) : EnvD K S (startD N ds) (L2.start N vs) := by
  have hl := r.length
  refine ⟨by unfold startD L2.start; rw [List.length_append, List.length_append, List.length_map, List.length_map, List.length_replicate, List.length_replicate, hl], fun i d h => ?_⟩
  unfold startD at h
  by_cases hi : i < ds.length
  · rw [List.getElem?_append_left (by rw [List.length_map]; exact hi), List.getElem?_map] at h
    cases e : ds[i]? with
    | none =>
      rw [e] at h
      cases h
    | some d' =>
      rw [e] at h
      cases h
      obtain ⟨v, h1, h2⟩ := r.get e
      refine ⟨v, ?_, h2⟩
      unfold L2.start
      rw [List.getElem?_append_left (by rw [List.length_map, hl]; exact hi), List.getElem?_map, h1]
      rfl
  · rw [List.getElem?_append_right (by rw [List.length_map]; omega), List.getElem?_replicate] at h
    split at h <;> cases h
section
variable {P : Program} {w : PySem.World} {K : PySem.W.Frag} {mg : Str → Option Value} {base : Heap} {T : List (Addr × Str)}
/-- a def that lets no error out -/
theorem fnD {x qual : Str} {st : Stmt} {f : Addr} {fd : FuncData} {N ps : List Str} {k : Nat} {sp : SpD} (G : Fun K x qual st f fd) (S : FnScope N ps (defScope st)) (len : ∀ ds w κ χ, sp ds w κ χ → ds.length = ps.length)
    (body : ∀ (cdv : Value) (A : Around) (outer : List Env) (s : Shared) (H : Hp) (E : XK) (ds : List D) (w0 : Wp) (κ : D → Wp → Prop) (χ : XD), Room k (A.deeper (envOfC qual (defScope st) s.heap.objs.size f cdv)) → sp ds w0 κ χ →
      PSsD (cxOf CX0 P w K mg base N qual (defScope st) f cdv A outer s H E).nox T Wf noX (defBody st) (startD N ds) w0 { nx := fun _ w' => κ DL.N w', rt := κ }) : FnOk P w K mg base CX0 (k + 1) f fd ps (spOf K T sp) := by
  refine G.ok S (fun vs H Q E h => ?_) (fun cdv A outer s H vs Q E hr h => ?_)
  · obtain ⟨ds, w0, F, S0, κ, χ, h1, h2, _⟩ := h
    rw [h2.length]
    exact len _ _ _ _ h1
  · obtain ⟨ds, w0, F, S0, κ, χ, h1, h2, h3, h4, h5⟩ := h
    refine ⟨_, pss_wp _, ?_⟩
    exact body cdv A outer s H E ds w0 κ χ hr h1 F _ S0 H _ (env_start h2) h3 exsf ⟨fun δ' w' σ' S' H' k s1 hE W1 => h4 _ w' _ S' H' k s1 W1 rfl, h4, fun _ _ _ _ _ z => z.elim, fun _ _ _ _ _ z => z.elim⟩
/-- a def that may raise -/
theorem fnX {x qual : Str} {st : Stmt} {f : Addr} {fd : FuncData} {N ps : List Str} {k : Nat} {sp : SpD} (G : Fun K x qual st f fd) (S : FnScope N ps (defScope st)) (len : ∀ ds w κ χ, sp ds w κ χ → ds.length = ps.length)
    (body : ∀ (cdv : Value) (A : Around) (outer : List Env) (s : Shared) (H : Hp) (E : XK) (ds : List D) (w0 : Wp) (κ : D → Wp → Prop) (χ : XD), Room k (A.deeper (envOfC qual (defScope st) s.heap.objs.size f cdv)) → sp ds w0 κ χ →
      PSsD (cxOf (L2.CX P w) P w K mg base N qual (defScope st) f cdv A outer s H E) T (fun cls d _ H => E cls d H) χ (defBody st) (startD N ds) w0 { nx := fun _ w' => κ DL.N w', rt := κ }) : FnOk P w K mg base (L2.CX P w) (k + 1) f fd ps (spOf K T sp) := by
  refine G.okX S (fun vs H Q E h => ?_) (fun cdv A outer s H vs Q E hr h => ?_)
  · obtain ⟨ds, w0, F, S0, κ, χ, h1, h2, _⟩ := h
    rw [h2.length]
    exact len _ _ _ _ h1
  · obtain ⟨ds, w0, F, S0, κ, χ, h1, h2, h3, h4, h5⟩ := h
    refine ⟨_, pss_wp _, ?_⟩
    exact body cdv A outer s H E ds w0 κ χ hr h1 F _ S0 H _ (env_start h2) h3 (fun σ C ns fs w' d S' H' x s1 W1 xr => h5 C ns fs w' d S' H' x s1 W1 xr) ⟨fun δ' w' σ' S' H' k s1 hE W1 => h4 _ w' _ S' H' k s1 W1 rfl, h4, fun _ _ _ _ _ z => z.elim, fun _ _ _ _ _ z => z.elim⟩
end
end DL

set_option Elab.async false
set_option linter.all false
set_option maxRecDepth 100000
set_option maxHeartbeats 1000000
/-! Slices, index, isinstance. -/
namespace DL
open PySem PySem.Spec PyProof.Rows L2 LamX
theorem cut_to (xs : List V) (n : Nat) : cutV xs none (some (n : Int)) = xs.take n := by
  unfold cutV
  rw [HT.sIx_none, HT.sIx_nat, List.drop_zero, Nat.sub_zero]
  by_cases h : n ≤ xs.length
  · rw [Nat.min_eq_left h]
  · rw [Nat.min_eq_right (by omega), List.take_of_length_le (Nat.le_refl _), List.take_of_length_le (by omega)]
theorem cut_from (xs : List V) (n : Nat) : cutV xs (some (n : Int)) none = xs.drop n := by
  unfold cutV
  rw [HT.sIx_none, HT.sIx_nat]
  by_cases h : n ≤ xs.length
  · rw [Nat.min_eq_left h, List.take_of_length_le (by rw [List.length_drop]; omega)]
  · rw [Nat.min_eq_right (by omega), List.drop_eq_nil_of_le (Nat.le_refl _), List.drop_eq_nil_of_le (by omega), List.take_nil]
section
variable {X : Cx} {T : List (Addr × Str)} {W : WX} {χ : XD} {δ : Dn} {w : Wp} {pos : Pos}
/-- what may be read as a list -/
def LstD (d : D) (ds : List D) : Prop := d = .lst ds ∨ d = .rd ds
theorem LstD.at_ {K : PySem.W.Frag} {S F H : Hp} {w : Wp} {d : D} {ds : List D} {x : V} (l : LstD d ds) (hW : World K T S w F H) (r : Rep K S d x) : ∃ a xs, x = .ref a ∧ SqL K H a xs ∧ RepL K S ds xs := by
  rcases l with rfl | rfl
  · obtain ⟨a, xs, rfl, h1, h2⟩ := r
    exact ⟨a, xs, rfl, SqL.of (hW.same _ _ h1), h2⟩
  · obtain ⟨a, xs, rfl, h1, h2⟩ := r
    exact ⟨a, xs, rfl, hW.same.seq h1, h2⟩
/-- xs[:n] -/
theorem pd_slTo {e : Expr} {n : Nat} {j : Nat} {p1 p2 : Pos} {κ : D → Wp → Prop} (h : PD X T W χ e δ w fun d w1 => ∃ ds, LstD d ds ∧ κ (.lst (ds.take n)) w1) : PD X T W χ (.Subscript e (.Slice none (some (.Constant (.int (n : Int)) j p1)) none p2) pos) δ w κ := fun F σ S H Q hE hW hX hK =>
  wp_pe (pe_slice sl_list (pe_wp e) po_none (po_some pe_int)) (by
    refine h F σ S H _ hE hW hX fun d w1 v S1 H1 k s1 W1 r => ?_
    obtain ⟨ds, hl, k⟩ := k
    obtain ⟨a, xs, rfl, h1, h2⟩ := hl.at_ W1 r
    refine ⟨n, rfl, a, xs, rfl, h1, fun p hp => ?_⟩
    rw [cut_to]
    have s2 : Same S1 (upd S1 p (.lst (xs.take n))) := same_upd (W1.free hp).1
    exact hK _ w1 _ _ _ k (s1.trans s2) (W1.laid hp fun _ z => by cases z) ⟨p, _, rfl, upd_same, (h2.take n).mono s2⟩)
/-- xs[n:] -/
theorem pd_slFrom {e : Expr} {n : Nat} {j : Nat} {p1 p2 : Pos} {κ : D → Wp → Prop} (h : PD X T W χ e δ w fun d w1 => ∃ ds, LstD d ds ∧ κ (.lst (ds.drop n)) w1) : PD X T W χ (.Subscript e (.Slice (some (.Constant (.int (n : Int)) j p1)) none none p2) pos) δ w κ := fun F σ S H Q hE hW hX hK =>
  wp_pe (pe_slice sl_list (pe_wp e) (po_some pe_int) po_none) (by
    refine h F σ S H _ hE hW hX fun d w1 v S1 H1 k s1 W1 r => ?_
    obtain ⟨ds, hl, k⟩ := k
    obtain ⟨a, xs, rfl, h1, h2⟩ := hl.at_ W1 r
    refine ⟨n, rfl, a, xs, rfl, h1, fun p hp => ?_⟩
    rw [cut_from]
    have s2 : Same S1 (upd S1 p (.lst (xs.drop n))) := same_upd (W1.free hp).1
    exact hK _ w1 _ _ _ k (s1.trans s2) (W1.laid hp fun _ z => by cases z) ⟨p, _, rfl, upd_same, (h2.drop n).mono s2⟩)
end
section
variable {K : PySem.W.Frag} {T : List (Addr × Str)} {w : Wp} {κ : D → Wp → Prop}
theorem before_ix : ∀ {ns : List Int} {m : Nat} {n : Int}, m < ns.idxOf n → ns[m]? ≠ some n
  | [], m, n, h => by simp at h
  | a :: ns, m, n, h => by
    rw [List.idxOf_cons] at h
    by_cases e : a = n
    · have e' : (a == n) = true := beq_iff_eq.mpr e
      rw [e'] at h
      exact absurd h (Nat.not_lt_zero _)
    · have e' : (a == n) = false := beq_eq_false_iff_ne.mpr e
      rw [e'] at h
      have h' : m < ns.idxOf n + 1 := h
      cases m with
      | zero => exact fun z => e (Option.some.inj z)
      | succ m => exact before_ix (ns := ns) (m := m) (by omega)
/-- xs.index(x), ints -/
theorem vm_index {ns : List Int} {n : Int} (hm : n ∈ ns) (k : κ (I ((ns.idxOf n : Nat) : Int)) w) : VRM K T (rIndex K) (.lst (ns.map I)) [I n] w κ := fun F S H x xs Q hW r1 r2 hK => by
  obtain ⟨a, ys, rfl, h1, h2⟩ := r1
  obtain ⟨y, zs, rfl, h3, h4⟩ := r2
  have h3' : y = .int n := h3
  have h4' : zs = [] := h4
  have h2' := h2.ints
  subst h3' h4' h2'
  have hi : ns.idxOf n < ns.length := List.idxOf_lt_length_of_mem hm
  refine ⟨a, ns.map V.int, .int n, ns.idxOf n, .int n, rfl, rfl, SqL.of (hW.same _ _ h1), rfl, ?_, ?_, ?_, ?_, hK _ w _ S H k (Same.refl _) hW rfl⟩
  · rw [List.all_eq_true]
    intro v hv
    obtain ⟨m, _, rfl⟩ := List.mem_map.mp hv
    rfl
  · rw [List.getElem?_map, List.getElem?_eq_getElem hi, List.getElem_idxOf hi]
    rfl
  · show (n == n) = true
    exact beq_self_eq_true n
  · intro m z' hlt hz
    rw [List.getElem?_map] at hz
    cases e : ns[m]? with
    | none =>
      rw [e] at hz
      cases hz
    | some z =>
      rw [e] at hz
      cases hz
      show (z == n) = false
      have hne : z ≠ n := fun q => by
        subst q
        exact before_ix hlt e
      exact beq_eq_false_iff_ne.mpr hne
/-- a datum's built-in type -/
def tyD : D → Option String
  | .val .non => some "NoneType"
  | .val (.bl _) => some "bool"
  | .val (.int _) => some "int"
  | .val (.str _) => some "str"
  | .val _ => none
  | .lst _ => some "list"
  | .rd _ => none
  | .tup _ => some "tuple"
  | .obj _ _ _ => none
  | .exc _ _ _ _ => none
  | .dic _ => none
  | .dct _ => none
theorem tyx {S F H : Hp} {d : D} {x : V} {t : String} (hW : World K T S w F H) (h : tyD d = some t) (r : Rep K S d x) : TyX K H x (.type t) := by
  cases d with
  | val v =>
    have e : x = v := r
    subst e
    cases x <;> first | (cases h; exact .base (by constructor)) | cases h
  | lst ds =>
    obtain ⟨a, xs, rfl, h1, h2⟩ := r
    cases h
    exact .base (.lst (hW.same _ _ h1))
  | tup ds =>
    obtain ⟨a, xs, rfl, h1, h2⟩ := r
    cases h
    exact .base (.tup (hW.same _ _ h1))
  | _ => cases h
/-- isinstance(x, T), both built-in -/
theorem va_isi {d : D} {t n : String} {b : Bool} (ht : tyD d = some t) (hk : kitB t n = some b) (k : κ (B b) w) : VRA K T (rIsi K) [d, .val (.ty n)] w κ := fun F S H xs Q hW r hK => by
  obtain ⟨x, ys, rfl, h1, y, zs, rfl, h2, h3⟩ := r
  have h2' : y = .ty n := h2
  have h3' : zs = [] := h3
  subst h2' h3'
  exact ⟨x, .ty n, .type t, .type n, b, rfl, .ty n, tyx hW ht h1, kit_ty hk, hK _ w _ S H k (Same.refl _) hW rfl⟩
end
end DL

set_option Elab.async false
set_option linter.all false
set_option maxRecDepth 100000
set_option maxHeartbeats 1000000
/-! Usual comprehensions. -/
namespace DL
open PySem PySem.Spec PyProof.Rows L2 LamX
section
variable {X : Cx} {T : List (Addr × Str)} {δ : Dn} {w : Wp} {is vs : List Nat} {tg elt : Expr} {ifs : List Expr} {scope : Scope} {κ : List D → Wp → Prop}
/-- one turn: the item d, the test's answer b, the element y; w stays -/
def TurnD (X : Cx) (T : List (Addr × Str)) (is : List Nat) (tg : Expr) (ifs : List Expr) (elt : Expr) (scope : Scope) (δ : Dn) (w : Wp) (d : D) (b : Bool) (y : D) : Prop :=
  ∀ s H0 C cl fp, PGL (bx X s H0 scope cl C fp) T is tg d δ w fun δ2 w2 => ∀ s H0 C cl fp, PTsD (bx X s H0 scope cl C fp) T ifs δ2 w2 fun b' w3 =>
    if b' = true then ∀ s H0 C cl fp, PD (bx X s H0 scope cl C fp) T Wf noX elt δ2 w3 fun y' w4 => b = true ∧ y' = y ∧ w4 = w else b = false ∧ w3 = w
theorem lcd_ix {ds : List D} (p : Nat → Bool) (f : Nat → D) (hz : ds.length < sizeLine) (turn : ∀ i d, ds[i]? = some d → TurnD X T is tg ifs elt scope (wipeD δ vs) w d (p i) (f i))
    (k : κ (((List.range ds.length).filter p).map f) w) : LcD X T is tg ifs elt scope vs δ κ ds w := by
  refine ⟨hz, fun i acc w' => acc = ((List.range i).filter p).map f ∧ w' = w, ⟨rfl, rfl⟩, ?_, fun acc w' ⟨e1, e2⟩ => by rw [e1, e2]; exact k⟩
  rintro i d acc w' hd ⟨rfl, rfl⟩ s H0 C cl fp
  intro F v σ S H Q r hE hW hK
  refine turn i d hd s H0 C cl fp F v σ S H Q r hE hW fun δ' w' σ' S' H' k' s1 hE1 W1 o1 l1 => ?_
  refine hK δ' w' σ' S' H' (fun s H0 C cl fp => ?_) s1 hE1 W1 o1 l1
  intro F2 σ2 S2 H2 Q2 hE2 W2 hK2
  refine k' s H0 C cl fp F2 σ2 S2 H2 Q2 hE2 W2 fun b w3 S3 H3 k3 s3 W3 => ?_
  refine hK2 b w3 S3 H3 ?_ s3 W3
  try dsimp only at k3 ⊢
  cases b with
  | true =>
    rw [if_pos rfl] at k3 ⊢
    intro s H0 C cl fp
    refine (k3 s H0 C cl fp).imp fun y w4 ⟨e1, e2, e3⟩ => ⟨?_, e3⟩
    rw [e2, List.range_succ, List.filter_append, List.map_append, List.filter_cons, if_pos e1]
    rfl
  | false =>
    rw [if_neg Bool.false_ne_true] at k3 ⊢
    refine ⟨?_, k3.2⟩
    rw [List.range_succ, List.filter_append, List.map_append, List.filter_cons, if_neg (by rw [k3.1]; exact Bool.false_ne_true)]
    show _ = _ ++ []
    rw [List.append_nil]
theorem range_map {α β : Type} (xs : List α) (f : α → β) (g : Nat → β) (h : ∀ i x, xs[i]? = some x → g i = f x) : (List.range xs.length).map g = xs.map f := by
  refine List.ext_getElem (by simp) fun i h1 h2 => ?_
  rw [List.getElem_map, List.getElem_map, List.getElem_range]
  exact h i _ (List.getElem?_eq_getElem (by simpa using h2))
/-- over a list, all items -/
theorem lcd_map {α : Type} {xs : List α} {g : α → D} (f : α → D) (hz : xs.length < sizeLine) (turn : ∀ x ∈ xs, TurnD X T is tg ifs elt scope (wipeD δ vs) w (g x) true (f x)) (k : κ (xs.map f) w) : LcD X T is tg ifs elt scope vs δ κ (xs.map g) w := by
  refine ⟨by rw [List.length_map]; exact hz, fun i acc w' => acc = (xs.take i).map f ∧ w' = w, ⟨rfl, rfl⟩, ?_, fun acc w' ⟨e1, e2⟩ => by rw [e1, e2, List.length_map, List.take_length]; exact k⟩
  rintro i d acc w' hd ⟨rfl, rfl⟩ s H0 C cl fp
  rw [List.getElem?_map] at hd
  cases e : xs[i]? with
  | none =>
    rw [e] at hd
    cases hd
  | some x =>
    rw [e] at hd
    cases hd
    intro F v σ S H Q r hE hW hK
    refine turn x (List.mem_of_getElem? e) s H0 C cl fp F v σ S H Q r hE hW fun δ' w' σ' S' H' k' s1 hE1 W1 o1 l1 => ?_
    refine hK δ' w' σ' S' H' (fun s H0 C cl fp => ?_) s1 hE1 W1 o1 l1
    intro F2 σ2 S2 H2 Q2 hE2 W2 hK2
    refine k' s H0 C cl fp F2 σ2 S2 H2 Q2 hE2 W2 fun b w3 S3 H3 k3 s3 W3 => ?_
    refine hK2 b w3 S3 H3 ?_ s3 W3
    try dsimp only at k3 ⊢
    cases b with
    | true =>
      rw [if_pos rfl] at k3 ⊢
      intro s H0 C cl fp
      refine (k3 s H0 C cl fp).imp fun y w4 ⟨e1, e2, e3⟩ => ⟨?_, e3⟩
      rw [e2, List.take_add_one, e, List.map_append]
      rfl
    | false =>
      rw [if_neg Bool.false_ne_true] at k3
      exact absurd k3.1 (by simp)
/-- over a list, with a test -/
theorem lcd_filter {α : Type} {xs : List α} {g : α → D} (p : α → Bool) (f : α → D) (hz : xs.length < sizeLine) (turn : ∀ x ∈ xs, TurnD X T is tg ifs elt scope (wipeD δ vs) w (g x) (p x) (f x)) (k : κ ((xs.filter p).map f) w) : LcD X T is tg ifs elt scope vs δ κ (xs.map g) w := by
  refine ⟨by rw [List.length_map]; exact hz, fun i acc w' => acc = ((xs.take i).filter p).map f ∧ w' = w, ⟨rfl, rfl⟩, ?_, fun acc w' ⟨e1, e2⟩ => by rw [e1, e2, List.length_map, List.take_length]; exact k⟩
  rintro i d acc w' hd ⟨rfl, rfl⟩ s H0 C cl fp
  rw [List.getElem?_map] at hd
  cases e : xs[i]? with
  | none =>
    rw [e] at hd
    cases hd
  | some x =>
    rw [e] at hd
    cases hd
    intro F v σ S H Q r hE hW hK
    refine turn x (List.mem_of_getElem? e) s H0 C cl fp F v σ S H Q r hE hW fun δ' w' σ' S' H' k' s1 hE1 W1 o1 l1 => ?_
    refine hK δ' w' σ' S' H' (fun s H0 C cl fp => ?_) s1 hE1 W1 o1 l1
    intro F2 σ2 S2 H2 Q2 hE2 W2 hK2
    refine k' s H0 C cl fp F2 σ2 S2 H2 Q2 hE2 W2 fun b w3 S3 H3 k3 s3 W3 => ?_
    refine hK2 b w3 S3 H3 ?_ s3 W3
    have tk : xs.take (i + 1) = xs.take i ++ [x] := by rw [List.take_add_one, e]; rfl
    try dsimp only at k3 ⊢
    cases b with
    | true =>
      rw [if_pos rfl] at k3 ⊢
      intro s H0 C cl fp
      refine (k3 s H0 C cl fp).imp fun y w4 ⟨e1, e2, e3⟩ => ⟨?_, e3⟩
      rw [e2, tk, List.filter_append, List.map_append, List.filter_cons, if_pos e1]
      rfl
    | false =>
      rw [if_neg Bool.false_ne_true] at k3 ⊢
      refine ⟨?_, k3.2⟩
      rw [tk, List.filter_append, List.map_append, List.filter_cons, if_neg (by rw [k3.1]; exact Bool.false_ne_true)]
      show _ = _ ++ []
      rw [List.append_nil]
end
end DL

set_option Elab.async false
set_option linter.all false
set_option maxRecDepth 100000
set_option maxHeartbeats 1000000
/-! Lists that stand or are owned, read alike. -/
namespace DL
open PySem PySem.Spec PyProof.Rows L2 LamX
/-- a list that stands or is owned -/
def Lk (w : Wp) (d : D) (ds : List D) : Prop := d = .lst ds ∨ ∃ a, d = R a ∧ w a = some (.lst ds)
section
variable {K : PySem.W.Frag} {T : List (Addr × Str)} {w : Wp} {κ : D → Wp → Prop}
theorem Lk.at_ {S F H : Hp} {d : D} {ds : List D} {x : V} (l : Lk w d ds) (hW : World K T S w F H) (r : Rep K S d x) : ∃ a xs, x = .ref a ∧ H a = some (.lst xs) ∧ RepL K S ds xs := by
  rcases l with rfl | ⟨a, rfl, hw⟩
  · obtain ⟨a, xs, rfl, h1, h2⟩ := r
    exact ⟨a, xs, rfl, hW.same _ _ h1, h2⟩
  · obtain ⟨_, _, o, h1, h2⟩ := hW.own a _ hw
    obtain ⟨xs, rfl, h2⟩ := h2
    have r' : x = .ref a := r
    exact ⟨a, xs, r', h1, h2⟩
theorem vr_ixK {d : D} {ds : List D} {i : Nat} {e : D} (l : Lk w d ds) (h : ds[i]? = some e) (k : κ e w) : VR2 K T (rIxL K) d (I (i : Int)) w κ := fun F S H x y Q hW r1 r2 hK => by
  obtain ⟨a, xs, rfl, h1, h2⟩ := l.at_ hW r1
  obtain ⟨v, h3, h4⟩ := h2.get h
  exact ⟨a, xs, i, v, rfl, r2, SqL.of h1, ix_at h3, hK e w v S H k (Same.refl _) hW h4⟩
theorem va_lenK {d : D} {ds : List D} (l : Lk w d ds) (k : κ (I (ds.length : Int)) w) : VRA K T (fun xs H Q => ∃ p ys, xs = [.ref p] ∧ (SqL K H p ys ∨ SqT K H p ys) ∧ Q (.int ys.length) H) [d] w κ := fun F S H xs Q hW r hK => by
  obtain ⟨y, ys, rfl, h1, h2⟩ := r
  obtain ⟨a, zs, rfl, h3, h4⟩ := l.at_ hW h1
  have h2' : ys = [] := h2
  subst h2'
  refine ⟨a, zs, rfl, .inl (SqL.of h3), ?_⟩
  rw [h4.length]
  exact hK _ w _ S H k (Same.refl _) hW rfl
theorem va_isiK {d : D} {ds : List D} {n : String} {b : Bool} (l : Lk w d ds) (hk : kitB "list" n = some b) (k : κ (B b) w) : VRA K T (rIsi K) [d, .val (.ty n)] w κ := fun F S H xs Q hW r hK => by
  obtain ⟨x, ys, rfl, h1, y, zs, rfl, h2, h3⟩ := r
  have h2' : y = .ty n := h2
  have h3' : zs = [] := h3
  subst h2' h3'
  obtain ⟨a, xs, rfl, h4, h5⟩ := l.at_ hW h1
  exact ⟨_, .ty n, .type "list", .type n, b, rfl, .ty n, .base (.lst h4), kit_ty hk, hK _ w _ S H k (Same.refl _) hW rfl⟩
end
/-- the same data, n deep -/
inductive Sm : Nat → D → D → Prop
  | non {n : Nat} : Sm n N N
  | bl {n : Nat} (b : Bool) : Sm n (B b) (B b)
  | int {n : Nat} (i : Int) : Sm n (I i) (I i)
  | str {n : Nat} (x : Str) : Sm n (DL.T x) (DL.T x)
  | lst {n : Nat} {ds es : List D} (hl : ds.length = es.length) (hz : es.length ≤ sizeLine) (h : ∀ (i : Nat) (x y : D), ds[i]? = some x → es[i]? = some y → Sm n x y) : Sm (n + 1) (.lst ds) (.lst es)
  | tup {n : Nat} {ds es : List D} (hl : ds.length = es.length) (hz : es.length ≤ sizeLine) (h : ∀ (i : Nat) (x y : D), ds[i]? = some x → es[i]? = some y → Sm n x y) : Sm (n + 1) (.tup ds) (.tup es)
theorem Sm.map {α : Type} {n : Nat} {xs : List α} {f g : α → D} (hz : xs.length ≤ sizeLine) (h : ∀ x ∈ xs, Sm n (f x) (g x)) : Sm (n + 1) (.lst (xs.map f)) (.lst (xs.map g)) := by
  refine .lst (by rw [List.length_map, List.length_map]) (by rw [List.length_map]; exact hz) fun i x y h1 h2 => ?_
  rw [List.getElem?_map] at h1 h2
  cases e : xs[i]? with
  | none =>
    rw [e] at h1
    cases h1
  | some z =>
    rw [e] at h1 h2
    cases h1
    cases h2
    exact h z (List.mem_of_getElem? e)
theorem Sm.nil {n : Nat} : Sm (n + 1) (.lst []) (.lst []) := .lst rfl (Nat.zero_le _) fun i x y h _ => by simp at h
theorem Sm.cons {n : Nat} {d e : D} {ds es : List D} (h : Sm n d e) (k : Sm (n + 1) (.lst ds) (.lst es)) (hz : es.length + 1 ≤ sizeLine) : Sm (n + 1) (.lst (d :: ds)) (.lst (e :: es)) := by
  cases k with
  | lst hl hz' h' =>
    refine .lst (by simp [hl]) (by simpa using hz) fun i x y h1 h2 => ?_
    cases i with
    | zero =>
      cases h1
      cases h2
      exact h
    | succ i => exact h' i x y h1 h2
end DL

set_option Elab.async false
set_option linter.all false
set_option maxRecDepth 100000
set_option maxHeartbeats 1000000
/-! Dicts that stand: made by a comprehension, read by a key; ranges from their end. -/
namespace DL
open PySem PySem.Spec PyProof.Rows L2 LamX
section
variable {X : Cx} {T : List (Addr × Str)} {W : WX} {χ : XD} {δ : Dn} {w : Wp} {pos : Pos}
def downs (n : Nat) : List D := (List.range n).map fun (k : Nat) => I (((n - 1 - k : Nat)) : Int)
theorem downs_len (n : Nat) : (downs n).length = n := by unfold downs; rw [List.length_map, List.length_range]
theorem downs_at {n i : Nat} {d : D} (h : (downs n)[i]? = some d) : i < n ∧ d = I (((n - 1 - i : Nat)) : Int) := by
  unfold downs at h
  rw [List.getElem?_map] at h
  by_cases hi : i < n
  · rw [List.getElem?_range hi] at h
    exact ⟨hi, (Option.some.inj h).symm⟩
  · rw [List.getElem?_eq_none (by simpa using hi)] at h
    cases h
/-- reversed(range(n)) -/
theorem it_revR {tg e : Expr} {p p2 pos2 : Pos} {κ : List D → Wp → Prop} (hm : X.mg "reversed" = none) (hm2 : X.mg "range" = none) (h : PD X T W χ e δ w fun d w1 => ∃ n : Nat, d = I (n : Int) ∧ (n : Int) < 2 ^ 62 ∧ κ (downs n) w1)
    (hg : Gl X "reversed" := by rfl) (hg2 : Gl X "range" := by rfl) (he : starEach [e] X.env = (false, eval e X.env) :: starEach [] X.env := by rfl)
    (he2 : starEach [.Call (.Name "range" p2) [e] [] pos2] X.env = (false, eval (.Call (.Name "range" p2) [e] [] pos2) X.env) :: starEach [] X.env := by rfl) :
    IterD X T W χ tg (.Call (.Name "reversed" p) [.Call (.Name "range" p2) [e] [] pos2] [] pos) δ w κ :=
  ⟨_, pi_revR hg hm (prg_1 hg2 hm2 (pe_wp e) he) he2, fun F σ S H R hE hW hX hK => by
    refine h F σ S H _ hE hW hX fun d w1 v S1 H1 k s1 W1 r => ?_
    obtain ⟨n, rfl, hn, k⟩ := k
    have r' : v = .int (n : Int) := r
    refine ⟨n, r', by decide, by decide, by omega, hn, ?_⟩
    have en : (((n : Int)) - 0).toNat = n := by omega
    rw [en]
    have ww := walk_rangeC (lo := (0 : Int) + ((n : Nat) : Int) - 1) (c := -1) (n := n)
    refine hK (downs n) w1 S1 H1 _ _ _ k s1 W1 (by rw [downs_len]; exact ww) (fun S2 w2 F2 H2 s2 W2 => True.intro) fun i d S2 w2 F2 H2 x H3 hd s2 W2 y => ?_
    obtain ⟨rfl, hx⟩ := y
    obtain ⟨hi, rfl⟩ := downs_at hd
    refine ⟨S2, Same.refl _, W2, ?_⟩
    show x = .int ((n - 1 - i : Nat) : Int)
    rw [hx]
    show V.int (0 + (n : Int) - 1 + (i : Int) * (-1)) = _
    congr 1
    omega⟩
/-- d[k] -/
theorem pd_dget {o i : Expr} {κ : D → Wp → Prop} (hu : X.A.units + 1 < cLine) (h : PD X T W χ o δ w fun d w1 => PD X T W χ i δ w1 fun e w2 => ∃ kvs k v, d = .dic kvs ∧ e = .val (kV k) ∧ valV kvs k = some v ∧ κ (.val v) w2)
    (hs : NoSl i := by exact fun _ _ => rfl) : PD X T W χ (.Subscript o i pos) δ w κ := fun F σ S H Q hE hW hX hK =>
  wp_pe (pe_dget hu (pe_wp o) (pe_wp i) hs) (by
    refine h F σ S H _ hE hW hX fun d w1 x S1 H1 k s1 W1 r1 => ?_
    refine k F σ S1 H1 _ (hE.mono s1) W1 (hX.mono s1) fun e w2 y S2 H2 k2 s2 W2 r2 => ?_
    obtain ⟨kvs, ky, v, rfl, rfl, hv, k2⟩ := k2
    obtain ⟨a, rfl, ha⟩ := r1
    have r2' : y = kV ky := r2
    subst r2'
    refine ⟨a, v, rfl, .inl ⟨kvs, ky, .inl (W2.same _ _ (s2 _ _ ha)), rfl, hv.symm⟩, ?_⟩
    exact hK _ w2 _ S2 H2 k2 (s1.trans s2) W2 rfl)
/-- the turns of a dict's comprehension over what is walked -/
theorem dc_turns {J : It} {n : Nat} {G : Hp → Prop} {Y : Nat → Hp → V → Hp → Prop} (w : Walk J n G Y) {g : TG} {tt : TT} {tk tv : TE} {vs : List Nat} {σ : L2.St} {H1 : Hp} {L : Addr} {Qd : Hp → Prop} (Pv : Nat → Hp → Prop)
    (h0 : Pv 0 (upd H1 L (.dK []))) (hG : ∀ i H, i ≤ n → Pv i H → G H)
    (hs : ∀ i x H H', i < n → Pv i H → Y i H x H' → g x (L2.wipe σ vs) H' fun σ2 H2 => L2.wipe σ2 vs = L2.wipe σ vs ∧ tt σ2 H2 fun b H3 =>
      if b = true then tk σ2 H3 fun y H4 => tv σ2 H4 fun z H5 => ∃ kvs k, y = kV k ∧ H5 L = some (.dK kvs) ∧ kvs.length < sizeLine ∧ Pv (i + 1) (upd H5 L (.dK (putK kvs k z))) else Pv (i + 1) H3)
    (hd : ∀ H, Pv n H → Qd H) : ∃ W : Nat → Nat → Hp → Prop, (∃ m, W 0 m (upd H1 L (.dK []))) ∧ ∀ i m H, W i m H →
      (J.stop i H ∧ Qd H) ∨ (J.go i H ∧ ∃ Nx : Hp → Prop, (∀ H', Nx H' → ∃ m', m' < m ∧ W (i + 1) m' H') ∧ ∀ x H', J.yld i H x H' → g x (L2.wipe σ vs) H' fun σ2 H2 => L2.wipe σ2 vs = L2.wipe σ vs ∧ tt σ2 H2 fun b H3 =>
        if b = true then tk σ2 H3 fun y H4 => tv σ2 H4 fun z H5 => ∃ kvs k, y = kV k ∧ H5 L = some (.dK kvs) ∧ kvs.length < sizeLine ∧ Nx (upd H5 L (.dK (putK kvs k z))) else Nx H3) :=
  ⟨fun i m H => m = n - i ∧ i ≤ n ∧ Pv i H, ⟨n, rfl, Nat.zero_le _, h0⟩, by
    intro i m H h
    obtain ⟨hm, hi, p⟩ := h
    have gg := hG i H hi p
    cases Nat.lt_or_ge i n with
    | inl hlt =>
      exact Or.inr ⟨w.goes i H hlt gg, Pv (i + 1), (fun H' p' => ⟨n - (i + 1), (by omega), rfl, hlt, p'⟩), fun x H' y => hs i x H H' hlt p (w.yields i H x H' hlt gg y)⟩
    | inr hge =>
      obtain rfl : i = n := Nat.le_antisymm hi hge
      exact Or.inl ⟨w.stops H gg, hd H p⟩⟩
/-- what a dict's comprehension (without a test) asks -/
def DcD (X : Cx) (T : List (Addr × Str)) (is : List Nat) (tg kx vx : Expr) (scope : Scope) (vs : List Nat) (δ : Dn) (κ : List (Key × V) → Wp → Prop) (ds : List D) (w1 : Wp) : Prop :=
  ds.length < sizeLine ∧ ∃ Pv : Nat → List (Key × V) → Wp → Prop, Pv 0 [] w1 ∧
    (∀ (i : Nat) (d : D) acc w', ds[i]? = some d → Pv i acc w' → ∀ s H0 C cl fp, PGL (bx X s H0 scope cl C fp) T is tg d (wipeD δ vs) w' fun δ2 w2 => ∀ s H0 C cl fp, PD (bx X s H0 scope cl C fp) T Wf noX kx δ2 w2 fun kd w3 =>
      ∀ s H0 C cl fp, PD (bx X s H0 scope cl C fp) T Wf noX vx δ2 w3 fun vd w4 => ∃ k v, kd = .val (kV k) ∧ vd = .val v ∧ Pv (i + 1) (putK acc k v) w4) ∧
    ∀ acc w', Pv ds.length acc w' → κ acc w'
theorem ptsx_nil {scope : Scope} (s : Shared) (H : Hp) (C : Addr) (cl : List (Str × Addr)) (fp : List Addr) : PTs (X.blk s H scope (compEnvC scope cl C X.env) fp) [] (fun σ H Q => Q true H) := pts_nil
theorem pd_dc {kx vx tg iter : Expr} {scope : Scope} (own : List (Str × Nat)) (is : List Nat) {κ : D → Wp → Prop} (hc : X.calm = true) (hN : X.N.Nodup) (ok : BlkOk X.N X.env.scope scope own) (hsub : ∀ i ∈ is, i ∈ own.map (·.2))
    (h : IterD X T W χ tg iter δ w (DcD X T is tg kx vx scope (own.map (·.2)) δ (fun acc w' => κ (.dic acc) w'))) (hs : ∀ x, foldedSetIterable iter X.env x = pure x := by intro _; rfl) : PD X T W χ (.DictComp kx vx [⟨tg, iter, [], 0⟩] scope pos) δ w κ := fun F σ S H Q hE hW hX hK => by
  obtain ⟨wi, hi, h⟩ := h
  refine wp_pe (pe_dc hc hN hi ok pg_bx ptsx_nil pe_bx pe_bx hs) ?_
  refine h F σ S H _ hE hW hX fun ds w1 S1 H1 J G Y k s1 W1 ww hG hY L nL => ?_
  obtain ⟨hz, Pv, p0, turn, done⟩ := k
  have fL : F L = none := (W1.free nL).2.2
  refine dc_turns ww (g := lcG X scope tg) (tt := fun σ H Q => Q true H) (tk := lcE X scope kx) (tv := lcE X scope vx) (vs := own.map (·.2)) (σ := σ) (H1 := H1) (L := L) (Qd := fun H => Q (.ref L) H) (fun i H' => ∃ acc w' S', Pv i acc w' ∧ acc.length ≤ i ∧ Same S1 S' ∧ World X.K T S' w' (upd F L (.dK acc)) H') ?_ (fun i H' _ ⟨acc, w', S', _, _, s2, W2⟩ => hG S' w' _ H' s2 W2) ?_ ?_
  · exact ⟨[], w1, S1, p0, Nat.le_refl _, Same.refl _, W1.takeF nL (fun _ z => by cases z)⟩
  · rintro i x H' H3 hi ⟨acc, w', S', pv, hacc, s2, W2⟩ y
    obtain ⟨S3, s3, W3, r⟩ := hY i ds[i] S' w' _ H' x H3 (List.getElem?_eq_getElem hi) s2 W2 y
    intro s H0 C cl fp
    refine turn i ds[i] acc w' (List.getElem?_eq_getElem hi) pv s H0 C cl fp (upd F L (.dK acc)) x (L2.wipe σ (own.map (·.2))) S3 H3 _ r ((hE.mono (s1.trans (s2.trans s3))).wipe _) W3 fun δ2 w2 σ2 S4 H4 k s4 hE4 W4 o4 l4 => ?_
    refine ⟨?_, ?_⟩
    · rw [wipe_eq (σ1 := L2.wipe σ (own.map (·.2))) (σ2 := σ2) l4 fun j hj => o4 j fun z => hj (hsub j z)]
      exact wipe_eq (L2.wipe_length σ _) fun j hj => L2.wipe_out hj
    · show (if true = true then _ else _)
      rw [if_pos rfl]
      intro s H0 C cl fp
      refine k s H0 C cl fp (upd F L (.dK acc)) σ2 S4 H4 _ hE4 W4 exf fun kd w5 y5 S5 H5 k5 s5 W5 r5 => ?_
      intro s H0 C cl fp
      refine k5 s H0 C cl fp (upd F L (.dK acc)) σ2 S5 H5 _ (hE4.mono s5) W5 exf fun vd w6 z6 S6 H6 k6 s6 W6 r6 => ?_
      obtain ⟨ky, v, rfl, rfl, k6⟩ := k6
      have r5' : y5 = kV ky := r5
      have r6' : z6 = v := r6
      subst r5' r6'
      refine ⟨acc, ky, rfl, (W6.frm L _ upd_same).2, by omega, putK acc ky z6, w6, S6, k6, ?_, s2.trans (s3.trans (s4.trans (s5.trans s6))), ?_⟩
      · have := length_putK acc ky z6
        omega
      · have W7 := W6.putF (o := .dK (putK acc ky z6)) upd_same (fun _ z => by cases z) (fun _ z => by cases z) (fun _ z => by cases z)
        rw [upd_upd] at W7
        exact W7
  · rintro H' ⟨acc, w', S', pv, hacc, s2, W2⟩
    obtain ⟨e1, W3⟩ := W2.freezeF fL fun _ z => by cases z
    have s3 : Same S' (upd S' L (.dK acc)) := same_upd e1
    exact hK _ w' _ _ H' (done acc w' pv) (s1.trans (s2.trans s3)) W3 ⟨L, rfl, upd_same⟩
end
end DL

set_option Elab.async false
set_option linter.all false
set_option maxRecDepth 100000
set_option maxHeartbeats 1000000
/-! the draws -/
namespace Tw
open PySem PySem.Spec PyProof.Rows L2 LamX DL
def top (i : Nat) : Stmt := PySem.Challenge.pw_thinwall_k00_split_tells_its_cells.main.body.getD i (.Pass ⟨0, 0, 0, 0⟩)
abbrev sTake : Stmt := top 18
structure Bag where
  row : List Int
  seed : Int
  cnt : Int
def take (b : Bag) (m : Int) : Int × Bag :=
  match b.row with
  | x :: rest => (x % m, { b with row := if x / m = 0 then rest else x / m :: rest })
  | [] => ((((b.seed * 48271 + (b.cnt + 1) * 69621 + 7) % 2147483647 * 16807 + (b.seed * 48271 + (b.cnt + 1) * 69621 + 7) % 2147483647 / 4099 + (b.cnt + 1) * 40692) % 2147483629) / 127 % m,
    ⟨[], (b.seed * 48271 + (b.cnt + 1) * 69621 + 7) % 2147483647, b.cnt + 1⟩)
def bagPut (w : Wp) (a r : Addr) (b : Bag) : Wp := wu (wu w a (.lst [R r, I b.seed, I b.cnt])) r (.lst (b.row.map I))
structure BagAt (w : Wp) (a r : Addr) (b : Bag) : Prop where
  at_ : w a = some (.lst [R r, I b.seed, I b.cnt])
  row : w r = some (.lst (b.row.map I))
  ne : a ≠ r
theorem bag_put {w : Wp} {a r : Addr} {b : Bag} (h : a ≠ r) : BagAt (bagPut w a r b) a r b := ⟨by unfold bagPut; rw [wu_ne h, wu_same], by unfold bagPut; rw [wu_same], h⟩
theorem wu_comm {w : Wp} {a r : Addr} {h k : HD} (e : a ≠ r) : wu (wu w a h) r k = wu (wu w r k) a h := by
  funext b
  by_cases h1 : b = r
  · subst h1
    rw [wu_same, wu_ne (fun z => e z.symm), wu_same]
  · rw [wu_ne h1]
    by_cases h2 : b = a
    · subst h2
      rw [wu_same, wu_same]
    · rw [wu_ne h2, wu_ne h2, wu_ne h1]
theorem bag_put2 {w : Wp} {a r : Addr} {b b' : Bag} (h : a ≠ r) : bagPut (bagPut w a r b) a r b' = bagPut w a r b' := by
  unfold bagPut
  rw [wu_comm (w := wu (wu w a _) r _) h, wu_wu, wu_comm (w := wu w a _) h.symm, wu_wu, wu_comm h]
theorem wu_id {w : Wp} {a : Addr} {h : HD} (e : w a = some h) : wu w a h = w := by
  funext b
  by_cases z : b = a
  · rw [z, wu_same, e]
  · rw [wu_ne z]
theorem BagAt.put {w : Wp} {a r : Addr} {b : Bag} (h : BagAt w a r b) : bagPut w a r b = w := by
  unfold bagPut
  rw [wu_id h.at_, wu_id h.row]
def spTake : SpD := fun ds w κ χ => ∃ a r b m, ds = [R a, I m] ∧ BagAt w a r b ∧ (0 < m ∧ m.natAbs.log2 < 9000) ∧ κ (I (take b m).1) (bagPut w a r (take b m).2)
theorem py_ints : ∀ ns : List Int, pyDs (ns.map I) = some (ns.map PyData.int)
  | [] => rfl
  | n :: ns => by
    show ((pyD (I n)).bind fun x => (pyDs (ns.map I)).map fun xs => x :: xs) = _
    rw [py_ints ns]
    rfl
theorem lay_ints : ∀ ns : List Int, PyData.canLayAll0 (ns.map PyData.int) = true
  | [] => rfl
  | n :: ns => by
    show (PyData.canLay0 (.int n) && PyData.canLayAll0 (ns.map PyData.int)) = true
    rw [lay_ints ns]
    rfl
theorem dep_ints : ∀ ns : List Int, PyData.depthAll (ns.map PyData.int) = 0
  | [] => rfl
  | n :: ns => by
    show max (PyData.depth (.int n)) (PyData.depthAll (ns.map PyData.int)) = 0
    rw [dep_ints ns]
    rfl
theorem shaped_ints (ns : List Int) : SeqAt.shaped (.list (ns.map PyData.int)) = true := by
  show (PyData.canLayAll0 (ns.map PyData.int) && decide (PyData.depthAll (ns.map PyData.int) + 1 ≤ 64)) = true
  rw [lay_ints, dep_ints]
  rfl
theorem eqv_nil (ps : List PyData) : PyData.eqv (.list ps) (.list []) = ps.isEmpty := by
  cases ps <;> simp [PyData.eqv, PyData.eqvAll]
structure Nm (mg : Str → Option Value) : Prop where
  int : mg "int" = none
section
variable {P : Program} {w : PySem.World} {K : PySem.W.Frag} {mg : Str → Option Value} {base : Heap} {T : List (Addr × Str)}
theorem scTake : FnScope ["bag", "many", "row", "digit", "mixed"] ["bag", "many"] (defScope sTake) := ⟨rfl, rfl, rfl, by decide +kernel, rfl, by decide +kernel, by decide +kernel⟩
theorem ok_take {f : Addr} {fd : FuncData} (G : Fun K "_law_take" "_law_take" sTake f fd) (hm : Nm mg) : FnOk P w K mg base CX0 1 f fd ["bag", "many"] (spOf K T spTake) := by
  refine fnD G scTake (fun ds w κ χ h => ?_) (fun cdv A outer s H E ds w0 κ χ hr h => ?_)
  · obtain ⟨a, r, b, m, rfl, _⟩ := h
    rfl
  · obtain ⟨a, r, b, m, rfl, hb, hm0, k⟩ := h
    have hu := hr.units
    have nd := scTake.nd
    -- row = bag[0]
    refine pssd_cons (psd_set (i := 2) nd rfl ?_)
    refine pd_ix ix_list ?_
    refine pd_var (i := 0) rfl rfl ?_
    refine pd_int ?_
    refine vr_ixO (i := 0) hb.at_ rfl ?_
    -- if row != []
    refine pssd_cons (psd_if ?_)
    refine ptd_cmp (op_neD hu) ?_
    refine pd_var (i := 2) rfl rfl ?_
    refine pd_lst ?_
    refine pad_nil ?_
    refine ⟨Nat.zero_le _, ?_⟩
    refine vr_neDO hb.row (py_ints _) rfl (shaped_ints _) rfl ?_
    refine ⟨_, rfl, ?_⟩
    rw [eqv_nil]
    cases b with
    | mk row seed cnt =>
      cases row with
      | cons x rest =>
        refine iteT ?_
        have hr0 : w0 r = some (.lst (I x :: rest.map I)) := hb.row
        -- digit = int(row[0]) % many
        refine pssd_cons (psd_set (i := 3) nd rfl ?_)
        refine pd_op op_mod ?_
        refine pd_callTy call_int1 rfl hm.int PyProof.Rows.boot_int ?_
        refine pad_cons ?_
        refine pd_ix ix_list ?_
        refine pd_var (i := 2) rfl rfl ?_
        refine pd_int ?_
        refine vr_ixO (i := 0) hr0 rfl ?_
        refine pad_nil ?_
        refine va_int ?_
        refine pd_var (i := 1) rfl rfl ?_
        refine vr_IC hm0.1 ?_
        -- row[0] = int(row[0]) // many
        refine pssd_cons (psd_sub set_list ?_)
        refine pd_op op_fdivW ?_
        refine pd_callTy call_int1 rfl hm.int PyProof.Rows.boot_int ?_
        refine pad_cons ?_
        refine pd_ix ix_list ?_
        refine pd_var (i := 2) rfl rfl ?_
        refine pd_int ?_
        refine vr_ixO (i := 0) hr0 rfl ?_
        refine pad_nil ?_
        refine va_int ?_
        refine pd_var (i := 1) rfl rfl ?_
        refine vr_IC hm0 ?_
        refine pd_var (i := 2) rfl rfl ?_
        refine pd_int ?_
        refine vr_setO (i := 0) hr0 (Nat.succ_pos _) ?_
        generalize hw1 : wu w0 r (.lst ((I x :: rest.map I).set 0 (D.val (V.int (x / m))))) = w1
        have e1 : w1 r = some (.lst (I (x / m) :: rest.map I)) := by
          rw [← hw1]
          exact wu_same
        -- if row[0] == 0: row.pop(0)
        refine pssd_cons (psd_if ?_)
        refine ptd_cmp op_eq ?_
        refine pd_ix ix_list ?_
        refine pd_var (i := 2) rfl rfl ?_
        refine pd_int ?_
        refine vr_ixO (i := 0) e1 rfl ?_
        refine pd_int ?_
        refine vr_eq rfl ⟨_, rfl, ?_⟩
        refine ite2 (fun c => ?_) (fun c => ?_)
        · have c' : x / m = 0 := V.int.inj (of_decide_eq_true c)
          refine pssd_one (psd_expr ?_)
          refine pd_bm PySem.F.plainAttrs_list PySem.F.slot_list_pop PySem.F.type_list_pop mt_popAt ?_
          refine pd_var (i := 2) rfl rfl ?_
          refine ⟨⟨rfl, _, e1⟩, ?_⟩
          refine pad_cons ?_
          refine pd_int ?_
          refine pad_nil ?_
          refine vm_pop0 e1 ?_
          refine pssd_one (psd_ret ?_)
          refine pd_var (i := 3) rfl rfl ?_
          have e2 : take ⟨x :: rest, seed, cnt⟩ m = (x % m, ⟨rest, seed, cnt⟩) := by
            unfold take
            simp only [c', if_pos]
          rw [e2] at k
          have e3 : wu w1 r (.lst (rest.map I)) = bagPut w0 a r ⟨rest, seed, cnt⟩ := by
            unfold bagPut
            rw [← hw1, wu_wu, wu_id hb.at_]
          rw [e3]
          exact k
        · have c' : ¬ x / m = 0 := fun z => c (decide_eq_true (congrArg V.int z))
          refine pssd_nil ?_
          refine pssd_one (psd_ret ?_)
          refine pd_var (i := 3) rfl rfl ?_
          have e2 : take ⟨x :: rest, seed, cnt⟩ m = (x % m, ⟨x / m :: rest, seed, cnt⟩) := by
            unfold take
            simp only [c', if_neg, not_false_eq_true]
          rw [e2] at k
          have e3 : w1 = bagPut w0 a r ⟨x / m :: rest, seed, cnt⟩ := by
            unfold bagPut
            rw [← hw1, wu_id hb.at_]
            rfl
          rw [e3]
          exact k
      | nil =>
        refine iteF ?_
        refine pssd_nil ?_
        have ha0 : w0 a = some (.lst [R r, I seed, I cnt]) := hb.at_
        -- bag[2] = bag[2] + 1
        refine pssd_cons (psd_sub set_list ?_)
        refine pd_op op_add ?_
        refine pd_ix ix_list ?_
        refine pd_var (i := 0) rfl rfl ?_
        refine pd_int ?_
        refine vr_ixO (i := 2) ha0 rfl ?_
        refine pd_int ?_
        refine vr_I ?_
        refine pd_var (i := 0) rfl rfl ?_
        refine pd_int ?_
        refine vr_setO (i := 2) ha0 (by simp) ?_
        generalize hw1 : wu w0 a (.lst ([R r, I seed, I cnt].set 2 (D.val (V.int (cnt + 1))))) = w1
        have e1 : w1 a = some (.lst [R r, I seed, I (cnt + 1)]) := by
          rw [← hw1]
          exact wu_same
        -- bag[1] = ..
        refine pssd_cons (psd_sub set_list ?_)
        refine pd_op op_mod ?_
        refine pd_callTy call_int1 rfl hm.int PyProof.Rows.boot_int ?_
        refine pad_cons ?_
        refine pd_op op_add ?_
        refine pd_op op_add ?_
        refine pd_op op_mul ?_
        refine pd_ix ix_list ?_
        refine pd_var (i := 0) rfl rfl ?_
        refine pd_int ?_
        refine vr_ixO (i := 1) e1 rfl ?_
        refine pd_int ?_
        refine vr_IC (.inr ⟨by decide, by decide⟩) ?_
        refine pd_op op_mul ?_
        refine pd_ix ix_list ?_
        refine pd_var (i := 0) rfl rfl ?_
        refine pd_int ?_
        refine vr_ixO (i := 2) e1 rfl ?_
        refine pd_int ?_
        refine vr_IC (.inr ⟨by decide, by decide⟩) ?_
        refine vr_I ?_
        refine pd_int ?_
        refine vr_I ?_
        refine pad_nil ?_
        refine va_int ?_
        refine pd_int ?_
        refine vr_IC (by decide) ?_
        refine pd_var (i := 0) rfl rfl ?_
        refine pd_int ?_
        refine vr_setO (i := 1) e1 (by simp) ?_
        generalize hs : (seed * 48271 + (cnt + 1) * 69621 + 7) % 2147483647 = sd
        generalize hw2 : wu w1 a (.lst ([R r, I seed, I (cnt + 1)].set 1 (D.val (V.int sd)))) = w2
        have e2 : w2 a = some (.lst [R r, I sd, I (cnt + 1)]) := by
          rw [← hw2]
          exact wu_same
        -- mixed = ..
        refine pssd_cons (psd_set (i := 4) nd rfl ?_)
        refine pd_op op_mod ?_
        refine pd_callTy call_int1 rfl hm.int PyProof.Rows.boot_int ?_
        refine pad_cons ?_
        refine pd_op op_add ?_
        refine pd_op op_add ?_
        refine pd_op op_mul ?_
        refine pd_ix ix_list ?_
        refine pd_var (i := 0) rfl rfl ?_
        refine pd_int ?_
        refine vr_ixO (i := 1) e2 rfl ?_
        refine pd_int ?_
        refine vr_IC (.inr ⟨by decide, by decide⟩) ?_
        refine pd_op op_fdiv ?_
        refine pd_ix ix_list ?_
        refine pd_var (i := 0) rfl rfl ?_
        refine pd_int ?_
        refine vr_ixO (i := 1) e2 rfl ?_
        refine pd_int ?_
        refine vr_IC ⟨by decide, by decide⟩ ?_
        refine vr_I ?_
        refine pd_op op_mul ?_
        refine pd_ix ix_list ?_
        refine pd_var (i := 0) rfl rfl ?_
        refine pd_int ?_
        refine vr_ixO (i := 2) e2 rfl ?_
        refine pd_int ?_
        refine vr_IC (.inr ⟨by decide, by decide⟩) ?_
        refine vr_I ?_
        refine pad_nil ?_
        refine va_int ?_
        refine pd_int ?_
        refine vr_IC (by decide) ?_
        -- return mixed // 127 % many
        refine pssd_one (psd_ret ?_)
        refine pd_op op_mod ?_
        refine pd_op op_fdiv ?_
        refine pd_var (i := 4) rfl rfl ?_
        refine pd_int ?_
        refine vr_IC ⟨by decide, by decide⟩ ?_
        refine pd_var (i := 1) rfl rfl ?_
        refine vr_IC hm0.1 ?_
        have e4 : take ⟨[], seed, cnt⟩ m = (((sd * 16807 + sd / 4099 + (cnt + 1) * 40692) % 2147483629) / 127 % m, ⟨[], sd, cnt + 1⟩) := by
          rw [← hs]
          rfl
        rw [e4] at k
        have e3 : w2 = bagPut w0 a r ⟨[], sd, cnt + 1⟩ := by
          unfold bagPut
          have hr0 : (wu w0 a (.lst [R r, I sd, I (cnt + 1)])) r = some (.lst (List.map I [])) := by
            rw [wu_ne hb.ne.symm]
            exact hb.row
          rw [wu_id hr0, ← hw2, ← hw1, wu_wu]
          rfl
        rw [e3]
        exact k
end
/-! ### _law_start -/
abbrev sStart : Stmt := top 17
def pos0 (n : Int) : Int := if n ≥ 0 then n else -1 - n
def seeds (ns : List Int) : Int := ns.foldl (fun s c => (s * 48271 + c % 1000003 + 11) % 2147483647) 4959
def start (ns : List Int) : Bag :=
  ⟨((ns.take 63).map pos0).filter (fun c => decide (c ≥ 10 ^ 18)), seeds ((ns.take 63).map pos0), 0⟩
def spStart : SpD := fun ds w κ χ => ∃ ns : List Int, ds = [.rd (ns.map I)] ∧ ∀ a r, w a = none → w r = none → a ≠ r → κ (R a) (bagPut w a r (start ns))
theorem lt_line {n : Nat} (h : n ≤ 1000) : n < sizeLine := small1000 h
section
variable {P : Program} {w : PySem.World} {K : PySem.W.Frag} {mg : Str → Option Value} {base : Heap} {T : List (Addr × Str)}
theorem scStart : FnScope ["script", "cells", "seed", "cell"] ["script"] (defScope sStart) := ⟨rfl, rfl, rfl, by decide +kernel, rfl, by decide +kernel, by decide +kernel⟩
theorem ok_start {f : Addr} {fd : FuncData} (G : Fun K "_law_start" "_law_start" sStart f fd) (hm : Nm mg) : FnOk P w K mg base CX0 1 f fd ["script"] (spOf K T spStart) := by
  refine fnD G scStart (fun ds w κ χ h => ?_) (fun cdv A outer s H E ds w0 κ χ hr h => ?_)
  · obtain ⟨ns, rfl, _⟩ := h
    rfl
  · obtain ⟨ns, rfl, k⟩ := h
    have hu := hr.units
    have nd := scStart.nd
    have hz : (ns.take 63).length ≤ 63 := by
      rw [List.length_take]
      exact Nat.min_le_left _ _
    -- cells = [int(cell) if cell >= 0 else -1 - int(cell) for cell in script[:63]]
    refine pssd_cons ?_
    refine psd_setLc (i := 1) (own := [("cell", 3)]) (is := [3]) rfl nd rfl rfl (sw_true rfl rfl rfl (by decide +kernel)) (blkOk_by (N := ["script", "cells", "seed", "cell"]) (sc := defScope sStart) (by decide +kernel)) (by decide) ?_
    refine it_list ?_
    refine pd_slTo (n := 63) ?_
    refine pd_var (i := 0) rfl rfl ?_
    refine ⟨_, .inr rfl, ?_⟩
    rw [← List.map_take]
    refine ⟨_, rfl, ?_⟩
    refine lcd_map (fun n => I (pos0 n)) (lt_line (by omega)) (fun n hn s H0 C cl fp => ?_) ?_
    · refine pgl_name nd rfl ?_
      intro s H0 C cl fp
      refine ptsd_nil ?_
      refine iteT fun s H0 C cl fp => ?_
      refine pd_if ?_
      refine ptd_cmp op_ge ?_
      refine pd_var (i := 3) rfl rfl ?_
      refine pd_int ?_
      refine vr_I ?_
      refine ⟨_, rfl, ?_⟩
      refine ite2 (fun c => ?_) (fun c => ?_)
      · refine pd_callTy call_int1 rfl hm.int PyProof.Rows.boot_int ?_
        refine pad_cons ?_
        refine pd_var (i := 3) rfl rfl ?_
        refine pad_nil ?_
        refine va_int ?_
        refine ⟨rfl, ?_, rfl⟩
        unfold pos0
        rw [if_pos (of_decide_eq_true c)]
      · refine pd_op op_sub ?_
        refine pd_un un_neg ?_
        refine pd_int ?_
        refine vr_U ?_
        refine pd_callTy call_int1 rfl hm.int PyProof.Rows.boot_int ?_
        refine pad_cons ?_
        refine pd_var (i := 3) rfl rfl ?_
        refine pad_nil ?_
        refine va_int ?_
        refine vr_I ?_
        refine ⟨rfl, ?_, rfl⟩
        unfold pos0
        rw [if_neg (fun z => c (decide_eq_true z))]
    have em : (List.map (fun n => I (pos0 n)) (ns.take 63)) = ((ns.take 63).map pos0).map I := by rw [List.map_map]; rfl
    rw [em]
    have hz2 : ((ns.take 63).map pos0).length ≤ 63 := by rw [List.length_map]; exact hz
    have k2 : ∀ a r, w0 a = none → w0 r = none → a ≠ r → κ (R a) (bagPut w0 a r ⟨((ns.take 63).map pos0).filter (fun c => decide (c ≥ 10 ^ 18)), seeds ((ns.take 63).map pos0), 0⟩) := k
    revert k2 hz2
    generalize (ns.take 63).map pos0 = cs
    intro hz2 k2
    -- seed = 4959
    refine pssd_cons (psd_set (i := 2) nd rfl ?_)
    refine pd_int ?_
    -- for cell in cells
    refine pssd_cons (psd_for PassesOwn.never rfl ?_)
    refine it_list ?_
    refine pd_var (i := 1) rfl rfl ?_
    refine ⟨_, rfl, ?_⟩
    refine ⟨fun i δ' w' => w' = w0 ∧ ∃ y3, δ' = [some (.rd (ns.map I)), some (.lst (cs.map I)), some (I (seeds (cs.take i))), y3], ⟨rfl, none, rfl⟩, ?_, ?_⟩
    · rintro i d δ' w' hd ⟨rfl, y3, rfl⟩
      rw [List.getElem?_map] at hd
      cases e : cs[i]? with
      | none =>
        rw [e] at hd
        cases hd
      | some c =>
        rw [e] at hd
        cases hd
        refine pgd_name (i := 3) nd rfl ?_
        refine pssd_one (psd_set (i := 2) nd rfl ?_)
        refine pd_op op_mod ?_
        refine pd_callTy call_int1 rfl hm.int PyProof.Rows.boot_int ?_
        refine pad_cons ?_
        refine pd_op op_add ?_
        refine pd_op op_add ?_
        refine pd_op op_mul ?_
        refine pd_var (i := 2) rfl rfl ?_
        refine pd_int ?_
        refine vr_IC (.inr ⟨by decide, by decide⟩) ?_
        refine pd_op op_mod ?_
        refine pd_var (i := 3) rfl rfl ?_
        refine pd_int ?_
        refine vr_IC (by decide) ?_
        refine vr_I ?_
        refine pd_int ?_
        refine vr_I ?_
        refine pad_nil ?_
        refine va_int ?_
        refine pd_int ?_
        refine vr_IC (by decide) ?_
        refine ⟨rfl, some (I c), ?_⟩
        have es : seeds (cs.take (i + 1)) = (seeds (cs.take i) * 48271 + c % 1000003 + 11) % 2147483647 := by
          unfold seeds
          rw [List.take_add_one, e, List.foldl_append]
          rfl
        rw [es]
        rfl
    rintro δ' w' ⟨rfl, y3, rfl⟩
    rw [List.length_map, List.take_length]
    -- return [[cell for cell in cells if cell >= 10 ** 18], seed, 0]
    refine pssd_one (psd_ret ?_)
    refine pd_lstO ?_
    refine pad_cons ?_
    refine pd_lcO (own := [("cell", 3)]) (is := [3]) rfl nd (blkOk_by (N := ["script", "cells", "seed", "cell"]) (sc := defScope sStart) (by decide +kernel)) (by decide) ?_
    refine it_list ?_
    refine pd_var (i := 1) rfl rfl ?_
    refine ⟨_, rfl, ?_⟩
    refine lcd_filter (fun c => decide (c ≥ 10 ^ 18)) I (lt_line (by omega)) (fun c hc s H0 C cl fp => ?_) ?_
    · refine pgl_name nd rfl ?_
      intro s H0 C cl fp
      refine ptsd_one ?_
      refine ptd_cmp op_ge ?_
      refine pd_var (i := 3) rfl rfl ?_
      refine pd_op op_pow ?_
      refine pd_int ?_
      refine pd_int ?_
      refine vr_IC ⟨by decide, by decide, by decide⟩ ?_
      refine vr_I ?_
      refine ⟨_, rfl, ?_⟩
      refine ite2 (fun c1 => fun s H0 C cl fp => ?_) (fun c1 => ⟨by simpa using c1, rfl⟩)
      refine pd_var (i := 3) rfl rfl ?_
      exact ⟨c1, rfl, rfl⟩
    intro r hr0
    refine pad_cons ?_
    refine pd_var (i := 2) rfl rfl ?_
    refine pad_cons ?_
    refine pd_int ?_
    refine pad_nil ?_
    refine ⟨by show 3 ≤ sizeLine; decide, fun a ha => ?_⟩
    have ne : a ≠ r := fun z => by
      rw [z, wu_same] at ha
      cases ha
    rw [wu_ne ne] at ha
    have kk := k2 a r ha hr0 ne
    unfold bagPut at kk
    rw [wu_comm ne] at kk
    exact kk
end
end Tw

set_option Elab.async false
set_option linter.all false
set_option maxRecDepth 100000
set_option maxHeartbeats 1000000
/-! An own error class whose __init__ begins with super().__init__(e, ..), the base's __init__ that of ValueError: the rule for that def. -/
namespace DL
open PySem PySem.Spec PyProof.Rows L2 LamX
open PySem.W (ksEnv)
structure ScopeS (N ps : List Str) (sc : Scope) : Prop where
  kind : sc.kind = .function
  co : sc.isCoroutine = false
  gen : sc.isGenerator = false
  nd : N.Nodup
  pre : N.take ps.length = ps
  par : ∀ x ∈ ps, sc.names.lookup x = some .local
  nocell : ∀ y ∈ sc.names, y.2 ≠ .cell
  nofree : ∀ x, sc.names.lookup x = some .cell ∨ sc.names.lookup x = some .free → x = "__class__"
  cls : sc.names.lookup ("__class__" : Str) = some .free
  sup : sc.names.lookup ("super" : Str) = some .globalImplicit
/-- what the written part says of the def at f, __init__ of the class at C -/
structure SupTxt (P : Program) (K : PySem.W.Frag) (mg : Str → Option Value) (C f cc cda : Addr) (qual : Str) (st : Stmt) (fd : FuncData) : Prop where
  ex : ∃ (oc : Value) (od : Option Addr) (kV doc pm : Value) (an : Option Addr) (ct : Value) (osl : Array (Option Value)),
    fd = PySem.W.fnX "__init__" qual (defArgs st) (defBody st) (defScope st) [("__class__", cc)] .none kV doc pm an (.ref cda) ct ∧ K.lookup f = some ⟨oc, od, .func fd, osl⟩ ∧ PySem.W.codeIn K (.ref cda) qual = true
  code : ∃ (ccl : Value) (cdd : Option Addr) (ccs : Array (Option Value)) (vs : Array Value) (file : Str) (tf : Tok), K.lookup cda = some ⟨ccl, cdd, .fields vs, ccs⟩ ∧ vs[2]? = some (.str file tf) ∧ ((P.main.file : Str) == file) = true
  cell : ∃ (cl : Value) (cld : Option Addr) (csl : Array (Option Value)), K.lookup cc = some ⟨cl, cld, .cell (some (.ref C)), csl⟩
  along : PySem.W.ks_superIn K C C "__init__" = some (some (.builtin "ValueError.__init__"))
  opq : PySem.W.nsIn K cStatics "thirdparty.any" = some none
  sub : PySem.W.subIn K (.ref C) (.type "ValueError") = some true
  selfc : PySem.W.mroIn K C (.ref C) = some true
  mgs : mg "super" = none
  top : (P.main.scope.names.lookup ("super" : Str)).isSome = false
theorem boot_super : bootBuiltins "super" = some (.type "super") := by decide +kernel
def cxS (CX : CXT) (P : Program) (w : PySem.World) (K : PySem.W.Frag) (mg : Str → Option Value) (base : Heap) (N : List Str) (qual : Str) (scope : Scope) (f : Addr) (cd : Value) (cc : Addr) (A : Around) (outer : List Env) (s : Shared) (H : Hp) (E : XK) : Cx where
  prog := P
  w := w
  K := K
  mg := mg
  base := base
  A := A.deeper (ksEnv qual scope s.heap.objs.size f cd cc)
  N := N
  s_0 := s
  H_0 := H
  env := ksEnv qual scope s.heap.objs.size f cd cc
  outer := outer
  stack := ksEnv qual scope s.heap.objs.size f cd cc :: outer
  ex := []
  calm := true
  fn := fun _ => false
  pn := []
  xe := fun e s' => wpAny (model P w) (A.deeper (ksEnv qual scope s.heap.objs.size f cd cc)) (leaving (ksEnv qual scope s.heap.objs.size f cd cc) e) (fun _ s'' => CX outer H s E e s'') (fun e' s'' => CX outer H s E e' s'') s'
theorem look_app {α β : Type} [BEq α] (x : α) : ∀ (a b : List (α × β)), (a ++ b).lookup x = match a.lookup x with | some v => some v | none => b.lookup x
  | [], b => rfl
  | (k, v) :: a, b => by
    have ih := look_app x a b
    cases hb : x == k with
    | true => simp only [List.cons_append, List.lookup, hb]
    | false =>
      simp only [List.cons_append, List.lookup, hb]
      exact ih
theorem look_rev_none {x : Str} : ∀ {l : List (Str × Value)}, x ∉ l.map (·.1) → l.reverse.lookup x = none
  | [], _ => rfl
  | (k, v) :: l, h => by
    rw [List.reverse_cons, look_app, look_rev_none (l := l) fun z => h (List.mem_cons_of_mem _ z)]
    have hb : (x == k) = false := beq_eq_false_iff_ne.mpr fun z => h (by rw [z]; exact List.mem_cons_self ..)
    simp only [List.lookup, hb]
theorem look_rev {x : Str} {u : Value} : ∀ {ps : List Str} {us : List Value} {i : Nat}, ps.Nodup → ps[i]? = some x → us[i]? = some u → (ps.zip us).reverse.lookup x = some u
  | [], _, _, _, h, _ => by simp at h
  | _ :: _, [], _, _, _, h => by simp at h
  | p :: ps, v :: us, 0, nd, h1, h2 => by
    have e1 : p = x := Option.some.inj h1
    have e2 : v = u := Option.some.inj h2
    subst e1 e2
    show ((p, v) :: ps.zip us).reverse.lookup p = some v
    rw [List.reverse_cons, look_app, look_rev_none]
    · simp [List.lookup]
    · intro z
      obtain ⟨q, hq, e⟩ := List.mem_map.mp z
      obtain ⟨a, b⟩ := q
      have e' : a = p := e
      subst e'
      exact (List.nodup_cons.mp nd).1 (List.of_mem_zip hq).1
  | p :: ps, v :: us, i + 1, nd, h1, h2 => by
    show ((p, v) :: ps.zip us).reverse.lookup x = some u
    rw [List.reverse_cons, look_app, look_rev (i := i) (List.nodup_cons.mp nd).2 h1 h2]
theorem inv_startS {CX : CXT} {P : Program} {w : PySem.World} {K : PySem.W.Frag} {mg : Str → Option Value} {base : Heap} {N ps : List Str} {qual : Str} {scope : Scope} {f cc : Addr} {cd : Value} {A : Around} {outer : List Env} {s : Shared} {H : Hp} {E : XK} {us : List Value} {vs : List V} {h1 : Heap} {tk : Nat}
    (S : ScopeS N ps scope) (hd : A.handled = none) (e0 : Env0 P w K mg base A outer s H) (hl : vs.length = ps.length) (r : Vals vs us) (hcc : ∃ (cl : Value) (cld : Option Addr) (csl : Array (Option Value)) (v : Option Value), K.lookup cc = some ⟨cl, cld, .cell v, csl⟩)
    (hns : h1.Ns s.heap.objs.size (fun x => (ps.zip us).reverse.lookup x)) (hk : ∀ b o, s.heap.get? b = some o → h1.get? b = some o) :
    Inv (cxS CX P w K mg base N qual scope f cd cc A outer s H E) [] (L2.start N vs) H { s with heap := h1, toks := tk } := by
  have hpl : ps.length ≤ N.length := by have := congrArg List.length S.pre; rw [List.length_take] at this; omega
  obtain ⟨cl, cld, csl, cv, hcc⟩ := hcc
  have bcc := e0.mod.kin cc _ hcc
  have lk : ∀ y c, List.lookup y [(("__class__" : Str), cc)] = some c → y = "__class__" ∧ c = cc := fun y c h => by
    by_cases e : y = "__class__"
    · subst e
      have : List.lookup ("__class__" : Str) [(("__class__" : Str), cc)] = some cc := by simp [List.lookup]
      rw [this] at h
      exact ⟨rfl, (Option.some.inj h).symm⟩
    · have hb : (y == ("__class__" : Str)) = false := beq_eq_false_iff_ne.mpr e
      simp only [List.lookup, hb] at h
      cases h
  have noA : ∀ b : Addr, b ∉ (cxS CX P w K mg base N qual scope f cd cc A outer s H E).ex := fun b z => absurd (show b ∈ ([] : List Addr) from z) (by simp)
  refine ⟨⟨e0.mod, S.kind, rfl, rfl, Nat.le_refl _, fun y z c h1 h2 => ?_, fun y hy => ?_, fun y c q h => absurd (show false = true from q) Bool.false_ne_true, fun _ => hd, Around.frames_deeper e0.frames, .inr ⟨rfl, rfl⟩, fun b z => absurd z (noA b), e0.bs, e0.bsz, fun b _ _ => noA b, fun b z => absurd z (noA b), e0.funs, e0.frf⟩,
    rfl, e0.bare, Un.kept hk, ⟨_, hns, fun i y v h1 h2 h3 => ?_⟩, fun y c h => ?_, e0.hok.fresh (Nat.le_refl _), fun y c h => ?_, fun p hp => absurd (show p ∈ ([] : List (Addr × Obj)) from hp) (by simp), e0.hok.kept hk, ?_⟩
  · rw [(lk y c h1).1, (lk z c h2).1]
  · have hy : scope.names.lookup y = some .cell ∨ scope.names.lookup y = some .free := hy
    have e := S.nofree y hy
    subst e
    exact ⟨cc, by show List.lookup ("__class__" : Str) [(("__class__" : Str), cc)] = some cc; simp [List.lookup]⟩
  · have hi : i < vs.length := by
      unfold L2.start at h2
      by_cases hi : i < vs.length
      · exact hi
      · rw [List.getElem?_append_right (by simpa using hi)] at h2
        rw [List.getElem?_replicate] at h2
        split at h2 <;> cases h2
    have ha : vs[i]? = some v := by
      unfold L2.start at h2
      rw [List.getElem?_append_left (by simpa using hi), List.getElem?_map] at h2
      cases e : vs[i]? with
      | none => rw [e] at h2; cases h2
      | some a => rw [e] at h2; cases h2; rfl
    obtain ⟨u, hu, rv⟩ := r.get ha
    have hp : ps[i]? = some y := by
      rw [← S.pre, List.getElem?_take_of_lt (by omega)]; exact h1
    have ndP : ps.Nodup := by rw [← S.pre]; exact S.nd.sublist (List.take_sublist _ _)
    exact ⟨u, rv, .inl ⟨S.par y (List.mem_of_getElem? hp), look_rev ndP hp hu⟩⟩
  · obtain ⟨_, rfl⟩ := lk y c h
    exact ⟨_, ⟨_, hk _ _ (e0.bs _ _ bcc).1, rfl⟩⟩
  · obtain ⟨_, rfl⟩ := lk y c h
    exact (e0.bs _ _ bcc).2
  · unfold L2.start
    show _ = N.length
    rw [List.length_append, List.length_map, List.length_replicate]
    omega
/-- the wrapper called -/
theorem call_mw {prog : Program} {w : PySem.World} {A : Around} {E : Value → Shared → Prop} {h : Heap} {g : Array GenState} {d : Drawn} {t : Nat} {os : OsState} {nm q : Str} {C N : Addr} {bs bm : List Value} {hdct : Bool} {sn : List Str} {sub : List Value} {ab : Bool} {col : Option Bool} {dd : Option Addr} {k0 k1 k2 k3 k5 : Option Value}
    {u e t0 : Addr} {rest : List Value} {Q : Value → Shared → Prop}
    (hC : h.get? C = some (excClassObj nm q C N bs bm hdct sn sub ab col dd k0 k1 k2 k3 k5 "ValueError.__new__")) (he : h.get? e = some (HandSPX.excO C t0)) (hu : h.get? u = some (PySem.W.kxs_mw "ValueError.__init__" e)) (hrest : rest.length ≤ sizeLine)
    (hq : ∀ h' t1, (∀ b o, b ≠ e → h.get? b = some o → h'.get? b = some o) → h'.get? e = some (HandSPX.excO C t1) → Q .none ⟨h', g, d, t, os⟩) :
    wpAny (model prog w) A (call (.ref u) rest) Q E ⟨h, g, d, t, os⟩ := by
  refine wpAny_call (codeAny_of_tree ?_)
  show wpAny _ A.in1 (callAny (.ref u) ⟨rest, []⟩) _ _ _
  simp only [callAny]
  refine wpAny_bind (wpAny_load hu ?_)
  simp only [PySem.W.kxs_mw, show (Value.type "method-wrapper" == Value.type "method" || Value.type "method-wrapper" == Value.type "builtin_function_or_method" || Value.type "method-wrapper" == Value.type "method-wrapper") = true by decide, if_true]
  refine PySem.W.KFB.if_so (by decide) ?_
  refine wpAny_bind (PySem.W.check_bound_init F.excBase_ValueError.toExcCallFacts hC he rfl ?_)
  refine wpAny_bind (wpAny_pure (wpAny_pure ?_))
  refine ⟨plainId_quiet F.excBase_ValueError.init.plain _, codeAny_builtin F.excBase_ValueError.initEntry ?_⟩
  rw [Around.under_plainId F.excBase_ValueError.init.plain _]
  wp_walk
  refine hq _ h.objs.size (fun b o hb ho => ?_) ?_
  · rw [Heap.get?_update_other _ _ (Ne.symm hb)]
    exact Heap.get?_push_of_some _ ho
  · rw [Heap.get?_update_self _ (Heap.get?_push_of_some _ he) rfl]
    rfl
end DL

set_option Elab.async false
set_option linter.all false
set_option maxRecDepth 100000
set_option maxHeartbeats 2000000
namespace DL
open PySem PySem.Spec PyProof.Rows L2 LamX
open PySem.W (ksEnv)
theorem callWith_mw {M : Model} {A : Around} {E : Value → Shared → Prop} {s : Shared} {i : String} {u x : Addr} {pos : Pos} {env : Env} {e : Expr} {rest : List Expr} {Q : Value → Shared → Prop}
    (he : starEach (e :: rest) env = (false, eval e env) :: starEach rest env) (hplain : (backTo pos (starEach rest env)).any (·.1) = false)
    (h : wpAny M A (spliced (backTo pos (starEach (e :: rest) env))) (fun vs s₁ => PySem.W.KxsAt i u x s₁.heap ∧ wpAny M A (call (.ref u) vs) Q E s₁) E s) :
    wpAny M A (callWith pos (.ref u) [] (backTo pos (starEach (e :: rest) env)) []) Q E s := by
  rw [he] at h ⊢
  refine PySem.W.kxs_callWith (i := i) (x := x) (by show (false || (backTo pos (starEach rest env)).any (·.1)) = false; rw [hplain]; rfl) ?_
  exact Calls.evalArgs_plain h
theorem fnSup {P : Program} {w : PySem.World} {K : PySem.W.Frag} {mg : Str → Option Value} {base : Heap} {CX : CXT} {N ps : List Str} {qual : Str} {st : Stmt} {f C cc cda : Addr} {fd : FuncData} {k : Nat} {sp : Sp} {p0 p1 ap cp xp : Pos} {e : Expr} {es : List Expr} {rest : List Stmt} {ar : Arg} {pl : Env → Sem Bool}
    (G : SupTxt P K mg C f cc cda qual st fd) (T : OexC K C) (S : ScopeS N ps (defScope st)) (hbody : defBody st = .Expr (.Call (.Attribute (.Call (.Name "super" p0) [] [] p1) "__init__" ap) (e :: es) [] cp) xp :: rest)
    (hp : ((defArgs st).posonlyargs ++ (defArgs st).args).head? = some ar) (hN0 : N[0]? = some ar.arg) (hpl : ps[0]? = some ar.arg) (len : ∀ vs H Q E, sp vs H Q E → vs.length = ps.length)
    (he : ∀ env, starEach (e :: es) env = (false, eval e env) :: starEach es env) (hpn : ∀ env, (backTo cp (starEach es env)).any (·.1) = false)
    (hev : ∀ env, eval (.Call (.Attribute (.Call (.Name "super" p0) [] [] p1) "__init__" ap) (e :: es) [] cp) env = (do
      let ov ← attributeBase (.Call (.Name "super" p0) [] [] p1) "__init__" env (eval (.Call (.Name "super" p0) [] [] p1) env)
      standAt ap.atName
      let (f, first) ← holding [ov] (getMethod ov "__init__" (pl env))
      callWith cp f first (backTo cp (starEach (e :: es) env)) []))
    (hsw : ∀ env, swapsWith (.Call (.Attribute (.Call (.Name "super" p0) [] [] p1) "__init__" ap) (e :: es) [] cp) none xp.line env = pure false)
    (body : ∀ (A : Around) (outer : List Env) (s : Shared) (H : Hp) (vs : List V) (Q : VK) (E : XK), Room k (A.deeper (ksEnv qual (defScope st) s.heap.objs.size f (.ref cda) cc)) → sp vs H Q E → ∃ ta t a,
      PA (cxS CX P w K mg base N qual (defScope st) f (.ref cda) cc A outer s H E) (e :: es) ta ∧ PSs (cxS CX P w K mg base N qual (defScope st) f (.ref cda) cc A outer s H E) rest t ∧ vs[0]? = some (.ref a) ∧ H a = some (exo a C none) ∧
      ta (L2.start N vs) H fun ws H1 => ws.length ≤ 1000 ∧ H1 a = some (exo a C none) ∧ t { nx := fun _ H' => Q .non H', rt := Q } (L2.start N vs) H1) : FnOk P w K mg base CX (k + 1) f fd ps sp := by
  refine ⟨len, fun A outer s H args us vs Q E hr e0 hb r hsp => ?_⟩
  obtain ⟨oc, od, kV, doc, pm, an, ct, osl, rfl, lk, hcd⟩ := G.ex
  obtain ⟨ccl, cdd, ccs, cvs, file, tf, hcode, hvs, hfile⟩ := G.code
  obtain ⟨cl, cld, csl, hcell⟩ := G.cell
  obtain ⟨nm, q, NN, bs, bm, sn, sub, ab, col, dd, k0, k1, k2, k3, k5, hC, hbm⟩ := T.cls
  have hcls : PySem.W.clsIn K C = some { name := nm, bases := bs, mro := .ref C :: bm, ns := NN, qualname := q, hasDict := true, slotNames := sn, subclasses := sub, abstract := ab, collection := col, hasDel := false } := by unfold PySem.W.clsIn; rw [hC] <;> rfl
  have halong : PySem.W.alongIn K "__init__" bm = some (some (.builtin "ValueError.__init__")) := by
    have z := G.along
    unfold PySem.W.ks_superIn at z
    rw [hcls] at z
    have z2 : PySem.W.alongIn K "__init__" (((Value.ref C :: bm).dropWhile (· != .ref C)).drop 1) = _ := z
    have e2 : ((Value.ref C :: bm).dropWhile (· != .ref C)).drop 1 = bm := by simp [List.dropWhile_cons]
    rw [e2] at z2
    exact z2
  have hl := len _ _ _ _ hsp
  have KX : K.In s.heap := e0.mod.kin.keeps fun b o e => (e0.bs b o e).1
  have lim : s.heap.NoLimit := e0.mod.nolimit.keeps fun b o e => (e0.bs b o e).1
  refine PySem.ks_codeAny_call_defAt (body := defBody st) (binds := ps.zip us) hr.depth (KX _ _ lk) rfl lim (PySem.W.codeRec_of KX hcd) rfl hb S.nocell (fun x hx => S.par _ (List.of_mem_zip hx).1) (fun h1 hns hk => ?_) S.co S.gen S.kind
  obtain ⟨ta, t, a, hta, ht, ha0, hHa, hq⟩ := body A outer s H vs Q E (hr.deeper _) hsp
  have I := inv_startS (CX := CX) (P := P) (w := w) (mg := mg) (qual := qual) (f := f) (cd := .ref cda) (E := E) (tk := s.toks + (ps.zip us).length) S hr.hd e0 hl r ⟨cl, cld, csl, _, hcell⟩ hns hk
  generalize hX : cxS CX P w K mg base N qual (defScope st) f (.ref cda) cc A outer s H E = X at I hta ht
  have xK : X.K = K := by rw [← hX]; rfl
  have xE : callEnv (PySem.W.fnX "__init__" qual (defArgs st) (defBody st) (defScope st) [("__class__", cc)] .none kV doc pm an (.ref cda) ct) s.heap.objs.size f = X.env := by rw [← hX]; rfl
  have xA : A.deeper X.env = X.A := by rw [← hX]; rfl
  have xP : X.prog = P := by rw [← hX]; rfl
  have xw : X.w = w := by rw [← hX]; rfl
  have xm : X.mg = mg := by rw [← hX]; rfl
  have xN : X.N = N := by rw [← hX]; rfl
  have xo : X.outer = outer := by rw [← hX]; rfl
  have xex : X.ex = [] := by rw [← hX]; rfl
  have xH0 : X.H_0 = H := by rw [← hX]; rfl
  have xs0 : X.s_0 = s := by rw [← hX]; rfl
  have xf : X.env.func = some f := by rw [← hX]; rfl
  have xc : X.env.code = .ref cda := by rw [← hX]; rfl
  have xs : X.env.scope = defScope st := by rw [← hX]; rfl
  have xcell : X.env.cells = [(("__class__" : Str), cc)] := by rw [← hX]; rfl
  have xk : ∀ y, X.env.kindOf y = (defScope st).names.lookup y := fun y => by rw [← hX]; rfl
  have xxe : (fun e s' => wpAny (model P w) X.A (leaving X.env e) (fun _ s'' => CR CX outer P w H s Q E (.error e) s'') (fun e' s'' => CR CX outer P w H s Q E (.error e') s'') s') = X.xe := by rw [← hX]; rfl
  rw [xE, xA, hbody]
  subst xP xw xK xm xN
  rw [xxe]
  have hlc : X.env.kindOf ar.arg = some .local := by
    rw [xk]
    exact S.par _ (List.mem_of_getElem? hpl)
  have hs0 : (L2.start X.N vs)[0]? = some (some (V.ref a)) := by
    unfold L2.start
    have hv : 0 < vs.length := (List.getElem?_eq_some_iff.mp ha0).1
    rw [List.getElem?_append_left (by rw [List.length_map]; exact hv), List.getElem?_map, ha0]
    rfl
  have hvis : Vis X.env.scope ar.arg := .inl (by rw [xs]; exact S.par _ (List.mem_of_getElem? hpl))
  refine PySem.ks_wpAt_execs_cons (PySem.ks_wpAt_Expr_any (PySem.ks_wpAt_MethodCall (pl := pl X.env) ?_ (hev _)) I.quiet (hsw _))
  have hof := I.kIn _ _ lk
  have hoc := I.kIn _ _ hcode
  have hcl2 := I.kIn _ _ hcell
  have hC2 := I.kIn _ _ hC
  refine PySem.ks_wpAt_super_base (vs := cvs) (by rw [xk]; exact S.sup) (by rw [xk]; exact S.cls) (by decide) xf hof rfl hp xc hoc rfl hvs hfile G.top ?_
  obtain ⟨mb, b1, b2⟩ := I.mod.blt
  refine PySem.W.ks_loadName_global I.ok.kind (by rw [xk]; exact S.sup) (Calls.loadGlobal_builtin (by rw [I.ok.glob]; exact I.mod.glob.keeps I.bk) G.mgs (by rw [I.ok.blt]; exact b1.keeps I.bk) ((b2 "super" (by decide)).trans boot_super) ⟨rfl, ?_⟩)
  refine wpAny_loadName_free I.ok.kind (by rw [xk]; exact S.cls) (by rw [xcell]; rfl) ⟨_, hcl2, rfl⟩ ?_
  obtain ⟨m, hn, hlo⟩ := I.loc
  obtain ⟨u0, ru, lu⟩ := hlo 0 ar.arg (.ref a) hN0 hs0 hvis
  have ru' : u0 = Value.ref a := ru
  subst ru'
  rcases lu with ⟨_, hm⟩ | ⟨hk2, _⟩
  case inr => rw [hlc] at hk2; rcases hk2 with z | z <;> cases z
  refine wpAny_loadName_local I.ok.kind hlc hn hm ?_
  obtain ⟨t1, hx⟩ := exo_at I.hok hHa
  refine PySem.ks_wpAny_isType_cls hC2 rfl ⟨rfl, ?_⟩
  refine PySem.ks_wpAny_call_super hC2 rfl hx rfl (fun c z => by cases z) (PySem.W.looks_mroIn I.kIn G.selfc) (fun h2 hso k2 => ?_)
  have I2 : L2.Inv X [] (L2.start X.N vs) H { s with heap := h2, toks := s.toks + (ps.zip us).length } := I.kept (t' := s.toks + (ps.zip us).length) k2
  have hx2 := k2 _ _ hx
  have hxC : a ≠ C := fun z => by
    rw [z, hC2] at hx
    have z2 := congrArg Obj.data (Option.some.inj hx)
    cases z2
  have hno : PySem.W.Looks (model X.prog X.w) h2 (opaqueClassAbove (.ref C)) none := PySem.W.looks_opaque I2.kIn G.opq
  have hCm : PySem.W.Looks (model X.prog X.w) h2 (mroOf (.ref C)) (.ref C :: bm) := (PySem.W.looks_clsIn I2.kIn hcls).andThen .now
  have e2 : ((Value.ref C :: bm).dropWhile (· != .ref C)).drop 1 = bm := by simp [List.dropWhile_cons]
  have IA : PySem.W.InstAt h2 a { cls := .ref C, dict := none, data := .fields #[.ref t1, .none, .none, .none, .bool false, .none] } C none := ⟨hx2, rfl, rfl, trivial⟩
  have hI : PySem.W.Looks (model X.prog X.w) h2 (isInstance (.ref a) (.type "ValueError")) true := IA.type.andThen (PySem.W.looks_subIn I2.kIn G.sub)
  refine PySem.W.kxs_getMethod PySem.W.kxs_ValueError hso hno hCm e2 I2.kIn halong hI hxC (by decide) ?_
  have I3 := ClX.pin_new (o := PySem.W.kxs_mw "ValueError.__init__" a) (a := h2.objs.size) (h' := h2.push (PySem.W.kxs_mw "ValueError.__init__" a)) (t' := s.toks + (ps.zip us).length + 1) I2 (fun b o e => Heap.get?_push_of_some _ e) (Nat.le_refl _) (Heap.get?_push_at rfl rfl) (fun v z => by cases z)
  -- the call
  show wpAny (model X.prog X.w) X.A (callWith cp (.ref h2.objs.size) [] (backTo cp (starEach (e :: es) X.env)) []) _ _ _
  refine callWith_mw (i := "ValueError.__init__") (x := a) (he _) (hpn _) ?_
  refine thn (hta.run cp _ _ _ H _ I3 hq) fun ws s3 ⟨vs3, H3, I4, r3, hz3, hH3, q3⟩ => ?_
  refine ⟨ClX.pin_at I4, ?_⟩
  obtain ⟨t2, hx3⟩ := exo_at I4.hok hH3
  obtain ⟨hp3, g3, d3, tk3, os3⟩ := s3
  show wpAny (model X.prog X.w) X.A (call (.ref h2.objs.size) ws) _ _ _
  refine call_mw (I4.kIn _ _ hC) hx3 (ClX.pin_at I4) (by rw [← Paired.length r3, sizeLine_eq]; omega) fun h4 t4 k4 hx4 => ?_
  have J := (ClX.unpin I4).write (t' := tk3) (x := a) (e := a) (o := exo a C none) (by rw [hH3]; exact True.intro) (.inl rfl) k4 ⟨_, hx4⟩ (exo_ok hx4)
  have eu : upd H3 a (exo a C none) = H3 := by
    funext b
    by_cases hb : b = a
    · rw [hb, upd_same, hH3]
    · rw [upd_ne hb]
  rw [eu] at J
  refine wpAt_of_wpAny (wpAny_mono (ht.run [] _ (L2.start X.N vs) H3 _ J q3) (fun fl s' hs => ?_) fun e s' hs => hs)
  have fin : ∀ {σ' : L2.St} {H' : Hp} {v : V} {u : Value}, L2.Inv X [] σ' H' s' → RelV v u → Q v H' → CE outer X.prog X.w H s Q u s' :=
    fun {σ' H' v u} J rv q => by
      have b : Un (frs X.outer) X.ex X.H_0 H' X.s_0.heap s'.heap := J.base
      have os : s'.os = X.s_0.os := J.os
      rw [xo, xex, xH0, xs0] at b
      rw [xs0] at os
      exact ⟨v, H', os, J.bare, b, J.hok, rv, q⟩
  cases fl with
  | ret u =>
    obtain ⟨v, σ', H', J, rv, q⟩ := hs
    exact fin J rv q
  | next =>
    obtain ⟨σ', H', J, q⟩ := hs
    exact fin (v := V.non) (u := Value.none) J rfl q
  | brk =>
    obtain ⟨_, _, _, q⟩ := hs
    exact False.elim q
  | cont =>
    obtain ⟨_, _, _, q⟩ := hs
    exact False.elim q
end DL

set_option Elab.async false
set_option linter.all false
set_option maxRecDepth 100000
set_option maxHeartbeats 2000000
namespace DL
open PySem PySem.Spec PyProof.Rows L2 LamX
open PySem.W (ksEnv)
/-- __init__ of an error class of one field: what it is called with, what it leaves -/
def spX1 (C : Addr) (f : Str) (ok : V → Prop) : Sp := fun vs H Q _ => ∃ a v, vs = [.ref a, v] ∧ H a = some (exo a C none) ∧ ok v ∧
  ∀ dx, H dx = none → dx ≠ a → Q .non (upd (upd H dx (exd dx [(f, v)])) a (exo a C (some dx)))
def intFits (v : V) : Prop := ∃ i : Int, v = .int i ∧ i.natAbs.log2 < 1920
/-- what a made error leaves -/
theorem made_heap {H1 : Hp} {a dx C : Addr} {f : Str} {v : V} (na : H1 a = none) (nd : dx ≠ a) : upd (del (upd (upd (upd H1 a (exo a C none)) dx (exd dx [(f, v)])) a (exo a C (some dx))) a) dx (.xd [(f, v)]) = upd H1 dx (.xd [(f, v)]) := by
  funext b
  by_cases h1 : b = dx
  · rw [h1, upd_same, upd_same]
  · rw [upd_ne h1, upd_ne h1]
    by_cases h2 : b = a
    · rw [h2, del_same, na]
    · rw [del_ne h2, upd_ne h2, upd_ne h1, upd_ne h2]
section
variable {X : Cx} {T : List (Addr × Str)} {W : WX} {χ : XD} {δ : Dn} {w : Wp} {pos : Pos}
/-- raise X(e), X an error class of one field -/
theorem psd_raise1 {CX : CXT} {x f : Str} {C fI : Addr} {k : Nat} {fd : FuncData} {ok : V → Prop} {e : Expr} {p cpos : Pos} {Fi : Fin} (hc : X.calm = true) (tk : Takes X W) (TC : OexC X.K C) (iC : PySem.W.findIn X.K (.ref C) "__init__" = some (some (.ref fI))) (tI : PySem.W.typeIn X.K (.ref fI) = some (.type "function"))
    (G : FnOk X.prog X.w X.K X.mg X.base CX0 k fI fd ["self", f] (spX1 C f ok)) (hr : Room (k + 1) X.A) (hb : Binds X.K fd ["self", f] []) (hm : X.mg x = some (.ref C))
    (h : PD X T W χ e δ w fun d w1 => ∃ v, d = .val v ∧ ok v ∧ χ C [f] [d] w1) (hg : Gl X x := by rfl) (hdb : (x == ("__debug__" : Str)) = false := by decide)
    (he : starEach [e] X.env = (false, eval e X.env) :: starEach [] X.env := by rfl) (hpl : (backTo cpos (starEach [] X.env)).any (·.1) = false := by rfl) : PSD X T W χ (.Raise (some (.Call (.Name x p) [e] [] cpos)) none pos) δ w Fi := fun F σ S H E hE hW hX hK => by
  refine wp_ps (ps_raise hc tk (pmk_oex (dvs := []) (ds := []) TC iC tI G hr hb .nil pass0 hg hm (pa_cons (pe_wp e) pa_nil he) hdb he hpl)) ?_
  refine h F σ S H _ hE hW (hX σ) fun d w1 v S1 H1 q s1 W1 r => ?_
  obtain ⟨v', rfl, hv, q⟩ := q
  have r' : v = v' := r
  subst r'
  refine ⟨by show 1 ≤ 1000; decide, fun a na => ?_⟩
  refine ⟨a, v, rfl, upd_same, hv, fun dx nd nda => ⟨rfl, dx, [(f, v)], upd_same, ?_, ?_, ?_⟩⟩
  · rw [upd_ne nda, upd_same]
  · rw [upd_ne nda] at nd
    exact nd
  · rw [upd_ne nda] at nd
    rw [made_heap na nda]
    have s2 : Same S1 (upd S1 dx (.xd [(f, v)])) := same_upd (W1.free nd).1
    exact hX σ C [f] [.val v] w1 dx _ _ q (s1.trans s2) (W1.laid nd fun _ z => by cases z) ⟨[(f, v)], upd_same, rfl, v, [], rfl, rfl, rfl⟩
end
end DL
namespace Tw
open PySem PySem.Spec PyProof.Rows L2 LamX DL
open PySem.W (ksEnv)
def topX (i : Nat) : Stmt := PySem.Challenge.pw_thinwall_k00_split_tells_its_cells.main.body.getD i (.Pass ⟨0, 0, 0, 0⟩)
abbrev sBadSize : Stmt := inClass (topX 3) 0
abbrev sUnkCase : Stmt := inClass (topX 4) 0
theorem txt_fits {x y : Str} (h : x.length ≤ 100) (k : y.length ≤ 1921) : (x ++ y).length ≤ sizeLine := by
  have e : (x ++ y).length = x.length + y.length := Str.length_append x y
  rw [e, sizeLine_eq]
  omega
theorem txt_fits2 {x y z : Str} (h : x.length ≤ 100) (k : y.length ≤ 1921) (l : z.length ≤ 100) : (x ++ y ++ z).length ≤ sizeLine := by
  have e : (x ++ y ++ z).length = x.length + y.length + z.length := by rw [Str.length_append, Str.length_append]
  rw [e, sizeLine_eq]
  omega
section
variable {P : Program} {w : PySem.World} {K : PySem.W.Frag} {mg : Str → Option Value} {base : Heap}
theorem scBS : ScopeS ["self", "size"] ["self", "size"] (defScope sBadSize) := by
  refine ⟨rfl, rfl, rfl, by decide +kernel, rfl, by decide +kernel, by decide +kernel, ?_, by decide +kernel, by decide +kernel⟩
  intro x h
  have key : ∀ y ∈ (defScope sBadSize).names, (y.2 = .cell ∨ y.2 = .free) → y.1 = "__class__" := by decide +kernel
  rcases h with h | h
  · exact key (x, _) (PySem.mem_of_lookup h) (.inl rfl)
  · exact key (x, _) (PySem.mem_of_lookup h) (.inr rfl)
theorem ok_bs {f C cc cda : Addr} {fd : FuncData} (G : SupTxt P K mg C f cc cda "BadSize.__init__" sBadSize fd) (TC : OexC K C) (no : PySem.W.findIn K (.ref C) "size" = some none) : FnOk P w K mg base CX0 1 f fd ["self", "size"] (spX1 C "size" intFits) := by
  refine fnSup G TC scBS rfl rfl rfl rfl (fun vs H Q E h => ?_) (fun _ => rfl) (fun _ => rfl) (fun _ => rfl) (fun _ => rfl) (fun A outer s H vs Q E hr h => ?_)
  · obtain ⟨a, v, rfl, _⟩ := h
    rfl
  · obtain ⟨a, v, rfl, ha, ⟨i, rfl, hi⟩, q⟩ := h
    refine ⟨_, _, a, pa_cons (pe_joined (.cons pe_str (.cons (pe_fmt (pv 1)) (.cons pe_str .nil)))) pa_nil, pss_one (ps_ost (pv 0) (pv 1)), rfl, ha, ?_⟩
    refine ⟨_, rfl, by decide +kernel, ?_⟩
    refine ⟨_, rfl, .inr ⟨i, rfl, hi, ?_⟩⟩
    have l0 : (Str.ofString (toString i)).length ≤ 1921 := by
      have e := int_text_length_le (k := 1920) (by decide) hi
      rw [PySem.ofString_length]
      omega
    refine ⟨_, rfl, txt_fits (by decide +kernel : (Str.empty ++ ("the size " : Str)).length ≤ 100) l0, ?_⟩
    refine ⟨_, rfl, txt_fits2 (by decide +kernel : (Str.empty ++ ("the size " : Str)).length ≤ 100) l0 (by decide +kernel), ?_⟩
    refine ⟨by show 1 ≤ 1000; decide, ha, ?_⟩
    refine ⟨_, rfl, _, rfl, a, C, rfl, TC, no, .inl ⟨ha, fun dx nd nda => ?_⟩⟩
    exact q dx nd nda
theorem scUC : ScopeS ["self", "case"] ["self", "case"] (defScope sUnkCase) := by
  refine ⟨rfl, rfl, rfl, by decide +kernel, rfl, by decide +kernel, by decide +kernel, ?_, by decide +kernel, by decide +kernel⟩
  intro x h
  have key : ∀ y ∈ (defScope sUnkCase).names, (y.2 = .cell ∨ y.2 = .free) → y.1 = "__class__" := by decide +kernel
  rcases h with h | h
  · exact key (x, _) (PySem.mem_of_lookup h) (.inl rfl)
  · exact key (x, _) (PySem.mem_of_lookup h) (.inr rfl)
theorem ok_uc {f C cc cda : Addr} {fd : FuncData} (G : SupTxt P K mg C f cc cda "UnknownCase.__init__" sUnkCase fd) (TC : OexC K C) (no : PySem.W.findIn K (.ref C) "case" = some none) : FnOk P w K mg base CX0 1 f fd ["self", "case"] (spX1 C "case" intFits) := by
  refine fnSup G TC scUC rfl rfl rfl rfl (fun vs H Q E h => ?_) (fun _ => rfl) (fun _ => rfl) (fun _ => rfl) (fun _ => rfl) (fun A outer s H vs Q E hr h => ?_)
  · obtain ⟨a, v, rfl, _⟩ := h
    rfl
  · obtain ⟨a, v, rfl, ha, ⟨i, rfl, hi⟩, q⟩ := h
    refine ⟨_, _, a, pa_cons (pe_joined (.cons pe_str (.cons (pe_fmt (pv 1)) .nil))) pa_nil, pss_one (ps_ost (pv 0) (pv 1)), rfl, ha, ?_⟩
    refine ⟨_, rfl, by decide +kernel, ?_⟩
    refine ⟨_, rfl, .inr ⟨i, rfl, hi, ?_⟩⟩
    have l0 : (Str.ofString (toString i)).length ≤ 1921 := by
      have e := int_text_length_le (k := 1920) (by decide) hi
      rw [PySem.ofString_length]
      omega
    refine ⟨_, rfl, txt_fits (by decide +kernel : (Str.empty ++ ("there is no case " : Str)).length ≤ 100) l0, ?_⟩
    refine ⟨by show 1 ≤ 1000; decide, ha, ?_⟩
    refine ⟨_, rfl, _, rfl, a, C, rfl, TC, no, .inl ⟨ha, fun dx nd nda => ?_⟩⟩
    exact q dx nd nda
end
end Tw

set_option Elab.async false
set_option linter.all false
set_option maxRecDepth 100000
set_option maxHeartbeats 1000000
/-! == and != by an own method, len by an own method, isinstance of an own class, freezing within an expression. -/
namespace DL
open PySem PySem.Spec PyProof.Rows L2 LamX
/-- an own class as isinstance and type(..) see it -/
structure ClsI (K : PySem.W.Frag) (C : Addr) : Prop where
  cl : Cls K C
  cc : PySem.W.findIn K (.ref C) "__class__" = some (some (.builtin "object.__class__"))
  cg : PySem.W.specialIn K (.builtin "object.__class__") "__get__" = some (some (.builtin "getset_descriptor.__get__"))
  ct : PySem.W.takesIn K (.builtin "object.__class__") = some true
  mo : PySem.W.mroIn K C (.type "object") = some true
/-- the type of a datum, own classes too -/
def TyDD (K : PySem.W.Frag) (d : D) (t : Value) : Prop := (∃ n, tyD d = some n ∧ t = .type n) ∨ ∃ C ns ds, d = .obj C ns ds ∧ ClsI K C ∧ t = .ref C
theorem TyDD.tyx {K : PySem.W.Frag} {T : List (Addr × Str)} {w : Wp} {S F H : Hp} {d : D} {t : Value} {x : V} (h : TyDD K d t) (hW : World K T S w F H) (r : Rep K S d x) : TyX K H x t := by
  rcases h with ⟨n, h1, rfl⟩ | ⟨C, ns, ds, rfl, c, rfl⟩
  · exact DL.tyx hW h1 r
  · obtain ⟨a, dx, ys, rfl, h1, _, _⟩ := r
    exact .base (.ins (hW.same _ _ h1) c.cl c.cc c.cg c.ct c.mo)
section
variable {X : Cx}
def rOwn (C : Addr) (sp : Sp) : R2 := fun x y H Q => ∃ a dx fs t, x = .ref a ∧ H a = some (.ins C dx fs) ∧ TyX X.K H y t ∧ PySem.W.notFirst X.K C t = true ∧ sp [x, y] H (fun v H' => ∃ b, v = .bl b ∧ Q v H') E0
theorem op_own {op : CmpOp} {C f : Addr} {fd : FuncData} {ps : List Str} {k : Nat} {sp : Sp} (hop : ∀ a b, compareOp op a b = richCompare op a b) (G : FnOk X.prog X.w X.K X.mg X.base CX0 k f fd ps sp) (hr : Room k X.A) (hs : PySem.W.findIn X.K (.ref C) (cmpInfo op).2.1 = some (some (.ref f))) (hf : PySem.W.isFn X.K (.ref f) = true) (hb : Binds X.K fd ps []) :
    OpR X (compareOp op) (rOwn (X := X) C sp) := by
  intro pins s σ H x y v u Q I rx ry h
  obtain ⟨a, dx, fs, t, rfl, ha, ty, nf, hsp⟩ := h
  cases rx
  obtain ⟨mA, J, _⟩ := ins_get I.hok ha
  obtain ⟨od, J, _⟩ := J.look
  obtain ⟨m, hF⟩ := I.fr
  obtain ⟨Pz, Z, p, _⟩ := kit_of I ry ty
  show wpAny (model X.prog X.w) X.A (compareOp op (.ref a) u) (EP X pins σ Q) X.xe s
  rw [hop]
  refine PySem.W.cmp_K (op := op) (tb := t) hr.units0 hF I.ok.mod.kin J (Z.ty _ _ I.kIn p) nf hs hf ?_
  have r2 : Vals [V.ref a, y] [Value.ref a, u] := .cons rfl (.cons ry .nil)
  have q := run_fnSD (σ := σ) (E := fun _ => E0) (dvs := []) (ds := []) G hr hb .nil pass0At I r2 (by rw [List.append_nil]; exact hsp)
  refine thn q fun r s' z => ?_
  obtain ⟨v', H', I', rv, ⟨b, rfl, q⟩⟩ := z
  cases rv
  exact ⟨.bl b, H', I', rfl, q⟩
/-- len(x), x an instance with an own __len__ -/
theorem call_lenOwn {C f : Addr} {fd : FuncData} {ps : List Str} {k : Nat} {sp : Sp} (G : FnOk X.prog X.w X.K X.mg X.base CX0 k f fd ps sp) (hr : Room (k + 1) X.A) (hs : PySem.W.findIn X.K (.ref C) "__len__" = some (some (.ref f))) (hf : PySem.W.isFn X.K (.ref f) = true) (hb : Binds X.K fd ps []) :
    CallR X (.builtin "len") (fun xs H Q => ∃ a dx fs, xs = [.ref a] ∧ H a = some (.ins C dx fs) ∧ sp [.ref a] H (fun v H' => ∃ n : Int, v = .int n ∧ 0 ≤ n ∧ n < 2 ^ 63 ∧ Q v H') E0) := by
  intro pins s σ H xs us Q I r h
  obtain ⟨a, dx, fs, rfl, ha, hsp⟩ := h
  obtain ⟨u, rfl, rx⟩ := vals1 r
  cases (show u = Value.ref a from rx)
  obtain ⟨mA, J, _⟩ := ins_get I.hok ha
  obtain ⟨od, J, _⟩ := J.look
  obtain ⟨m, hF⟩ := I.fr
  refine PySem.W.len_K hF I.ok.mod.kin J hs hf ?_
  have r2 : Vals [V.ref a] [Value.ref a] := .cons rfl .nil
  have hl : ([Value.ref a] ++ []).length = ps.length := by
    have e := r2.length
    rw [G.len _ _ _ _ hsp] at e
    rw [List.append_nil]
    exact e.symm
  have bb := hb s [Value.ref a] I.kIn hl
  rw [List.append_nil] at bb
  refine wpAny_call (codeAny_mono (G.run X.A.in1 X.stack s H ⟨[.ref a], []⟩ [.ref a] [.ref a] _ E0 hr.in1 I.env0.in1 bb r2 hsp) fun r s' hq => ?_)
  cases r with
  | error e => exact hq.elim
  | ok fl =>
    cases fl with
    | ret u =>
      obtain ⟨v', H', I', rv, n, rfl, h0, h1, q⟩ := I.after hq
      obtain ⟨t, rfl⟩ := rv
      exact ⟨⟨h0, h1⟩, .int n, H', I'.tok _, ⟨_, rfl⟩, q⟩
    | next => exact False.elim hq
    | brk => exact False.elim hq
    | cont => exact False.elim hq
end
section
variable {X : Cx} {T : List (Addr × Str)} {W : WX} {χ : XD} {δ : Dn} {w : Wp} {pos : Pos}
/-- == by the own method, in data -/
theorem vr_own {C : Addr} {sp : SpD} {d e : D} {t : Value} {κ : D → Wp → Prop} (hd : ∃ ns ds, d = .obj C ns ds) (he : TyDD X.K e t) (nf : PySem.W.notFirst X.K C t = true) (h : sp [d, e] w (fun d' w' => ∃ b, d' = B b ∧ κ d' w') noX) :
    VR2 X.K T (rOwn (X := X) C (spOf X.K T sp)) d e w κ := fun F S H x y Q hW r1 r2 hK => by
  obtain ⟨ns, ds, rfl⟩ := hd
  obtain ⟨a, dx, ys, rfl, h1, h2, h3⟩ := id r1
  refine ⟨a, dx, ys, t, rfl, hW.same _ _ h1, he.tyx hW r2, nf, [.obj C ns ds, e], w, F, S, _, noX, h, ⟨_, _, rfl, r1, _, _, rfl, r2, rfl⟩, hW, ?_, fun _ _ _ _ _ _ _ z => z.elim⟩
  rintro d' w' v S' H' ⟨b, rfl, k⟩ s1 W1 r
  have r' : v = .bl b := r
  exact ⟨b, r', hK _ w' v S' H' k s1 W1 r⟩
theorem va_lenOwn {C : Addr} {sp : SpD} {d : D} {κ : D → Wp → Prop} (hd : ∃ ns ds, d = .obj C ns ds) (h : sp [d] w (fun d' w' => ∃ n : Int, d' = I n ∧ 0 ≤ n ∧ n < 2 ^ 63 ∧ κ d' w') noX) :
    VRA X.K T (fun xs H Q => ∃ a dx fs, xs = [.ref a] ∧ H a = some (.ins C dx fs) ∧ spOf X.K T sp [.ref a] H (fun v H' => ∃ n : Int, v = .int n ∧ 0 ≤ n ∧ n < 2 ^ 63 ∧ Q v H') E0) [d] w κ := fun F S H xs Q hW r1 hK => by
  obtain ⟨ns, ds, rfl⟩ := hd
  obtain ⟨y, zs, rfl, r2, r3⟩ := r1
  have r3' : zs = [] := r3
  subst r3'
  obtain ⟨a, dx, ys, rfl, h1, h2, h3⟩ := id r2
  refine ⟨a, dx, ys, rfl, hW.same _ _ h1, [.obj C ns ds], w, F, S, _, noX, h, ⟨_, _, rfl, r2, rfl⟩, hW, ?_, fun _ _ _ _ _ _ _ z => z.elim⟩
  rintro d' w' v S' H' ⟨n, rfl, h0, h1, k⟩ s1 W1 r
  have r' : v = .int n := r
  exact ⟨n, r', h0, h1, hK _ w' v S' H' k s1 W1 r⟩
/-- isinstance(x, C), C an own class -/
theorem va_isC {C : Addr} {d : D} {t : Value} {b : Bool} {κ : D → Wp → Prop} (ht : TyDD X.K d t) (hk : PySem.W.kitOne X.K t (.ref C) = some b) (k : κ (B b) w) : VRA X.K T (rIsi X.K) [d, R C] w κ := fun F S H xs Q hW r hK => by
  obtain ⟨x, ys, rfl, h1, y, zs, rfl, h2, h3⟩ := r
  have h2' : y = .ref C := h2
  have h3' : zs = [] := h3
  subst h2' h3'
  exact ⟨x, .ref C, t, .ref C, b, rfl, .own C, ht.tyx hW h1, hk, hK _ w _ S H k (Same.refl _) hW rfl⟩
/-- an owned list stands from now on, within an expression -/
theorem pd_frz {e : Expr} {κ : D → Wp → Prop} (h : PD X T W χ e δ w fun d w1 => ∃ a ds, d = R a ∧ w1 a = some (.lst ds) ∧ κ (.lst ds) (wd w1 a)) : PD X T W χ e δ w κ := fun F σ S H Q hE hW hX hK =>
  h F σ S H Q hE hW hX fun d w1 v S1 H1 k s1 W1 r => by
    obtain ⟨a, ds, rfl, hw, k⟩ := k
    obtain ⟨o, e1, r1, W2⟩ := W1.freeze hw
    obtain ⟨xs, rfl, r1⟩ := r1
    have s2 : Same S1 (upd S1 a (.lst xs)) := same_upd e1
    have r' : v = .ref a := r
    exact hK _ _ v _ H1 k (s1.trans s2) W2 ⟨a, xs, r', upd_same, r1.mono s2⟩
end
end DL

set_option Elab.async false
set_option linter.all false
set_option maxRecDepth 100000
set_option maxHeartbeats 1000000
namespace Tw
open PySem PySem.Spec PyProof.Rows L2 LamX DL
abbrev sSame : Stmt := top 19
/-- the names that no module binds -/
structure Nm2 (mg : Str → Option Value) : Prop where
  int : mg "int" = none
  str : mg "str" = none
  bool : mg "bool" = none
  list : mg "list" = none
  tuple : mg "tuple" = none
  len : mg "len" = none
  range : mg "range" = none
  enumerate : mg "enumerate" = none
  isinstance : mg "isinstance" = none
theorem Nm2.nm {mg : Str → Option Value} (h : Nm2 mg) : Nm mg := ⟨h.int⟩
theorem bt_int : bootBuiltins "int" = some (.type "int") := by decide +kernel
theorem bt_str : bootBuiltins "str" = some (.type "str") := by decide +kernel
theorem bt_bool : bootBuiltins "bool" = some (.type "bool") := by decide +kernel
theorem bt_list : bootBuiltins "list" = some (.type "list") := by decide +kernel
theorem bt_tuple : bootBuiltins "tuple" = some (.type "tuple") := by decide +kernel
theorem kb_ii : kitB "int" "int" = some true := by decide +kernel
theorem kb_ib : kitB "int" "bool" = some false := by decide +kernel
theorem kb_si : kitB "str" "int" = some false := by decide +kernel
theorem kb_ss : kitB "str" "str" = some true := by decide +kernel
theorem kb_li : kitB "list" "int" = some false := by decide +kernel
theorem kb_ls : kitB "list" "str" = some false := by decide +kernel
theorem kb_ll : kitB "list" "list" = some true := by decide +kernel
theorem kb_lt : kitB "list" "tuple" = some false := by decide +kernel
theorem kb_ti : kitB "tuple" "int" = some false := by decide +kernel
theorem kb_ts : kitB "tuple" "str" = some false := by decide +kernel
theorem kb_tl : kitB "tuple" "list" = some false := by decide +kernel
theorem kb_tt : kitB "tuple" "tuple" = some true := by decide +kernel
def spSame (n : Nat) : SpD := fun ds w κ χ => ∃ d e, ds = [d, e] ∧ (Sm n d e ∨ ∃ a xs, d = R a ∧ w a = some (.lst xs) ∧ Sm n (.lst xs) e) ∧ κ (B true) w
theorem lt62 {n : Nat} (h : n ≤ sizeLine) : (n : Int) < 2 ^ 62 := by
  have e := sizeLine_eq
  omega
section
variable {P : Program} {w : PySem.World} {K : PySem.W.Frag} {mg : Str → Option Value} {base : Heap} {T : List (Addr × Str)}
theorem scSame : FnScope ["actual", "due", "k"] ["actual", "due"] (defScope sSame) := ⟨rfl, rfl, rfl, by decide +kernel, rfl, by decide +kernel, by decide +kernel⟩
theorem same_step {f : Addr} {fd : FuncData} (G : Fun K "_law_same" "_law_same" sSame f fd) (hm : Nm2 mg) (hf : mg "_law_same" = some (.ref f)) (hb : Binds K fd ["actual", "due"] []) (n : Nat)
    (ih : ∀ m, n = m + 1 → FnOk P w K mg base CX0 n f fd ["actual", "due"] (spOf K T (spSame m))) : FnOk P w K mg base CX0 (n + 1) f fd ["actual", "due"] (spOf K T (spSame n)) := by
  refine fnD G scSame (fun ds w κ χ h => ?_) (fun cdv A outer s H E ds w0 κ χ hr h => ?_)
  · obtain ⟨d, e, rfl, _⟩ := h
    rfl
  obtain ⟨d, e, rfl, h, k⟩ := h
  have hu := hr.units
  have nd := scSame.nd
  have key : ∀ (m : Nat) (xs es : List D), n = m + 1 → e = .lst es → Lk w0 d xs → xs.length = es.length → es.length ≤ sizeLine → (∀ (i : Nat) (x y : D), xs[i]? = some x → es[i]? = some y → Sm m x y) →
      PSsD (cxOf CX0 P w K mg base ["actual", "due", "k"] "_law_same" (defScope sSame) f cdv A outer s H E).nox T Wf noX (defBody sSame) (startD ["actual", "due", "k"] [d, e]) w0 { nx := fun _ w' => κ DL.N w', rt := κ } := by
    intro m xs es en ee hk hl hz it
    subst en ee
    refine pssd_cons (psd_if ?_)
    refine ptd_cmp op_isN ?_
    refine pd_var (i := 1) rfl rfl ?_
    refine pd_non ?_
    refine vr_isN ?_
    refine ⟨_, rfl, ?_⟩
    refine iteF ?_
    refine pssd_nil ?_
    refine pssd_cons (psd_if ?_)
    refine ptd_cmp DL.op_isBl ?_
    refine pd_var (i := 1) rfl rfl ?_
    refine pd_bl ?_
    refine vr_isBl ?_
    refine ⟨_, rfl, ?_⟩
    refine iteF ?_
    refine pssd_nil ?_
    refine pssd_cons (psd_if ?_)
    refine ptd_cmp DL.op_isBl ?_
    refine pd_var (i := 1) rfl rfl ?_
    refine pd_bl ?_
    refine vr_isBl ?_
    refine ⟨_, rfl, ?_⟩
    refine iteF ?_
    refine pssd_nil ?_
    refine pssd_cons (psd_if ?_)
    refine ptd_val ?_
    (refine pd_callB call_isi rfl hm.isinstance PyProof.Rows.boot_isinstance ?_; refine pad_cons ?_; refine pd_var (i := 1) rfl rfl ?_; refine pad_cons ?_; refine pd_bltn (v := .ty "int") hm.int bt_int rfl ?_; refine pad_nil ?_)
    refine va_isi rfl kb_li ?_
    refine ⟨_, rfl, ?_⟩
    refine iteF ?_
    refine pssd_nil ?_
    refine pssd_cons (psd_if ?_)
    refine ptd_val ?_
    (refine pd_callB call_isi rfl hm.isinstance PyProof.Rows.boot_isinstance ?_; refine pad_cons ?_; refine pd_var (i := 1) rfl rfl ?_; refine pad_cons ?_; refine pd_bltn (v := .ty "str") hm.str bt_str rfl ?_; refine pad_nil ?_)
    refine va_isi rfl kb_ls ?_
    refine ⟨_, rfl, ?_⟩
    refine iteF ?_
    refine pssd_nil ?_
    refine pssd_cons (psd_if ?_)
    refine pwd_pt ?_
    refine pwd_and ?_
    refine ptd_val ?_
    (refine pd_callB call_isi rfl hm.isinstance PyProof.Rows.boot_isinstance ?_; refine pad_cons ?_; refine pd_var (i := 1) rfl rfl ?_; refine pad_cons ?_; refine pd_bltn (v := .ty "list") hm.list bt_list rfl ?_; refine pad_nil ?_)
    refine va_isi rfl kb_ll ?_
    refine ⟨_, rfl, ?_⟩
    refine iteT ?_
    refine pwd_and1 ?_
    refine ptd_not ?_
    refine ptd_val ?_
    (refine pd_callB call_isi rfl hm.isinstance PyProof.Rows.boot_isinstance ?_; refine pad_cons ?_; refine pd_var (i := 0) rfl rfl ?_; refine pad_cons ?_; refine pd_bltn (v := .ty "list") hm.list bt_list rfl ?_; refine pad_nil ?_)
    refine va_isiK hk kb_ll ?_
    refine ⟨_, rfl, ?_⟩
    refine iteF ?_
    refine pssd_nil ?_
    refine pssd_cons (psd_if ?_)
    refine pwd_pt ?_
    refine pwd_and ?_
    refine ptd_val ?_
    (refine pd_callB call_isi rfl hm.isinstance PyProof.Rows.boot_isinstance ?_; refine pad_cons ?_; refine pd_var (i := 1) rfl rfl ?_; refine pad_cons ?_; refine pd_bltn (v := .ty "tuple") hm.tuple bt_tuple rfl ?_; refine pad_nil ?_)
    refine va_isi rfl kb_lt ?_
    refine ⟨_, rfl, ?_⟩
    refine iteF ?_
    refine iteF ?_
    refine pssd_nil ?_
    refine pssd_cons (psd_if ?_)
    refine ptd_cmp op_ne ?_
    refine pd_callB call_len_seq rfl hm.len PySem.boot_len ?_
    refine pad_cons ?_
    refine pd_var (i := 0) rfl rfl ?_
    refine pad_nil ?_
    refine va_lenK hk ?_
    refine pd_callB call_len_seq rfl hm.len PySem.boot_len ?_
    refine pad_cons ?_
    refine pd_var (i := 1) rfl rfl ?_
    refine pad_nil ?_
    refine va_len ?_
    refine vr_ne rfl ?_
    refine ⟨_, rfl, ?_⟩
    rw [hl, decide_eq_true rfl]
    refine iteF ?_
    refine pssd_nil ?_
    refine pssd_cons (psd_for PassesOwn.never rfl ?_)
    refine it_range hm.range ?_
    refine pd_callB call_len_seq rfl hm.len PySem.boot_len ?_
    refine pad_cons ?_
    refine pd_var (i := 1) rfl rfl ?_
    refine pad_nil ?_
    refine va_len ?_
    refine ⟨es.length, rfl, lt62 hz, ?_⟩
    refine ⟨fun i δ' w' => w' = w0 ∧ δ'[0]? = some (some (d)) ∧ δ'[1]? = some (some (.lst es)) ∧ δ'.length = 3, ⟨rfl, rfl, rfl, rfl⟩, ?_, ?_⟩
    · rintro i dk δ' w' hd ⟨rfl, h0, h1, h3⟩
      obtain ⟨hi, rfl⟩ := ups_at hd
      have e2 : es[i]? = some es[i] := List.getElem?_eq_getElem hi
      have e1 : xs[i]? = some (xs[i]'(by omega)) := List.getElem?_eq_getElem (by omega)
      have sm := it i _ _ e1 e2
      refine pgd_name (i := 2) nd rfl ?_
      have g0 : (δ'.set 2 (some (I (i : Int))))[0]? = some (some (d)) := by
        rw [List.getElem?_set_ne (by decide)]
        exact h0
      have g1 : (δ'.set 2 (some (I (i : Int))))[1]? = some (some (.lst es)) := by
        rw [List.getElem?_set_ne (by decide)]
        exact h1
      have g2 : (δ'.set 2 (some (I (i : Int))))[2]? = some (some (I (i : Int))) := List.getElem?_set_self (by omega)
      refine pssd_one (psd_if ?_)
      refine ptd_not ?_
      refine ptd_val ?_
      refine pd_call (ih m rfl) hr hf G.kp hb (fun _ => pass0At) ?_
      refine pad_cons ?_
      refine pd_ix ix_list ?_
      refine pd_var (i := 0) rfl g0 ?_
      refine pd_var (i := 2) rfl g2 ?_
      refine vr_ixK hk e1 ?_
      refine pad_cons ?_
      refine pd_ix ix_list ?_
      refine pd_var (i := 1) rfl g1 ?_
      refine pd_var (i := 2) rfl g2 ?_
      refine vr_ixL e2 ?_
      refine pad_nil ?_
      refine ⟨_, _, rfl, .inl sm, ?_⟩
      refine ⟨_, rfl, ?_⟩
      refine iteF ?_
      exact pssd_nil ⟨rfl, g0, g1, by rw [List.length_set]; exact h3⟩
    · rintro δ' w' ⟨rfl, _, _, _⟩
      refine pssd_one (psd_ret ?_)
      refine pd_bl ?_
      exact k
  rcases h with h | ⟨a, xs, rfl, hw, h⟩
  case inr =>
    cases h with
    | lst hl hz it => exact key _ _ _ rfl rfl (.inr ⟨a, rfl, hw⟩) hl hz it
  cases h with
  | lst hl hz it => exact key _ _ _ rfl rfl (.inl rfl) hl hz it
  | non =>
    refine pssd_cons (psd_if ?_)
    refine ptd_cmp op_isN ?_
    refine pd_var (i := 1) rfl rfl ?_
    refine pd_non ?_
    refine vr_isN ?_
    refine ⟨_, rfl, ?_⟩
    refine iteT ?_
    refine pssd_one (psd_ret ?_)
    refine pd_cmp op_isN ?_
    refine pd_var (i := 0) rfl rfl ?_
    refine pd_non ?_
    refine vr_isN ?_
    exact k
  | bl b =>
    cases b
    case true =>
      refine pssd_cons (psd_if ?_)
      refine ptd_cmp op_isN ?_
      refine pd_var (i := 1) rfl rfl ?_
      refine pd_non ?_
      refine vr_isN ?_
      refine ⟨_, rfl, ?_⟩
      refine iteF ?_
      refine pssd_nil ?_
      refine pssd_cons (psd_if ?_)
      refine ptd_cmp DL.op_isBl ?_
      refine pd_var (i := 1) rfl rfl ?_
      refine pd_bl ?_
      refine vr_isBl ?_
      refine ⟨_, rfl, ?_⟩
      refine iteT ?_
      refine pssd_one (psd_ret ?_)
      refine pd_cmp DL.op_isBl ?_
      refine pd_var (i := 0) rfl rfl ?_
      refine pd_bl ?_
      refine vr_isBl ?_
      exact k
    case false =>
      refine pssd_cons (psd_if ?_)
      refine ptd_cmp op_isN ?_
      refine pd_var (i := 1) rfl rfl ?_
      refine pd_non ?_
      refine vr_isN ?_
      refine ⟨_, rfl, ?_⟩
      refine iteF ?_
      refine pssd_nil ?_
      refine pssd_cons (psd_if ?_)
      refine ptd_cmp DL.op_isBl ?_
      refine pd_var (i := 1) rfl rfl ?_
      refine pd_bl ?_
      refine vr_isBl ?_
      refine ⟨_, rfl, ?_⟩
      refine iteF ?_
      refine pssd_nil ?_
      refine pssd_cons (psd_if ?_)
      refine ptd_cmp DL.op_isBl ?_
      refine pd_var (i := 1) rfl rfl ?_
      refine pd_bl ?_
      refine vr_isBl ?_
      refine ⟨_, rfl, ?_⟩
      refine iteT ?_
      refine pssd_one (psd_ret ?_)
      refine pd_cmp DL.op_isBl ?_
      refine pd_var (i := 0) rfl rfl ?_
      refine pd_bl ?_
      refine vr_isBl ?_
      exact k
  | int i =>
    refine pssd_cons (psd_if ?_)
    refine ptd_cmp op_isN ?_
    refine pd_var (i := 1) rfl rfl ?_
    refine pd_non ?_
    refine vr_isN ?_
    refine ⟨_, rfl, ?_⟩
    refine iteF ?_
    refine pssd_nil ?_
    refine pssd_cons (psd_if ?_)
    refine ptd_cmp DL.op_isBl ?_
    refine pd_var (i := 1) rfl rfl ?_
    refine pd_bl ?_
    refine vr_isBl ?_
    refine ⟨_, rfl, ?_⟩
    refine iteF ?_
    refine pssd_nil ?_
    refine pssd_cons (psd_if ?_)
    refine ptd_cmp DL.op_isBl ?_
    refine pd_var (i := 1) rfl rfl ?_
    refine pd_bl ?_
    refine vr_isBl ?_
    refine ⟨_, rfl, ?_⟩
    refine iteF ?_
    refine pssd_nil ?_
    refine pssd_cons (psd_if ?_)
    refine ptd_val ?_
    (refine pd_callB call_isi rfl hm.isinstance PyProof.Rows.boot_isinstance ?_; refine pad_cons ?_; refine pd_var (i := 1) rfl rfl ?_; refine pad_cons ?_; refine pd_bltn (v := .ty "int") hm.int bt_int rfl ?_; refine pad_nil ?_)
    refine va_isi rfl kb_ii ?_
    refine ⟨_, rfl, ?_⟩
    refine iteT ?_
    refine pssd_one (psd_ret ?_)
    refine pd_and ?_
    (refine pd_callB call_isi rfl hm.isinstance PyProof.Rows.boot_isinstance ?_; refine pad_cons ?_; refine pd_var (i := 0) rfl rfl ?_; refine pad_cons ?_; refine pd_bltn (v := .ty "int") hm.int bt_int rfl ?_; refine pad_nil ?_)
    refine va_isi rfl kb_ii ?_
    refine ⟨_, rfl, ?_⟩
    refine iteT ?_
    refine pd_and ?_
    refine pd_not ?_
    (refine pd_callB call_isi rfl hm.isinstance PyProof.Rows.boot_isinstance ?_; refine pad_cons ?_; refine pd_var (i := 0) rfl rfl ?_; refine pad_cons ?_; refine pd_bltn (v := .ty "bool") hm.bool bt_bool rfl ?_; refine pad_nil ?_)
    refine va_isi rfl kb_ib ?_
    refine ⟨_, rfl, ?_⟩
    refine ⟨_, rfl, ?_⟩
    refine iteT ?_
    refine pd_one ?_
    refine pd_cmp op_eq ?_
    refine pd_var (i := 0) rfl rfl ?_
    refine pd_var (i := 1) rfl rfl ?_
    refine vr_eq rfl ?_
    rw [decide_eq_true rfl]
    exact k
  | str x =>
    refine pssd_cons (psd_if ?_)
    refine ptd_cmp op_isN ?_
    refine pd_var (i := 1) rfl rfl ?_
    refine pd_non ?_
    refine vr_isN ?_
    refine ⟨_, rfl, ?_⟩
    refine iteF ?_
    refine pssd_nil ?_
    refine pssd_cons (psd_if ?_)
    refine ptd_cmp DL.op_isBl ?_
    refine pd_var (i := 1) rfl rfl ?_
    refine pd_bl ?_
    refine vr_isBl ?_
    refine ⟨_, rfl, ?_⟩
    refine iteF ?_
    refine pssd_nil ?_
    refine pssd_cons (psd_if ?_)
    refine ptd_cmp DL.op_isBl ?_
    refine pd_var (i := 1) rfl rfl ?_
    refine pd_bl ?_
    refine vr_isBl ?_
    refine ⟨_, rfl, ?_⟩
    refine iteF ?_
    refine pssd_nil ?_
    refine pssd_cons (psd_if ?_)
    refine ptd_val ?_
    (refine pd_callB call_isi rfl hm.isinstance PyProof.Rows.boot_isinstance ?_; refine pad_cons ?_; refine pd_var (i := 1) rfl rfl ?_; refine pad_cons ?_; refine pd_bltn (v := .ty "int") hm.int bt_int rfl ?_; refine pad_nil ?_)
    refine va_isi rfl kb_si ?_
    refine ⟨_, rfl, ?_⟩
    refine iteF ?_
    refine pssd_nil ?_
    refine pssd_cons (psd_if ?_)
    refine ptd_val ?_
    (refine pd_callB call_isi rfl hm.isinstance PyProof.Rows.boot_isinstance ?_; refine pad_cons ?_; refine pd_var (i := 1) rfl rfl ?_; refine pad_cons ?_; refine pd_bltn (v := .ty "str") hm.str bt_str rfl ?_; refine pad_nil ?_)
    refine va_isi rfl kb_ss ?_
    refine ⟨_, rfl, ?_⟩
    refine iteT ?_
    refine pssd_one (psd_ret ?_)
    refine pd_and ?_
    (refine pd_callB call_isi rfl hm.isinstance PyProof.Rows.boot_isinstance ?_; refine pad_cons ?_; refine pd_var (i := 0) rfl rfl ?_; refine pad_cons ?_; refine pd_bltn (v := .ty "str") hm.str bt_str rfl ?_; refine pad_nil ?_)
    refine va_isi rfl kb_ss ?_
    refine ⟨_, rfl, ?_⟩
    refine iteT ?_
    refine pd_one ?_
    refine pd_cmp op_eq ?_
    refine pd_var (i := 0) rfl rfl ?_
    refine pd_var (i := 1) rfl rfl ?_
    refine vr_eq rfl ?_
    rw [decide_eq_true rfl]
    exact k
  | @tup m xs es hl hz it =>
    refine pssd_cons (psd_if ?_)
    refine ptd_cmp op_isN ?_
    refine pd_var (i := 1) rfl rfl ?_
    refine pd_non ?_
    refine vr_isN ?_
    refine ⟨_, rfl, ?_⟩
    refine iteF ?_
    refine pssd_nil ?_
    refine pssd_cons (psd_if ?_)
    refine ptd_cmp DL.op_isBl ?_
    refine pd_var (i := 1) rfl rfl ?_
    refine pd_bl ?_
    refine vr_isBl ?_
    refine ⟨_, rfl, ?_⟩
    refine iteF ?_
    refine pssd_nil ?_
    refine pssd_cons (psd_if ?_)
    refine ptd_cmp DL.op_isBl ?_
    refine pd_var (i := 1) rfl rfl ?_
    refine pd_bl ?_
    refine vr_isBl ?_
    refine ⟨_, rfl, ?_⟩
    refine iteF ?_
    refine pssd_nil ?_
    refine pssd_cons (psd_if ?_)
    refine ptd_val ?_
    (refine pd_callB call_isi rfl hm.isinstance PyProof.Rows.boot_isinstance ?_; refine pad_cons ?_; refine pd_var (i := 1) rfl rfl ?_; refine pad_cons ?_; refine pd_bltn (v := .ty "int") hm.int bt_int rfl ?_; refine pad_nil ?_)
    refine va_isi rfl kb_ti ?_
    refine ⟨_, rfl, ?_⟩
    refine iteF ?_
    refine pssd_nil ?_
    refine pssd_cons (psd_if ?_)
    refine ptd_val ?_
    (refine pd_callB call_isi rfl hm.isinstance PyProof.Rows.boot_isinstance ?_; refine pad_cons ?_; refine pd_var (i := 1) rfl rfl ?_; refine pad_cons ?_; refine pd_bltn (v := .ty "str") hm.str bt_str rfl ?_; refine pad_nil ?_)
    refine va_isi rfl kb_ts ?_
    refine ⟨_, rfl, ?_⟩
    refine iteF ?_
    refine pssd_nil ?_
    refine pssd_cons (psd_if ?_)
    refine pwd_pt ?_
    refine pwd_and ?_
    refine ptd_val ?_
    (refine pd_callB call_isi rfl hm.isinstance PyProof.Rows.boot_isinstance ?_; refine pad_cons ?_; refine pd_var (i := 1) rfl rfl ?_; refine pad_cons ?_; refine pd_bltn (v := .ty "list") hm.list bt_list rfl ?_; refine pad_nil ?_)
    refine va_isi rfl kb_tl ?_
    refine ⟨_, rfl, ?_⟩
    refine iteF ?_
    refine iteF ?_
    refine pssd_nil ?_
    refine pssd_cons (psd_if ?_)
    refine pwd_pt ?_
    refine pwd_and ?_
    refine ptd_val ?_
    (refine pd_callB call_isi rfl hm.isinstance PyProof.Rows.boot_isinstance ?_; refine pad_cons ?_; refine pd_var (i := 1) rfl rfl ?_; refine pad_cons ?_; refine pd_bltn (v := .ty "tuple") hm.tuple bt_tuple rfl ?_; refine pad_nil ?_)
    refine va_isi rfl kb_tt ?_
    refine ⟨_, rfl, ?_⟩
    refine iteT ?_
    refine pwd_and1 ?_
    refine ptd_not ?_
    refine ptd_val ?_
    (refine pd_callB call_isi rfl hm.isinstance PyProof.Rows.boot_isinstance ?_; refine pad_cons ?_; refine pd_var (i := 0) rfl rfl ?_; refine pad_cons ?_; refine pd_bltn (v := .ty "tuple") hm.tuple bt_tuple rfl ?_; refine pad_nil ?_)
    refine va_isi rfl kb_tt ?_
    refine ⟨_, rfl, ?_⟩
    refine iteF ?_
    refine pssd_nil ?_
    refine pssd_cons (psd_if ?_)
    refine ptd_cmp op_ne ?_
    refine pd_callB call_len_seq rfl hm.len PySem.boot_len ?_
    refine pad_cons ?_
    refine pd_var (i := 0) rfl rfl ?_
    refine pad_nil ?_
    refine va_lenT ?_
    refine pd_callB call_len_seq rfl hm.len PySem.boot_len ?_
    refine pad_cons ?_
    refine pd_var (i := 1) rfl rfl ?_
    refine pad_nil ?_
    refine va_lenT ?_
    refine vr_ne rfl ?_
    refine ⟨_, rfl, ?_⟩
    rw [hl, decide_eq_true rfl]
    refine iteF ?_
    refine pssd_nil ?_
    refine pssd_cons (psd_for PassesOwn.never rfl ?_)
    refine it_range hm.range ?_
    refine pd_callB call_len_seq rfl hm.len PySem.boot_len ?_
    refine pad_cons ?_
    refine pd_var (i := 1) rfl rfl ?_
    refine pad_nil ?_
    refine va_lenT ?_
    refine ⟨es.length, rfl, lt62 hz, ?_⟩
    refine ⟨fun i δ' w' => w' = w0 ∧ δ'[0]? = some (some (.tup xs)) ∧ δ'[1]? = some (some (.tup es)) ∧ δ'.length = 3, ⟨rfl, rfl, rfl, rfl⟩, ?_, ?_⟩
    · rintro i dk δ' w' hd ⟨rfl, h0, h1, h3⟩
      obtain ⟨hi, rfl⟩ := ups_at hd
      have e2 : es[i]? = some es[i] := List.getElem?_eq_getElem hi
      have e1 : xs[i]? = some (xs[i]'(by omega)) := List.getElem?_eq_getElem (by omega)
      have sm := it i _ _ e1 e2
      refine pgd_name (i := 2) nd rfl ?_
      have g0 : (δ'.set 2 (some (I (i : Int))))[0]? = some (some (.tup xs)) := by
        rw [List.getElem?_set_ne (by decide)]
        exact h0
      have g1 : (δ'.set 2 (some (I (i : Int))))[1]? = some (some (.tup es)) := by
        rw [List.getElem?_set_ne (by decide)]
        exact h1
      have g2 : (δ'.set 2 (some (I (i : Int))))[2]? = some (some (I (i : Int))) := List.getElem?_set_self (by omega)
      refine pssd_one (psd_if ?_)
      refine ptd_not ?_
      refine ptd_val ?_
      refine pd_call (ih m rfl) hr hf G.kp hb (fun _ => pass0At) ?_
      refine pad_cons ?_
      refine pd_ix ix_tup ?_
      refine pd_var (i := 0) rfl g0 ?_
      refine pd_var (i := 2) rfl g2 ?_
      refine vr_ixT e1 ?_
      refine pad_cons ?_
      refine pd_ix ix_tup ?_
      refine pd_var (i := 1) rfl g1 ?_
      refine pd_var (i := 2) rfl g2 ?_
      refine vr_ixT e2 ?_
      refine pad_nil ?_
      refine ⟨_, _, rfl, .inl sm, ?_⟩
      refine ⟨_, rfl, ?_⟩
      refine iteF ?_
      exact pssd_nil ⟨rfl, g0, g1, by rw [List.length_set]; exact h3⟩
    · rintro δ' w' ⟨rfl, _, _, _⟩
      refine pssd_one (psd_ret ?_)
      refine pd_bl ?_
      exact k
theorem ok_same {f : Addr} {fd : FuncData} (G : Fun K "_law_same" "_law_same" sSame f fd) (hm : Nm2 mg) (hf : mg "_law_same" = some (.ref f)) (hb : Binds K fd ["actual", "due"] []) : ∀ n : Nat, FnOk P w K mg base CX0 (n + 1) f fd ["actual", "due"] (spOf K T (spSame n))
  | 0 => same_step G hm hf hb 0 fun m h => by cases h
  | n + 1 => same_step G hm hf hb (n + 1) fun m h => by
    cases h
    exact ok_same G hm hf hb n
end
end Tw

set_option Elab.async false
set_option linter.all false
set_option maxRecDepth 100000
set_option maxHeartbeats 1000000
namespace Tw
open PySem PySem.Spec PyProof.Rows L2 LamX DL
/-- the global x is a def that keeps sp -/
def HasF (P : Program) (w : PySem.World) (K : PySem.W.Frag) (mg : Str → Option Value) (base : Heap) (T : List (Addr × Str)) (CX : CXT) (x : Str) (k : Nat) (ps : List Str) (sp : SpD) : Prop :=
  ∃ f fd, FnOk P w K mg base CX k f fd ps (spOf K T sp) ∧ mg x = some (.ref f) ∧ PySem.W.keepIn K (.ref f) = true ∧ Binds K fd ps []
section
variable {X : Cx} {T : List (Addr × Str)} {W : WX} {χ : XD} {δ : Dn} {w : Wp} {pos : Pos}
theorem pd_has {CX : CXT} {k : Nat} {ps : List Str} {sp : SpD} {x : Str} {p : Pos} {e : Expr} {es : List Expr} {κ : D → Wp → Prop} (G : HasF X.prog X.w X.K X.mg X.base T CX x k ps sp) (hr : Room k X.A)
    (hx : ∀ σ, PassesAt CX X σ (WE W σ)) (h : PAD X T W χ (e :: es) δ w fun ds w1 => sp ds w1 κ χ) (hg : Gl X x := by rfl) (hdb : (x == ("__debug__" : Str)) = false := by decide)
    (he : starEach (e :: es) X.env = (false, eval e X.env) :: starEach es X.env := by rfl) (hpl : (backTo pos (starEach es X.env)).any (·.1) = false := by rfl) : PD X T W χ (.Call (.Name x p) (e :: es) [] pos) δ w κ := by
  obtain ⟨f, fd, h1, h2, h3, h4⟩ := G
  exact pd_call h1 hr h2 h3 h4 hx h hg hdb he hpl
theorem take_lt {b : Bag} {m : Int} (h : 0 < m) : 0 ≤ (take b m).1 ∧ (take b m).1 < m := by
  unfold take
  split
  · exact ⟨Int.emod_nonneg _ (by omega), Int.emod_lt_of_pos _ h⟩
  · exact ⟨Int.emod_nonneg _ (by omega), Int.emod_lt_of_pos _ h⟩
/-- _law_take(bag, e) -/
theorem pd_take {x y : Str} {k i : Nat} {p p1 : Pos} {e : Expr} {a r : Addr} {b : Bag} {κ : D → Wp → Prop} (G : HasF X.prog X.w X.K X.mg X.base T CX0 x k ["bag", "many"] spTake) (hr : Room k X.A)
    (hN : X.N[i]? = some y) (hd : δ[i]? = some (some (R a))) (hb : BagAt w a r b) (h : PD X T W χ e δ w fun d w1 => w1 = w ∧ ∃ m, d = I m ∧ 0 < m ∧ m.natAbs.log2 < 9000 ∧ ∀ v b', 0 ≤ v → v < m → κ (I v) (bagPut w a r b'))
    (hg : Gl X x := by rfl) (hdb : (x == ("__debug__" : Str)) = false := by decide)
    (he : starEach [.Name y p1, e] X.env = (false, eval (.Name y p1) X.env) :: starEach [e] X.env := by rfl) (he2 : starEach [e] X.env = (false, eval e X.env) :: starEach [] X.env := by rfl) (hpl : (backTo pos (starEach [e] X.env)).any (·.1) = false := by rfl)
    (hv : Vis X.env.scope y := by first | exact Or.inl rfl | exact Or.inr (Or.inl rfl) | exact Or.inr (Or.inr rfl)) (h1 : (y == ("__debug__" : Str)) = false := by decide) (h2 : (y == ("__classdict__" : Str)) = false := by decide) : PD X T W χ (.Call (.Name x p) [.Name y p1, e] [] pos) δ w κ := by
  refine pd_has G hr (fun _ => pass0At) ?_ hg hdb he hpl
  refine pad_cons (pd_var hN hd ?_ hv h1 h2) he
  refine pad_cons (h.imp ?_) he2
  rintro d w1 ⟨rfl, m, rfl, h3, h4, k⟩
  refine pad_nil ⟨a, r, b, m, rfl, hb, ⟨h3, h4⟩, ?_⟩
  exact k _ _ (take_lt h3).1 (take_lt h3).2
end
theorem log_of {x : Int} (h : x.natAbs < 2 ^ 1000) : x.natAbs.log2 < 1920 := by
  by_cases z : x.natAbs = 0
  · rw [z]
    decide
  · exact Nat.lt_trans ((Nat.log2_lt z).mpr h) (by decide)
end Tw

set_option Elab.async false
set_option linter.all false
set_option maxRecDepth 100000
set_option maxHeartbeats 1000000
namespace Tw
open PySem PySem.Spec PyProof.Rows L2 LamX DL
def spNumber : SpD := fun ds w κ χ => ∃ a r b, ds = [R a] ∧ BagAt w a r b ∧ ∀ x b', κ (I x) (bagPut w a r b')
def spFar : SpD := fun ds w κ χ => ∃ a r b m, ds = [R a, I m] ∧ BagAt w a r b ∧ 0 < m ∧ m ≤ 1000 ∧ ∀ x b', (x < 0 ∨ m ≤ x) → x.natAbs.log2 < 1920 → κ (I x) (bagPut w a r b')
abbrev sNumber : Stmt := top 20
abbrev sFar : Stmt := top 21
section
variable {P : Program} {w : PySem.World} {K : PySem.W.Frag} {mg : Str → Option Value} {base : Heap} {T : List (Addr × Str)}
theorem scNumber : FnScope ["bag", "way"] ["bag"] (defScope sNumber) := ⟨rfl, rfl, rfl, by decide +kernel, rfl, by decide +kernel, by decide +kernel⟩
theorem scFar : FnScope ["bag", "many", "way"] ["bag", "many"] (defScope sFar) := ⟨rfl, rfl, rfl, by decide +kernel, rfl, by decide +kernel, by decide +kernel⟩
theorem ok_number {f : Addr} {fd : FuncData} (G : Fun K "_law_number" "_law_number" sNumber f fd) (hm : Nm2 mg) (hT : HasF P w K mg base T CX0 "_law_take" 1 ["bag", "many"] spTake) : FnOk P w K mg base CX0 2 f fd ["bag"] (spOf K T spNumber) := by
  refine fnD G scNumber (fun ds w κ χ h => ?_) (fun cdv A outer s H E ds w0 κ χ hr h => ?_)
  · obtain ⟨a, r, b, rfl, _⟩ := h
    rfl
  obtain ⟨a, r, b, rfl, hb, k⟩ := h
  have nd := scNumber.nd
  refine pssd_cons (psd_set (i := 1) nd rfl ?_)
  (refine pd_take hT hr (i := 0) rfl rfl hb ?_)
  refine pd_int ?_
  refine ⟨rfl, _, rfl, by decide, by decide, fun way b1 h0 h1 => ?_⟩
  have hb1 := bag_put (w := w0) (b := b1) hb.ne
  -- way == 0
  refine pssd_cons (psd_if ?_)
  refine ptd_cmp op_eq ?_
  refine pd_var (i := 1) rfl rfl ?_
  refine pd_int ?_
  refine vr_eq rfl ⟨_, rfl, ?_⟩
  refine ite2 (fun c => ?_) (fun c => ?_)
  · refine pssd_one (psd_ret ?_)
    (refine pd_take hT hr (i := 0) rfl rfl hb1 ?_)
    refine pd_int ?_
    refine ⟨rfl, _, rfl, by decide, by decide, fun x b2 h2 h3 => ?_⟩
    rw [bag_put2 hb.ne]
    exact k x b2
  refine pssd_nil ?_
  -- way == 1
  refine pssd_cons (psd_if ?_)
  refine ptd_cmp op_eq ?_
  refine pd_var (i := 1) rfl rfl ?_
  refine pd_int ?_
  refine vr_eq rfl ⟨_, rfl, ?_⟩
  refine ite2 (fun c => ?_) (fun c => ?_)
  · refine pssd_one (psd_ret ?_)
    refine pd_op op_sub ?_
    refine pd_un un_neg ?_
    refine pd_int ?_
    refine vr_U ?_
    (refine pd_take hT hr (i := 0) rfl rfl hb1 ?_)
    refine pd_int ?_
    refine ⟨rfl, _, rfl, by decide, by decide, fun x b2 h2 h3 => ?_⟩
    refine vr_I ?_
    rw [bag_put2 hb.ne]
    exact k _ b2
  refine pssd_nil ?_
  -- way == 2
  refine pssd_cons (psd_if ?_)
  refine ptd_cmp op_eq ?_
  refine pd_var (i := 1) rfl rfl ?_
  refine pd_int ?_
  refine vr_eq rfl ⟨_, rfl, ?_⟩
  refine ite2 (fun c => ?_) (fun c => ?_)
  · refine pssd_one (psd_ret ?_)
    refine pd_op op_sub ?_
    refine pd_op op_sub ?_
    (refine pd_op op_pow ?_; refine pd_int ?_; refine pd_int ?_; refine vr_IC ⟨by decide, by decide, by decide⟩ ?_)
    refine pd_int ?_
    refine vr_I ?_
    (refine pd_take hT hr (i := 0) rfl rfl hb1 ?_)
    refine pd_int ?_
    refine ⟨rfl, _, rfl, by decide, by decide, fun x b2 h2 h3 => ?_⟩
    refine vr_I ?_
    rw [bag_put2 hb.ne]
    exact k _ b2
  refine pssd_nil ?_
  -- way == 3
  refine pssd_cons (psd_if ?_)
  refine ptd_cmp op_eq ?_
  refine pd_var (i := 1) rfl rfl ?_
  refine pd_int ?_
  refine vr_eq rfl ⟨_, rfl, ?_⟩
  refine ite2 (fun c => ?_) (fun c => ?_)
  · refine pssd_one (psd_ret ?_)
    refine pd_op op_add ?_
    refine pd_op op_sub ?_
    refine pd_int ?_
    (refine pd_op op_pow ?_; refine pd_int ?_; refine pd_int ?_; refine vr_IC ⟨by decide, by decide, by decide⟩ ?_)
    refine vr_I ?_
    (refine pd_take hT hr (i := 0) rfl rfl hb1 ?_)
    refine pd_int ?_
    refine ⟨rfl, _, rfl, by decide, by decide, fun x b2 h2 h3 => ?_⟩
    refine vr_I ?_
    rw [bag_put2 hb.ne]
    exact k _ b2
  refine pssd_nil ?_
  refine pssd_one (psd_ret ?_)
  (refine pd_take hT hr (i := 0) rfl rfl hb1 ?_)
  (refine pd_op op_pow ?_; refine pd_int ?_; refine pd_int ?_; refine vr_IC ⟨by decide, by decide, by decide⟩ ?_)
  refine ⟨rfl, _, rfl, by decide, by decide +kernel, fun x b2 h2 h3 => ?_⟩
  rw [bag_put2 hb.ne]
  exact k x b2
theorem ok_far {f : Addr} {fd : FuncData} (G : Fun K "_law_far" "_law_far" sFar f fd) (hm : Nm2 mg) (hT : HasF P w K mg base T CX0 "_law_take" 1 ["bag", "many"] spTake) : FnOk P w K mg base CX0 2 f fd ["bag", "many"] (spOf K T spFar) := by
  refine fnD G scFar (fun ds w κ χ h => ?_) (fun cdv A outer s H E ds w0 κ χ hr h => ?_)
  · obtain ⟨a, r, b, m, rfl, _⟩ := h
    rfl
  obtain ⟨a, r, b, m, rfl, hb, hm0, hm1, k⟩ := h
  have nd := scFar.nd
  refine pssd_cons (psd_set (i := 2) nd rfl ?_)
  (refine pd_take hT hr (i := 0) rfl rfl hb ?_)
  refine pd_int ?_
  refine ⟨rfl, _, rfl, by decide, by decide, fun way b1 h0 h1 => ?_⟩
  have hb1 := bag_put (w := w0) (b := b1) hb.ne
  refine pssd_cons (psd_if ?_)
  refine ptd_cmp op_eq ?_
  refine pd_var (i := 2) rfl rfl ?_
  refine pd_int ?_
  refine vr_eq rfl ⟨_, rfl, ?_⟩
  refine ite2 (fun c => ?_) (fun c => ?_)
  · refine pssd_one (psd_ret ?_)
    refine pd_op op_add ?_
    refine pd_var (i := 1) rfl rfl ?_
    (refine pd_take hT hr (i := 0) rfl rfl hb1 ?_)
    refine pd_int ?_
    refine ⟨rfl, _, rfl, by decide, by decide, fun x b2 h2 h3 => ?_⟩
    refine vr_I ?_
    rw [bag_put2 hb.ne]
    exact k _ b2 (.inr (by omega)) (log_of (Nat.lt_of_lt_of_le (by omega : _ < 2000) (by decide)))
  refine pssd_nil ?_
  refine pssd_cons (psd_if ?_)
  refine ptd_cmp op_eq ?_
  refine pd_var (i := 2) rfl rfl ?_
  refine pd_int ?_
  refine vr_eq rfl ⟨_, rfl, ?_⟩
  refine ite2 (fun c => ?_) (fun c => ?_)
  · refine pssd_one (psd_ret ?_)
    refine pd_op op_sub ?_
    refine pd_un un_neg ?_
    refine pd_int ?_
    refine vr_U ?_
    (refine pd_take hT hr (i := 0) rfl rfl hb1 ?_)
    refine pd_var (i := 1) rfl rfl ?_
    refine ⟨rfl, _, rfl, hm0, Nat.lt_trans (log_of (Nat.lt_of_lt_of_le (by omega : _ < 2000) (by decide))) (by decide), fun x b2 h2 h3 => ?_⟩
    refine vr_I ?_
    rw [bag_put2 hb.ne]
    exact k _ b2 (.inl (by omega)) (log_of (Nat.lt_of_lt_of_le (by omega : _ < 2000) (by decide)))
  refine pssd_nil ?_
  refine pssd_cons (psd_if ?_)
  refine ptd_cmp op_eq ?_
  refine pd_var (i := 2) rfl rfl ?_
  refine pd_int ?_
  refine vr_eq rfl ⟨_, rfl, ?_⟩
  refine ite2 (fun c => ?_) (fun c => ?_)
  · refine pssd_one (psd_ret ?_)
    refine pd_op op_sub ?_
    refine pd_op op_sub ?_
    (refine pd_op op_pow ?_; refine pd_int ?_; refine pd_int ?_; refine vr_IC ⟨by decide, by decide, by decide⟩ ?_)
    refine pd_int ?_
    refine vr_I ?_
    (refine pd_take hT hr (i := 0) rfl rfl hb1 ?_)
    refine pd_int ?_
    refine ⟨rfl, _, rfl, by decide, by decide, fun x b2 h2 h3 => ?_⟩
    refine vr_I ?_
    rw [bag_put2 hb.ne]
    have e40 : ((10 : Int) ^ (40 : Int).toNat) = 10000000000000000000000000000000000000000 := by decide
    rw [e40]
    exact k _ b2 (.inr (by omega)) (log_of (Nat.lt_of_lt_of_le (by omega : _ < 20000000000000000000000000000000000000000) (by decide)))
  refine pssd_nil ?_
  refine pssd_one (psd_ret ?_)
  refine pd_op op_add ?_
  refine pd_op op_sub ?_
  refine pd_int ?_
  (refine pd_op op_pow ?_; refine pd_int ?_; refine pd_int ?_; refine vr_IC ⟨by decide, by decide, by decide⟩ ?_)
  refine vr_I ?_
  (refine pd_take hT hr (i := 0) rfl rfl hb1 ?_)
  refine pd_int ?_
  refine ⟨rfl, _, rfl, by decide, by decide, fun x b2 h2 h3 => ?_⟩
  refine vr_I ?_
  rw [bag_put2 hb.ne]
  have e40 : ((10 : Int) ^ (40 : Int).toNat) = 10000000000000000000000000000000000000000 := by decide
  rw [e40]
  exact k _ b2 (.inl (by omega)) (log_of (Nat.lt_of_lt_of_le (by omega : _ < 20000000000000000000000000000000000000000) (by decide)))
end
end Tw

set_option Elab.async false
set_option linter.all false
set_option maxRecDepth 100000
set_option maxHeartbeats 1000000
namespace Tw
open PySem PySem.Spec PyProof.Rows L2 LamX DL
/-- what a raise of an own error class of one field asks -/
def HasE (P : Program) (w : PySem.World) (K : PySem.W.Frag) (mg : Str → Option Value) (base : Heap) (x : Str) (C : Addr) (k : Nat) (f : Str) : Prop :=
  ∃ fI fd, FnOk P w K mg base CX0 k fI fd ["self", f] (spX1 C f intFits) ∧ mg x = some (.ref C) ∧ OexC K C ∧ PySem.W.findIn K (.ref C) "__init__" = some (some (.ref fI)) ∧ PySem.W.typeIn K (.ref fI) = some (.type "function") ∧ Binds K fd ["self", f] []
/-- C.m is a method that keeps sp -/
def HasM (P : Program) (w : PySem.World) (K : PySem.W.Frag) (mg : Str → Option Value) (base : Heap) (T : List (Addr × Str)) (CX : CXT) (C : Addr) (m : Str) (k : Nat) (ps : List Str) (sp : SpD) : Prop :=
  ∃ f fd, FnOk P w K mg base CX k f fd ps (spOf K T sp) ∧ Meth K C m f ∧ Binds K fd ps []
theorem passLf {X : Cx} {σ : L2.St} : PassesAt (L2.CX X.prog X.w) X σ (WE Wf σ) := fun pins H s e s' I h => passL pins σ H s e s' I h
section
variable {X : Cx} {T : List (Addr × Str)} {W : WX} {χ : XD} {δ : Dn} {w : Wp} {pos : Pos}
theorem psd_raiseH {x f : Str} {C : Addr} {k : Nat} {e : Expr} {p cpos : Pos} {Fi : DL.Fin} (hc : X.calm = true) (tk : Takes X W) (G : HasE X.prog X.w X.K X.mg X.base x C k f) (hr : Room (k + 1) X.A)
    (h : PD X T W χ e δ w fun d w1 => ∃ i : Int, d = I i ∧ i.natAbs.log2 < 1920 ∧ χ C [f] [I i] w1) (hg : Gl X x := by rfl) (hdb : (x == ("__debug__" : Str)) = false := by decide)
    (he : starEach [e] X.env = (false, eval e X.env) :: starEach [] X.env := by rfl) (hpl : (backTo cpos (starEach [] X.env)).any (·.1) = false := by rfl) : PSD X T W χ (.Raise (some (.Call (.Name x p) [e] [] cpos)) none pos) δ w Fi := by
  obtain ⟨fI, fd, h1, h2, h3, h4, h5, h6⟩ := G
  refine psd_raise1 (CX := CX0) hc tk h3 h4 h5 h1 hr h6 h2 (h.imp ?_) hg hdb he hpl
  rintro d w1 ⟨i, rfl, hi, k⟩
  exact ⟨.int i, rfl, ⟨i, rfl, hi⟩, k⟩
theorem pd_hasm {CX : CXT} {k : Nat} {C : Addr} {ps : List Str} {sp : SpD} {m : Str} {apos : Pos} {e o : Expr} {es : List Expr} {κ : D → Wp → Prop} {pl : Sem Bool} (c : Cls X.K C) (G : HasM X.prog X.w X.K X.mg X.base T CX C m k ps sp) (hr : Room k X.A)
    (hx : ∀ σ, PassesAt CX X σ (WE W σ)) (h : PD X T W χ o δ w fun d w1 => InsD C m d w1 ∧ PAD X T W χ (e :: es) δ w1 fun ds w2 => sp (d :: ds) w2 κ χ)
    (hst : starEach (e :: es) X.env = (false, eval e X.env) :: starEach es X.env := by rfl) (hpl : (backTo pos (starEach es X.env)).any (·.1) = false := by rfl)
    (ht : eval (.Call (.Attribute o m apos) (e :: es) [] pos) X.env = (do
      let ov ← eval o X.env
      standAt apos.atName
      let (f, first) ← holding [ov] (getMethod ov m pl)
      callWith pos f first (backTo pos (starEach (e :: es) X.env)) (backToKw pos (keywordEach [] X.env))) := by rfl) : PD X T W χ (.Call (.Attribute o m apos) (e :: es) [] pos) δ w κ := by
  obtain ⟨f, fd, h1, h2, h3⟩ := G
  exact pd_meth c h2 h1 hr h3 hx h hst hpl ht
theorem pd_hasm0 {CX : CXT} {k : Nat} {C : Addr} {ps : List Str} {sp : SpD} {m : Str} {apos : Pos} {o : Expr} {κ : D → Wp → Prop} {pl : Sem Bool} (c : Cls X.K C) (G : HasM X.prog X.w X.K X.mg X.base T CX C m k ps sp) (hr : Room k X.A)
    (hx : ∀ σ, PassesAt CX X σ (WE W σ)) (h : PD X T W χ o δ w fun d w1 => InsD C m d w1 ∧ sp [d] w1 κ χ)
    (ht : eval (.Call (.Attribute o m apos) [] [] pos) X.env = (do
      let ov ← eval o X.env
      standAt apos.atName
      let (f, first) ← holding [ov] (getMethod ov m pl)
      callWith pos f first (backTo pos (starEach [] X.env)) (backToKw pos (keywordEach [] X.env))) := by rfl) : PD X T W χ (.Call (.Attribute o m apos) [] [] pos) δ w κ := by
  obtain ⟨f, fd, h1, h2, h3⟩ := G
  exact pd_meth0 c h2 h1 hr h3 hx h ht
end
/-! ### data -/
def nats (l : List Nat) : D := .lst (l.map fun (k : Nat) => I (k : Int))
def spl (C : Addr) (lo : List Nat) : D := .obj C ["size", "_marks"] [I (lo.length : Int), nats lo]
def cellN (lo : List Nat) (m : Nat) : List Nat := (List.range lo.length).filter fun o => decide (lo[o]? = some m)
def heads (lo : List Nat) : List Nat := (List.range lo.length).filter fun c => decide (lo[c]? = some c)
def cellsN (lo : List Nat) : List (List Nat) := (heads lo).map fun c => cellN lo c
def lowN (ms : List Int) : List Nat := ms.map fun m => ms.idxOf m
/-! ### check_case, _check_size -/
def InR (c s : Int) : Prop := 0 ≤ c ∧ c < s
def spCheck (CU : Addr) : SpD := fun ds w κ χ => ∃ c s, ds = [I c, I s] ∧ (InR c s → κ N w) ∧ (¬ InR c s → c.natAbs.log2 < 1920 ∧ χ CU ["case"] [I c] w)
abbrev sCheck : Stmt := top 8
def spSize (CB : Addr) : SpD := fun ds w κ χ => ∃ s : Int, ds = [I s] ∧ ((1 ≤ s ∧ s ≤ 12) → κ N w) ∧ (¬ (1 ≤ s ∧ s ≤ 12) → s.natAbs.log2 < 1920 ∧ χ CB ["size"] [I s] w)
abbrev sSize : Stmt := top 12
section
variable {P : Program} {w : PySem.World} {K : PySem.W.Frag} {mg : Str → Option Value} {base : Heap} {T : List (Addr × Str)}
theorem takesX {N : List Str} {qual : Str} {sc : Scope} {f : Addr} {cdv : Value} {A : Around} {outer : List Env} {s : Shared} {H : Hp} {E : XK} : Takes (cxOf (L2.CX P w) P w K mg base N qual sc f cdv A outer s H E) (fun cls d _ H => E cls d H) := takes_of rfl rfl rfl rfl
theorem passX {N : List Str} {qual : Str} {sc : Scope} {f : Addr} {cdv : Value} {A : Around} {outer : List Env} {s : Shared} {H : Hp} {E : XK} (σ : L2.St) : PassesAt (L2.CX P w) (cxOf (L2.CX P w) P w K mg base N qual sc f cdv A outer s H E) σ (WE (fun cls d _ H => E cls d H) σ) := passAt takesX σ
theorem scCheck : FnScope ["case", "size"] ["case", "size"] (defScope sCheck) := ⟨rfl, rfl, rfl, by decide +kernel, rfl, by decide +kernel, by decide +kernel⟩
theorem ok_check {f CU : Addr} {fd : FuncData} (G : Fun K "check_case" "check_case" sCheck f fd) (hE : HasE P w K mg base "UnknownCase" CU 1 "case") : FnOk P w K mg base (L2.CX P w) 3 f fd ["case", "size"] (spOf K T (spCheck CU)) := by
  refine fnX G scCheck (fun ds w κ χ h => ?_) (fun cdv A outer s H E ds w0 κ χ hr h => ?_)
  · obtain ⟨c, s, rfl, _⟩ := h
    rfl
  obtain ⟨c, sz, rfl, k1, k2⟩ := h
  refine pssd_one (psd_if ?_)
  refine pwd_pt ?_
  refine pwd_or ?_
  refine ptd_cmp op_lt ?_
  refine pd_var (i := 0) rfl rfl ?_
  refine pd_int ?_
  refine vr_I ?_
  refine ⟨_, rfl, ?_⟩
  have out : ¬ InR c sz → ∀ p1 p2 p3 p4 : Pos, PSsD (cxOf (L2.CX P w) P w K mg base ["case", "size"] "check_case" (defScope sCheck) f cdv A outer s H E) T (fun cls d _ H => E cls d H) χ [.Raise (some (.Call (.Name "UnknownCase" p1) [.Name "case" p2] [] p3)) none p4] (startD ["case", "size"] [I c, I sz]) w0 { nx := fun _ w' => κ DL.N w', rt := κ } := fun ho p1 p2 p3 p4 => by
    refine pssd_one (psd_raiseH rfl takesX hE hr ?_)
    refine pd_var (i := 0) rfl rfl ?_
    exact ⟨c, rfl, k2 ho⟩
  refine ite2 (fun h1 => ?_) (fun h1 => ?_)
  · refine iteT ?_
    exact out (fun h => by simp only [decide_eq_true_eq] at h1; exact absurd h.1 (by omega)) _ _ _ _
  refine pwd_or1 ?_
  refine ptd_cmp op_ge ?_
  refine pd_var (i := 0) rfl rfl ?_
  refine pd_var (i := 1) rfl rfl ?_
  refine vr_I ?_
  refine ⟨_, rfl, ?_⟩
  refine ite2 (fun h2 => ?_) (fun h2 => ?_)
  · exact out (fun h => by simp only [decide_eq_true_eq] at h2; exact absurd h.2 (by omega)) _ _ _ _
  · exact pssd_nil (k1 (by simp only [decide_eq_true_eq] at h1 h2; exact ⟨by omega, by omega⟩))
theorem scSize : FnScope ["size"] ["size"] (defScope sSize) := ⟨rfl, rfl, rfl, by decide +kernel, rfl, by decide +kernel, by decide +kernel⟩
theorem ok_size {f CB C : Addr} {mc : Value} {u : Value} {fd : FuncData} (G : Fun K "check_size" "check_size" sSize f fd) (hE : HasE P w K mg base "BadSize" CB 1 "size") (hS : mg "Split" = some (.ref C)) (rC : ClX.CRead K C mc) (vC : ClX.CVal K C mc "MOST" (.int 12) u) : FnOk P w K mg base (L2.CX P w) 3 f fd ["size"] (spOf K T (spSize CB)) := by
  refine fnX G scSize (fun ds w κ χ h => ?_) (fun cdv A outer s H E ds w0 κ χ hr h => ?_)
  · obtain ⟨c, rfl, _⟩ := h
    rfl
  obtain ⟨sz, rfl, k1, k2⟩ := h
  refine pssd_one (psd_if ?_)
  refine pwd_pt ?_
  refine pwd_or ?_
  refine ptd_cmp op_lt ?_
  refine pd_var (i := 0) rfl rfl ?_
  refine pd_int ?_
  refine vr_I ?_
  refine ⟨_, rfl, ?_⟩
  have out : ¬ (1 ≤ sz ∧ sz ≤ 12) → ∀ p1 p2 p3 p4 : Pos, PSsD (cxOf (L2.CX P w) P w K mg base ["size"] "check_size" (defScope sSize) f cdv A outer s H E) T (fun cls d _ H => E cls d H) χ [.Raise (some (.Call (.Name "BadSize" p1) [.Name "size" p2] [] p3)) none p4] (startD ["size"] [I sz]) w0 { nx := fun _ w' => κ DL.N w', rt := κ } := fun ho p1 p2 p3 p4 => by
    refine pssd_one (psd_raiseH rfl takesX hE hr ?_)
    refine pd_var (i := 0) rfl rfl ?_
    exact ⟨sz, rfl, k2 ho⟩
  refine ite2 (fun h1 => ?_) (fun h1 => ?_)
  · refine iteT ?_
    exact out (fun h => by simp only [decide_eq_true_eq] at h1; exact absurd h.1 (by omega)) _ _ _ _
  refine pwd_or1 ?_
  refine ptd_cmp op_gt ?_
  refine pd_var (i := 0) rfl rfl ?_
  refine pd_cval rC vC ?_
  refine pd_glob (v := .ref C) hS rfl ?_
  refine ⟨rfl, ?_⟩
  refine vr_I ?_
  refine ⟨_, rfl, ?_⟩
  refine ite2 (fun h2 => ?_) (fun h2 => ?_)
  · exact out (fun h => by simp only [decide_eq_true_eq] at h2; exact absurd h.2 (by omega)) _ _ _ _
  · exact pssd_nil (k1 (by simp only [decide_eq_true_eq] at h1 h2; exact ⟨by omega, by omega⟩))
end
end Tw

set_option Elab.async false
set_option linter.all false
set_option maxRecDepth 100000
set_option maxHeartbeats 1000000
namespace Tw
open PySem PySem.Spec PyProof.Rows L2 LamX DL
abbrev sM (i : Nat) : Stmt := inClass (top 10) i
abbrev sMarks : Stmt := sM 5
abbrev sCells : Stmt := sM 6
abbrev sCell : Stmt := sM 7
abbrev sTog : Stmt := sM 8
/-- what of the class stands -/
structure SplC (K : PySem.W.Frag) (C : Addr) : Prop where
  cl : Cls K C
  nS : NoAttr K C "size"
  nM : NoAttr K C "_marks"
def nl (l : List Nat) : List D := l.map fun (k : Nat) => I (k : Int)
theorem nl_len (l : List Nat) : (nl l).length = l.length := List.length_map _
theorem nl_at {l : List Nat} {i m : Nat} (h : l[i]? = some m) : (nl l)[i]? = some (I (m : Int)) := by
  unfold nl
  rw [List.getElem?_map, h]
  rfl
def spMarks (C : Addr) : SpD := fun ds w κ χ => ∃ lo, ds = [spl C lo] ∧ ∀ a, w a = none → κ (R a) (wu w a (.lst (nl lo)))
def markAt (lo : List Nat) (c : Int) : Nat := lo.getD c.toNat 0
def spCell (C CU : Addr) : SpD := fun ds w κ χ => ∃ lo c, ds = [spl C lo, I c] ∧ lo.length ≤ 12 ∧ (InR c lo.length → ∀ a, w a = none → κ (R a) (wu w a (.lst (nl (cellN lo (markAt lo c)))))) ∧ (¬ InR c lo.length → c.natAbs.log2 < 1920 ∧ χ CU ["case"] [I c] w)
def spTog (C CU : Addr) : SpD := fun ds w κ χ => ∃ lo c d, ds = [spl C lo, I c, I d] ∧ lo.length ≤ 12 ∧ (InR c lo.length → InR d lo.length → κ (B (decide (markAt lo c = markAt lo d))) w) ∧
  (¬ InR c lo.length → c.natAbs.log2 < 1920 ∧ χ CU ["case"] [I c] w) ∧ (InR c lo.length → ¬ InR d lo.length → d.natAbs.log2 < 1920 ∧ χ CU ["case"] [I d] w)
theorem fld_size {C : Addr} {lo : List Nat} {w : Wp} : FldD C "size" (spl C lo) w (I (lo.length : Int)) := ⟨rfl, rfl⟩
theorem fld_marks {C : Addr} {lo : List Nat} {w : Wp} : FldD C "_marks" (spl C lo) w (nats lo) := ⟨rfl, rfl⟩
theorem ins_spl {C : Addr} {lo : List Nat} {w : Wp} {m : Str} (h : m ∉ (["size", "_marks"] : List Str)) : InsD C m (spl C lo) w := ⟨rfl, h⟩
theorem inR_nat {c : Int} {n : Nat} (h : InR c n) : ∃ i : Nat, c = i ∧ i < n := ⟨c.toNat, by obtain ⟨h1, h2⟩ := h; omega, by obtain ⟨h1, h2⟩ := h; omega⟩
theorem mark_at {lo : List Nat} {i : Nat} (h : i < lo.length) : lo[i]? = some (markAt lo i) := by
  unfold markAt
  rw [Int.toNat_natCast, List.getD_eq_getElem?_getD, List.getElem?_eq_getElem h]
  rfl
section
variable {P : Program} {w : PySem.World} {K : PySem.W.Frag} {mg : Str → Option Value} {base : Heap} {T : List (Addr × Str)} {C CU : Addr}
theorem scMarks : FnScope ["self"] ["self"] (defScope sMarks) := ⟨rfl, rfl, rfl, by decide +kernel, rfl, by decide +kernel, by decide +kernel⟩
theorem ok_marks {f : Addr} {fd : FuncData} (G : Fun K "marks" "Split.marks" sMarks f fd) (hm : Nm2 mg) (c : SplC K C) : FnOk P w K mg base CX0 1 f fd ["self"] (spOf K T (spMarks C)) := by
  refine fnD G scMarks (fun ds w κ χ h => ?_) (fun cdv A outer s H E ds w0 κ χ hr h => ?_)
  · obtain ⟨lo, rfl, _⟩ := h
    rfl
  obtain ⟨lo, rfl, k⟩ := h
  refine pssd_one (psd_ret ?_)
  refine pd_callTy call_list_of rfl hm.list bt_list ?_
  refine pad_cons ?_
  refine pd_fld c.cl c.nM ?_
  refine pd_var (i := 0) rfl rfl ?_
  refine ⟨_, fld_marks, ?_⟩
  refine pad_nil ?_
  exact va_listO k
theorem scCell : FnScope ["self", "case", "other", "mark"] ["self", "case"] (defScope sCell) := ⟨rfl, rfl, rfl, by decide +kernel, rfl, by decide +kernel, by decide +kernel⟩
theorem ok_cell {f : Addr} {fd : FuncData} (G : Fun K "cell" "Split.cell" sCell f fd) (hm : Nm2 mg) (c : SplC K C) (hC : HasF P w K mg base T (L2.CX P w) "check_case" 3 ["case", "size"] (spCheck CU)) : FnOk P w K mg base (L2.CX P w) 4 f fd ["self", "case"] (spOf K T (spCell C CU)) := by
  refine fnX G scCell (fun ds w κ χ h => ?_) (fun cdv A outer s H E ds w0 κ χ hr h => ?_)
  · obtain ⟨lo, c, rfl, _⟩ := h
    rfl
  obtain ⟨lo, cs, rfl, hz, k1, k2⟩ := h
  have nd := scCell.nd
  refine pssd_cons (psd_expr ?_)
  refine pd_has hC hr passX ?_
  refine pad_cons ?_
  refine pd_var (i := 1) rfl rfl ?_
  refine pad_cons ?_
  refine pd_fld c.cl c.nS ?_
  refine pd_var (i := 0) rfl rfl ?_
  refine ⟨_, fld_size, ?_⟩
  refine pad_nil ?_
  refine ⟨cs, _, rfl, fun hin => ?_, k2⟩
  obtain ⟨i0, rfl, hi0⟩ := inR_nat hin
  have k := k1 hin
  refine pssd_one (psd_ret ?_)
  refine pd_lcO (own := [("other", 2), ("mark", 3)]) (is := [2, 3]) rfl nd (blkOk_by rfl) (by decide) ?_
  refine it_enum hm.enumerate ?_
  refine pd_fld c.cl c.nM ?_
  refine pd_var (i := 0) rfl rfl ?_
  refine ⟨_, fld_marks, ?_⟩
  refine ⟨_, rfl, ?_⟩
  have el : (pairs (nl lo)).length = lo.length := by rw [DL.pairs_len, nl_len]
  refine lcd_ix (fun o => decide (lo[o]? = some (markAt lo i0))) (fun o => I (o : Int)) (by show (pairs (nl lo)).length < _; rw [el]; exact small1000 (by omega)) (fun i d hd => ?_) ?_
  · obtain ⟨e, he, rfl⟩ := pairs_at (show (pairs (nl lo))[i]? = some d from hd)
    have hi : i < lo.length := by
      have z := (List.getElem?_eq_some_iff.mp hd).1
      exact el ▸ z
    rw [nl_at (mark_at hi)] at he
    cases he
    intro s H0 C1 cl1 fp1
    refine pgl_two rfl ?_
    refine pgl_name nd rfl ?_
    refine pgl_name nd rfl ?_
    intro s H0 C1 cl1 fp1
    refine ptsd_one ?_
    refine ptd_cmp op_eq ?_
    refine pd_var (i := 3) rfl rfl ?_
    refine pd_ix ix_list ?_
    refine pd_fld c.cl c.nM ?_
    refine pd_var (i := 0) rfl rfl ?_
    refine ⟨_, fld_marks, ?_⟩
    refine pd_var (i := 1) rfl rfl ?_
    refine vr_ixL (nl_at (mark_at hi0)) ?_
    refine vr_eq rfl ⟨_, rfl, ?_⟩
    have e2 : decide (lo[i]? = some (markAt lo i0)) = decide (V.int (markAt lo i : Int) = V.int (markAt lo i0 : Int)) := by
      rw [mark_at hi]
      refine decide_eq_decide.mpr ⟨fun z => ?_, fun z => ?_⟩
      · rw [Option.some.inj z]
      · have z2 := V.int.inj z
        congr 1
        omega
    refine ite2 (fun c1 => ?_) (fun c1 => ?_)
    · intro s H0 C1 cl1 fp1
      refine pd_var (i := 2) rfl rfl ?_
      exact ⟨e2.trans c1, rfl, rfl⟩
    · exact ⟨e2.trans (Bool.eq_false_iff.mpr c1), rfl⟩
  · show ∀ a, w0 a = none → κ (R a) (wu w0 a (.lst (((List.range (pairs (nl lo)).length).filter _).map _)))
    rw [el]
    exact k
theorem scTog : FnScope ["self", "first", "second"] ["self", "first", "second"] (defScope sTog) := ⟨rfl, rfl, rfl, by decide +kernel, rfl, by decide +kernel, by decide +kernel⟩
theorem ok_tog {f : Addr} {fd : FuncData} (G : Fun K "together" "Split.together" sTog f fd) (hm : Nm2 mg) (c : SplC K C) (hC : HasF P w K mg base T (L2.CX P w) "check_case" 3 ["case", "size"] (spCheck CU)) : FnOk P w K mg base (L2.CX P w) 4 f fd ["self", "first", "second"] (spOf K T (spTog C CU)) := by
  refine fnX G scTog (fun ds w κ χ h => ?_) (fun cdv A outer s H E ds w0 κ χ hr h => ?_)
  · obtain ⟨lo, c, d, rfl, _⟩ := h
    rfl
  obtain ⟨lo, c1, c2, rfl, hz, k1, k2, k3⟩ := h
  have nd := scTog.nd
  refine pssd_cons (psd_expr ?_)
  refine pd_has hC hr passX ?_
  refine pad_cons ?_
  refine pd_var (i := 1) rfl rfl ?_
  refine pad_cons ?_
  refine pd_fld c.cl c.nS ?_
  refine pd_var (i := 0) rfl rfl ?_
  refine ⟨_, fld_size, ?_⟩
  refine pad_nil ?_
  refine ⟨c1, _, rfl, fun hin => ?_, k2⟩
  refine pssd_cons (psd_expr ?_)
  refine pd_has hC hr passX ?_
  refine pad_cons ?_
  refine pd_var (i := 2) rfl rfl ?_
  refine pad_cons ?_
  refine pd_fld c.cl c.nS ?_
  refine pd_var (i := 0) rfl rfl ?_
  refine ⟨_, fld_size, ?_⟩
  refine pad_nil ?_
  refine ⟨c2, _, rfl, fun hin2 => ?_, k3 hin⟩
  have k := k1 hin hin2
  obtain ⟨i1, rfl, h1⟩ := inR_nat hin
  obtain ⟨i2, rfl, h2⟩ := inR_nat hin2
  refine pssd_one (psd_ret ?_)
  refine pd_cmp op_eq ?_
  refine pd_ix ix_list ?_
  refine pd_fld c.cl c.nM ?_
  refine pd_var (i := 0) rfl rfl ?_
  refine ⟨_, fld_marks, ?_⟩
  refine pd_var (i := 1) rfl rfl ?_
  refine vr_ixL (nl_at (mark_at h1)) ?_
  refine pd_ix ix_list ?_
  refine pd_fld c.cl c.nM ?_
  refine pd_var (i := 0) rfl rfl ?_
  refine ⟨_, fld_marks, ?_⟩
  refine pd_var (i := 2) rfl rfl ?_
  refine vr_ixL (nl_at (mark_at h2)) ?_
  refine vr_eq rfl ?_
  have e2 : decide (V.int (markAt lo i1 : Int) = V.int (markAt lo i2 : Int)) = decide (markAt lo i1 = markAt lo i2) := by
    refine decide_eq_decide.mpr ⟨fun z => ?_, fun z => ?_⟩
    · have z2 := V.int.inj z
      omega
    · rw [z]
  rw [e2]
  exact k
end
end Tw

set_option Elab.async false
set_option linter.all false
set_option maxRecDepth 100000
set_option maxHeartbeats 1000000
namespace DL
open PySem PySem.Spec PyProof.Rows L2 LamX
section
variable {X : Cx} {T : List (Addr × Str)} {W : WX} {χ : XD} {δ : Dn} {w : Wp} {pos : Pos}
/-- an owned list whose first item is an owned list: both stand from now on -/
theorem pd_frz2 {e : Expr} {κ : D → Wp → Prop} (h : PD X T W χ e δ w fun d w1 => ∃ a a1 es ds, d = R a ∧ w1 a = some (.lst (R a1 :: ds)) ∧ w1 a1 = some (.lst es) ∧ a ≠ a1 ∧ κ (.lst (.lst es :: ds)) (wd (wd w1 a1) a)) : PD X T W χ e δ w κ := fun F σ S H Q hE hW hX hK =>
  h F σ S H Q hE hW hX fun d w1 v S1 H1 k s1 W1 r => by
    obtain ⟨a, a1, es, ds, rfl, hw, hw1, ne, k⟩ := k
    obtain ⟨o, e1, r1, W2⟩ := W1.freeze hw1
    obtain ⟨ys, rfl, r1⟩ := r1
    have hw2 : (wd w1 a1) a = some (.lst (R a1 :: ds)) := by
      show (if a = a1 then none else w1 a) = _
      rw [if_neg ne]
      exact hw
    obtain ⟨o, e2, r2, W3⟩ := W2.freeze hw2
    obtain ⟨xs, rfl, y, zs, rfl, r2, r3⟩ := r2
    have s2 : Same S1 (upd S1 a1 (.lst ys)) := same_upd e1
    have r2' : y = .ref a1 := r2
    subst r2'
    have s3 : Same (upd S1 a1 (.lst ys)) (upd (upd S1 a1 (.lst ys)) a (.lst (.ref a1 :: zs))) := same_upd e2
    have r' : v = .ref a := r
    exact hK _ _ v _ H1 k (s1.trans (s2.trans s3)) W3 ⟨a, _, r', upd_same, .ref a1, zs, rfl, ⟨a1, ys, rfl, s3 _ _ upd_same, (r1.mono s2).mono s3⟩, r3.mono s3⟩
theorem World.drop {K : PySem.W.Frag} {S F H : Hp} (W : World K T S w F H) (a : Addr) : World K T S (wd w a) F H := by
  refine ⟨W.same, W.notbl, fun b k q => ?_, W.frm, W.tabs, W.nf⟩
  have q' : (if b = a then none else w b) = some k := q
  by_cases e : b = a
  · rw [if_pos e] at q'
    cases q'
  · rw [if_neg e] at q'
    exact W.own b k q'
/-- C(e, ..); what is let out comes without the unfinished instance -/
theorem pd_makeX {CX : CXT} {k : Nat} {f C : Addr} {fd : FuncData} {ps : List Str} {sp : SpD} {x : Str} {p : Pos} {e : Expr} {es : List Expr} {κ : D → Wp → Prop} (M : Mk X.K C f) (G : FnOk X.prog X.w X.K X.mg X.base CX k f fd ps (spOf X.K T sp)) (hr : Room (k + 1) X.A) (hm : X.mg x = some (.ref C)) (hb : Binds X.K fd ps []) (hx : ∀ σ, PassesAt CX X σ (WE W σ))
    (h : PAD X T W χ (e :: es) δ w fun ds w1 => ∀ a dx, w1 a = none → sp (R a :: ds) (wu w1 a (.ins C dx [] [])) (fun d w2 => d = N ∧ ∃ ns es, w2 a = some (.ins C dx ns es) ∧ κ (.obj C ns es) (wd w2 a)) (fun C ns fs w2 => χ C ns fs (wd w2 a)))
    (hg : Gl X x := by rfl) (hdb : (x == ("__debug__" : Str)) = false := by decide) (he : starEach (e :: es) X.env = (false, eval e X.env) :: starEach es X.env := by rfl) (hpl : (backTo pos (starEach es X.env)).any (·.1) = false := by rfl) :
    PD X T W χ (.Call (.Name x p) (e :: es) [] pos) δ w κ := fun F σ S H Q hE hW hX hK => wp_pe (pe_makeSD M G hr hg hm hb hx (pa_wp _) hdb he hpl) (by
  refine h F σ S H _ hE hW hX fun ds w1 vs S1 H1 k s1 W1 r => ?_
  intro a dx na ndx nad
  have W2 := (W1.junk (o := .own a) ndx).take (a := a) (h := .ins C dx [] []) (o := .ins C dx []) (by rw [upd_ne (Ne.symm nad)]; exact na) ⟨[], rfl, rfl, rfl⟩
  refine ⟨R a :: ds, _, F, S1, _, _, k a dx (W1.free na).2.1, ⟨_, vs, rfl, rfl, r⟩, W2, ?_, fun C ns fs w' d S' H' x s3 W3 xr => hX C ns fs _ d S' H' x (s1.trans s3) (W3.drop a) xr⟩
  rintro d w' v S' H' ⟨rfl, ns, es, ew, kk⟩ s2 W3 rv
  refine ⟨rv, ?_⟩
  obtain ⟨o, e1, r3, W4⟩ := W3.freeze ew
  obtain ⟨ys, rfl, hys, r4⟩ := r3
  have s3 : Same S' (upd S' a (.ins C dx ys)) := same_upd e1
  exact hK _ _ _ _ _ kk (s1.trans (s2.trans s3)) W4 ⟨a, dx, ys, rfl, upd_same, hys, r4.mono s3⟩)
end
end DL
namespace Tw
open PySem PySem.Spec PyProof.Rows L2 LamX DL
abbrev sInit : Stmt := sM 1
abbrev sEq : Stmt := sM 14
abbrev sNe : Stmt := sM 15
abbrev sLen : Stmt := sM 16
def isHead (lo : List Nat) (c : Nat) : Bool := decide (lo[c]? = some c)
def tails (lo : List Nat) (i : Nat) : List Nat := (List.range' 1 (i - 1)).filter (isHead lo)
theorem tails_succ {lo : List Nat} {i : Nat} (h : 0 < i) : tails lo (i + 1) = tails lo i ++ (if isHead lo i = true then [i] else []) := by
  obtain ⟨j, rfl⟩ : ∃ j, i = j + 1 := ⟨i - 1, by omega⟩
  unfold tails
  rw [Nat.add_sub_cancel, Nat.add_sub_cancel, List.range'_1_concat, List.filter_append]
  congr 1
  rw [Nat.add_comm 1 j]
  by_cases q : isHead lo (j + 1) = true
  · rw [if_pos q, List.filter_cons, if_pos q]
    rfl
  · rw [if_neg q, List.filter_cons, if_neg q]
    rfl
theorem heads_eq {lo : List Nat} (h : lo[0]? = some 0) : heads lo = 0 :: tails lo lo.length := by
  have hn : 0 < lo.length := (List.getElem?_eq_some_iff.mp h).1
  unfold heads tails
  obtain ⟨n, e⟩ : ∃ n, lo.length = n + 1 := ⟨lo.length - 1, by omega⟩
  rw [e, List.range_eq_range', List.range'_succ, List.filter_cons, if_pos (decide_eq_true h), Nat.add_sub_cancel]
  rfl
def spCells (C : Addr) : SpD := fun ds w κ χ => ∃ lo, ds = [spl C lo] ∧ lo[0]? = some 0 ∧ lo.length ≤ 12 ∧
  ∀ a a1, a ≠ a1 → w a = none → w a1 = none → κ (R a) (wu (wu w a1 (.lst (nl (cellN lo 0)))) a (.lst (R a1 :: (tails lo lo.length).map fun c => nats (cellN lo c))))
def spLen (C : Addr) : SpD := fun ds w κ χ => ∃ lo, ds = [spl C lo] ∧ lo[0]? = some 0 ∧ lo.length ≤ 12 ∧ κ (I ((heads lo).length : Int)) w
section
variable {P : Program} {w : PySem.World} {K : PySem.W.Frag} {mg : Str → Option Value} {base : Heap} {T : List (Addr × Str)} {C CU CB : Addr}
theorem scCells : FnScope ["self", "case", "mark"] ["self"] (defScope sCells) := ⟨rfl, rfl, rfl, by decide +kernel, rfl, by decide +kernel, by decide +kernel⟩
theorem ok_cells {f : Addr} {fd : FuncData} (G : Fun K "cells" "Split.cells" sCells f fd) (hm : Nm2 mg) (c : SplC K C) (hC : HasM P w K mg base T (L2.CX P w) C "cell" 4 ["self", "case"] (spCell C CU)) : FnOk P w K mg base CX0 5 f fd ["self"] (spOf K T (spCells C)) := by
  refine fnD G scCells (fun ds w κ χ h => ?_) (fun cdv A outer s H E ds w0 κ χ hr h => ?_)
  · obtain ⟨lo, rfl, _⟩ := h
    rfl
  obtain ⟨lo, rfl, h0, hz, k⟩ := h
  have nd := scCells.nd
  refine pssd_one (psd_ret ?_)
  refine pd_lcO (own := [("case", 1), ("mark", 2)]) (is := [1, 2]) rfl nd (blkOk_by rfl) (by decide) ?_
  refine it_enum hm.enumerate ?_
  refine pd_fld c.cl c.nM ?_
  refine pd_var (i := 0) rfl rfl ?_
  refine ⟨_, fld_marks, ?_⟩
  refine ⟨_, rfl, ?_⟩
  have el : (pairs (nl lo)).length = lo.length := by rw [DL.pairs_len, nl_len]
  refine ⟨by show (pairs (nl lo)).length < _; rw [el]; exact small1000 (by omega), fun i acc w' => (i = 0 ∧ acc = [] ∧ w' = w0) ∨ (0 < i ∧ ∃ a1, w0 a1 = none ∧ acc = R a1 :: (tails lo i).map (fun c => nats (cellN lo c)) ∧ w' = wu w0 a1 (.lst (nl (cellN lo 0)))), .inl ⟨rfl, rfl, rfl⟩, ?_, ?_⟩
  · intro i d acc w1 hd pv s H0 C1 cl1 fp1
    obtain ⟨e, he, rfl⟩ := pairs_at (show (pairs (nl lo))[i]? = some d from hd)
    have hi : i < lo.length := by
      have z := (List.getElem?_eq_some_iff.mp hd).1
      exact el ▸ z
    rw [nl_at (mark_at hi)] at he
    cases he
    refine pgl_two rfl ?_
    refine pgl_name nd rfl ?_
    refine pgl_name nd rfl ?_
    intro s H0 C1 cl1 fp1
    refine ptsd_one ?_
    refine ptd_cmp op_eq ?_
    refine pd_var (i := 1) rfl rfl ?_
    refine pd_var (i := 2) rfl rfl ?_
    refine vr_eq rfl ⟨_, rfl, ?_⟩
    have e2 : decide (V.int (i : Int) = V.int (markAt lo i : Int)) = isHead lo i := by
      unfold isHead
      rw [mark_at hi]
      refine decide_eq_decide.mpr ⟨fun z => ?_, fun z => ?_⟩
      · have z2 := V.int.inj z
        congr 1
        omega
      · rw [Option.some.inj z]
    rw [e2]
    have hin : InR (i : Int) (lo.length : Int) := ⟨by omega, by omega⟩
    refine ite2 (fun c1 => ?_) (fun c1 => ?_)
    · have em : markAt lo i = i := by
        have z := of_decide_eq_true c1
        rw [mark_at hi] at z
        exact Option.some.inj z
      intro s H0 C1 cl1 fp1
      rcases pv with ⟨rfl, rfl, rfl⟩ | ⟨hi0, a1, ha1, rfl, rfl⟩
      · refine pd_hasm c.cl hC hr (fun _ => passLf) ?_
        refine pd_var (i := 0) rfl rfl ?_
        refine ⟨ins_spl (by decide), ?_⟩
        refine pad_cons ?_
        refine pd_var (i := 1) rfl rfl ?_
        refine pad_nil ?_
        refine ⟨lo, _, rfl, hz, fun _ a ha => .inr ⟨by omega, a, ha, ?_, ?_⟩, fun q => absurd hin q⟩
        · rfl
        · rw [em]
      · refine pd_frz ?_
        refine pd_hasm c.cl hC hr (fun _ => passLf) ?_
        refine pd_var (i := 0) rfl rfl ?_
        refine ⟨ins_spl (by decide), ?_⟩
        refine pad_cons ?_
        refine pd_var (i := 1) rfl rfl ?_
        refine pad_nil ?_
        refine ⟨lo, _, rfl, hz, fun _ a ha => ⟨a, _, rfl, wu_same, .inr ⟨by omega, a1, ha1, ?_, wd_wu ha⟩⟩, fun q => absurd hin q⟩
        rw [em, tails_succ hi0, if_pos c1, List.map_append]
        rfl
    · rcases pv with ⟨rfl, rfl, rfl⟩ | ⟨hi0, a1, ha1, rfl, rfl⟩
      · exact absurd (decide_eq_true h0) c1
      · refine .inr ⟨by omega, a1, ha1, ?_, rfl⟩
        rw [tails_succ hi0, if_neg c1, List.append_nil]
  · intro acc w' pv a ha
    rw [show (pairs (List.map (fun (k : Nat) => I (k : Int)) lo)).length = lo.length from el] at pv
    have hn : 0 < lo.length := (List.getElem?_eq_some_iff.mp h0).1
    rcases pv with ⟨z, _⟩ | ⟨_, a1, ha1, rfl, rfl⟩
    · omega
    · have ne : a ≠ a1 := fun z => by
        rw [z, wu_same] at ha
        cases ha
      rw [wu_ne ne] at ha
      exact k a a1 ne ha ha1
theorem scLen : FnScope ["self"] ["self"] (defScope sLen) := ⟨rfl, rfl, rfl, by decide +kernel, rfl, by decide +kernel, by decide +kernel⟩
theorem wd_cells {w : Wp} {a a1 : Addr} {h k : HD} (ne : a ≠ a1) (ha : w a = none) (ha1 : w a1 = none) : wd (wd (wu (wu w a1 h) a k) a1) a = w := by
  funext b
  by_cases h1 : b = a
  · rw [h1, ha]
    exact if_pos rfl
  · show (if b = a then none else (if b = a1 then none else wu (wu w a1 h) a k b)) = w b
    rw [if_neg h1]
    by_cases h2 : b = a1
    · rw [if_pos h2, h2, ha1]
    · rw [if_neg h2, wu_ne h1, wu_ne h2]
theorem ok_len {f : Addr} {fd : FuncData} (G : Fun K "__len__" "Split.__len__" sLen f fd) (hm : Nm2 mg) (c : SplC K C) (hC : HasM P w K mg base T CX0 C "cells" 5 ["self"] (spCells C)) : FnOk P w K mg base CX0 6 f fd ["self"] (spOf K T (spLen C)) := by
  refine fnD G scLen (fun ds w κ χ h => ?_) (fun cdv A outer s H E ds w0 κ χ hr h => ?_)
  · obtain ⟨lo, rfl, _⟩ := h
    rfl
  obtain ⟨lo, rfl, h0, hz, k⟩ := h
  refine pssd_one (psd_ret ?_)
  refine pd_callB call_len_seq rfl hm.len PySem.boot_len ?_
  refine pad_cons ?_
  refine pd_frz2 ?_
  refine pd_hasm0 c.cl hC hr (fun _ => pass0At) ?_
  refine pd_var (i := 0) rfl rfl ?_
  refine ⟨ins_spl (by decide), lo, rfl, h0, hz, fun a a1 ne ha ha1 => ⟨a, a1, nl (cellN lo 0), _, rfl, wu_same, ?_, ne, ?_⟩⟩
  · rw [wu_ne ne.symm]
    exact wu_same
  rw [wd_cells ne ha ha1]
  refine pad_nil ?_
  refine va_len ?_
  rw [heads_eq h0] at k
  have e : (D.lst (nl (cellN lo 0)) :: (tails lo lo.length).map fun c => nats (cellN lo c)).length = (0 :: tails lo lo.length).length := by simp
  rw [e]
  exact k
end
end Tw

set_option Elab.async false
set_option linter.all false
set_option maxRecDepth 100000
set_option maxHeartbeats 1000000
namespace Tw
open PySem PySem.Spec PyProof.Rows L2 LamX DL
def four (n : String) : Prop := n = "list" ∨ n = "tuple" ∨ n = "int" ∨ n = "str"
structure SplQ (K : PySem.W.Frag) (C : Addr) : Prop where
  ci : ClsI K C
  nfC : PySem.W.notFirst K C (.ref C) = true
  kC : PySem.W.kitOne K (.ref C) (.ref C) = some true
  nf : ∀ n, four n → PySem.W.notFirst K C (.type n) = true
  kt : ∀ n, four n → PySem.W.kitOne K (.type n) (.ref C) = some false
def casts (l : List Nat) : List Int := l.map fun (k : Nat) => (k : Int)
theorem nl_casts (l : List Nat) : nl l = (casts l).map I := by
  unfold nl casts
  rw [List.map_map]
  rfl
theorem casts_inj {l m : List Nat} : casts l = casts m ↔ l = m := by
  refine ⟨fun h => ?_, fun h => by rw [h]⟩
  have h2 := congrArg (List.map Int.toNat) h
  unfold casts at h2
  rw [List.map_map, List.map_map] at h2
  have e : (Int.toNat ∘ fun (k : Nat) => (k : Int)) = id := by
    funext k
    simp
  rw [e, List.map_id, List.map_id] at h2
  exact h2
theorem eqv_all_ints : ∀ ns ms : List Int, PyData.eqvAll (ns.map PyData.int) (ms.map PyData.int) = decide (ns = ms)
  | [], [] => rfl
  | [], m :: ms => rfl
  | n :: ns, [] => rfl
  | n :: ns, m :: ms => by
    show (PyData.eqv (.int n) (.int m) && PyData.eqvAll (ns.map PyData.int) (ms.map PyData.int)) = _
    rw [eqv_all_ints ns ms]
    have e : PyData.eqv (.int n) (.int m) = decide (n = m) := rfl
    rw [e]
    by_cases h1 : n = m
    · by_cases h2 : ns = ms
      · simp [h1, h2]
      · simp [h1, h2]
    · simp [h1]
theorem eqv_ints (ns ms : List Int) : PyData.eqv (.list (ns.map PyData.int)) (.list (ms.map PyData.int)) = decide (ns = ms) := eqv_all_ints ns ms
theorem py_nats (l : List Nat) : pyD (nats l) = some (.list ((casts l).map PyData.int)) := by
  show (pyDs (nl l)).map PyData.list = _
  rw [nl_casts, py_ints]
  rfl
def spEq (C : Addr) : SpD := fun ds w κ χ => ∃ lo e, ds = [spl C lo, e] ∧ ((∃ lo2, e = spl C lo2 ∧ κ (B (decide (lo = lo2))) w) ∨ (∃ n, tyD e = some n ∧ four n ∧ κ (B false) w))
def spNe (C : Addr) : SpD := fun ds w κ χ => ∃ lo e, ds = [spl C lo, e] ∧ ((∃ lo2, e = spl C lo2 ∧ κ (B (!decide (lo = lo2))) w) ∨ (∃ n, tyD e = some n ∧ four n ∧ κ (B true) w))
def spPlaces : SpD := fun ds w κ χ => ∃ (d : D) (ms : List Int), ds = [d] ∧ Lk w d (ms.map I) ∧ ms.length ≤ 12 ∧ κ (nats (lowN ms)) w
def spInit (C CB : Addr) : SpD := fun ds w κ χ => ∃ (a dx : Addr) (d : D) (ms : List Int), ds = [R a, d] ∧ w a = some (.ins C dx [] []) ∧ Lk w d (ms.map I) ∧ ms.length ≤ 1000 ∧
  ((1 ≤ ms.length ∧ ms.length ≤ 12) → κ N (wu w a (.ins C dx ["size", "_marks"] [I (ms.length : Int), nats (lowN ms)]))) ∧ (¬ (1 ≤ ms.length ∧ ms.length ≤ 12) → χ CB ["size"] [I (ms.length : Int)] w)
section
variable {P : Program} {w : PySem.World} {K : PySem.W.Frag} {mg : Str → Option Value} {base : Heap} {T : List (Addr × Str)} {C CU CB : Addr}
theorem scEq : FnScope ["self", "other"] ["self", "other"] (defScope sEq) := ⟨rfl, rfl, rfl, by decide +kernel, rfl, by decide +kernel, by decide +kernel⟩
theorem ok_eq {f : Addr} {fd : FuncData} (G : Fun K "__eq__" "Split.__eq__" sEq f fd) (hm : Nm2 mg) (c : SplC K C) (q : SplQ K C) (hS : mg "Split" = some (.ref C)) : FnOk P w K mg base CX0 1 f fd ["self", "other"] (spOf K T (spEq C)) := by
  refine fnD G scEq (fun ds w κ χ h => ?_) (fun cdv A outer s H E ds w0 κ χ hr h => ?_)
  · obtain ⟨lo, e, rfl, _⟩ := h
    rfl
  obtain ⟨lo, e, rfl, h⟩ := h
  have hu := hr.units
  refine pssd_one (psd_ret ?_)
  refine pd_and ?_
  refine pd_callB call_isi rfl hm.isinstance PyProof.Rows.boot_isinstance ?_
  refine pad_cons ?_
  refine pd_var (i := 1) rfl rfl ?_
  refine pad_cons ?_
  refine pd_glob (v := .ref C) hS rfl ?_
  refine pad_nil ?_
  rcases h with ⟨lo2, rfl, k⟩ | ⟨n, hn, h4, k⟩
  · refine va_isC (t := .ref C) (b := true) (.inr ⟨C, _, _, rfl, q.ci, rfl⟩) q.kC ?_
    refine ⟨_, rfl, ?_⟩
    refine iteT ?_
    refine pd_one ?_
    refine pd_cmp (op_eqD hu) ?_
    refine pd_fld c.cl c.nM ?_
    refine pd_var (i := 0) rfl rfl ?_
    refine ⟨_, fld_marks, ?_⟩
    refine pd_fld c.cl c.nM ?_
    refine pd_var (i := 1) rfl rfl ?_
    refine ⟨_, fld_marks, ?_⟩
    refine vr_eqD (py_nats lo) (py_nats lo2) (shaped_ints _) (shaped_ints _) ?_
    rw [eqv_ints, decide_eq_decide.mpr casts_inj]
    exact k
  · refine va_isC (t := .type n) (b := false) (.inl ⟨n, hn, rfl⟩) (q.kt n h4) ?_
    refine ⟨_, rfl, ?_⟩
    refine iteF ?_
    exact k
theorem scNe : FnScope ["self", "other"] ["self", "other"] (defScope sNe) := ⟨rfl, rfl, rfl, by decide +kernel, rfl, by decide +kernel, by decide +kernel⟩
theorem ok_ne {f : Addr} {fd : FuncData} (G : Fun K "__ne__" "Split.__ne__" sNe f fd) (q : SplQ K C) (hE : HasM P w K mg base T CX0 C "__eq__" 1 ["self", "other"] (spEq C)) : FnOk P w K mg base CX0 2 f fd ["self", "other"] (spOf K T (spNe C)) := by
  refine fnD G scNe (fun ds w κ χ h => ?_) (fun cdv A outer s H E ds w0 κ χ hr h => ?_)
  · obtain ⟨lo, e, rfl, _⟩ := h
    rfl
  obtain ⟨lo, e, rfl, h⟩ := h
  obtain ⟨fE, fdE, h1, h2, h3⟩ := hE
  refine pssd_one (psd_ret ?_)
  refine pd_not ?_
  refine pd_cmp (op_own (op := .Eq) (fun _ _ => rfl) h1 hr h2.at_ h2.fn h3) ?_
  refine pd_var (i := 0) rfl rfl ?_
  refine pd_var (i := 1) rfl rfl ?_
  rcases h with ⟨lo2, rfl, k⟩ | ⟨n, hn, h4, k⟩
  · refine vr_own (t := .ref C) ⟨_, _, rfl⟩ (.inr ⟨C, _, _, rfl, q.ci, rfl⟩) q.nfC ?_
    exact ⟨lo, _, rfl, .inl ⟨lo2, rfl, _, rfl, _, rfl, k⟩⟩
  · refine vr_own (t := .type n) ⟨_, _, rfl⟩ (.inl ⟨n, hn, rfl⟩) (q.nf n h4) ?_
    exact ⟨lo, _, rfl, .inr ⟨n, hn, h4, _, rfl, _, rfl, k⟩⟩
theorem scInit : FnScope ["self", "marks"] ["self", "marks"] (defScope sInit) := ⟨rfl, rfl, rfl, by decide +kernel, rfl, by decide +kernel, by decide +kernel⟩
theorem ok_init {f : Addr} {fd : FuncData} (G : Fun K "__init__" "Split.__init__" sInit f fd) (hm : Nm2 mg) (c : SplC K C) (hS : HasF P w K mg base T (L2.CX P w) "check_size" 3 ["size"] (spSize CB)) (hF : HasF P w K mg base T CX0 "first_places" 3 ["items"] spPlaces) :
    FnOk P w K mg base (L2.CX P w) 4 f fd ["self", "marks"] (spOf K T (spInit C CB)) := by
  refine fnX G scInit (fun ds w κ χ h => ?_) (fun cdv A outer s H E ds w0 κ χ hr h => ?_)
  · obtain ⟨a, dx, d, ms, rfl, _⟩ := h
    rfl
  obtain ⟨a, dx, d, ms, rfl, ha, hl, hz, k1, k2⟩ := h
  have hl2 : ∀ h : HD, Lk (wu w0 a h) d (ms.map I) := fun h => by
    rcases hl with rfl | ⟨b, rfl, hb⟩
    · exact .inl rfl
    · refine .inr ⟨b, rfl, ?_⟩
      rw [wu_ne (fun z => by rw [z, ha] at hb; cases hb)]
      exact hb
  refine pssd_cons (psd_expr ?_)
  refine pd_has hS hr passX ?_
  refine pad_cons ?_
  refine pd_callB call_len_seq rfl hm.len PySem.boot_len ?_
  refine pad_cons ?_
  refine pd_var (i := 1) rfl rfl ?_
  refine pad_nil ?_
  refine va_lenK hl ?_
  rw [List.length_map]
  refine pad_nil ?_
  refine ⟨_, rfl, fun hin => ?_, fun hout => ?_⟩
  case refine_2 =>
    refine ⟨log_of (Nat.lt_of_lt_of_le (by omega : _ < 2000) (by decide)), k2 fun z => hout ⟨by omega, by omega⟩⟩
  refine pssd_cons (psd_fldNew c.cl c.nS ?_)
  refine pd_callB call_len_seq rfl hm.len PySem.boot_len ?_
  refine pad_cons ?_
  refine pd_var (i := 1) rfl rfl ?_
  refine pad_nil ?_
  refine va_lenK hl ?_
  rw [List.length_map]
  refine pd_var (i := 0) rfl rfl ?_
  refine ⟨a, dx, _, _, rfl, ha, by decide, by decide, ?_⟩
  refine pssd_one (psd_fldNew c.cl c.nM ?_)
  refine pd_has hF (hr.mono (by decide)) (fun _ => pass0At) ?_
  refine pad_cons ?_
  refine pd_var (i := 1) rfl rfl ?_
  refine pad_nil ?_
  refine ⟨d, ms, rfl, hl2 _, by omega, ?_⟩
  refine pd_var (i := 0) rfl rfl ?_
  refine ⟨a, dx, _, _, rfl, wu_same, by decide, by decide, ?_⟩
  rw [wu_wu]
  exact k1 ⟨by omega, by omega⟩
end
end Tw

set_option Elab.async false
set_option linter.all false
set_option maxRecDepth 100000
set_option maxHeartbeats 1000000
namespace DL
open PySem PySem.Spec PyProof.Rows L2 LamX
section
variable {X : Cx} {T : List (Addr × Str)} {W : WX} {χ : XD} {δ : Dn} {w : Wp} {pos : Pos}
/-- an owned cell is forgotten -/
theorem pssd_drop {sts : List Stmt} {C : DL.Fin} (a : Addr) (h : PSsD X T W χ sts δ (wd w a) C) : PSsD X T W χ sts δ w C := fun F σ S H E hE hW hX hK => h F σ S H E hE (hW.drop a) hX hK
theorem pd_drop {e : Expr} {κ : D → Wp → Prop} (h : PD X T W χ e δ w fun d w' => ∃ a, κ d (wd w' a)) : PD X T W χ e δ w κ := fun F σ S H Q hE hW hX hK => h F σ S H Q hE hW hX fun d w' v S' H' ⟨a, k⟩ s1 W1 r => hK d _ v S' H' k s1 (W1.drop a) r
end
end DL
namespace Tw
open PySem PySem.Spec PyProof.Rows L2 LamX DL
abbrev sLow : Stmt := top 22
abbrev sLcells : Stmt := top 23
abbrev sDue : Stmt := top 24
abbrev sShown : Stmt := top 25
abbrev sSpoil : Stmt := top 26
def spLow : SpD := fun ds w κ χ => ∃ ms : List Int, ds = [.lst (ms.map I)] ∧ ms.length ≤ 1000 ∧ κ (nats (lowN ms)) w
def cellsD (lo : List Nat) : D := .lst ((heads lo).map fun c => nats (cellN lo c))
def mineD (lo : List Nat) : D := .lst ((List.range lo.length).map fun (c : Nat) => nats (cellN lo (markAt lo c)))
def rowsD (lo : List Nat) : D := .lst ((List.range lo.length).map fun (c : Nat) => .lst ((List.range lo.length).map fun (o : Nat) => B (decide (markAt lo c = markAt lo o))))
def dueD (lo : List Nat) : D := .lst [I (lo.length : Int), I ((heads lo).length : Int), nats lo, cellsD lo, mineD lo, rowsD lo]
def spLcells : SpD := fun ds w κ χ => ∃ lo : List Nat, ds = [nats lo] ∧ lo.length ≤ 1000 ∧ κ (cellsD lo) w
def spDue : SpD := fun ds w κ χ => ∃ lo : List Nat, ds = [nats lo] ∧ lo.length ≤ 1000 ∧ κ (dueD lo) w
def spShown (C : Addr) : SpD := fun ds w κ χ => ∃ lo : List Nat, ds = [spl C lo, I (lo.length : Int)] ∧ lo[0]? = some 0 ∧ lo.length ≤ 12 ∧ κ (dueD lo) w
def spSpoil (C : Addr) : SpD := fun ds w κ χ => ∃ (lo : List Nat) (p : Nat), ds = [spl C lo, I (p : Int)] ∧ lo[0]? = some 0 ∧ lo.length ≤ 12 ∧ p < lo.length ∧ κ N w
theorem nats_low (ms : List Int) : D.lst (ms.map fun m => I ((ms.idxOf m : Nat) : Int)) = nats (lowN ms) := by
  unfold nats lowN
  rw [List.map_map]
  rfl
theorem cells_eq {lo : List Nat} (h : lo[0]? = some 0) : D.lst (.lst (nl (cellN lo 0)) :: (tails lo lo.length).map fun c => nats (cellN lo c)) = cellsD lo := by
  unfold cellsD
  rw [heads_eq h]
  rfl
theorem mine_eq (lo : List Nat) : D.lst (lo.map fun m => nats (cellN lo m)) = mineD lo := by
  unfold mineD
  congr 1
  refine (range_map lo _ _ fun i x h => ?_).symm
  have hi := (List.getElem?_eq_some_iff.mp h).1
  rw [mark_at hi] at h
  rw [Option.some.inj h]
theorem lt62k {n : Nat} (h : n ≤ 1000) : (n : Int) < 2 ^ 62 := by omega
section
variable {P : Program} {w : PySem.World} {K : PySem.W.Frag} {mg : Str → Option Value} {base : Heap} {T : List (Addr × Str)} {C CU CB : Addr}
theorem scLow : FnScope ["marks", "mark"] ["marks"] (defScope sLow) := ⟨rfl, rfl, rfl, by decide +kernel, rfl, by decide +kernel, by decide +kernel⟩
theorem ok_low {f : Addr} {fd : FuncData} (G : Fun K "_law_low" "_law_low" sLow f fd) : FnOk P w K mg base CX0 1 f fd ["marks"] (spOf K T spLow) := by
  refine fnD G scLow (fun ds w κ χ h => ?_) (fun cdv A outer s H E ds w0 κ χ hr h => ?_)
  · obtain ⟨ms, rfl, _⟩ := h
    rfl
  obtain ⟨ms, rfl, hz, k⟩ := h
  have nd := scLow.nd
  refine pssd_one (psd_ret ?_)
  refine pd_lc (own := [("mark", 1)]) (is := [1]) rfl nd (blkOk_by rfl) (by decide) ?_
  refine it_list ?_
  refine pd_var (i := 0) rfl rfl ?_
  refine ⟨_, rfl, ?_⟩
  refine lcd_map (fun m => I ((ms.idxOf m : Nat) : Int)) (small1000 hz) (fun m hm s H0 C cl fp => ?_) ?_
  · refine pgl_name nd rfl ?_
    intro s H0 C cl fp
    refine ptsd_nil ?_
    intro s H0 C cl fp
    refine pd_bm PySem.F.plainAttrs_list PySem.F.slot_list_index PySem.F.type_list_index mt_index ?_
    refine pd_var (i := 0) rfl rfl ?_
    refine ⟨rfl, ?_⟩
    refine pad_cons ?_
    refine pd_var (i := 1) rfl rfl ?_
    refine pad_nil ?_
    refine vm_index hm ?_
    exact ⟨rfl, rfl, rfl⟩
  · show κ (.lst (ms.map fun m => I ((ms.idxOf m : Nat) : Int))) w0
    rw [nats_low]
    exact k
/-- [other for other in range(len(low)) if low[other] == x] -/
theorem scLcells : FnScope ["low", "rows", "case", "other"] ["low"] (defScope sLcells) := ⟨rfl, rfl, rfl, by decide +kernel, rfl, by decide +kernel, by decide +kernel⟩
theorem ok_lcells {f : Addr} {fd : FuncData} (G : Fun K "_law_cells" "_law_cells" sLcells f fd) (hm : Nm2 mg) : FnOk P w K mg base CX0 1 f fd ["low"] (spOf K T spLcells) := by
  refine fnD G scLcells (fun ds w κ χ h => ?_) (fun cdv A outer s H E ds w0 κ χ hr h => ?_)
  · obtain ⟨lo, rfl, _⟩ := h
    rfl
  obtain ⟨lo, rfl, hz, k⟩ := h
  have nd := scLcells.nd
  refine pssd_cons (psd_set (i := 1) nd rfl ?_)
  refine pd_lstO ?_
  refine pad_nil ?_
  refine ⟨Nat.zero_le _, fun a ha => ?_⟩
  refine pssd_cons (psd_for PassesOwn.never rfl ?_)
  refine it_range hm.range ?_
  refine pd_callB call_len_seq rfl hm.len PySem.boot_len ?_
  refine pad_cons ?_
  refine pd_var (i := 0) rfl rfl ?_
  refine pad_nil ?_
  refine va_len ?_
  have el : (nl lo).length = lo.length := nl_len lo
  refine ⟨lo.length, by show I ((nl lo).length : Int) = _; rw [el], lt62k hz, ?_⟩
  refine ⟨fun i δ' w' => w' = wu w0 a (.lst (((List.range i).filter fun c => decide (lo[c]? = some c)).map fun c => nats (cellN lo c))) ∧ δ'[0]? = some (some (nats lo)) ∧ δ'[1]? = some (some (R a)) ∧ δ'.length = 4, ⟨rfl, rfl, rfl, rfl⟩, ?_, ?_⟩
  · rintro i dk δ' w' hd ⟨rfl, h0, h1, h4⟩
    obtain ⟨hi, rfl⟩ := ups_at hd
    refine pgd_name (i := 2) nd rfl ?_
    have g0 : (δ'.set 2 (some (I (i : Int))))[0]? = some (some (nats lo)) := by
      rw [List.getElem?_set_ne (by decide)]
      exact h0
    have g1 : (δ'.set 2 (some (I (i : Int))))[1]? = some (some (R a)) := by
      rw [List.getElem?_set_ne (by decide)]
      exact h1
    have g2 : (δ'.set 2 (some (I (i : Int))))[2]? = some (some (I (i : Int))) := List.getElem?_set_self (by omega)
    have g4 : (δ'.set 2 (some (I (i : Int)))).length = 4 := by rw [List.length_set]; exact h4
    generalize δ'.set 2 (some (I (i : Int))) = δ2 at g0 g1 g2 g4 ⊢
    refine pssd_one (psd_if ?_)
    refine ptd_cmp op_eq ?_
    refine pd_ix ix_list ?_
    refine pd_var (i := 0) rfl g0 ?_
    refine pd_var (i := 2) rfl g2 ?_
    refine vr_ixL (nl_at (mark_at hi)) ?_
    refine pd_var (i := 2) rfl g2 ?_
    refine vr_eq rfl ⟨_, rfl, ?_⟩
    have e2 : decide (V.int (markAt lo i : Int) = V.int (i : Int)) = decide (lo[i]? = some i) := by
      rw [mark_at hi]
      refine decide_eq_decide.mpr ⟨fun z => ?_, fun z => ?_⟩
      · have z2 := V.int.inj z
        congr 1
        omega
      · rw [Option.some.inj z]
    rw [e2]
    refine ite2 (fun c1 => ?_) (fun c1 => ?_)
    · refine pssd_one (psd_expr ?_)
      refine pd_bm PySem.F.plainAttrs_list PySem.F.slot_list_append PySem.F.type_list_append mt_append ?_
      refine pd_var (i := 1) rfl g1 ?_
      refine ⟨⟨rfl, _, wu_same⟩, ?_⟩
      refine pad_cons ?_
      refine pd_lc (own := [("other", 3)]) (is := [3]) rfl nd (blkOk_by rfl) (by decide) ?_
      refine it_range hm.range ?_
      refine pd_callB call_len_seq rfl hm.len PySem.boot_len ?_
      refine pad_cons ?_
      refine pd_var (i := 0) rfl g0 ?_
      refine pad_nil ?_
      refine va_len ?_
      refine ⟨lo.length, by show I ((nl lo).length : Int) = _; rw [el], lt62k hz, ?_⟩
      have v0 : (wipeD δ2 [3])[0]? = some (some (nats lo)) := by
        show (δ2.set 3 none)[0]? = _
        rw [List.getElem?_set_ne (by decide)]
        exact g0
      have v2 : (wipeD δ2 [3])[2]? = some (some (I (i : Int))) := by
        show (δ2.set 3 none)[2]? = _
        rw [List.getElem?_set_ne (by decide)]
        exact g2
      refine lcd_filter (xs := List.range lo.length) (fun o => decide (lo[o]? = some i)) (fun o => I (o : Int)) (by rw [List.length_range]; exact small1000 hz) (fun o ho => ?_) ?_
      · intro s H0 C1 cl1 fp1
        have hol : o < lo.length := List.mem_range.mp ho
        refine pgl_name nd rfl ?_
        have u0 : ((wipeD δ2 [3]).set 3 (some (I (o : Int))))[0]? = some (some (nats lo)) := by
          rw [List.getElem?_set_ne (by decide)]
          exact v0
        have u2 : ((wipeD δ2 [3]).set 3 (some (I (o : Int))))[2]? = some (some (I (i : Int))) := by
          rw [List.getElem?_set_ne (by decide)]
          exact v2
        have u3 : ((wipeD δ2 [3]).set 3 (some (I (o : Int))))[3]? = some (some (I (o : Int))) := by
          refine List.getElem?_set_self ?_
          show 3 < (δ2.set 3 none).length
          rw [List.length_set]
          omega
        intro s H0 C1 cl1 fp1
        refine ptsd_one ?_
        refine ptd_cmp op_eq ?_
        refine pd_ix ix_list ?_
        refine pd_var (i := 0) rfl u0 ?_
        refine pd_var (i := 3) rfl u3 ?_
        refine vr_ixL (nl_at (mark_at hol)) ?_
        refine pd_var (i := 2) rfl u2 ?_
        refine vr_eq rfl ⟨_, rfl, ?_⟩
        have e3 : decide (lo[o]? = some i) = decide (V.int (markAt lo o : Int) = V.int (i : Int)) := by
          rw [mark_at hol]
          refine decide_eq_decide.mpr ⟨fun z => ?_, fun z => ?_⟩
          · rw [Option.some.inj z]
          · have z2 := V.int.inj z
            congr 1
            omega
        refine ite2 (fun c2 => ?_) (fun c2 => ?_)
        · intro s H0 C1 cl1 fp1
          refine pd_var (i := 3) rfl u3 ?_
          exact ⟨e3.trans c2, rfl, rfl⟩
        · exact ⟨e3.trans (Bool.eq_false_iff.mpr c2), rfl⟩
      · refine pad_nil ?_
        refine vm_append wu_same ?_ ?_
        · rw [List.length_map]
          exact small1000 (Nat.le_trans (List.length_filter_le _ _) (by rw [List.length_range]; omega))
        · refine ⟨?_, g0, g1, g4⟩
          rw [wu_wu, List.range_succ, List.filter_append, List.map_append, List.filter_cons, if_pos c1]
          rfl
    · refine pssd_nil ⟨?_, g0, g1, g4⟩
      rw [List.range_succ, List.filter_append, List.map_append, List.filter_cons, if_neg c1]
      simp
  · rintro δ' w' ⟨rfl, h0, h1, h4⟩
    refine pssd_one (psd_ret ?_)
    refine pd_frz ?_
    refine pd_var (i := 1) rfl h1 ?_
    refine ⟨a, _, rfl, wu_same, ?_⟩
    rw [wd_wu ha]
    have e : (ups lo.length).length = lo.length := ups_len _
    rw [e]
    exact k
end
end Tw

set_option Elab.async false
set_option linter.all false
set_option maxRecDepth 100000
set_option maxHeartbeats 1000000
namespace Tw
open PySem PySem.Spec PyProof.Rows L2 LamX DL
theorem int_eq_dec {a b : Nat} : decide (V.int (a : Int) = V.int (b : Int)) = decide (a = b) := by
  refine decide_eq_decide.mpr ⟨fun z => ?_, fun z => ?_⟩
  · have z2 := V.int.inj z
    omega
  · rw [z]
theorem some_eq_dec {a b : Nat} : decide (some a = some b) = decide (a = b) := decide_eq_decide.mpr ⟨fun z => Option.some.inj z, fun z => by rw [z]⟩
section
variable {P : Program} {w : PySem.World} {K : PySem.W.Frag} {mg : Str → Option Value} {base : Heap} {T : List (Addr × Str)} {C CU CB : Addr}
theorem scDue : FnScope ["low", "many", "cells", "mine", "rows", "other", "mark", "case"] ["low"] (defScope sDue) := ⟨rfl, rfl, rfl, by decide +kernel, rfl, by decide +kernel, by decide +kernel⟩
theorem ok_due {f : Addr} {fd : FuncData} (G : Fun K "_law_due" "_law_due" sDue f fd) (hm : Nm2 mg) (hC : HasF P w K mg base T CX0 "_law_cells" 1 ["low"] spLcells) : FnOk P w K mg base CX0 2 f fd ["low"] (spOf K T spDue) := by
  refine fnD G scDue (fun ds w κ χ h => ?_) (fun cdv A outer s H E ds w0 κ χ hr h => ?_)
  · obtain ⟨lo, rfl, _⟩ := h
    rfl
  obtain ⟨lo, rfl, hz, k⟩ := h
  have nd := scDue.nd
  have el : (nl lo).length = lo.length := nl_len lo
  refine pssd_cons (psd_set (i := 1) nd rfl ?_)
  refine pd_callB call_len_seq rfl hm.len PySem.boot_len ?_
  refine pad_cons ?_
  refine pd_var (i := 0) rfl rfl ?_
  refine pad_nil ?_
  refine va_len ?_
  rw [show (List.map (fun (k : Nat) => I (k : Int)) lo).length = lo.length from el]
  refine pssd_cons (psd_set (i := 2) nd rfl ?_)
  refine pd_has hC hr (fun _ => pass0At) ?_
  refine pad_cons ?_
  refine pd_var (i := 0) rfl rfl ?_
  refine pad_nil ?_
  refine ⟨lo, rfl, hz, ?_⟩
  -- mine
  refine pssd_cons ?_
  refine psd_setLc (i := 3) (own := [("mark", 6)]) (is := [6]) rfl nd rfl rfl (sw_true rfl rfl rfl (by decide +kernel)) (blkOk_by rfl) (by decide) ?_
  refine it_list ?_
  refine pd_var (i := 0) rfl rfl ?_
  refine ⟨_, rfl, ?_⟩
  refine lcd_map (fun m => nats (cellN lo m)) (small1000 hz) (fun m hmm s H0 C1 cl1 fp1 => ?_) ?_
  · refine pgl_name nd rfl ?_
    intro s H0 C1 cl1 fp1
    refine ptsd_nil ?_
    intro s H0 C1 cl1 fp1
    refine pd_lc (own := [("other", 5)]) (is := [5]) rfl nd (blkOk_by rfl) (by decide) ?_
    refine it_range hm.range ?_
    refine pd_var (i := 1) rfl rfl ?_
    refine ⟨lo.length, rfl, lt62k hz, ?_⟩
    refine lcd_filter (xs := List.range lo.length) (fun o => decide (lo[o]? = some m)) (fun o => I (o : Int)) (by rw [List.length_range]; exact small1000 hz) (fun o ho => ?_) ?_
    · intro s H0 C1 cl1 fp1
      have hol : o < lo.length := List.mem_range.mp ho
      refine pgl_name nd rfl ?_
      intro s H0 C1 cl1 fp1
      refine ptsd_one ?_
      refine ptd_cmp op_eq ?_
      refine pd_ix ix_list ?_
      refine pd_var (i := 0) rfl rfl ?_
      refine pd_var (i := 5) rfl rfl ?_
      refine vr_ixL (nl_at (mark_at hol)) ?_
      refine pd_var (i := 6) rfl rfl ?_
      refine vr_eq rfl ⟨_, rfl, ?_⟩
      have e3 : decide (lo[o]? = some m) = decide (V.int (markAt lo o : Int) = V.int (m : Int)) := by rw [mark_at hol, int_eq_dec, some_eq_dec]
      refine ite2 (fun c2 => ?_) (fun c2 => ?_)
      · intro s H0 C1 cl1 fp1
        refine pd_var (i := 5) rfl rfl ?_
        exact ⟨e3.trans c2, rfl, rfl⟩
      · exact ⟨e3.trans (Bool.eq_false_iff.mpr c2), rfl⟩
    · exact ⟨rfl, rfl, rfl⟩
  -- rows
  refine pssd_cons ?_
  refine psd_setLc (i := 4) (own := [("case", 7)]) (is := [7]) rfl nd rfl rfl (sw_true rfl rfl rfl (by decide +kernel)) (blkOk_by rfl) (by decide) ?_
  refine it_range hm.range ?_
  refine pd_var (i := 1) rfl rfl ?_
  refine ⟨lo.length, rfl, lt62k hz, ?_⟩
  refine lcd_map (xs := List.range lo.length) (fun (c : Nat) => .lst ((List.range lo.length).map fun (o : Nat) => B (decide (markAt lo c = markAt lo o)))) (by rw [List.length_range]; exact small1000 hz) (fun c hc s H0 C1 cl1 fp1 => ?_) ?_
  · have hcl : c < lo.length := List.mem_range.mp hc
    refine pgl_name nd rfl ?_
    intro s H0 C1 cl1 fp1
    refine ptsd_nil ?_
    intro s H0 C1 cl1 fp1
    refine pd_lc (own := [("other", 5)]) (is := [5]) rfl nd (blkOk_by rfl) (by decide) ?_
    refine it_range hm.range ?_
    refine pd_var (i := 1) rfl rfl ?_
    refine ⟨lo.length, rfl, lt62k hz, ?_⟩
    refine lcd_map (xs := List.range lo.length) (fun (o : Nat) => B (decide (markAt lo c = markAt lo o))) (by rw [List.length_range]; exact small1000 hz) (fun o ho => ?_) ?_
    · intro s H0 C1 cl1 fp1
      have hol : o < lo.length := List.mem_range.mp ho
      refine pgl_name nd rfl ?_
      intro s H0 C1 cl1 fp1
      refine ptsd_nil ?_
      intro s H0 C1 cl1 fp1
      refine pd_cmp op_eq ?_
      refine pd_ix ix_list ?_
      refine pd_var (i := 0) rfl rfl ?_
      refine pd_var (i := 7) rfl rfl ?_
      refine vr_ixL (nl_at (mark_at hcl)) ?_
      refine pd_ix ix_list ?_
      refine pd_var (i := 0) rfl rfl ?_
      refine pd_var (i := 5) rfl rfl ?_
      refine vr_ixL (nl_at (mark_at hol)) ?_
      refine vr_eq rfl ?_
      refine ⟨rfl, ?_, rfl⟩
      rw [int_eq_dec]
    · exact ⟨rfl, rfl, rfl⟩
  refine pssd_one (psd_ret ?_)
  refine pd_lst ?_
  refine pad_cons ?_
  refine pd_var (i := 1) rfl rfl ?_
  refine pad_cons ?_
  refine pd_callB call_len_seq rfl hm.len PySem.boot_len ?_
  refine pad_cons ?_
  refine pd_var (i := 2) rfl rfl ?_
  refine pad_nil ?_
  refine va_len ?_
  rw [List.length_map]
  refine pad_cons ?_
  refine pd_var (i := 0) rfl rfl ?_
  refine pad_cons ?_
  refine pd_var (i := 2) rfl rfl ?_
  refine pad_cons ?_
  refine pd_var (i := 3) rfl rfl ?_
  refine pad_cons ?_
  refine pd_var (i := 4) rfl rfl ?_
  refine pad_nil ?_
  refine ⟨by show 6 ≤ sizeLine; decide, ?_⟩
  rw [mine_eq]
  exact k
theorem scShown : FnScope ["split", "many", "mine", "rows", "case", "other"] ["split", "many"] (defScope sShown) := ⟨rfl, rfl, rfl, by decide +kernel, rfl, by decide +kernel, by decide +kernel⟩
theorem ok_shown {f : Addr} {fd : FuncData} (G : Fun K "_law_shown" "_law_shown" sShown f fd) (hm : Nm2 mg) (c : SplC K C) (hC : HasM P w K mg base T (L2.CX P w) C "cell" 4 ["self", "case"] (spCell C CU))
    (hT : HasM P w K mg base T (L2.CX P w) C "together" 4 ["self", "first", "second"] (spTog C CU)) (hL : HasM P w K mg base T CX0 C "__len__" 6 ["self"] (spLen C)) (hM : HasM P w K mg base T CX0 C "marks" 1 ["self"] (spMarks C)) (hCs : HasM P w K mg base T CX0 C "cells" 5 ["self"] (spCells C)) :
    FnOk P w K mg base CX0 8 f fd ["split", "many"] (spOf K T (spShown C)) := by
  refine fnD G scShown (fun ds w κ χ h => ?_) (fun cdv A outer s H E ds w0 κ χ hr h => ?_)
  · obtain ⟨lo, rfl, _⟩ := h
    rfl
  obtain ⟨lo, rfl, h0, hz, k⟩ := h
  have nd := scShown.nd
  have hz2 : lo.length ≤ 1000 := by omega
  refine pssd_cons ?_
  refine psd_setLc (i := 2) (own := [("case", 4)]) (is := [4]) rfl nd rfl rfl (sw_true rfl rfl rfl (by decide +kernel)) (blkOk_by rfl) (by decide) ?_
  refine it_range hm.range ?_
  refine pd_var (i := 1) rfl rfl ?_
  refine ⟨lo.length, rfl, lt62k hz2, ?_⟩
  refine lcd_map (xs := List.range lo.length) (fun (c : Nat) => nats (cellN lo (markAt lo c))) (by rw [List.length_range]; exact small1000 hz2) (fun i hc s H0 C1 cl1 fp1 => ?_) ?_
  · have hi : i < lo.length := List.mem_range.mp hc
    have hin : InR (i : Int) (lo.length : Int) := ⟨by omega, by omega⟩
    refine pgl_name nd rfl ?_
    intro s H0 C1 cl1 fp1
    refine ptsd_nil ?_
    intro s H0 C1 cl1 fp1
    refine pd_frz ?_
    refine pd_hasm c.cl hC (hr.mono (by decide)) (fun _ => passLf) ?_
    refine pd_var (i := 0) rfl rfl ?_
    refine ⟨ins_spl (by decide), ?_⟩
    refine pad_cons ?_
    refine pd_var (i := 4) rfl rfl ?_
    refine pad_nil ?_
    exact ⟨lo, _, rfl, hz, fun _ a ha => ⟨a, _, rfl, wu_same, rfl, rfl, wd_wu ha⟩, fun q => absurd hin q⟩
  refine pssd_cons ?_
  refine psd_setLc (i := 3) (own := [("case", 4)]) (is := [4]) rfl nd rfl rfl (sw_true rfl rfl rfl (by decide +kernel)) (blkOk_by rfl) (by decide) ?_
  refine it_range hm.range ?_
  refine pd_var (i := 1) rfl rfl ?_
  refine ⟨lo.length, rfl, lt62k hz2, ?_⟩
  refine lcd_map (xs := List.range lo.length) (fun (c : Nat) => .lst ((List.range lo.length).map fun (o : Nat) => B (decide (markAt lo c = markAt lo o)))) (by rw [List.length_range]; exact small1000 hz2) (fun i hc s H0 C1 cl1 fp1 => ?_) ?_
  · have hi : i < lo.length := List.mem_range.mp hc
    have hin : InR (i : Int) (lo.length : Int) := ⟨by omega, by omega⟩
    refine pgl_name nd rfl ?_
    intro s H0 C1 cl1 fp1
    refine ptsd_nil ?_
    intro s H0 C1 cl1 fp1
    refine pd_lc (own := [("other", 5)]) (is := [5]) rfl nd (blkOk_by rfl) (by decide) ?_
    refine it_range hm.range ?_
    refine pd_var (i := 1) rfl rfl ?_
    refine ⟨lo.length, rfl, lt62k hz2, ?_⟩
    refine lcd_map (xs := List.range lo.length) (fun (o : Nat) => B (decide (markAt lo i = markAt lo o))) (by rw [List.length_range]; exact small1000 hz2) (fun o ho => ?_) ?_
    · intro s H0 C1 cl1 fp1
      have hol : o < lo.length := List.mem_range.mp ho
      have hin2 : InR (o : Int) (lo.length : Int) := ⟨by omega, by omega⟩
      refine pgl_name nd rfl ?_
      intro s H0 C1 cl1 fp1
      refine ptsd_nil ?_
      intro s H0 C1 cl1 fp1
      refine pd_hasm c.cl hT (hr.mono (by decide)) (fun _ => passLf) ?_
      refine pd_var (i := 0) rfl rfl ?_
      refine ⟨ins_spl (by decide), ?_⟩
      refine pad_cons ?_
      refine pd_var (i := 4) rfl rfl ?_
      refine pad_cons ?_
      refine pd_var (i := 5) rfl rfl ?_
      refine pad_nil ?_
      exact ⟨lo, _, _, rfl, hz, fun _ _ => ⟨rfl, rfl, rfl⟩, fun q => absurd hin q, fun _ q => absurd hin2 q⟩
    · exact ⟨rfl, rfl, rfl⟩
  obtain ⟨fL, fdL, l1, l2, l3⟩ := hL
  have hq : (heads lo).length ≤ lo.length := Nat.le_trans (List.length_filter_le _ _) (by rw [List.length_range]; omega)
  refine pssd_one (psd_ret ?_)
  refine pd_lst ?_
  refine pad_cons ?_
  refine pd_fld c.cl c.nS ?_
  refine pd_var (i := 0) rfl rfl ?_
  refine ⟨_, fld_size, ?_⟩
  refine pad_cons ?_
  refine pd_callB (call_lenOwn l1 hr l2.at_ l2.fn l3) rfl hm.len PySem.boot_len ?_
  refine pad_cons ?_
  refine pd_var (i := 0) rfl rfl ?_
  refine pad_nil ?_
  refine va_lenOwn ⟨_, _, rfl⟩ ⟨lo, rfl, h0, hz, _, rfl, by omega, by omega, ?_⟩
  refine pad_cons ?_
  refine pd_frz ?_
  refine pd_hasm0 c.cl hM (hr.mono (by decide)) (fun _ => pass0At) ?_
  refine pd_var (i := 0) rfl rfl ?_
  refine ⟨ins_spl (by decide), lo, rfl, fun a ha => ⟨a, _, rfl, wu_same, ?_⟩⟩
  rw [wd_wu ha]
  refine pad_cons ?_
  refine pd_frz2 ?_
  refine pd_hasm0 c.cl hCs (hr.mono (by decide)) (fun _ => pass0At) ?_
  refine pd_var (i := 0) rfl rfl ?_
  refine ⟨ins_spl (by decide), lo, rfl, h0, hz, fun a a1 ne ha ha1 => ⟨a, a1, nl (cellN lo 0), _, rfl, wu_same, ?_, ne, ?_⟩⟩
  · rw [wu_ne ne.symm]
    exact wu_same
  rw [wd_cells ne ha ha1, cells_eq h0]
  refine pad_cons ?_
  refine pd_var (i := 2) rfl rfl ?_
  refine pad_cons ?_
  refine pd_var (i := 3) rfl rfl ?_
  refine pad_nil ?_
  refine ⟨by show 6 ≤ sizeLine; decide, ?_⟩
  exact k
end
end Tw

set_option Elab.async false
set_option linter.all false
set_option maxRecDepth 100000
set_option maxHeartbeats 1000000
namespace Tw
open PySem PySem.Spec PyProof.Rows L2 LamX DL
/-- the global x is the class at C, its __init__ keeps sp -/
def HasMk (P : Program) (w : PySem.World) (K : PySem.W.Frag) (mg : Str → Option Value) (base : Heap) (T : List (Addr × Str)) (CX : CXT) (x : Str) (C : Addr) (k : Nat) (ps : List Str) (sp : SpD) : Prop :=
  ∃ f fd, FnOk P w K mg base CX k f fd ps (spOf K T sp) ∧ mg x = some (.ref C) ∧ Mk K C f ∧ Binds K fd ps []
section
variable {X : Cx} {T : List (Addr × Str)} {W : WX} {χ : XD} {δ : Dn} {w : Wp} {pos : Pos}
theorem pd_hasmk {CX : CXT} {k : Nat} {C : Addr} {ps : List Str} {sp : SpD} {x : Str} {p : Pos} {e : Expr} {es : List Expr} {κ : D → Wp → Prop} (G : HasMk X.prog X.w X.K X.mg X.base T CX x C k ps sp) (hr : Room (k + 1) X.A) (hx : ∀ σ, PassesAt CX X σ (WE W σ))
    (h : PAD X T W χ (e :: es) δ w fun ds w1 => ∀ a dx, w1 a = none → sp (R a :: ds) (wu w1 a (.ins C dx [] [])) (fun d w2 => d = N ∧ ∃ ns es, w2 a = some (.ins C dx ns es) ∧ κ (.obj C ns es) (wd w2 a)) (fun C ns fs w2 => χ C ns fs (wd w2 a)))
    (hg : Gl X x := by rfl) (hdb : (x == ("__debug__" : Str)) = false := by decide) (he : starEach (e :: es) X.env = (false, eval e X.env) :: starEach es X.env := by rfl) (hpl : (backTo pos (starEach es X.env)).any (·.1) = false := by rfl) :
    PD X T W χ (.Call (.Name x p) (e :: es) [] pos) δ w κ := by
  obtain ⟨f, fd, h1, h2, h3, h4⟩ := G
  exact pd_makeX h3 h1 hr h2 h4 hx h hg hdb he hpl
end
def spEqual (C : Addr) : SpD := fun ds w κ χ => ∃ (lo : List Nat) (msl : List (List Int)), ds = [spl C lo, nats lo, .lst (msl.map fun ms => .lst (ms.map I))] ∧ lo.length ≤ 12 ∧ (∀ ms ∈ msl, 1 ≤ ms.length ∧ ms.length ≤ 12) ∧ κ (B true) w
abbrev sEqual : Stmt := top 29
theorem wu3 {w : Wp} {a b : Addr} {h k l : HD} (ne : a ≠ b) : wu (wu (wu w b h) a k) b l = wu (wu w b l) a k := by
  rw [wu_comm ne, wu_wu, wu_comm (Ne.symm ne)]
theorem low_len (ms : List Int) : (lowN ms).length = ms.length := List.length_map _
section
variable {P : Program} {w : PySem.World} {K : PySem.W.Frag} {mg : Str → Option Value} {base : Heap} {T : List (Addr × Str)} {C CU CB : Addr}
theorem scSpoil : FnScope ["split", "place", "row", "cell"] ["split", "place"] (defScope sSpoil) := ⟨rfl, rfl, rfl, by decide +kernel, rfl, by decide +kernel, by decide +kernel⟩
theorem ok_spoil {f : Addr} {fd : FuncData} (G : Fun K "_law_spoil" "_law_spoil" sSpoil f fd) (c : SplC K C) (hC : HasM P w K mg base T (L2.CX P w) C "cell" 4 ["self", "case"] (spCell C CU))
    (hM : HasM P w K mg base T CX0 C "marks" 1 ["self"] (spMarks C)) (hCs : HasM P w K mg base T CX0 C "cells" 5 ["self"] (spCells C)) :
    FnOk P w K mg base CX0 6 f fd ["split", "place"] (spOf K T (spSpoil C)) := by
  refine fnD G scSpoil (fun ds w κ χ h => ?_) (fun cdv A outer s H E ds w0 κ χ hr h => ?_)
  · obtain ⟨lo, p, rfl, _⟩ := h
    rfl
  obtain ⟨lo, p, rfl, h0, hz, hp, k⟩ := h
  have nd := scSpoil.nd
  have hcl : ∀ m, (cellN lo m).length ≤ 12 := fun m => Nat.le_trans (List.length_filter_le _ _) (by rw [List.length_range]; exact hz)
  -- row = split.marks()
  refine pssd_cons (psd_set (i := 2) nd rfl ?_)
  refine pd_hasm0 c.cl hM (hr.mono (by decide)) (fun _ => pass0At) ?_
  refine pd_var (i := 0) rfl rfl ?_
  refine ⟨ins_spl (by decide), lo, rfl, fun a ha => ?_⟩
  -- row[place] = -5
  refine pssd_cons (psd_sub set_list ?_)
  refine pd_un un_neg ?_
  refine pd_int ?_
  refine vr_U ?_
  refine pd_var (i := 2) rfl rfl ?_
  refine pd_var (i := 1) rfl rfl ?_
  refine vr_setO wu_same (by rw [nl_len]; exact hp) ?_
  rw [wu_wu]
  -- row.append(0)
  refine pssd_cons (psd_expr ?_)
  refine pd_bm PySem.F.plainAttrs_list PySem.F.slot_list_append PySem.F.type_list_append mt_append ?_
  refine pd_var (i := 2) rfl rfl ?_
  refine ⟨⟨rfl, _, wu_same⟩, ?_⟩
  refine pad_cons ?_
  refine pd_int ?_
  refine pad_nil ?_
  refine vm_append wu_same (by rw [List.length_set, nl_len]; exact small1000 (by omega)) ?_
  rw [wu_wu]
  refine pssd_drop a ?_
  rw [wd_wu ha]
  clear ha
  -- row = split.cells()
  refine pssd_cons (psd_set (i := 2) nd rfl ?_)
  refine pd_hasm0 c.cl hCs hr (fun _ => pass0At) ?_
  refine pd_var (i := 0) rfl rfl ?_
  refine ⟨ins_spl (by decide), lo, rfl, h0, hz, fun a a1 ne ha ha1 => ?_⟩
  -- cell = row[0]
  refine pssd_cons (psd_set (i := 3) nd rfl ?_)
  refine pd_ix ix_list ?_
  refine pd_var (i := 2) rfl rfl ?_
  refine pd_int ?_
  refine vr_ixO (i := 0) wu_same rfl ?_
  -- cell.append(99)
  have e1 : (wu (wu w0 a1 (.lst (nl (cellN lo 0)))) a (.lst (R a1 :: (tails lo lo.length).map fun c => nats (cellN lo c)))) a1 = some (.lst (nl (cellN lo 0))) := by
    rw [wu_ne ne.symm]
    exact wu_same
  refine pssd_cons (psd_expr ?_)
  refine pd_bm PySem.F.plainAttrs_list PySem.F.slot_list_append PySem.F.type_list_append mt_append ?_
  refine pd_var (i := 3) rfl rfl ?_
  refine ⟨⟨rfl, _, e1⟩, ?_⟩
  refine pad_cons ?_
  refine pd_int ?_
  refine pad_nil ?_
  refine vm_append e1 (by rw [nl_len]; exact small1000 (Nat.le_trans (hcl 0) (by decide))) ?_
  rw [wu3 ne]
  -- row.reverse()
  refine pssd_cons (psd_expr ?_)
  refine pd_bm0 PySem.F.plainAttrs_list PySem.F.slot_list_reverse PySem.F.type_list_reverse mt_reverse ?_
  refine pd_var (i := 2) rfl rfl ?_
  refine ⟨⟨rfl, _, wu_same⟩, ?_⟩
  refine vm_reverse wu_same ?_
  rw [wu_wu]
  -- row.pop()
  refine pssd_cons (psd_expr ?_)
  refine pd_bm0 PySem.F.plainAttrs_list PySem.F.slot_list_pop PySem.F.type_list_pop mt_pop ?_
  refine pd_var (i := 2) rfl rfl ?_
  refine ⟨⟨rfl, _, wu_same⟩, ?_⟩
  refine vm_pop (d := R a1) wu_same (by rw [List.length_reverse, List.reverse_cons, List.getElem?_append_right (by simp)]; simp) ?_
  rw [wu_wu]
  refine pssd_drop a1 ?_
  refine pssd_drop a ?_
  rw [wd_cells ne ha ha1]
  clear e1 ne ha ha1
  -- cell = split.cell(place)
  have hin : InR (p : Int) (lo.length : Int) := ⟨by omega, by omega⟩
  refine pssd_cons (psd_set (i := 3) nd rfl ?_)
  refine pd_hasm c.cl hC (hr.mono (by decide)) (fun _ => passLf) ?_
  refine pd_var (i := 0) rfl rfl ?_
  refine ⟨ins_spl (by decide), ?_⟩
  refine pad_cons ?_
  refine pd_var (i := 1) rfl rfl ?_
  refine pad_nil ?_
  refine ⟨lo, _, rfl, hz, fun _ a2 ha2 => ?_, fun q => absurd hin q⟩
  -- cell.clear()
  refine pssd_one (psd_expr (pd_drop ?_))
  refine pd_bm0 PySem.F.plainAttrs_list PySem.F.slot_list_clear PySem.F.type_list_clear mt_clear ?_
  refine pd_var (i := 3) rfl rfl ?_
  refine ⟨⟨rfl, _, wu_same⟩, ?_⟩
  refine vm_clear wu_same ⟨a2, ?_⟩
  rw [wu_wu, wd_wu ha2]
  exact k
theorem scEqual : FnScope ["split", "low", "lists", "marks", "other", "same", "thing"] ["split", "low", "lists"] (defScope sEqual) := ⟨rfl, rfl, rfl, by decide +kernel, rfl, by decide +kernel, by decide +kernel⟩
theorem ok_equal {f : Addr} {fd : FuncData} (G : Fun K "_law_equal" "_law_equal" sEqual f fd) (hm : Nm2 mg) (q : SplQ K C) (hS : HasF P w K mg base T CX0 "_law_same" 1 ["actual", "due"] (spSame 0)) (hL : HasF P w K mg base T CX0 "_law_low" 1 ["marks"] spLow)
    (hMk : HasMk P w K mg base T (L2.CX P w) "Split" C 4 ["self", "marks"] (spInit C CB)) (hE : HasM P w K mg base T CX0 C "__eq__" 1 ["self", "other"] (spEq C)) (hN : HasM P w K mg base T CX0 C "__ne__" 2 ["self", "other"] (spNe C)) :
    FnOk P w K mg base CX0 6 f fd ["split", "low", "lists"] (spOf K T (spEqual C)) := by
  refine fnD G scEqual (fun ds w κ χ h => ?_) (fun cdv A outer s H E ds w0 κ χ hr h => ?_)
  · obtain ⟨lo, p, rfl, _⟩ := h
    rfl
  obtain ⟨lo, msl, rfl, hz, hms, k⟩ := h
  have nd := scEqual.nd
  have hu := hr.units
  obtain ⟨fE, fdE, e1, e2, e3⟩ := hE
  obtain ⟨fN, fdN, n1, n2, n3⟩ := hN
  refine pssd_cons (psd_for PassesOwn.never rfl ?_)
  refine it_list ?_
  refine pd_var (i := 2) rfl rfl ?_
  refine ⟨_, rfl, ?_⟩
  refine ⟨fun i δ' w' => w' = w0 ∧ δ'[0]? = some (some (spl C lo)) ∧ δ'[1]? = some (some (nats lo)) ∧ δ'.length = 7, ⟨rfl, rfl, rfl, rfl⟩, ?_, ?_⟩
  · rintro i dk δ' w' hd ⟨rfl, h0, h1, h7⟩
    rw [List.getElem?_map] at hd
    cases em : msl[i]? with
    | none =>
      rw [em] at hd
      cases hd
    | some ms =>
    rw [em] at hd
    cases hd
    have hmb := hms ms (List.mem_of_getElem? em)
    refine pgd_name (i := 3) nd rfl ?_
    -- other = Split(list(marks))
    refine pssd_cons (psd_set (i := 4) nd rfl ?_)
    refine pd_hasmk hMk hr (fun _ => passLf) ?_
    refine pad_cons ?_
    refine pd_callTy call_list_of rfl hm.list bt_list ?_
    refine pad_cons ?_
    refine pd_var (i := 3) rfl (by (repeat (first | assumption | exact List.getElem?_set_self (by first | omega | (simp only [List.length_set]; omega)) | rw [List.getElem?_set_ne (by decide)]))) ?_
    refine pad_nil ?_
    refine va_listS ?_
    refine pad_nil ?_
    intro a dx ha
    refine ⟨a, dx, _, ms, rfl, wu_same, .inl rfl, by omega, fun _ => ⟨rfl, _, _, wu_same, ?_⟩, fun z => absurd hmb z⟩
    rw [wu_wu, wd_wu ha]
    have eo : D.obj C ["size", "_marks"] [I (ms.length : Int), nats (lowN ms)] = spl C (lowN ms) := by
      unfold spl
      rw [low_len]
    rw [eo]
    have sy : decide (lowN ms = lo) = decide (lo = lowN ms) := decide_eq_decide.mpr eq_comm
    -- same = _law_low(marks) == low
    refine pssd_cons (psd_set (i := 5) nd rfl ?_)
    refine pd_cmp (op_eqD hu) ?_
    refine pd_has hL (hr.mono (by decide)) (fun _ => pass0At) ?_
    refine pad_cons ?_
    refine pd_var (i := 3) rfl (by (repeat (first | assumption | exact List.getElem?_set_self (by first | omega | (simp only [List.length_set]; omega)) | rw [List.getElem?_set_ne (by decide)]))) ?_
    refine pad_nil ?_
    refine ⟨ms, rfl, by omega, ?_⟩
    refine pd_var (i := 1) rfl (by (repeat (first | assumption | exact List.getElem?_set_self (by first | omega | (simp only [List.length_set]; omega)) | rw [List.getElem?_set_ne (by decide)]))) ?_
    refine vr_eqD (py_nats _) (py_nats _) (shaped_ints _) (shaped_ints _) ?_
    rw [eqv_ints, decide_eq_decide.mpr casts_inj, sy]
    have g0 : (((δ'.set 3 (some (.lst (ms.map I)))).set 4 (some (spl C (lowN ms)))).set 5 (some (B (decide (lo = lowN ms)))))[0]? = some (some (spl C lo)) := by (repeat (first | assumption | exact List.getElem?_set_self (by first | omega | (simp only [List.length_set]; omega)) | rw [List.getElem?_set_ne (by decide)]))
    have g1 : (((δ'.set 3 (some (.lst (ms.map I)))).set 4 (some (spl C (lowN ms)))).set 5 (some (B (decide (lo = lowN ms)))))[1]? = some (some (nats lo)) := by (repeat (first | assumption | exact List.getElem?_set_self (by first | omega | (simp only [List.length_set]; omega)) | rw [List.getElem?_set_ne (by decide)]))
    have g4 : (((δ'.set 3 (some (.lst (ms.map I)))).set 4 (some (spl C (lowN ms)))).set 5 (some (B (decide (lo = lowN ms)))))[4]? = some (some (spl C (lowN ms))) := by (repeat (first | assumption | exact List.getElem?_set_self (by first | omega | (simp only [List.length_set]; omega)) | rw [List.getElem?_set_ne (by decide)]))
    have g5 : (((δ'.set 3 (some (.lst (ms.map I)))).set 4 (some (spl C (lowN ms)))).set 5 (some (B (decide (lo = lowN ms)))))[5]? = some (some (B (decide (lo = lowN ms)))) := by (repeat (first | assumption | exact List.getElem?_set_self (by first | omega | (simp only [List.length_set]; omega)) | rw [List.getElem?_set_ne (by decide)]))
    have g7 : (((δ'.set 3 (some (.lst (ms.map I)))).set 4 (some (spl C (lowN ms)))).set 5 (some (B (decide (lo = lowN ms))))).length = 7 := by
      simp only [List.length_set]
      exact h7
    generalize ((δ'.set 3 (some (.lst (ms.map I)))).set 4 (some (spl C (lowN ms)))).set 5 (some (B (decide (lo = lowN ms)))) = δ2 at g0 g1 g4 g5 g7
    refine pssd_cons (psd_if ?_)
    refine pwd_pt ?_
    refine pwd_or ?_
    refine ptd_not ?_
    refine ptd_val ?_
    refine pd_has hS (hr.mono (by decide)) (fun _ => pass0At) ?_
    refine pad_cons ?_
    refine pd_cmp (op_own (op := .Eq) (fun _ _ => rfl) e1 (hr.mono (by decide)) e2.at_ e2.fn e3) ?_
    refine pd_var (i := 0) rfl g0 ?_
    refine pd_var (i := 4) rfl g4 ?_
    refine vr_own (t := .ref C) ⟨_, _, rfl⟩ (.inr ⟨C, _, _, rfl, q.ci, rfl⟩) q.nfC ?_
    refine ⟨lo, _, rfl, .inl ⟨lowN ms, rfl, _, rfl, ?_⟩⟩
    refine pad_cons ?_
    refine pd_var (i := 5) rfl g5 ?_
    refine pad_nil ?_
    refine ⟨_, _, rfl, .inl (.bl _), ?_⟩
    refine ⟨_, rfl, ?_⟩
    refine iteF ?_
    refine pwd_or1 ?_
    refine ptd_not ?_
    refine ptd_val ?_
    refine pd_has hS (hr.mono (by decide)) (fun _ => pass0At) ?_
    refine pad_cons ?_
    refine pd_cmp (op_own (op := .NotEq) (fun _ _ => rfl) n1 (hr.mono (by decide)) n2.at_ n2.fn n3) ?_
    refine pd_var (i := 0) rfl g0 ?_
    refine pd_var (i := 4) rfl g4 ?_
    refine vr_own (t := .ref C) ⟨_, _, rfl⟩ (.inr ⟨C, _, _, rfl, q.ci, rfl⟩) q.nfC ?_
    refine ⟨lo, _, rfl, .inl ⟨lowN ms, rfl, _, rfl, ?_⟩⟩
    refine pad_cons ?_
    refine pd_not ?_
    refine pd_var (i := 5) rfl g5 ?_
    refine ⟨_, rfl, ?_⟩
    refine pad_nil ?_
    refine ⟨_, _, rfl, .inl (.bl _), ?_⟩
    refine ⟨_, rfl, ?_⟩
    refine iteF ?_
    refine pssd_nil ?_
    refine pssd_one (psd_if ?_)
    refine pwd_pt ?_
    refine pwd_or ?_
    refine ptd_not ?_
    refine ptd_val ?_
    refine pd_has hS (hr.mono (by decide)) (fun _ => pass0At) ?_
    refine pad_cons ?_
    refine pd_cmp (op_own (op := .Eq) (fun _ _ => rfl) e1 (hr.mono (by decide)) e2.at_ e2.fn e3) ?_
    refine pd_var (i := 4) rfl g4 ?_
    refine pd_var (i := 0) rfl g0 ?_
    refine vr_own (t := .ref C) ⟨_, _, rfl⟩ (.inr ⟨C, _, _, rfl, q.ci, rfl⟩) q.nfC ?_
    refine ⟨_, _, rfl, .inl ⟨lo, rfl, _, rfl, ?_⟩⟩
    rw [sy]
    refine pad_cons ?_
    refine pd_var (i := 5) rfl g5 ?_
    refine pad_nil ?_
    refine ⟨_, _, rfl, .inl (.bl _), ?_⟩
    refine ⟨_, rfl, ?_⟩
    refine iteF ?_
    refine pwd_or1 ?_
    refine ptd_not ?_
    refine ptd_val ?_
    refine pd_has hS (hr.mono (by decide)) (fun _ => pass0At) ?_
    refine pad_cons ?_
    refine pd_cmp (op_own (op := .NotEq) (fun _ _ => rfl) n1 (hr.mono (by decide)) n2.at_ n2.fn n3) ?_
    refine pd_var (i := 4) rfl g4 ?_
    refine pd_var (i := 0) rfl g0 ?_
    refine vr_own (t := .ref C) ⟨_, _, rfl⟩ (.inr ⟨C, _, _, rfl, q.ci, rfl⟩) q.nfC ?_
    refine ⟨_, _, rfl, .inl ⟨lo, rfl, _, rfl, ?_⟩⟩
    rw [sy]
    refine pad_cons ?_
    refine pd_not ?_
    refine pd_var (i := 5) rfl g5 ?_
    refine ⟨_, rfl, ?_⟩
    refine pad_nil ?_
    refine ⟨_, _, rfl, .inl (.bl _), ?_⟩
    refine ⟨_, rfl, ?_⟩
    refine iteF ?_
    exact pssd_nil ⟨rfl, g0, g1, g7⟩
  rintro δ1 wA ⟨rfl, h0, h1, h7⟩
  refine pssd_cons (psd_for PassesOwn.never rfl ?_)
  refine it_list ?_
  refine pd_lst ?_
  refine pad_cons ?_
  refine pd_callTy call_list_of rfl hm.list bt_list ?_
  refine pad_cons ?_
  refine pd_var (i := 1) rfl h1 ?_
  refine pad_nil ?_
  refine va_listS ?_
  refine pad_cons ?_
  refine pd_callTy call_tuple_of rfl hm.tuple bt_tuple ?_
  refine pad_cons ?_
  refine pd_var (i := 1) rfl h1 ?_
  refine pad_nil ?_
  refine va_tuple ?_
  refine pad_cons ?_
  refine pd_callB call_len_seq rfl hm.len PySem.boot_len ?_
  refine pad_cons ?_
  refine pd_var (i := 1) rfl h1 ?_
  refine pad_nil ?_
  refine va_len ?_
  refine pad_cons ?_
  refine pd_str ?_
  refine pad_nil ?_
  refine ⟨by show 4 ≤ sizeLine; decide, ?_⟩
  refine ⟨_, rfl, ?_⟩
  refine ⟨fun i δ' w' => w' = wA ∧ δ'[0]? = some (some (spl C lo)) ∧ δ'.length = 7, ⟨rfl, h0, h7⟩, ?_, ?_⟩
  · rintro i dk δ' w' hd ⟨rfl, h0, h7⟩
    have hty : ∃ n, tyD dk = some n ∧ four n := by
      have h4 := (List.getElem?_eq_some_iff.mp hd).1
      match i, hd with
      | 0, hd => cases hd; exact ⟨_, rfl, .inl rfl⟩
      | 1, hd => cases hd; exact ⟨_, rfl, .inr (.inl rfl)⟩
      | 2, hd => cases hd; exact ⟨_, rfl, .inr (.inr (.inl rfl))⟩
      | 3, hd => cases hd; exact ⟨_, rfl, .inr (.inr (.inr rfl))⟩
      | n + 4, hd => simp at hd
    obtain ⟨n, hn, h4⟩ := hty
    refine pgd_name (i := 6) nd rfl ?_
    have g0 : (δ'.set 6 (some dk))[0]? = some (some (spl C lo)) := by (repeat (first | assumption | exact List.getElem?_set_self (by first | omega | (simp only [List.length_set]; omega)) | rw [List.getElem?_set_ne (by decide)]))
    have g6 : (δ'.set 6 (some dk))[6]? = some (some dk) := by (repeat (first | assumption | exact List.getElem?_set_self (by first | omega | (simp only [List.length_set]; omega)) | rw [List.getElem?_set_ne (by decide)]))
    refine pssd_one (psd_if ?_)
    refine pwd_pt ?_
    refine pwd_or ?_
    refine ptd_not ?_
    refine ptd_val ?_
    refine pd_has hS (hr.mono (by decide)) (fun _ => pass0At) ?_
    refine pad_cons ?_
    refine pd_cmp (op_own (op := .Eq) (fun _ _ => rfl) e1 (hr.mono (by decide)) e2.at_ e2.fn e3) ?_
    refine pd_var (i := 0) rfl g0 ?_
    refine pd_var (i := 6) rfl g6 ?_
    refine vr_own (t := .type n) ⟨_, _, rfl⟩ (.inl ⟨n, hn, rfl⟩) (q.nf n h4) ?_
    refine ⟨lo, _, rfl, .inr ⟨n, hn, h4, _, rfl, ?_⟩⟩
    refine pad_cons ?_
    refine pd_bl ?_
    refine pad_nil ?_
    refine ⟨_, _, rfl, .inl (.bl _), ?_⟩
    refine ⟨_, rfl, ?_⟩
    refine iteF ?_
    refine pwd_or1 ?_
    refine ptd_not ?_
    refine ptd_val ?_
    refine pd_has hS (hr.mono (by decide)) (fun _ => pass0At) ?_
    refine pad_cons ?_
    refine pd_cmp (op_own (op := .NotEq) (fun _ _ => rfl) n1 (hr.mono (by decide)) n2.at_ n2.fn n3) ?_
    refine pd_var (i := 0) rfl g0 ?_
    refine pd_var (i := 6) rfl g6 ?_
    refine vr_own (t := .type n) ⟨_, _, rfl⟩ (.inl ⟨n, hn, rfl⟩) (q.nf n h4) ?_
    refine ⟨lo, _, rfl, .inr ⟨n, hn, h4, _, rfl, ?_⟩⟩
    refine pad_cons ?_
    refine pd_bl ?_
    refine pad_nil ?_
    refine ⟨_, _, rfl, .inl (.bl _), ?_⟩
    refine ⟨_, rfl, ?_⟩
    refine iteF ?_
    exact pssd_nil ⟨rfl, g0, by rw [List.length_set]; exact h7⟩
  · rintro δ' w' ⟨rfl, _, _⟩
    refine pssd_one (psd_ret ?_)
    refine pd_bl ?_
    exact k
end
end Tw

set_option Elab.async false
set_option linter.all false
set_option maxRecDepth 100000
set_option maxHeartbeats 2000000
/-! try with several clauses, some of them with a name; isinstance of a caught error that has fields. -/
namespace DL
open PySem PySem.Spec PyProof.Rows L2 LamX
abbrev TSx := Addr → Value → Option Addr → TS
/-- what happens behind a suite whose clause has a name: the name goes -/
def goneD (i : Nat) (D : Ends) : Ends := { nx := fun σ H => D.nx (σ.set i none) H, rt := D.rt, bk := fun σ H => D.bk (σ.set i none) H, ct := fun σ H => D.ct (σ.set i none) H }
def suiteW (o : Option Nat) (ts : TSx) (D : Ends) (a : Addr) (cls : Value) (d : Option Addr) (σ : L2.St) (H : Hp) : Prop := match o with
  | none => ts a cls d D σ H
  | some i => ts a cls d (goneD i D) (σ.set i (some (.ref a))) H
def wMix (K : PySem.W.Frag) (Wout : WX) (D : Ends) : List (Value × Option Nat × TSx) → WX
  | [] => Wout
  | (c, o, ts) :: more => fun cls d σ H => ∃ b, PySem.W.exmOne K cls c = some b ∧ (b = true → ∀ a, H a = none → suiteW o ts D a cls d σ H) ∧ (b = false → wMix K Wout D more cls d σ H)
inductive HdMix (X : Cx) : List ExceptHandler → List (Value × Option Nat × TSx) → Prop
  | none : HdMix X [] []
  | bare {x : Str} {c : Value} {ts : TSx} {st : Stmt} {sts : List Stmt} {np hp : Pos} {hds : List ExceptHandler} {l : List (Value × Option Nat × TSx)} (nm : Names X x c)
      (su : ∀ (a : Addr) (oe : Obj) (cls : Value) (d : Option Addr) (pn : List (Addr × Obj)), Zc cls d oe → (∃ vs, oe.data = .fields vs) → PSs (X.suite a ((a, oe) :: pn)) (st :: sts) (ts a cls d)) (more : HdMix X hds l) :
      HdMix X (.ExceptHandler (some (.Name x np)) .none (st :: sts) hp :: hds) ((c, .none, ts) :: l)
  | named {x n : Str} {i : Nat} {c : Value} {ts : TSx} {st : Stmt} {sts : List Stmt} {np hp : Pos} {hds : List ExceptHandler} {l : List (Value × Option Nat × TSx)} (nm : Names X x c) (hi : X.N[i]? = some n) (hl : X.env.kindOf n = some .local)
      (su : ∀ (a : Addr) (oe : Obj) (cls : Value) (d : Option Addr) (pn : List (Addr × Obj)), Zc cls d oe → (∃ vs, oe.data = .fields vs) → PSs (X.suite a ((a, oe) :: pn)) (st :: sts) (ts a cls d)) (more : HdMix X hds l) :
      HdMix X (.ExceptHandler (some (.Name x np)) (some n) (st :: sts) hp :: hds) ((c, some i, ts) :: l)
section
variable {X : Cx} {body : List Stmt} {hd0 : ExceptHandler} {hds : List ExceptHandler} {l : List (Value × Option Nat × TSx)} {pos : Pos} {tb : WX → TS} {Wout : WX}
theorem ps_try_mix (hs : X.stack = X.env :: X.outer) (hf : X.env.frame = some X.env.locals) (hN : X.N.Nodup) (tk : Takes X Wout)
    (hb : ∀ (W : WX) (pn : List (Addr × Obj)) (xe : Value → Shared → Prop), Takes (X.tr pn xe) W → PassesOwn (model X.prog X.w) X.A X.env xe → PSs (X.tr pn xe) body (tb W))
    (hh : HdMix X (hd0 :: hds) l) : PS X (.Try body (hd0 :: hds) [] [] pos) (fun D σ H => tb (fun cls d σ' H' => σ'.length = X.N.length → wMix X.K Wout D l cls d σ' H') D σ H) := ⟨fun pins s σ H D I h => by
  have ok := I.ok
  have frA : X.A.frames = some (X.env :: X.outer) := ok.frames.trans (by rw [hs])
  refine wpAny_Try_except ?_
  let xe' : Value → Shared → Prop := fun e t1 => wpAny (model X.prog X.w) X.A (noteFrame e X.env) (fun _ t2 => wpAny (model X.prog X.w) X.A (setFlight e none) (fun _ t3 => wpAny (model X.prog X.w) X.A (handleBy e X.env (hd0 :: hds)) (SP X pins D) X.xe t3) X.xe t2) X.xe t1
  have taken : Takes (X.tr (X.pn ++ pins) xe') (fun cls d σ' H' => σ'.length = X.N.length → wMix X.K Wout D l cls d σ' H') := by
    rintro u s' ⟨a, B, sI, pins', σ', H', cls, d, rfl, J', nb, up, sky, na, os, ag, w⟩
    have J := Inv.ofTry J' ok
    have w := w J.len
    rw [show (X.tr (X.pn ++ pins) xe').stack = X.env :: X.outer from hs] at sky
    show wpAny (model X.prog X.w) X.A (noteFrame (.ref a) X.env) _ _ s'
    refine Sky.land Zc.steady frA hf sky fun hA flA upA => ?_
    have JA : Inv X pins σ' H' { s' with heap := hA } := Inv.landed J nb flA.1 (up.trans upA) os ag
    obtain ⟨oA, vA, eA, zA, dA⟩ := flA.there
    have out : a ∉ frs (X.env :: X.outer) := by
      intro hm
      obtain ⟨_, o', e', n'⟩ := flA.2.2.1.mem hm
      rw [eA] at e'
      cases e'
      exact n' _ dA
    have outL : a ≠ X.env.locals := by
      rintro rfl
      exact out (List.mem_filterMap.mpr ⟨X.env, List.mem_cons_self, hf⟩)
    have outF : a ∉ X.fs := by
      intro hm
      obtain ⟨e, he, q⟩ := List.mem_filterMap.mp hm
      exact out (List.mem_filterMap.mpr ⟨e, List.mem_cons_of_mem _ he, q⟩)
    have SA := Inv.suite JA eA dA na outL outF
    have asked : ∀ {x : Str} {c : Value} {np : Pos}, Names X x c → ∀ {Q E : Value → Shared → Prop}, Q c { s' with heap := hA } → wpAny (model X.prog X.w) (X.A.mark (some (.ref a))) (eval (.Name x np) X.env) Q E { s' with heap := hA } := by
      rintro x c np ⟨g1, g2, m1 | ⟨m1, m2, m3⟩⟩ Q E q
      · exact ld_glob (X := X.suite a ((a, oA) :: (X.pn ++ pins))) SA g1 m1 q g2
      · exact ld_blt (X := X.suite a ((a, oA) :: (X.pn ++ pins))) SA g1 m1 m2 q m3 g2
    have ofA : PySem.W.Looks (model X.prog X.w) hA (typeOf (.ref a)) cls := by
      intro A' Q E t k q
      exact wpAny_typeOf_ref (k _ _ eA) (by rw [zA.1]; exact q)
    suffices go : ∀ {hs' : List ExceptHandler} {l' : List (Value × Option Nat × TSx)}, HdMix X hs' l' → wMix X.K Wout D l' cls d σ' H' → wpAny (model X.prog X.w) X.A (handleBy (.ref a) X.env hs') (SP X pins D) X.xe { s' with heap := hA } by exact go hh w
    intro hs' l' hk
    induction hk with
    | none =>
      intro w
      refine wpAny_handleBy_nil ?_
      obtain ⟨_, _, _, oe, vs, T, oT, ts', he, hz, hd, h1, hr⟩ := id flA
      unfold PySem.passOn
      refine wpAny_bind (wpAny_field he hd h1 ?_)
      have nn : ¬ ((Value.ref T == Value.none) = true) := by simp
      rw [if_neg nn]
      have last : wpAny (model X.prog X.w) X.A (setFlight (.ref a) X.env.frame) (fun _ t4 => wpAny (model X.prog X.w) X.A (throw (.ref a) : Sem Flow) (SP X pins D) X.xe t4) X.xe { s' with heap := hA } := by
        rw [hf]
        refine HandSPX.setFlight_upZ flA fun hB goB upB => wpAny_throw (tk _ _ ?_)
        refine ⟨a, B, sI, pins, σ', H', cls, d, rfl, J, nb, (up.trans upA).trans upB, .inr (.inr ?_), na, os, ag, w⟩
        rw [hs]
        exact goB
      first
        | exact wpAny_bind last
        | exact wpAny_bind (wpAny_pure (wpAny_bind last))
    | bare nm su more ih =>
      rintro ⟨b, b1, byes, bno⟩
      refine wpAny_handleBy_cons (codeAny_handlers_test ?_) (by intro q; cases q)
      refine asked nm ((PySem.W.exm_one (M := model X.prog X.w) JA.kIn ofA b1).here ?_)
      cases b with
      | false => exact ih (bno rfl)
      | true =>
        refine codeAny_handlers_suite (HandSPX.lands_againZ flA fun hB flB upB => ?_)
        obtain ⟨oB, vB, eB, zB, dB⟩ := flB.there
        have JB : Inv X pins σ' H' { s' with heap := hB } := Inv.landed J nb flB.1 ((up.trans upA).trans upB) os ag
        have SB := Inv.suite JB eB dB na outL outF
        refine wpAny_mono ((su a oB cls d (X.pn ++ pins) zB ⟨_, dB⟩).run [] _ _ H' _ SB (byes rfl a na)) (fun f t hsp => ?_) (fun _ _ z => z.elim)
        cases f with
        | ret u =>
          obtain ⟨v6, σ6, H6, S6, r6, q6⟩ := hsp
          exact ⟨_, _, _, Inv.unsuite S6 ok, r6, q6⟩
        | next =>
          obtain ⟨σ6, H6, S6, q6⟩ := hsp
          exact ⟨_, _, Inv.unsuite S6 ok, q6⟩
        | brk =>
          obtain ⟨σ6, H6, S6, q6⟩ := hsp
          exact ⟨_, _, Inv.unsuite S6 ok, q6⟩
        | cont =>
          obtain ⟨σ6, H6, S6, q6⟩ := hsp
          exact ⟨_, _, Inv.unsuite S6 ok, q6⟩
    | named nm hi hl su more ih =>
      rintro ⟨b, b1, byes, bno⟩
      refine wpAny_handleBy_cons (codeAny_handlers_test ?_) (by intro q; cases q)
      refine asked nm ((PySem.W.exm_one (M := model X.prog X.w) JA.kIn ofA b1).here ?_)
      cases b with
      | false => exact ih (bno rfl)
      | true =>
        refine codeAny_handlers_suite_as (HandSPX.lands_againZ flA fun hB flB upB => ?_)
        obtain ⟨oB, vB, eB, zB, dB⟩ := flB.there
        have JB : Inv X pins σ' H' { s' with heap := hB } := Inv.landed J nb flB.1 ((up.trans upA).trans upB) os ag
        have SB := Inv.suite JB eB dB na outL outF
        refine store_ok (X := X.suite a ((a, oB) :: (X.pn ++ pins))) (v := .ref a) SB hN hi (.inl hl) rfl (fun t5 S5 => ?_) (.inr hl)
        refine wpAny_mono ((su a oB cls d (X.pn ++ pins) zB ⟨_, dB⟩).run [] t5 _ H' _ S5 (byes rfl a na)) (fun f t hsp => ?_) (fun _ _ z => z.elim)
        cases f with
        | ret u =>
          obtain ⟨v6, σ6, H6, S6, r6, q6⟩ := hsp
          exact gone_ok (Inv.unsuite S6 ok) hN hi hl fun t7 J7 => ⟨_, _, _, J7, r6, q6⟩
        | next =>
          obtain ⟨σ6, H6, S6, q6⟩ := hsp
          exact gone_ok (Inv.unsuite S6 ok) hN hi hl fun t7 J7 => ⟨_, _, J7, q6⟩
        | brk =>
          obtain ⟨σ6, H6, S6, q6⟩ := hsp
          exact gone_ok (Inv.unsuite S6 ok) hN hi hl fun t7 J7 => ⟨_, _, J7, q6⟩
        | cont =>
          obtain ⟨σ6, H6, S6, q6⟩ := hsp
          exact gone_ok (Inv.unsuite S6 ok) hN hi hl fun t7 J7 => ⟨_, _, J7, q6⟩
  refine wpAny_mono ((hb _ (X.pn ++ pins) xe' taken PassesOwn.looking).run [] s σ H D (Inv.toTry I _) h) (fun f t hsp => ?_) (fun e t he => he)
  cases f with
  | next =>
    obtain ⟨σ', H', J', q⟩ := hsp
    exact wpAny_execs_nil ⟨σ', H', Inv.ofTry J' ok, q⟩
  | brk =>
    obtain ⟨σ', H', J', q⟩ := hsp
    exact ⟨σ', H', Inv.ofTry J' ok, q⟩
  | cont =>
    obtain ⟨σ', H', J', q⟩ := hsp
    exact ⟨σ', H', Inv.ofTry J' ok, q⟩
  | ret u =>
    obtain ⟨v, σ', H', J', r, q⟩ := hsp
    exact ⟨v, σ', H', Inv.ofTry J' ok, r, q⟩⟩
end
end DL

set_option Elab.async false
set_option linter.all false
set_option maxRecDepth 100000
set_option maxHeartbeats 2000000
namespace DL
open PySem PySem.Spec PyProof.Rows L2 LamX
/-- isinstance(e, c), e a caught error with fields -/
def rIsX (K : PySem.W.Frag) (D a : Addr) (d : Option Addr) : List V → Hp → VK → Prop := fun xs H Q => ∃ (c : V) (cv : Value) (b : Bool) (dd : Addr) (fs : List (Str × V)), xs = [.ref a, c] ∧ (∀ u, RelV c u → u = cv) ∧ PySem.W.kitOne K (.ref D) cv = some b ∧ d = some dd ∧ H dd = some (.xd fs) ∧ Q (.bl b) H
theorem call_isX {X : Cx} {a D : Addr} {d : Option Addr} {oe : Obj} {pn : List (Addr × Obj)} (C : L2.ExcC X.K D) (hz : Zc (.ref D) d oe) (hf : ∃ vs, oe.data = .fields vs) : CallR (X.suite a ((a, oe) :: pn)) (.builtin "isinstance") (rIsX X.K D a d) := by
  rintro pins s σ H xs us Q I r ⟨c, cv, b, dd, fs, rfl, hcv, e, rfl, hdd, q⟩
  obtain ⟨u1, u2, rfl, rx, rt⟩ : ∃ u1 u2, us = [u1, u2] ∧ RelV (.ref a) u1 ∧ RelV c u2 := by
    cases r with
    | cons rx rr =>
      cases rr with
      | cons rt rr =>
        cases rr
        exact ⟨_, _, rfl, rx, rt⟩
  cases (show u1 = Value.ref a from rx)
  cases hcv _ rt
  have hget := (I.pin (a, oe) (List.mem_append.mpr (.inl List.mem_cons_self))).1
  obtain ⟨vs, hv⟩ := hf
  obtain ⟨mA, hns, _⟩ := (show ObjOk X.prog X.w H s.heap dd (.xd fs) from I.hok dd _ hdd)
  obtain ⟨od, ho, _⟩ := lookIn_ns hns
  have J : PySem.W.InstAt s.heap a oe D (some od) := ⟨hget, hz.1, by unfold PySem.W.notCls; rw [hv] <;> rfl, by rw [hz.2]; exact ho⟩
  have hcl : (PySem.W.clsIn X.K D).isSome = true := by
    obtain ⟨cd, hc, _⟩ := PySem.W.any_some C.hd
    rw [hc]
    rfl
  exact PySem.W.kia_one (PySem.W.kitx_exc hcl C.hg C.hk C.hs C.ha C.hn C.ht C.hm) I.kIn J e (fun z => nomatch z) fun tk => ⟨.bl b, H, I.kept (t' := tk) fun _ _ z => z, rfl, q⟩
/-- the heap may get more in its tables of code -/
theorem World.more {K : PySem.W.Frag} {T : List (Addr × Str)} {S F H H1 : Hp} {w : Wp} (W : World K T S w F H) (e : ExtN H H1) (t : Tabs T H1) : World K T S w F H1 := by
  refine ⟨fun b x q => e b x (W.same b x q) fun ps z => W.notbl b ps (by rw [q, z]), W.notbl, fun b h q => ?_, fun b x q => ?_, t, W.nf⟩
  · obtain ⟨q1, q2, o, q3, q4⟩ := W.own b h q
    exact ⟨q1, q2, o, e b o q3 q4.notbl.1, q4⟩
  · obtain ⟨q1, q2⟩ := W.frm b x q
    exact ⟨q1, e b x q2 fun ps z => W.nf b ps (by rw [q, z])⟩
section
variable {K : PySem.W.Frag} {T : List (Addr × Str)} {w : Wp} {κ : D → Wp → Prop}
theorem va_isX {D0 a dd : Addr} {ns : List Str} {ds : List D} {c : V} {cv : Value} {b : Bool} (hc : ∀ u, RelV c u → u = cv) (hk : PySem.W.kitOne K (.ref D0) cv = some b) (k : κ (B b) w) : VRA K T (rIsX K D0 a (some dd)) [.exc a dd ns ds, .val c] w κ := by
  intro F S H xs Q hW r hK
  obtain ⟨x, ys, rfl, ⟨zs, rfl, h1, h2, h3⟩, y, us, rfl, h4, h5⟩ := r
  have h4' : y = c := h4
  have h5' : us = [] := h5
  subst h4' h5'
  exact ⟨y, cv, b, dd, zs, rfl, hc, hk, rfl, hW.same _ _ h1, hK _ w _ S H k (Same.refl _) hW rfl⟩
end
section
variable {X : Cx} {T : List (Addr × Str)} {W : WX} {χ : XD} {δ : Dn} {w : Wp} {pos : Pos}
theorem pd_xf {a dd C : Addr} {oe : Obj} {pn : List (Addr × Obj)} {e : Expr} {f : Str} {ns : List Str} {ds : List D} {κ : D → Wp → Prop} (TX : XfC X.K C) (hno : PySem.W.findIn X.K (.ref C) f = some none) (hz : Zc (.ref C) (some dd) oe) (hf : ∃ vs, oe.data = .fields vs)
    (h : PD (X.suite a ((a, oe) :: pn)) T W χ e δ w fun d w1 => d = .exc a dd ns ds ∧ ∃ u, look2 ns ds f = some u ∧ κ u w1) (hb : attributeBase e f X.env (eval e X.env) = eval e X.env := by rfl) : PD (X.suite a ((a, oe) :: pn)) T W χ (.Attribute e f pos) δ w κ := fun F σ S H Q hE hW hX hK => wp_pe (pe_xf TX hno hz hf (pe_wp e) hb) (by
  refine h F σ S H _ hE hW hX fun d w1 v S1 H1 k s1 W1 r => ?_
  obtain ⟨rfl, u, hl, k⟩ := k
  obtain ⟨ys, rfl, h1, rfl, h3⟩ := r
  obtain ⟨v, h4, h5⟩ := look2_at h3 hl
  exact ⟨rfl, rfl, dd, ys, v, rfl, W1.same _ _ h1, h4, hK u w1 v S1 H1 k s1 W1 h5⟩)
end
end DL
namespace Tw
open PySem PySem.Spec PyProof.Rows L2 LamX DL
abbrev sTold : Stmt := top 27
def kinds3 : D := .lst [B true, B true, B false]
/-- which errors are told how -/
structure ErrS (K : PySem.W.Frag) (mg : Str → Option Value) (CB CU CT CM : Addr) : Prop where
  mB : mg "BadSize" = some (.ref CB)
  mU : mg "UnknownCase" = some (.ref CU)
  mT : mg "ThinwallError" = some (.ref CT)
  mM : mg "SizeMismatch" = some (.ref CM)
  mV : mg "ValueError" = none
  bb : PySem.W.exmOne K (.ref CB) (.ref CB) = some true
  ub : PySem.W.exmOne K (.ref CU) (.ref CB) = some false
  uu : PySem.W.exmOne K (.ref CU) (.ref CU) = some true
  eB : L2.ExcC K CB
  eU : L2.ExcC K CU
  xB : XfC K CB
  xU : XfC K CU
  nB : PySem.W.findIn K (.ref CB) "size" = some none
  nU : PySem.W.findIn K (.ref CU) "case" = some none
  kBT : PySem.W.kitOne K (.ref CB) (.ref CT) = some true
  kBV : PySem.W.kitOne K (.ref CB) (.type "ValueError") = some true
  kBU : PySem.W.kitOne K (.ref CB) (.ref CU) = some false
  kUT : PySem.W.kitOne K (.ref CU) (.ref CT) = some true
  kUV : PySem.W.kitOne K (.ref CU) (.type "ValueError") = some true
  kUM : PySem.W.kitOne K (.ref CU) (.ref CM) = some false
def ToldX (K : PySem.W.Frag) (T : List (Addr × Str)) (CB CU : Addr) (Q : VK) : XK := fun cls d H' => ∃ (C : Addr) (f nm : Str) (x : D) (w' : Wp) (S' F' : Hp) (dd : Addr), cls = .ref C ∧ d = some dd ∧ World K T S' w' F' H' ∧ XdR K S' dd [f] [x] ∧
  ((C = CB ∧ f = "size" ∧ nm = "BadSize") ∨ (C = CU ∧ f = "case" ∧ nm = "UnknownCase")) ∧ KD K T (fun d w2 => d = .lst [DL.T nm, x, kinds3] ∧ w2 = w') S' F' Q
def ToldV (K : PySem.W.Frag) (T : List (Addr × Str)) (Q : VK) : Hp → Prop := fun H' => ∃ (w' : Wp) (S' F' : Hp), World K T S' w' F' H' ∧ KD K T (fun d w2 => d = .lst [DL.T "no error"] ∧ w2 = w') S' F' Q
def TTold3 (K : PySem.W.Frag) (T : List (Addr × Str)) (CB CU : Addr) : (XK → Hp → VK → Prop) → Hp → VK → Prop := fun tl H Q => tl (ToldX K T CB CU Q) H fun _ H' => ToldV K T Q H'
theorem bt_ve : bootBuiltins "ValueError" = some (.type "ValueError") := by decide +kernel
theorem scTold : FnScope ["action", "e", "kinds"] ["action"] (defScope sTold) := ⟨rfl, rfl, rfl, by decide +kernel, rfl, by decide +kernel, by decide +kernel⟩
theorem rel_ref {C : Addr} : ∀ u, RelV (V.ref C) u → u = Value.ref C := fun u h => h
theorem rel_ty {n : String} : ∀ u, RelV (V.ty n) u → u = Value.type n := fun u h => h
/-- a suite's weakest reading -/
def tsW (X : Cx) (sts : List Stmt) : TSx := fun a cls d D σ H => ∀ (oe : Obj) (pn : List (Addr × Obj)), Zc cls d oe → (∃ vs, oe.data = .fields vs) → wpSs (X.suite a ((a, oe) :: pn)) sts D σ H
theorem su_wp {X : Cx} {sts : List Stmt} (a : Addr) (oe : Obj) (cls : Value) (d : Option Addr) (pn : List (Addr × Obj)) (hz : Zc cls d oe) (hf : ∃ vs, oe.data = .fields vs) : PSs (X.suite a ((a, oe) :: pn)) sts (tsW X sts a cls d) := ⟨fun pins s _ _ _ I h => h oe pn hz hf pins s I⟩
section
variable {X : Cx} {T : List (Addr × Str)} {CB CU CT CM : Addr}
theorem told_gives3 {g : Addr} {cdg : Value} {q : Str} (hm : Nm2 X.mg) (er : ErrS X.K X.mg CB CU CT CM) : GivesTo X ["action", "e", "kinds"] "_law_told" (defScope sTold) g cdg (defBody sTold) "action" q (TTold3 X.K T CB CU) := by
  intro f c' s H Q tl act hc h
  have nd := scTold.nd
  let Z : Cx := (cxOf C8.CX0 X.prog X.w X.K X.mg X.base ["action", "e", "kinds"] "_law_told" (defScope sTold) g cdg X.A X.stack s H C8.E0).nox
  refine ⟨_, pss_cons (ps_try_mix (X := Z) rfl rfl nd L2.takes0 (tb := fun W D σ H1 => (∀ cls d σ' H', ToldX X.K T CB CU Q cls d H' → W cls d σ' H') ∧ σ[0]? = some (some (.ref f)) ∧ H1 c' = some (CodeO c' q) ∧
      tl (ToldX X.K T CB CU Q) H1 (fun _ H' => ToldV X.K T Q H') ∧ ∀ σ' H', σ' = σ → ToldV X.K T Q H' → D.nx σ' H') (fun W pn xe tk _ => ?_)
    (.named (i := 1) ⟨rfl, by decide, .inl er.mB⟩ rfl rfl su_wp (.named (i := 1) ⟨rfl, by decide, .inl er.mU⟩ rfl rfl su_wp (.bare ⟨rfl, by decide, .inl er.mT⟩ su_wp .none)))) (pss_wp _), ?_⟩
  · refine ⟨fun pins s' σ H1 D I h' => ?_⟩
    obtain ⟨h1, h2, h3, h4, h5⟩ := h'
    have hp := fun p1 p2 p3 => pss_one (ps_expr (pos := p3) (act W pn xe (ToldX X.K T CB CU Q) p1 p2 tk h1) (by rfl))
    have ee : (fun (_ : V) (H' : Hp) => (σ = σ ∧ ToldV X.K T Q H' : Prop)) = fun _ H' => ToldV X.K T Q H' := by
      funext _ H'
      exact propext ⟨fun z => z.2, fun z => ⟨rfl, z⟩⟩
    refine wpAny_mono ((hp _ _ _).run pins s' σ H1 { D with nx := fun σ' H' => σ' = σ ∧ ToldV X.K T Q H' } I ⟨h2, h3, by rw [← ee] at h4; exact h4⟩) (fun fl t z => ?_) fun _ _ z => z
    cases fl with
    | next =>
      obtain ⟨σ', H', J, z1, z2⟩ := z
      exact ⟨σ', H', J, h5 σ' H' z1 z2⟩
    | brk => exact z
    | cont => exact z
    | ret u => exact z
  · refine ⟨fun cls d σ' H' hx hl => ?_, rfl, hc, h, fun σ' H' es hv => ?_⟩
    · obtain ⟨C, fN, nm, x, w', S', F', dd, rfl, rfl, W', xr, hcase, kd⟩ := hx
      have len3 : σ'.length = 3 := hl
      have envE : ∀ a : Addr, EnvD X.K S' [none, some (.exc a dd [fN] [x]), none] (σ'.set 1 (some (.ref a))) := fun a => by
        refine ⟨by rw [List.length_set]; exact len3.symm, fun i d hd => ?_⟩
        match i, hd with
        | 1, hd =>
          cases hd
          obtain ⟨ys, e1, e2, e3⟩ := xr
          exact ⟨.ref a, List.getElem?_set_self (by omega), ys, rfl, e1, e2, e3⟩
        | n + 3, hd => simp at hd
      rcases hcase with ⟨rfl, rfl, rfl⟩ | ⟨rfl, rfl, rfl⟩
      · refine ⟨true, er.bb, fun _ a na oe pn hz hf => ?_, (fun z => by cases z)⟩
        refine (?_ : PSsD (Z.suite a ((a, oe) :: pn)) T Wf noX _ [none, some (.exc a dd ["size"] [x]), none] w' { nx := fun _ _ => False, rt := fun d w2 => d = .lst [DL.T "BadSize", x, kinds3] ∧ w2 = w' }) F' _ S' H' _ (envE a) W' exsf ⟨fun _ _ _ _ _ z => z.elim, kd, fun _ _ _ _ _ z => z.elim, fun _ _ _ _ _ z => z.elim⟩
        refine pssd_cons (psd_set (i := 2) nd rfl ?_)
        refine pd_lst ?_
        (refine pad_cons ?_; refine pd_callB (call_isX er.eB hz hf) rfl hm.isinstance PyProof.Rows.boot_isinstance ?_; refine pad_cons ?_; refine pd_var (i := 1) rfl rfl ?_; refine pad_cons ?_; refine (pd_glob (v := .ref CT) (by exact er.mT) rfl) ?_; refine pad_nil ?_; refine va_isX (by first | exact rel_ref | exact rel_ty) er.kBT ?_)
        (refine pad_cons ?_; refine pd_callB (call_isX er.eB hz hf) rfl hm.isinstance PyProof.Rows.boot_isinstance ?_; refine pad_cons ?_; refine pd_var (i := 1) rfl rfl ?_; refine pad_cons ?_; refine (pd_bltn (v := .ty "ValueError") (by exact er.mV) bt_ve rfl) ?_; refine pad_nil ?_; refine va_isX (by first | exact rel_ref | exact rel_ty) er.kBV ?_)
        (refine pad_cons ?_; refine pd_callB (call_isX er.eB hz hf) rfl hm.isinstance PyProof.Rows.boot_isinstance ?_; refine pad_cons ?_; refine pd_var (i := 1) rfl rfl ?_; refine pad_cons ?_; refine (pd_glob (v := .ref CU) (by exact er.mU) rfl) ?_; refine pad_nil ?_; refine va_isX (by first | exact rel_ref | exact rel_ty) er.kBU ?_)
        refine pad_nil ⟨by decide, ?_⟩
        refine pssd_one (psd_ret ?_)
        refine pd_lst ?_
        refine pad_cons ?_
        refine pd_str ?_
        refine pad_cons ?_
        refine pd_xf (ns := ["size"]) (ds := [x]) er.xB er.nB hz hf ?_
        refine pd_var (i := 1) rfl rfl ?_
        refine ⟨rfl, x, rfl, ?_⟩
        refine pad_cons ?_
        refine pd_var (i := 2) rfl rfl ?_
        exact pad_nil ⟨by show 3 ≤ sizeLine; decide, rfl, rfl⟩
      · refine ⟨false, er.ub, (fun z => by cases z), fun _ => ⟨true, er.uu, fun _ a na oe pn hz hf => ?_, (fun z => by cases z)⟩⟩
        refine (?_ : PSsD (Z.suite a ((a, oe) :: pn)) T Wf noX _ [none, some (.exc a dd ["case"] [x]), none] w' { nx := fun _ _ => False, rt := fun d w2 => d = .lst [DL.T "UnknownCase", x, kinds3] ∧ w2 = w' }) F' _ S' H' _ (envE a) W' exsf ⟨fun _ _ _ _ _ z => z.elim, kd, fun _ _ _ _ _ z => z.elim, fun _ _ _ _ _ z => z.elim⟩
        refine pssd_cons (psd_set (i := 2) nd rfl ?_)
        refine pd_lst ?_
        (refine pad_cons ?_; refine pd_callB (call_isX er.eU hz hf) rfl hm.isinstance PyProof.Rows.boot_isinstance ?_; refine pad_cons ?_; refine pd_var (i := 1) rfl rfl ?_; refine pad_cons ?_; refine (pd_glob (v := .ref CT) (by exact er.mT) rfl) ?_; refine pad_nil ?_; refine va_isX (by first | exact rel_ref | exact rel_ty) er.kUT ?_)
        (refine pad_cons ?_; refine pd_callB (call_isX er.eU hz hf) rfl hm.isinstance PyProof.Rows.boot_isinstance ?_; refine pad_cons ?_; refine pd_var (i := 1) rfl rfl ?_; refine pad_cons ?_; refine (pd_bltn (v := .ty "ValueError") (by exact er.mV) bt_ve rfl) ?_; refine pad_nil ?_; refine va_isX (by first | exact rel_ref | exact rel_ty) er.kUV ?_)
        (refine pad_cons ?_; refine pd_callB (call_isX er.eU hz hf) rfl hm.isinstance PyProof.Rows.boot_isinstance ?_; refine pad_cons ?_; refine pd_var (i := 1) rfl rfl ?_; refine pad_cons ?_; refine (pd_glob (v := .ref CM) (by exact er.mM) rfl) ?_; refine pad_nil ?_; refine va_isX (by first | exact rel_ref | exact rel_ty) er.kUM ?_)
        refine pad_nil ⟨by decide, ?_⟩
        refine pssd_one (psd_ret ?_)
        refine pd_lst ?_
        refine pad_cons ?_
        refine pd_str ?_
        refine pad_cons ?_
        refine pd_xf (ns := ["case"]) (ds := [x]) er.xU er.nU hz hf ?_
        refine pd_var (i := 1) rfl rfl ?_
        refine ⟨rfl, x, rfl, ?_⟩
        refine pad_cons ?_
        refine pd_var (i := 2) rfl rfl ?_
        exact pad_nil ⟨by show 3 ≤ sizeLine; decide, rfl, rfl⟩
    · obtain ⟨w', S', F', W', kd⟩ := hv
      subst es
      refine (?_ : PSsD Z T Wf noX _ (startD ["action", "e", "kinds"] [R f]) w' { nx := fun _ _ => False, rt := fun d w2 => d = .lst [DL.T "no error"] ∧ w2 = w' }) F' _ S' H' _ (env_start (RepL.one rfl)) W' exsf ⟨fun _ _ _ _ _ z => z.elim, kd, fun _ _ _ _ _ z => z.elim, fun _ _ _ _ _ z => z.elim⟩
      refine pssd_one (psd_ret ?_)
      refine pd_lst ?_
      refine pad_cons ?_
      refine pd_str ?_
      exact pad_nil ⟨by decide, rfl, rfl⟩
end
end Tw

set_option Elab.async false
set_option linter.all false
set_option maxRecDepth 100000
set_option maxHeartbeats 2000000
namespace DL
open PySem PySem.Spec PyProof.Rows L2 LamX
/-- as Fun, its code object named -/
structure FunC (K : PySem.W.Frag) (x qual : Str) (st : Stmt) (f : Addr) (fd : FuncData) (cdv : Value) : Prop where
  ex : ∃ (oc : Value) (od : Option Addr) (kV doc pm : Value) (an : Option Addr) (ct : Value) (osl : Array (Option Value)),
    fd = PySem.W.fnOf x qual (defArgs st) (defBody st) (defScope st) .none kV doc pm an cdv ct ∧ K.lookup f = some ⟨oc, od, .func fd, osl⟩ ∧ PySem.W.codeIn K cdv qual = true
  kp : PySem.W.keepIn K (.ref f) = true
section
variable {P : Program} {w : PySem.World} {K : PySem.W.Frag} {mg : Str → Option Value} {base : Heap} {T : List (Addr × Str)}
theorem FunC.fun {x qual : Str} {st : Stmt} {f : Addr} {fd : FuncData} {cdv : Value} (G : FunC K x qual st f fd cdv) : Fun K x qual st f fd := by
  obtain ⟨oc, od, kV, doc, pm, an, ct, osl, h1, h2, h3⟩ := G.ex
  exact ⟨⟨oc, od, kV, doc, pm, an, cdv, ct, osl, h1, h2, h3⟩, G.kp⟩
/-- a def that lets no error out, its code object known -/
theorem fnDc {x qual : Str} {st : Stmt} {f : Addr} {fd : FuncData} {N ps : List Str} {k : Nat} {sp : SpD} {cdv : Value} (G : FunC K x qual st f fd cdv) (S : FnScope N ps (defScope st)) (len : ∀ ds w κ χ, sp ds w κ χ → ds.length = ps.length)
    (body : ∀ (A : Around) (outer : List Env) (s : Shared) (H : Hp) (E : XK) (ds : List D) (w0 : Wp) (κ : D → Wp → Prop) (χ : XD), Room k (A.deeper (envOfC qual (defScope st) s.heap.objs.size f cdv)) → sp ds w0 κ χ →
      PSsD (cxOf CX0 P w K mg base N qual (defScope st) f cdv A outer s H E).nox T Wf noX (defBody st) (startD N ds) w0 { nx := fun _ w' => κ DL.N w', rt := κ }) : FnOk P w K mg base CX0 (k + 1) f fd ps (spOf K T sp) := by
  obtain ⟨oc, od, kV, doc, pm, an, ct, osl, rfl, lk, hcd⟩ := G.ex
  refine fn_of lk hcd S (fun vs H Q E h => ?_) fun A outer s H vs Q E hr h => ?_
  · obtain ⟨ds, w0, F, S0, κ, χ, h1, h2, _⟩ := h
    rw [h2.length]
    exact len _ _ _ _ h1
  · obtain ⟨ds, w0, F, S0, κ, χ, h1, h2, h3, h4, h5⟩ := h
    refine ⟨_, (pss_wp _).nox, ?_⟩
    exact body A outer s H E ds w0 κ χ hr h1 F _ S0 H _ (env_start h2) h3 exsf ⟨fun δ' w' σ' S' H' k s1 hE W1 => h4 _ w' _ S' H' k s1 W1 rfl, h4, fun _ _ _ _ _ z => z.elim, fun _ _ _ _ _ z => z.elim⟩
end
theorem takesL {X : Cx} {A : Around} {outer : List Env} {s : Shared} {H : Hp} {E : XK} {scope : Scope} {f c' : Addr} : Takes (lamCx X A outer s H E scope f c') (fun cls d _ H => E cls d H) := takes_of rfl rfl rfl rfl
theorem passL2 {X : Cx} {A : Around} {outer : List Env} {s : Shared} {H : Hp} {E : XK} {scope : Scope} {f c' : Addr} (σ : L2.St) : PassesAt (L2.CX X.prog X.w) (lamCx X A outer s H E scope f c') σ (WE (fun cls d _ H => E cls d H) σ) := passAt takesL σ
end DL
namespace Tw
open PySem PySem.Spec PyProof.Rows L2 LamX DL
/-- what a lambda's maker has -/
structure LamM (X : Cx) (T : List (Addr × Str)) : Prop where
  ex : ∃ c Pt, TabB X.base X.mg c Pt ∧ X.env.code = .ref c ∧ (Pt, X.env.qual ++ "<lambda>") ∈ T ∧ ∀ p ∈ T, p.1 = Pt → p.2 = X.env.qual ++ "<lambda>"
/-- _law_told stands -/
structure ToldOk (K : PySem.W.Frag) (mg : Str → Option Value) : Prop where
  ex : ∃ g fd, Fun K "_law_told" "_law_told" sTold g fd ∧ mg "_law_told" = some (.ref g) ∧ L2.Binds K fd ["action"] []
section
variable {X : Cx} {T : List (Addr × Str)} {W : WX} {χ : XD} {δ : Dn} {w : Wp} {pos : Pos} {CB CU CT CM : Addr}
def XTold (CB CU : Addr) (κ : D → Wp → Prop) : XD := fun C ns ds w1 => ∃ (f nm : Str) (x : D), ns = [f] ∧ ds = [x] ∧ ((C = CB ∧ f = "size" ∧ nm = "BadSize") ∨ (C = CU ∧ f = "case" ∧ nm = "UnknownCase")) ∧ κ (.lst [DL.T nm, x, kinds3]) w1
theorem pd_told {k : Nat} {params : Arguments} {body : Expr} {scope : Scope} {p lpos : Pos} {κ : D → Wp → Prop} (hm : Nm2 X.mg) (er : ErrS X.K X.mg CB CU CT CM) (G : ToldOk X.K X.mg) (LM : LamM X T) (hr : Room (k + 2) X.A) (L : LamS X.env.scope scope)
    (hB : ∀ (A : Around) (outer : List Env) (s : Shared) (H : Hp) (E : XK) (f c' : Addr), Room k (A.deeper (lamEnv X scope s.heap.objs.size f c')) →
      PD (lamCx X A outer s H E scope f c') T (fun cls d _ H => E cls d H) (XTold CB CU κ) body δ w fun _ w1 => κ (.lst [DL.T "no error"]) w1)
    (hg : Gl X "_law_told" := by rfl) (hdef : defaultsOf params X.env = ([], []) := by rfl)
    (hbind : ∀ (q : Str) (cl : List (Str × Addr)) (pm cv ctv : Value), bindArgs (PySem.W.kla_fn "<lambda>" q params body scope cl pm cv ctv) ⟨[], []⟩ = pure [] := by intros; rfl) :
    PD X T W χ (.Call (.Name "_law_told" p) [.Lambda params body scope lpos] [] pos) δ w κ := by
  obtain ⟨c, Pt, TB, hcode, hmT, hu⟩ := LM.ex
  obtain ⟨g, fd, ⟨⟨oc, od, kV, doc, pm, an, cdv, ct, osl, rfl, lk, hcd⟩, kp⟩, hmg, hb⟩ := G.ex
  intro F σ S H Q hE hW hX hK
  refine wp_pe (pe_lamcall (t := fun E σ H Q => ∀ A outer s H0 f c', Room k (A.deeper (lamEnv X scope s.heap.objs.size f c')) → wpE (lamCx X A outer s H0 E scope f c') body σ H Q) hg hmg kp lk hcd hb scTold rfl (by first | exact Or.inl rfl | exact Or.inr (Or.inl rfl) | exact Or.inr (Or.inr rfl))
    (told_gives3 (T := T) hm er) TB hcode hmT hu hr L hdef hbind (fun A outer s H E f c' hr' => ⟨fun pins s1 σ H1 Q I h => h A outer s H f c' hr' pins s1 I⟩)) ?_
  refine ⟨hW.tabs, fun H1 ext T1 => ?_⟩
  intro A outer s H0 f c' hr'
  refine hB A outer s H0 _ f c' hr' F σ S H1 _ hE (hW.more ext T1) ?_ ?_
  · rintro C ns ds w' d S' H' ⟨fN, nm, x, rfl, rfl, hc, kk⟩ s1 W1 xr
    refine ⟨C, fN, nm, x, w', S', F, d, rfl, rfl, W1, xr, hc, ?_⟩
    rintro d2 w2 v S2 H2 ⟨rfl, rfl⟩ s2 W2 r
    exact hK _ _ v S2 H2 kk (s1.trans s2) W2 r
  · intro d w' v S' H' kk s1 W1 r
    refine ⟨w', S', F, W1, ?_⟩
    rintro d2 w2 v S2 H2 ⟨rfl, rfl⟩ s2 W2 r
    exact hK _ _ v S2 H2 kk (s1.trans s2) W2 r
end
end Tw

set_option Elab.async false
set_option linter.all false
set_option maxRecDepth 100000
set_option maxHeartbeats 2000000
namespace DL
open PySem PySem.Spec PyProof.Rows L2 LamX
section
variable {X : Cx} {T : List (Addr × Str)} {W : WX} {χ : XD} {δ : Dn} {w : Wp} {pos : Pos}
theorem rg_ups {K : PySem.W.Frag} {S : Hp} (n : Nat) : RepL K S (ups n) (rgV 0 n) := by
  have e : rgV 0 (n : Int) = (List.range n).map fun (k : Nat) => V.int (k : Int) := by
    unfold rgV
    rw [Int.sub_zero, Int.toNat_natCast]
    refine List.map_congr_left fun k _ => ?_
    rw [Int.zero_add]
  rw [e]
  have h : ∀ l : List Nat, RepL K S (l.map fun (k : Nat) => I (k : Int)) (l.map fun (k : Nat) => V.int (k : Int)) := by
    intro l
    induction l with
    | nil => rfl
    | cons a l ih => exact ⟨V.int a, _, rfl, rfl, ih⟩
  exact h _
/-- list(range(n)) -/
theorem pd_listRg {e : Expr} {p p2 pos2 : Pos} {κ : D → Wp → Prop} (hc : X.calm = true) (hmL : X.mg "list" = none) (hmR : X.mg "range" = none) (h : PD X T W χ e δ w fun d w1 => ∃ n : Nat, d = I (n : Int) ∧ n ≤ 1000 ∧ κ (.lst (ups n)) w1)
    (hg1 : Gl X "list" := by rfl) (hg2 : Gl X "range" := by rfl) (na : starEach [e] X.env = (false, eval e X.env) :: starEach [] X.env := by rfl)
    (nb : starEach [.Call (.Name "range" p2) [e] [] pos2] X.env = (false, eval (.Call (.Name "range" p2) [e] [] pos2) X.env) :: starEach [] X.env := by rfl) : PD X T W χ (.Call (.Name "list" p) [.Call (.Name "range" p2) [e] [] pos2] [] pos) δ w κ := by
  intro F σ S H Q hE hW hX hK
  refine wp_pe (pe_listRg hc hg1 hmL (prg_1 hg2 hmR (pe_wp e) na) nb) ?_
  refine h F σ S H _ hE hW hX fun d w1 v S1 H1 k s1 W1 r => ?_
  obtain ⟨n, rfl, hn, k⟩ := k
  refine ⟨n, r, RgOk.of_le (by omega) (by omega) (by omega) (by omega), fun q hq => ?_⟩
  have s2 : Same S1 (upd S1 q (.lst (rgV 0 n))) := same_upd (W1.free hq).1
  exact hK _ w1 _ _ _ k (s1.trans s2) (W1.laid hq fun _ z => by cases z) ⟨q, _, rfl, upd_same, rg_ups n⟩
end
end DL
namespace Tw
open PySem PySem.Spec PyProof.Rows L2 LamX DL
abbrev sRefused : Stmt := top 28
def spRefused (C : Addr) : SpD := fun ds w κ χ => ∃ a r b lo, ds = [R a, spl C lo, I (lo.length : Int)] ∧ BagAt w a r b ∧ 1 ≤ lo.length ∧ lo.length ≤ 12 ∧ ∀ b', κ (B true) (bagPut w a r b')
theorem sm_kinds {n : Nat} : Sm (n + 1) kinds3 kinds3 := Sm.cons (.bl _) (Sm.cons (.bl _) (Sm.cons (.bl _) Sm.nil (by decide)) (by decide)) (by decide)
theorem sm_err {nm : Str} {x : Int} : Sm 2 (.lst [DL.T nm, I x, kinds3]) (.lst [DL.T nm, I x, kinds3]) := Sm.cons (.str _) (Sm.cons (.int _) (Sm.cons sm_kinds Sm.nil (by decide)) (by show 2 ≤ sizeLine; decide)) (by show 3 ≤ sizeLine; decide)
theorem sm_no {nm : Str} : Sm 2 (.lst [DL.T nm]) (.lst [DL.T nm]) := Sm.cons (.str _) Sm.nil (by decide)
theorem le_line {n : Nat} (h : n ≤ 1000) : n ≤ sizeLine := Nat.le_of_lt (small1000 h)
theorem rep_flat (n : Nat) (x : Int) : (List.replicate n [I x]).flatten = (List.replicate n x).map I := by
  induction n with
  | zero => rfl
  | succ n ih =>
    rw [List.replicate_succ, List.replicate_succ, List.flatten_cons, ih]
    rfl
theorem ups_ints (n : Nat) : ups n = ((List.range n).map fun (k : Nat) => (k : Int)).map I := by
  unfold ups
  rw [List.map_map]
  rfl
section
variable {P : Program} {w : PySem.World} {K : PySem.W.Frag} {mg : Str → Option Value} {base : Heap} {T : List (Addr × Str)} {C CB CU CT CM : Addr}
theorem scRefused : FnScope ["bag", "split", "many", "far", "near", "beyond", "long", "asked", "kinds", "due"] ["bag", "split", "many"] (defScope sRefused) := ⟨rfl, rfl, rfl, by decide +kernel, rfl, by decide +kernel, by decide +kernel⟩
theorem ok_refused {f : Addr} {fd : FuncData} {cdv : Value} (G : FunC K "_law_refused" "_law_refused" sRefused f fd cdv) (hm : Nm2 mg) (c : SplC K C) (er : ErrS K mg CB CU CT CM) (tOk : ToldOk K mg)
    (lam : ∃ cc Pt, TabB base mg cc Pt ∧ cdv = .ref cc ∧ (Pt, (("_law_refused" : Str) ++ ".<locals>.") ++ "<lambda>") ∈ T ∧ ∀ p ∈ T, p.1 = Pt → p.2 = (("_law_refused" : Str) ++ ".<locals>.") ++ "<lambda>")
    (hT : HasF P w K mg base T CX0 "_law_take" 1 ["bag", "many"] spTake) (hF : HasF P w K mg base T CX0 "_law_far" 2 ["bag", "many"] spFar) (hS : HasF P w K mg base T CX0 "_law_same" 4 ["actual", "due"] (spSame 3))
    (hC : HasM P w K mg base T (L2.CX P w) C "cell" 4 ["self", "case"] (spCell C CU)) (hTg : HasM P w K mg base T (L2.CX P w) C "together" 4 ["self", "first", "second"] (spTog C CU))
    (hMk : HasMk P w K mg base T (L2.CX P w) "Split" C 4 ["self", "marks"] (spInit C CB)) :
    FnOk P w K mg base CX0 9 f fd ["bag", "split", "many"] (spOf K T (spRefused C)) := by
  refine fnDc G scRefused (fun ds w κ χ h => ?_) (fun A outer s H E ds w0 κ χ hr h => ?_)
  · obtain ⟨a, r, b, lo, rfl, _⟩ := h
    rfl
  obtain ⟨a, r, b, lo, rfl, hb, hl1, hl2, k⟩ := h
  have nd := scRefused.nd
  have LM : LamM (cxOf CX0 P w K mg base ["bag", "split", "many", "far", "near", "beyond", "long", "asked", "kinds", "due"] "_law_refused" (defScope sRefused) f cdv A outer s H E).nox T := by
    obtain ⟨cc, Pt, h1, h2, h3, h4⟩ := lam
    exact ⟨cc, Pt, h1, h2, h3, h4⟩
  -- far
  refine pssd_cons (psd_set (i := 3) nd rfl ?_)
  refine pd_has hF (hr.mono (by decide)) (fun _ => pass0At) ?_
  refine pad_cons ?_
  refine pd_var (i := 0) rfl rfl ?_
  refine pad_cons ?_
  refine pd_var (i := 2) rfl rfl ?_
  refine pad_nil ?_
  refine ⟨a, r, b, _, rfl, hb, by omega, by omega, fun far b1 hfar lfar => ?_⟩
  have hb1 := bag_put (w := w0) (b := b1) hb.ne
  -- near
  refine pssd_cons (psd_set (i := 4) nd rfl ?_)
  refine pd_take hT (hr.mono (by decide)) (i := 0) rfl rfl hb1 ?_
  refine pd_var (i := 2) rfl rfl ?_
  refine ⟨rfl, _, rfl, by omega, Nat.lt_trans (log_of (Nat.lt_of_lt_of_le (by omega : _ < 2000) (by decide))) (by decide), fun near b2 n0 n1 => ?_⟩
  rw [bag_put2 hb.ne]
  have hb2 := bag_put (w := w0) (b := b2) hb.ne
  -- beyond
  refine pssd_cons (psd_set (i := 5) nd rfl ?_)
  refine pd_has hF (hr.mono (by decide)) (fun _ => pass0At) ?_
  refine pad_cons ?_
  refine pd_var (i := 0) rfl rfl ?_
  refine pad_cons ?_
  refine pd_var (i := 2) rfl rfl ?_
  refine pad_nil ?_
  refine ⟨a, r, b2, _, rfl, hb2, by omega, by omega, fun bey b3 hbey lbey => ?_⟩
  rw [bag_put2 hb.ne]
  have hb3 := bag_put (w := w0) (b := b3) hb.ne
  -- long
  refine pssd_cons (psd_set (i := 6) nd rfl ?_)
  refine pd_op op_add ?_
  refine pd_int ?_
  refine pd_take hT (hr.mono (by decide)) (i := 0) rfl rfl hb3 ?_
  refine pd_int ?_
  refine ⟨rfl, _, rfl, by decide, by decide, fun lg b4 g0 g1 => ?_⟩
  rw [bag_put2 hb.ne]
  refine vr_I ?_
  obtain ⟨ln, hln⟩ : ∃ n : Nat, 13 + lg = (n : Int) := ⟨(13 + lg).toNat, by omega⟩
  rw [hln]
  generalize hwB : bagPut w0 a r b4 = wB
  have kB : κ (B true) wB := by
    rw [← hwB]
    exact k b4
  -- asked = []
  refine pssd_cons (psd_set (i := 7) nd rfl ?_)
  refine pd_lstO ?_
  refine pad_nil ⟨Nat.zero_le _, fun q hq => ?_⟩
  have nfar : ¬ InR far (lo.length : Int) := fun z => by
    obtain ⟨z1, z2⟩ := z
    omega
  have inear : InR near (lo.length : Int) := ⟨n0, n1⟩
  -- split.cell(far)
  (refine pssd_cons (psd_expr ?_); refine pd_bm PySem.F.plainAttrs_list PySem.F.slot_list_append PySem.F.type_list_append mt_append ?_; refine pd_var (i := 7) rfl rfl ?_; refine ⟨⟨rfl, _, wu_same⟩, ?_⟩; refine pad_cons ?_; refine pd_told (k := 5) hm er tOk LM (hr.mono (by decide)) (lamS_by rfl) (fun _ _ _ _ _ _ _ hr' => ?_))
  refine pd_hasm c.cl hC (hr'.mono (by decide)) passL2 ?_
  refine pd_var (i := 1) rfl rfl ?_
  refine ⟨ins_spl (by decide), ?_⟩
  refine pad_cons ?_
  refine pd_var (i := 3) rfl rfl ?_
  refine pad_nil ?_
  refine ⟨lo, far, rfl, hl2, fun z => absurd z nfar, fun _ => ⟨lfar, _, _, _, rfl, rfl, .inr ⟨rfl, rfl, rfl⟩, ?_⟩⟩
  (refine pad_nil ?_; refine vm_append wu_same (small1000 (by simp)) ?_; rw [wu_wu])
  -- split.together(far, near)
  (refine pssd_cons (psd_expr ?_); refine pd_bm PySem.F.plainAttrs_list PySem.F.slot_list_append PySem.F.type_list_append mt_append ?_; refine pd_var (i := 7) rfl rfl ?_; refine ⟨⟨rfl, _, wu_same⟩, ?_⟩; refine pad_cons ?_; refine pd_told (k := 5) hm er tOk LM (hr.mono (by decide)) (lamS_by rfl) (fun _ _ _ _ _ _ _ hr' => ?_))
  refine pd_hasm c.cl hTg (hr'.mono (by decide)) passL2 ?_
  refine pd_var (i := 1) rfl rfl ?_
  refine ⟨ins_spl (by decide), ?_⟩
  refine pad_cons ?_
  refine pd_var (i := 3) rfl rfl ?_
  refine pad_cons ?_
  refine pd_var (i := 4) rfl rfl ?_
  refine pad_nil ?_
  refine ⟨lo, far, near, rfl, hl2, fun z => absurd z nfar, fun _ => ⟨lfar, _, _, _, rfl, rfl, .inr ⟨rfl, rfl, rfl⟩, ?_⟩, fun z => absurd z nfar⟩
  (refine pad_nil ?_; refine vm_append wu_same (small1000 (by simp)) ?_; rw [wu_wu])
  -- split.together(near, far)
  (refine pssd_cons (psd_expr ?_); refine pd_bm PySem.F.plainAttrs_list PySem.F.slot_list_append PySem.F.type_list_append mt_append ?_; refine pd_var (i := 7) rfl rfl ?_; refine ⟨⟨rfl, _, wu_same⟩, ?_⟩; refine pad_cons ?_; refine pd_told (k := 5) hm er tOk LM (hr.mono (by decide)) (lamS_by rfl) (fun _ _ _ _ _ _ _ hr' => ?_))
  refine pd_hasm c.cl hTg (hr'.mono (by decide)) passL2 ?_
  refine pd_var (i := 1) rfl rfl ?_
  refine ⟨ins_spl (by decide), ?_⟩
  refine pad_cons ?_
  refine pd_var (i := 4) rfl rfl ?_
  refine pad_cons ?_
  refine pd_var (i := 3) rfl rfl ?_
  refine pad_nil ?_
  refine ⟨lo, near, far, rfl, hl2, fun _ z => absurd z nfar, fun z => absurd inear z, fun _ _ => ⟨lfar, _, _, _, rfl, rfl, .inr ⟨rfl, rfl, rfl⟩, ?_⟩⟩
  (refine pad_nil ?_; refine vm_append wu_same (small1000 (by simp)) ?_; rw [wu_wu])
  -- split.together(far, beyond)
  (refine pssd_cons (psd_expr ?_); refine pd_bm PySem.F.plainAttrs_list PySem.F.slot_list_append PySem.F.type_list_append mt_append ?_; refine pd_var (i := 7) rfl rfl ?_; refine ⟨⟨rfl, _, wu_same⟩, ?_⟩; refine pad_cons ?_; refine pd_told (k := 5) hm er tOk LM (hr.mono (by decide)) (lamS_by rfl) (fun _ _ _ _ _ _ _ hr' => ?_))
  refine pd_hasm c.cl hTg (hr'.mono (by decide)) passL2 ?_
  refine pd_var (i := 1) rfl rfl ?_
  refine ⟨ins_spl (by decide), ?_⟩
  refine pad_cons ?_
  refine pd_var (i := 3) rfl rfl ?_
  refine pad_cons ?_
  refine pd_var (i := 5) rfl rfl ?_
  refine pad_nil ?_
  refine ⟨lo, far, bey, rfl, hl2, fun z => absurd z nfar, fun _ => ⟨lfar, _, _, _, rfl, rfl, .inr ⟨rfl, rfl, rfl⟩, ?_⟩, fun z => absurd z nfar⟩
  (refine pad_nil ?_; refine vm_append wu_same (small1000 (by simp)) ?_; rw [wu_wu])
  -- Split([])
  (refine pssd_cons (psd_expr ?_); refine pd_bm PySem.F.plainAttrs_list PySem.F.slot_list_append PySem.F.type_list_append mt_append ?_; refine pd_var (i := 7) rfl rfl ?_; refine ⟨⟨rfl, _, wu_same⟩, ?_⟩; refine pad_cons ?_; refine pd_told (k := 5) hm er tOk LM (hr.mono (by decide)) (lamS_by rfl) (fun _ _ _ _ _ _ _ hr' => ?_))
  refine pd_hasmk hMk hr' passL2 ?_
  refine pad_cons ?_
  refine pd_lst ?_
  refine pad_nil ⟨Nat.zero_le _, ?_⟩
  refine pad_nil ?_
  intro a1 dx ha1
  refine ⟨a1, dx, _, [], rfl, wu_same, .inl rfl, by decide, fun z => absurd z (by decide), fun _ => ?_⟩
  show XTold CB CU _ CB ["size"] [_] (wd _ a1)
  rw [wd_wu ha1]
  refine ⟨_, _, _, rfl, rfl, .inl ⟨rfl, rfl, rfl⟩, ?_⟩
  clear ha1
  (refine pad_nil ?_; refine vm_append wu_same (small1000 (by simp)) ?_; rw [wu_wu])
  -- Split([near] * long)
  (refine pssd_cons (psd_expr ?_); refine pd_bm PySem.F.plainAttrs_list PySem.F.slot_list_append PySem.F.type_list_append mt_append ?_; refine pd_var (i := 7) rfl rfl ?_; refine ⟨⟨rfl, _, wu_same⟩, ?_⟩; refine pad_cons ?_; refine pd_told (k := 5) hm er tOk LM (hr.mono (by decide)) (lamS_by rfl) (fun _ _ _ _ _ _ _ hr' => ?_))
  refine pd_hasmk hMk hr' passL2 ?_
  refine pad_cons ?_
  refine pd_op op_rep ?_
  refine pd_lst ?_
  refine pad_cons ?_
  refine pd_var (i := 4) rfl rfl ?_
  refine pad_nil ⟨by show 1 ≤ sizeLine; decide, ?_⟩
  refine pd_var (i := 6) rfl rfl ?_
  refine vr_rep (n := ln) (by omega) (by rw [List.length_singleton]; exact le_line (by omega)) ?_
  rw [rep_flat]
  refine pad_nil ?_
  intro a1 dx ha1
  refine ⟨a1, dx, _, List.replicate ln near, rfl, wu_same, .inl rfl, by rw [List.length_replicate]; omega, fun z => absurd z (by rw [List.length_replicate]; omega), fun _ => ?_⟩
  show XTold CB CU _ CB ["size"] [_] (wd _ a1)
  rw [wd_wu ha1, List.length_replicate]
  refine ⟨_, _, _, rfl, rfl, .inl ⟨rfl, rfl, rfl⟩, ?_⟩
  clear ha1
  (refine pad_nil ?_; refine vm_append wu_same (small1000 (by simp)) ?_; rw [wu_wu])
  -- Split(list(range(long)))
  (refine pssd_cons (psd_expr ?_); refine pd_bm PySem.F.plainAttrs_list PySem.F.slot_list_append PySem.F.type_list_append mt_append ?_; refine pd_var (i := 7) rfl rfl ?_; refine ⟨⟨rfl, _, wu_same⟩, ?_⟩; refine pad_cons ?_; refine pd_told (k := 5) hm er tOk LM (hr.mono (by decide)) (lamS_by rfl) (fun _ _ _ _ _ _ _ hr' => ?_))
  refine pd_hasmk hMk hr' passL2 ?_
  refine pad_cons ?_
  refine pd_listRg rfl hm.list hm.range ?_
  refine pd_var (i := 6) rfl rfl ?_
  refine ⟨ln, rfl, by omega, ?_⟩
  rw [ups_ints]
  refine pad_nil ?_
  intro a1 dx ha1
  refine ⟨a1, dx, _, (List.range ln).map fun (k : Nat) => (k : Int), rfl, wu_same, .inl rfl, by rw [List.length_map, List.length_range]; omega, fun z => absurd z (by rw [List.length_map, List.length_range]; omega), fun _ => ?_⟩
  show XTold CB CU _ CB ["size"] [_] (wd _ a1)
  rw [wd_wu ha1, List.length_map, List.length_range]
  refine ⟨_, _, _, rfl, rfl, .inl ⟨rfl, rfl, rfl⟩, ?_⟩
  clear ha1
  (refine pad_nil ?_; refine vm_append wu_same (small1000 (by simp)) ?_; rw [wu_wu])
  -- split.cell(near)
  (refine pssd_cons (psd_expr ?_); refine pd_bm PySem.F.plainAttrs_list PySem.F.slot_list_append PySem.F.type_list_append mt_append ?_; refine pd_var (i := 7) rfl rfl ?_; refine ⟨⟨rfl, _, wu_same⟩, ?_⟩; refine pad_cons ?_; refine pd_told (k := 5) hm er tOk LM (hr.mono (by decide)) (lamS_by rfl) (fun _ _ _ _ _ _ _ hr' => ?_))
  refine pd_drop ?_
  refine pd_hasm c.cl hC (hr'.mono (by decide)) passL2 ?_
  refine pd_var (i := 1) rfl rfl ?_
  refine ⟨ins_spl (by decide), ?_⟩
  refine pad_cons ?_
  refine pd_var (i := 4) rfl rfl ?_
  refine pad_nil ?_
  refine ⟨lo, near, rfl, hl2, fun _ a1 ha1 => ⟨a1, ?_⟩, fun z => absurd inear z⟩
  rw [wd_wu ha1]
  clear ha1
  (refine pad_nil ?_; refine vm_append wu_same (small1000 (by simp)) ?_; rw [wu_wu])
  -- kinds
  refine pssd_cons (psd_set (i := 8) nd rfl ?_)
  refine pd_lst ?_
  refine pad_cons (pd_bl ?_)
  refine pad_cons (pd_bl ?_)
  refine pad_cons (pd_bl ?_)
  refine pad_nil ⟨by decide, ?_⟩
  -- due
  refine pssd_cons (psd_set (i := 9) nd rfl ?_)
  refine pd_lst ?_
  (refine pad_cons ?_; refine pd_lst ?_; refine pad_cons (pd_str ?_); refine pad_cons ?_; refine pd_var (i := 3) rfl rfl ?_; refine pad_cons ?_; refine pd_var (i := 8) rfl rfl ?_; refine pad_nil ⟨by show 3 ≤ sizeLine; decide, ?_⟩)
  (refine pad_cons ?_; refine pd_lst ?_; refine pad_cons (pd_str ?_); refine pad_cons ?_; refine pd_var (i := 3) rfl rfl ?_; refine pad_cons ?_; refine pd_var (i := 8) rfl rfl ?_; refine pad_nil ⟨by show 3 ≤ sizeLine; decide, ?_⟩)
  (refine pad_cons ?_; refine pd_lst ?_; refine pad_cons (pd_str ?_); refine pad_cons ?_; refine pd_var (i := 3) rfl rfl ?_; refine pad_cons ?_; refine pd_var (i := 8) rfl rfl ?_; refine pad_nil ⟨by show 3 ≤ sizeLine; decide, ?_⟩)
  refine pad_nil ⟨by show 3 ≤ sizeLine; decide, ?_⟩
  refine pssd_cons (psd_set (i := 9) nd rfl ?_)
  refine pd_op op_cat ?_
  refine pd_var (i := 9) rfl rfl ?_
  refine pd_lst ?_
  (refine pad_cons ?_; refine pd_lst ?_; refine pad_cons (pd_str ?_); refine pad_cons ?_; refine pd_var (i := 3) rfl rfl ?_; refine pad_cons ?_; refine pd_var (i := 8) rfl rfl ?_; refine pad_nil ⟨by show 3 ≤ sizeLine; decide, ?_⟩)
  refine pad_cons ?_
  refine pd_lst ?_
  refine pad_cons (pd_str ?_)
  refine pad_cons (pd_int ?_)
  refine pad_cons ?_
  refine pd_var (i := 8) rfl rfl ?_
  refine pad_nil ⟨by show 3 ≤ sizeLine; decide, ?_⟩
  (refine pad_cons ?_; refine pd_lst ?_; refine pad_cons (pd_str ?_); refine pad_cons ?_; refine pd_var (i := 6) rfl rfl ?_; refine pad_cons ?_; refine pd_var (i := 8) rfl rfl ?_; refine pad_nil ⟨by show 3 ≤ sizeLine; decide, ?_⟩)
  refine pad_nil ⟨by show 3 ≤ sizeLine; decide, ?_⟩
  refine vr_cat (by show 3 + 3 ≤ sizeLine; decide) ?_
  refine pssd_cons (psd_set (i := 9) nd rfl ?_)
  refine pd_op op_cat ?_
  refine pd_var (i := 9) rfl rfl ?_
  refine pd_lst ?_
  (refine pad_cons ?_; refine pd_lst ?_; refine pad_cons (pd_str ?_); refine pad_cons ?_; refine pd_var (i := 6) rfl rfl ?_; refine pad_cons ?_; refine pd_var (i := 8) rfl rfl ?_; refine pad_nil ⟨by show 3 ≤ sizeLine; decide, ?_⟩)
  refine pad_cons ?_
  refine pd_lst ?_
  refine pad_cons (pd_str ?_)
  refine pad_nil ⟨by decide, ?_⟩
  refine pad_nil ⟨by show 2 ≤ sizeLine; decide, ?_⟩
  refine vr_cat (by show 6 + 2 ≤ sizeLine; decide) ?_
  refine pssd_one (psd_ret (pd_drop ?_))
  refine pd_has hS (hr.mono (by decide)) (fun _ => pass0At) ?_
  refine pad_cons ?_
  refine pd_var (i := 7) rfl rfl ?_
  refine pad_cons ?_
  refine pd_var (i := 9) rfl rfl ?_
  refine pad_nil ?_
  refine ⟨_, _, rfl, .inr ⟨q, _, rfl, wu_same, ?_⟩, q, ?_⟩
  · exact Sm.cons sm_err (Sm.cons sm_err (Sm.cons sm_err (Sm.cons sm_err (Sm.cons sm_err (Sm.cons sm_err (Sm.cons sm_err (Sm.cons sm_no Sm.nil (by decide)) (le_line (Nat.le_of_ble_eq_true rfl))) (le_line (Nat.le_of_ble_eq_true rfl))) (le_line (Nat.le_of_ble_eq_true rfl))) (le_line (Nat.le_of_ble_eq_true rfl))) (le_line (Nat.le_of_ble_eq_true rfl))) (le_line (Nat.le_of_ble_eq_true rfl))) (le_line (Nat.le_of_ble_eq_true rfl))
  · rw [wd_wu hq]
    exact kB
end
end Tw

set_option Elab.async false
set_option linter.all false
set_option maxRecDepth 100000
set_option maxHeartbeats 2000000
namespace Tw
open PySem PySem.Spec PyProof.Rows L2 LamX DL
abbrev sLaw : Stmt := top 30
abbrev NL : List Str := ["script", "bag", "many", "pool", "marks", "low", "place", "bent", "base", "named", "sized", "held", "split", "other", "k", "mark"]
def spLaw : SpD := fun ds w κ χ => ∃ ns : List Int, ds = [.rd (ns.map I)] ∧ (∃ a r, w a = none ∧ w r = none ∧ a ≠ r) ∧ ∀ w', κ (B true) w'
theorem BagAt.own {w : Wp} {a r c : Addr} {b : Bag} {h : HD} (k : BagAt w a r b) (n : w c = none) : BagAt (wu w c h) a r b := by
  have n1 : a ≠ c := fun z => by rw [← z, k.at_] at n; cases n
  have n2 : r ≠ c := fun z => by rw [← z, k.row] at n; cases n
  exact ⟨by rw [wu_ne n1]; exact k.at_, by rw [wu_ne n2]; exact k.row, k.ne⟩
theorem bag_comm {w : Wp} {a r c : Addr} {b b' : Bag} {h : HD} (k : BagAt w a r b) (n : w c = none) : bagPut (wu w c h) a r b' = wu (bagPut w a r b') c h := by
  have n1 : a ≠ c := fun z => by rw [← z, k.at_] at n; cases n
  have n2 : r ≠ c := fun z => by rw [← z, k.row] at n; cases n
  unfold bagPut
  rw [wu_comm (Ne.symm n1), wu_comm (Ne.symm n2)]
theorem low0 {ms : List Int} (h : 1 ≤ ms.length) : (lowN ms)[0]? = some 0 := by
  cases ms with
  | nil => simp at h
  | cons x xs =>
    show some ((x :: xs).idxOf x) = some 0
    rw [List.idxOf_cons_self]
theorem sm_ints {n : Nat} {ns : List Int} (h : ns.length ≤ 1000) : Sm (n + 1) (.lst (ns.map I)) (.lst (ns.map I)) := Sm.map (le_line h) fun x _ => .int x
theorem sm_nats {n : Nat} {l : List Nat} (h : l.length ≤ 1000) : Sm (n + 1) (nats l) (nats l) := Sm.map (le_line h) fun x _ => .int x
theorem sm_due {lo : List Nat} (h : lo.length ≤ 1000) : Sm 3 (dueD lo) (dueD lo) := by
  have hc : ∀ m, (cellN lo m).length ≤ 1000 := fun m => Nat.le_trans (List.length_filter_le _ _) (by rw [List.length_range]; exact h)
  have hh : (heads lo).length ≤ 1000 := Nat.le_trans (List.length_filter_le _ _) (by rw [List.length_range]; exact h)
  have hr : (List.range lo.length).length ≤ 1000 := by rw [List.length_range]; exact h
  have s1 : Sm 2 (cellsD lo) (cellsD lo) := Sm.map (le_line hh) fun c _ => sm_nats (hc c)
  have s2 : Sm 2 (mineD lo) (mineD lo) := Sm.map (le_line hr) fun c _ => sm_nats (hc _)
  have s3 : Sm 2 (rowsD lo) (rowsD lo) := Sm.map (le_line hr) fun c _ => Sm.map (le_line hr) fun o _ => .bl _
  exact Sm.cons (.int _) (Sm.cons (.int _) (Sm.cons (sm_nats h) (Sm.cons s1 (Sm.cons s2 (Sm.cons s3 Sm.nil (le_line (Nat.le_of_ble_eq_true rfl))) (le_line (Nat.le_of_ble_eq_true rfl))) (le_line (Nat.le_of_ble_eq_true rfl))) (le_line (Nat.le_of_ble_eq_true rfl))) (le_line (Nat.le_of_ble_eq_true rfl))) (le_line (Nat.le_of_ble_eq_true rfl))
section
variable {P : Program} {w : PySem.World} {K : PySem.W.Frag} {mg : Str → Option Value} {base : Heap} {T : List (Addr × Str)} {C CB CU CT CM : Addr}
theorem scLaw : FnScope NL ["script"] (defScope sLaw) := ⟨rfl, rfl, rfl, by decide +kernel, rfl, by decide +kernel, by decide +kernel⟩
theorem bag_none {w : Wp} {a r c : Addr} {b b' : Bag} (h : bagPut w a r b c = none) : bagPut w a r b' c = none := by
  unfold bagPut at h ⊢
  by_cases e1 : c = r
  · rw [e1, wu_same] at h
    cases h
  · rw [wu_ne e1] at h ⊢
    by_cases e2 : c = a
    · rw [e2, wu_same] at h
      cases h
    · rw [wu_ne e2] at h ⊢
      exact h
theorem law_end {f : Addr} {cdv : Value} {A : Around} {outer : List Env} {s : Shared} {H : Hp} {E : XK} {κ : D → Wp → Prop} (hm : Nm2 mg) (hr : Room 10 (A.deeper (envOfC "law" (defScope sLaw) s.heap.objs.size f cdv)))
    (hS : ∀ n, HasF P w K mg base T CX0 "_law_same" (n + 1) ["actual", "due"] (spSame n)) (hL : HasF P w K mg base T CX0 "_law_low" 1 ["marks"] spLow) (hD : HasF P w K mg base T CX0 "_law_due" 2 ["low"] spDue)
    (hSh : HasF P w K mg base T CX0 "_law_shown" 8 ["split", "many"] (spShown C)) (hSp : HasF P w K mg base T CX0 "_law_spoil" 6 ["split", "place"] (spSpoil C)) (hR : HasF P w K mg base T CX0 "_law_refused" 9 ["bag", "split", "many"] (spRefused C))
    (hE : HasF P w K mg base T CX0 "_law_equal" 6 ["split", "low", "lists"] (spEqual C)) (hMk : HasMk P w K mg base T (L2.CX P w) "Split" C 4 ["self", "marks"] (spInit C CB))
    {w0 : Wp} {a r : Addr} {b : Bag} {d0 d3 d8 : D} {p : Nat} {ms bl nm sz : List Int} (ne : a ≠ r) (h1 : 1 ≤ ms.length) (h12 : ms.length ≤ 12) (hp : p < ms.length) (hbl : bl.length = ms.length) (hnm : nm.length = ms.length) (hsz1 : 1 ≤ sz.length) (hsz2 : sz.length ≤ 12) (k : ∀ w', κ (B true) w') :
    PSsD (cxOf CX0 P w K mg base NL "law" (defScope sLaw) f cdv A outer s H E).nox T Wf noX ((defBody sLaw).drop 13)
      [some d0, some (R a), some (I ((lowN ms).length : Int)), some d3, some (.lst (ms.map I)), some (nats (lowN ms)), some (I (p : Int)), some (.lst (bl.map I)), some d8, some (.lst (nm.map I)), some (.lst (sz.map I)), none, none, none, none, none]
      (bagPut w0 a r b) { nx := fun _ w' => κ DL.N w', rt := κ } := by
  have nd := scLaw.nd
  have hl : (lowN ms).length = ms.length := low_len ms
  have hlb : (lowN bl).length = (lowN ms).length := by rw [low_len, low_len, hbl]
  have z0 : (lowN ms)[0]? = some 0 := low0 h1
  have zb : (lowN bl)[0]? = some 0 := low0 (by omega)
  have l12 : (lowN ms).length ≤ 12 := by omega
  have lb12 : (lowN bl).length ≤ 12 := by omega
  -- held
  refine pssd_cons (psd_set (i := 11) nd rfl ?_)
  refine pd_callTy call_list_of rfl hm.list bt_list ?_
  refine pad_cons ?_
  refine pd_var (i := 4) rfl rfl ?_
  refine pad_nil ?_
  refine va_listO fun q hq => ?_
  -- split
  refine pssd_cons (psd_set (i := 12) nd rfl ?_)
  refine pd_hasmk hMk (hr.mono (by decide)) (fun _ => passLf) ?_
  refine pad_cons ?_
  refine pd_var (i := 11) rfl rfl ?_
  refine pad_nil ?_
  intro a1 dx ha1
  have n1 : q ≠ a1 := fun z => by rw [← z, wu_same] at ha1; cases ha1
  refine ⟨a1, dx, R q, ms, rfl, wu_same, .inr ⟨q, rfl, by rw [wu_ne n1]; exact wu_same⟩, by omega, fun _ => ⟨rfl, _, _, wu_same, ?_⟩, fun z => absurd ⟨h1, h12⟩ z⟩
  rw [wu_wu, wd_wu ha1]
  have eo : ∀ xs : List Int, D.obj C ["size", "_marks"] [I (xs.length : Int), nats (lowN xs)] = spl C (lowN xs) := fun xs => by
    unfold spl
    rw [low_len]
  rw [eo]
  clear ha1 n1
  -- first test
  refine pssd_cons (psd_if ?_)
  refine pwd_pt ?_
  refine pwd_or ?_
  refine ptd_not ?_
  refine ptd_val ?_
  refine pd_has (hS 1) (hr.mono (by decide)) (fun _ => pass0At) ?_
  refine pad_cons ?_
  refine pd_var (i := 11) rfl rfl ?_
  refine pad_cons ?_
  refine pd_var (i := 4) rfl rfl ?_
  refine pad_nil ?_
  refine ⟨_, _, rfl, .inr ⟨q, _, rfl, wu_same, sm_ints (by omega)⟩, ?_⟩
  refine ⟨_, rfl, ?_⟩
  refine iteF ?_
  refine pwd_or1 ?_
  refine ptd_not ?_
  refine ptd_val ?_
  refine pd_has (hS 3) (hr.mono (by decide)) (fun _ => pass0At) ?_
  (refine pad_cons ?_; refine pd_has hSh (hr.mono (by decide)) (fun _ => pass0At) ?_; refine pad_cons ?_; refine pd_var (i := 12) rfl rfl ?_; refine pad_cons ?_; refine pd_var (i := 2) rfl rfl ?_; refine pad_nil ?_; refine ⟨(lowN ms), rfl, z0, l12, ?_⟩)
  refine pad_cons ?_
  refine pd_has hD (hr.mono (by decide)) (fun _ => pass0At) ?_
  refine pad_cons ?_
  refine pd_var (i := 5) rfl rfl ?_
  refine pad_nil ?_
  refine ⟨lowN ms, rfl, by omega, ?_⟩
  refine pad_nil ?_
  refine ⟨_, _, rfl, .inl (sm_due (by omega)), ?_⟩
  refine ⟨_, rfl, ?_⟩
  refine iteF ?_
  refine pssd_nil ?_
  -- held is changed
  refine pssd_cons (psd_sub set_list ?_)
  refine pd_ix ix_list ?_
  refine pd_var (i := 4) rfl rfl ?_
  refine pd_op op_mod ?_
  refine pd_op op_add ?_
  refine pd_var (i := 6) rfl rfl ?_
  refine pd_int ?_
  refine vr_I ?_
  refine pd_var (i := 2) rfl rfl ?_
  refine vr_IC (by omega) ?_
  have ej : ((p : Int) + 1) % ((lowN ms).length : Int) = (((p + 1) % (lowN ms).length : Nat) : Int) := by first | (push_cast; rfl) | simp
  have hj : (p + 1) % (lowN ms).length < ms.length := by
    rw [← hl]
    exact Nat.mod_lt _ (by omega)
  rw [ej]
  refine vr_ixL (d := I ms[(p + 1) % (lowN ms).length]) (by rw [List.getElem?_map, List.getElem?_eq_getElem hj]; rfl) ?_
  refine pd_var (i := 11) rfl rfl ?_
  refine pd_var (i := 6) rfl rfl ?_
  refine vr_setO wu_same (by rw [List.length_map]; exact hp) ?_
  rw [wu_wu]
  refine pssd_cons (psd_expr ?_)
  refine pd_bm0 PySem.F.plainAttrs_list PySem.F.slot_list_reverse PySem.F.type_list_reverse mt_reverse ?_
  refine pd_var (i := 11) rfl rfl ?_
  refine ⟨⟨rfl, _, wu_same⟩, ?_⟩
  refine vm_reverse wu_same ?_
  rw [wu_wu]
  refine pssd_cons (psd_expr ?_)
  refine pd_bm PySem.F.plainAttrs_list PySem.F.slot_list_append PySem.F.type_list_append mt_append ?_
  refine pd_var (i := 11) rfl rfl ?_
  refine ⟨⟨rfl, _, wu_same⟩, ?_⟩
  refine pad_cons ?_
  refine pd_int ?_
  refine pad_nil ?_
  refine vm_append wu_same (by rw [List.length_reverse, List.length_set, List.length_map]; exact small1000 (by omega)) ?_
  rw [wu_wu]
  refine pssd_drop q ?_
  rw [wd_wu hq]
  -- other
  refine pssd_cons (psd_set (i := 13) nd rfl ?_)
  refine pd_hasmk hMk (hr.mono (by decide)) (fun _ => passLf) ?_
  refine pad_cons ?_
  refine pd_callTy call_list_of rfl hm.list bt_list ?_
  refine pad_cons ?_
  refine pd_var (i := 7) rfl rfl ?_
  refine pad_nil ?_
  refine va_listS ?_
  refine pad_nil ?_
  intro a1 dx ha1
  refine ⟨a1, dx, _, bl, rfl, wu_same, .inl rfl, by omega, fun _ => ⟨rfl, _, _, wu_same, ?_⟩, fun z => absurd ⟨by omega, by omega⟩ z⟩
  rw [wu_wu, wd_wu ha1, eo]
  clear ha1
  -- second test
  refine pssd_cons (psd_if ?_)
  refine ptd_not ?_
  refine ptd_val ?_
  refine pd_has (hS 3) (hr.mono (by decide)) (fun _ => pass0At) ?_
  (refine pad_cons ?_; refine pd_has hSh (hr.mono (by decide)) (fun _ => pass0At) ?_; refine pad_cons ?_; refine pd_var (i := 12) rfl rfl ?_; refine pad_cons ?_; refine pd_var (i := 2) rfl rfl ?_; refine pad_nil ?_; refine ⟨(lowN ms), rfl, z0, l12, ?_⟩)
  refine pad_cons ?_
  refine pd_has hD (hr.mono (by decide)) (fun _ => pass0At) ?_
  refine pad_cons ?_
  refine pd_var (i := 5) rfl rfl ?_
  refine pad_nil ?_
  refine ⟨lowN ms, rfl, by omega, ?_⟩
  refine pad_nil ?_
  refine ⟨_, _, rfl, .inl (sm_due (by omega)), ?_⟩
  refine ⟨_, rfl, ?_⟩
  refine iteF ?_
  refine pssd_nil ?_
  -- spoil
  refine pssd_cons (psd_expr ?_)
  refine pd_has hSp (hr.mono (by decide)) (fun _ => pass0At) ?_
  refine pad_cons ?_
  refine pd_var (i := 12) rfl rfl ?_
  refine pad_cons ?_
  refine pd_var (i := 6) rfl rfl ?_
  refine pad_nil ?_
  refine ⟨lowN ms, p, rfl, z0, l12, by omega, ?_⟩
  -- refused
  refine pssd_cons (psd_if ?_)
  refine ptd_not ?_
  refine ptd_val ?_
  refine pd_has hR (hr.mono (by decide)) (fun _ => pass0At) ?_
  refine pad_cons ?_
  refine pd_var (i := 1) rfl rfl ?_
  refine pad_cons ?_
  refine pd_var (i := 12) rfl rfl ?_
  refine pad_cons ?_
  refine pd_var (i := 2) rfl rfl ?_
  refine pad_nil ?_
  refine ⟨a, r, b, lowN ms, rfl, bag_put ne, by omega, l12, fun b' => ?_⟩
  rw [bag_put2 ne]
  refine ⟨_, rfl, ?_⟩
  refine iteF ?_
  refine pssd_nil ?_
  -- equal
  refine pssd_cons (psd_if ?_)
  refine ptd_not ?_
  refine ptd_val ?_
  refine pd_has hE (hr.mono (by decide)) (fun _ => pass0At) ?_
  refine pad_cons ?_
  refine pd_var (i := 12) rfl rfl ?_
  refine pad_cons ?_
  refine pd_var (i := 5) rfl rfl ?_
  refine pad_cons ?_
  refine pd_lst ?_
  refine pad_cons ?_
  refine pd_var (i := 9) rfl rfl ?_
  refine pad_cons ?_
  refine pd_var (i := 7) rfl rfl ?_
  refine pad_cons ?_
  refine pd_var (i := 10) rfl rfl ?_
  refine pad_cons ?_
  refine pd_var (i := 4) rfl rfl ?_
  refine pad_nil ⟨by show 4 ≤ sizeLine; decide, ?_⟩
  refine pad_nil ?_
  refine ⟨lowN ms, [nm, bl, sz, ms], rfl, l12, ?_, ?_⟩
  · intro xs hx
    simp only [List.mem_cons, List.not_mem_nil, or_false] at hx
    rcases hx with rfl | rfl | rfl | rfl <;> exact ⟨by omega, by omega⟩
  refine ⟨_, rfl, ?_⟩
  refine iteF ?_
  refine pssd_nil ?_
  -- the other split
  refine pssd_cons (psd_if ?_)
  refine ptd_not ?_
  refine ptd_val ?_
  refine pd_has (hS 3) (hr.mono (by decide)) (fun _ => pass0At) ?_
  rw [← hlb]
  (refine pad_cons ?_; refine pd_has hSh (hr.mono (by decide)) (fun _ => pass0At) ?_; refine pad_cons ?_; refine pd_var (i := 13) rfl rfl ?_; refine pad_cons ?_; refine pd_var (i := 2) rfl rfl ?_; refine pad_nil ?_; refine ⟨(lowN bl), rfl, zb, lb12, ?_⟩)
  rw [hlb]
  refine pad_cons ?_
  refine pd_has hD (hr.mono (by decide)) (fun _ => pass0At) ?_
  refine pad_cons ?_
  refine pd_has hL (hr.mono (by decide)) (fun _ => pass0At) ?_
  refine pad_cons ?_
  refine pd_var (i := 7) rfl rfl ?_
  refine pad_nil ?_
  refine ⟨bl, rfl, by omega, ?_⟩
  refine pad_nil ?_
  refine ⟨lowN bl, rfl, by omega, ?_⟩
  refine pad_nil ?_
  refine ⟨_, _, rfl, .inl (sm_due (by omega)), ?_⟩
  refine ⟨_, rfl, ?_⟩
  refine iteF ?_
  refine pssd_nil ?_
  -- last
  refine pssd_one (psd_ret ?_)
  refine pd_has (hS 3) (hr.mono (by decide)) (fun _ => pass0At) ?_
  (refine pad_cons ?_; refine pd_has hSh (hr.mono (by decide)) (fun _ => pass0At) ?_; refine pad_cons ?_; refine pd_var (i := 12) rfl rfl ?_; refine pad_cons ?_; refine pd_var (i := 2) rfl rfl ?_; refine pad_nil ?_; refine ⟨(lowN ms), rfl, z0, l12, ?_⟩)
  refine pad_cons ?_
  refine pd_has hD (hr.mono (by decide)) (fun _ => pass0At) ?_
  refine pad_cons ?_
  refine pd_var (i := 5) rfl rfl ?_
  refine pad_nil ?_
  refine ⟨lowN ms, rfl, by omega, ?_⟩
  refine pad_nil ?_
  exact ⟨_, _, rfl, .inl (sm_due (by omega)), k _⟩
theorem ok_law {f : Addr} {fd : FuncData} (G : Fun K "law" "law" sLaw f fd) (hm : Nm2 mg)
    (hSt : HasF P w K mg base T CX0 "_law_start" 1 ["script"] spStart) (hT : HasF P w K mg base T CX0 "_law_take" 1 ["bag", "many"] spTake) (hN : HasF P w K mg base T CX0 "_law_number" 2 ["bag"] spNumber)
    (hS : ∀ n, HasF P w K mg base T CX0 "_law_same" (n + 1) ["actual", "due"] (spSame n)) (hL : HasF P w K mg base T CX0 "_law_low" 1 ["marks"] spLow) (hD : HasF P w K mg base T CX0 "_law_due" 2 ["low"] spDue)
    (hSh : HasF P w K mg base T CX0 "_law_shown" 8 ["split", "many"] (spShown C)) (hSp : HasF P w K mg base T CX0 "_law_spoil" 6 ["split", "place"] (spSpoil C)) (hR : HasF P w K mg base T CX0 "_law_refused" 9 ["bag", "split", "many"] (spRefused C))
    (hE : HasF P w K mg base T CX0 "_law_equal" 6 ["split", "low", "lists"] (spEqual C)) (hMk : HasMk P w K mg base T (L2.CX P w) "Split" C 4 ["self", "marks"] (spInit C CB)) :
    FnOk P w K mg base CX0 11 f fd ["script"] (spOf K T spLaw) := by
  refine fnD G scLaw (fun ds w κ χ h => ?_) (fun cdv A outer s H E ds w0 κ χ hr h => ?_)
  · obtain ⟨ns, rfl, _⟩ := h
    rfl
  obtain ⟨ns, rfl, _, k⟩ := h
  have nd := scLaw.nd
  -- bag
  refine pssd_cons (psd_set (i := 1) nd rfl ?_)
  refine pd_has hSt (hr.mono (by decide)) (fun _ => pass0At) ?_
  refine pad_cons ?_
  refine pd_var (i := 0) rfl rfl ?_
  refine pad_nil ?_
  refine ⟨ns, rfl, fun a r ha hra ne => ?_⟩
  have hB : ∀ b, BagAt (bagPut w0 a r b) a r b := fun b => bag_put ne
  have pp : ∀ b b', bagPut (bagPut w0 a r b) a r b' = bagPut w0 a r b' := fun b b' => bag_put2 ne
  -- many
  refine pssd_cons (psd_set (i := 2) nd rfl ?_)
  refine pd_op op_add ?_
  refine pd_int ?_
  refine pd_take hT (hr.mono (by decide)) (i := 1) rfl rfl (hB _) ?_
  refine pd_int ?_
  refine ⟨rfl, _, rfl, by decide, by decide, fun m0 b1 g0 g1 => ?_⟩
  rw [pp]
  refine vr_I ?_
  have rest : ∀ (mn : Nat) (b : Bag), 1 ≤ mn → mn ≤ 12 → PSsD (cxOf CX0 P w K mg base NL "law" (defScope sLaw) f cdv A outer s H E).nox T Wf noX ((defBody sLaw).drop 3) (((startD NL [.rd (ns.map I)]).set 1 (some (R a))).set 2 (some (I (mn : Int)))) (bagPut w0 a r b) { nx := fun _ w' => κ DL.N w', rt := κ } := by
    intro mn b hm1 hm2
    have lg : ∀ z : Int, 0 ≤ z → z ≤ 1000 → z.natAbs.log2 < 9000 := fun z h1 h2 => Nat.lt_trans (log_of (Nat.lt_of_lt_of_le (by omega : _ < 2000) (by decide))) (by decide)
    -- pool
    refine pssd_cons (psd_set (i := 3) nd rfl ?_)
    refine pd_lc (own := [("k", 14)]) (is := [14]) rfl nd (blkOk_by rfl) (by decide) ?_
    refine it_range hm.range ?_
    refine pd_op op_add ?_
    refine pd_int ?_
    refine pd_take hT (hr.mono (by decide)) (i := 1) rfl rfl (hB b) ?_
    refine pd_var (i := 2) rfl rfl ?_
    refine ⟨rfl, _, rfl, by omega, lg _ (by omega) (by omega), fun x b1 g0 g1 => ?_⟩
    rw [pp]
    refine vr_I ?_
    obtain ⟨pn, hpn⟩ : ∃ n : Nat, 1 + x = (n : Int) := ⟨(1 + x).toNat, by omega⟩
    refine ⟨pn, by rw [hpn], by omega, ?_⟩
    refine ⟨by rw [ups_len]; exact small1000 (by omega), fun i acc w' => ∃ (b' : Bag) (ps : List Int), w' = bagPut w0 a r b' ∧ acc = ps.map I ∧ ps.length = i, ⟨b1, [], rfl, rfl, rfl⟩, ?_, ?_⟩
    · rintro i d acc w' hd ⟨b', ps, rfl, rfl, hl⟩ s H0 C1 cl1 fp1
      obtain ⟨hi, rfl⟩ := ups_at hd
      refine pgl_name nd rfl ?_
      intro s H0 C1 cl1 fp1
      refine ptsd_nil ?_
      intro s H0 C1 cl1 fp1
      refine pd_has hN (hr.mono (by decide)) (fun _ => pass0At) ?_
      refine pad_cons ?_
      refine pd_var (i := 1) rfl rfl ?_
      refine pad_nil ?_
      refine ⟨a, r, b', rfl, hB b', fun y b2 => ?_⟩
      exact ⟨b2, ps ++ [y], pp _ _, by rw [List.map_append]; rfl, by rw [List.length_append, hl]; rfl⟩
    rintro acc w' ⟨b2, ps, rfl, rfl, hps⟩
    rw [ups_len] at hps
    -- marks
    refine pssd_cons ?_
    refine psd_setLc (i := 4) (own := [("k", 14)]) (is := [14]) rfl nd rfl rfl (sw_true rfl rfl rfl (by decide +kernel)) (blkOk_by rfl) (by decide) ?_
    refine it_range hm.range ?_
    refine pd_var (i := 2) rfl rfl ?_
    refine ⟨mn, rfl, by omega, ?_⟩
    refine ⟨by rw [ups_len]; exact small1000 (by omega), fun i acc w' => ∃ (b' : Bag) (qs : List Int), w' = bagPut w0 a r b' ∧ acc = qs.map I ∧ qs.length = i, ⟨b2, [], rfl, rfl, rfl⟩, ?_, ?_⟩
    · rintro i d acc w' hd ⟨b', qs, rfl, rfl, hl⟩ s H0 C1 cl1 fp1
      obtain ⟨hi, rfl⟩ := ups_at hd
      refine pgl_name nd rfl ?_
      intro s H0 C1 cl1 fp1
      refine ptsd_nil ?_
      intro s H0 C1 cl1 fp1
      refine pd_ix ix_list ?_
      refine pd_var (i := 3) rfl rfl ?_
      refine pd_take hT (hr.mono (by decide)) (i := 1) rfl rfl (hB b') ?_
      refine pd_callB call_len_seq rfl hm.len PySem.boot_len ?_
      refine pad_cons ?_
      refine pd_var (i := 3) rfl rfl ?_
      refine pad_nil ?_
      refine va_len ?_
      rw [List.length_map]
      refine ⟨rfl, _, rfl, by omega, lg _ (by omega) (by omega), fun y b3 y0 y1 => ?_⟩
      rw [pp]
      obtain ⟨j, rfl⟩ : ∃ n : Nat, y = (n : Int) := ⟨y.toNat, by omega⟩
      have hj : j < ps.length := by omega
      refine vr_ixL (d := I ps[j]) (by rw [List.getElem?_map, List.getElem?_eq_getElem hj]; rfl) ?_
      exact ⟨b3, qs ++ [ps[j]], rfl, by rw [List.map_append]; rfl, by rw [List.length_append, hl]; rfl⟩
    rintro acc w' ⟨b3, ms, rfl, rfl, hms⟩
    rw [ups_len] at hms
    have hl : (lowN ms).length = mn := by rw [low_len, hms]
    -- low
    refine pssd_cons (psd_set (i := 5) nd rfl ?_)
    refine pd_has hL (hr.mono (by decide)) (fun _ => pass0At) ?_
    refine pad_cons ?_
    refine pd_var (i := 4) rfl rfl ?_
    refine pad_nil ?_
    refine ⟨ms, rfl, by omega, ?_⟩
    -- place
    refine pssd_cons (psd_set (i := 6) nd rfl ?_)
    refine pd_take hT (hr.mono (by decide)) (i := 1) rfl rfl (hB b3) ?_
    refine pd_var (i := 2) rfl rfl ?_
    refine ⟨rfl, _, rfl, by omega, lg _ (by omega) (by omega), fun pl b4 p0 p1 => ?_⟩
    rw [pp]
    obtain ⟨p, rfl⟩ : ∃ n : Nat, pl = (n : Int) := ⟨pl.toNat, by omega⟩
    -- bent
    refine pssd_cons (psd_set (i := 7) nd rfl ?_)
    refine pd_callTy call_list_of rfl hm.list bt_list ?_
    refine pad_cons ?_
    refine pd_var (i := 5) rfl rfl ?_
    refine pad_nil ?_
    refine va_listO fun q hq => ?_
    refine pssd_cons (psd_sub set_list ?_)
    refine pd_take hT (hr.mono (by decide)) (i := 1) rfl rfl ((hB b4).own hq) ?_
    refine pd_op op_add ?_
    refine pd_var (i := 2) rfl rfl ?_
    refine pd_int ?_
    refine vr_I ?_
    refine ⟨rfl, _, rfl, by omega, lg _ (by omega) (by omega), fun bx b5 q0 q1 => ?_⟩
    rw [bag_comm (hB b4) hq, pp]
    refine pd_var (i := 7) rfl rfl ?_
    refine pd_var (i := 6) rfl rfl ?_
    refine vr_setO wu_same (by show p < (nl (lowN ms)).length; rw [nl_len]; omega) ?_
    rw [wu_wu]
    refine pssd_freeze (a := q) 7 rfl wu_same ?_
    rw [wd_wu (bag_none hq)]
    have eb : (nl (lowN ms)).set p (I bx) = ((casts (lowN ms)).set p bx).map I := by rw [nl_casts, List.map_set]
    rw [show (List.map (fun (k : Nat) => I (k : Int)) (lowN ms)).set p (D.val (V.int bx)) = ((casts (lowN ms)).set p bx).map I from eb]
    have hbl : ((casts (lowN ms)).set p bx).length = ms.length := by
      rw [List.length_set]
      show ((lowN ms).map _).length = _
      rw [List.length_map, low_len]
    generalize (casts (lowN ms)).set p bx = bl at hbl
    -- base
    refine pssd_cons (psd_set (i := 8) nd rfl ?_)
    refine pd_take hT (hr.mono (by decide)) (i := 1) rfl rfl (hB b5) ?_
    refine pd_int ?_
    refine ⟨rfl, _, rfl, by decide, by decide, fun bs b6 s0 s1 => ?_⟩
    rw [pp]
    -- named
    refine pssd_cons ?_
    refine psd_setLc (i := 9) (own := [("mark", 15)]) (is := [15]) rfl nd rfl rfl (sw_true rfl rfl rfl (by decide +kernel)) (blkOk_by rfl) (by decide) ?_
    refine it_list ?_
    refine pd_var (i := 5) rfl rfl ?_
    refine ⟨_, rfl, ?_⟩
    refine lcd_map (fun (k : Nat) => I (bs - 3 * (k : Int))) (small1000 (by omega)) (fun m hmm s H0 C1 cl1 fp1 => ?_) ?_
    · refine pgl_name nd rfl ?_
      intro s H0 C1 cl1 fp1
      refine ptsd_nil ?_
      intro s H0 C1 cl1 fp1
      refine pd_op op_sub ?_
      refine pd_var (i := 8) rfl rfl ?_
      refine pd_op op_mul ?_
      refine pd_int ?_
      refine pd_var (i := 15) rfl rfl ?_
      refine vr_IC (.inl ⟨by decide, by decide⟩) ?_
      refine vr_I ?_
      exact ⟨rfl, rfl, rfl⟩
    have en : (lowN ms).map (fun (k : Nat) => I (bs - 3 * (k : Int))) = ((lowN ms).map fun (k : Nat) => bs - 3 * (k : Int)).map I := by
      rw [List.map_map]
      rfl
    rw [en]
    have hnm : ((lowN ms).map fun (k : Nat) => bs - 3 * (k : Int)).length = ms.length := by rw [List.length_map, low_len]
    generalize ((lowN ms).map fun (k : Nat) => bs - 3 * (k : Int)) = nm at hnm
    -- sized
    refine pssd_cons (psd_set (i := 10) nd rfl ?_)
    refine pd_op op_cat ?_
    refine pd_var (i := 5) rfl rfl ?_
    refine pd_lst ?_
    refine pad_cons ?_
    refine pd_take hT (hr.mono (by decide)) (i := 1) rfl rfl (hB b6) ?_
    refine pd_op op_add ?_
    refine pd_var (i := 2) rfl rfl ?_
    refine pd_int ?_
    refine vr_I ?_
    refine ⟨rfl, _, rfl, by omega, lg _ (by omega) (by omega), fun sx b7 t0 t1 => ?_⟩
    rw [pp]
    refine pad_nil ⟨by show 1 ≤ sizeLine; decide, ?_⟩
    refine vr_cat (by show (nl (lowN ms)).length + 1 ≤ sizeLine; rw [nl_len]; exact le_line (by omega)) ?_
    rw [show List.map (fun (k : Nat) => I (k : Int)) (lowN ms) ++ [D.val (V.int sx)] = ((casts (lowN ms)) ++ [sx]).map I from by
      rw [List.map_append, ← nl_casts]
      rfl]
    have lc : (casts (lowN ms)).length = ms.length := by
      show ((lowN ms).map _).length = _
      rw [List.length_map, low_len]
    have fin : ∀ sz : List Int, 1 ≤ sz.length → sz.length ≤ 12 → PSsD (cxOf CX0 P w K mg base NL "law" (defScope sLaw) f cdv A outer s H E).nox T Wf noX ((defBody sLaw).drop 13)
      [some (.rd (ns.map I)), some (R a), some (I (mn : Int)), some (.lst (ps.map I)), some (.lst (ms.map I)), some (nats (lowN ms)), some (I (p : Int)), some (.lst (bl.map I)), some (I bs), some (.lst (nm.map I)), some (.lst (sz.map I)), none, none, none, none, none]
      (bagPut w0 a r b7) { nx := fun _ w' => κ DL.N w', rt := κ } := fun sz z1 z2 => by
      rw [← hl]
      exact law_end hm hr hS hL hD hSh hSp hR hE hMk ne (by omega) (by omega) (by omega) hbl hnm z1 z2 k
    refine pssd_cons (psd_if ?_)
    have yes : ∀ p1 p2 p3 p4 p5 p6 j, 1 < mn → PSsD (cxOf CX0 P w K mg base NL "law" (defScope sLaw) f cdv A outer s H E).nox T Wf noX [.Assign [.Name "sized" p1] (.Subscript (.Name "low" p2) (.Slice (some (.Constant (.int 1) j p3)) none none p4) p5) p6]
      [some (.rd (ns.map I)), some (R a), some (I (mn : Int)), some (.lst (ps.map I)), some (.lst (ms.map I)), some (nats (lowN ms)), some (I (p : Int)), some (.lst (bl.map I)), some (I bs), some (.lst (nm.map I)), some (.lst ((casts (lowN ms) ++ [sx]).map I)), none, none, none, none, none]
      (bagPut w0 a r b7) { nx := fun δ' w' => PSsD (cxOf CX0 P w K mg base NL "law" (defScope sLaw) f cdv A outer s H E).nox T Wf noX ((defBody sLaw).drop 13) δ' w' { nx := fun _ w' => κ DL.N w', rt := κ }, rt := κ } := fun p1 p2 p3 p4 p5 p6 j hgt => by
      refine pssd_one (psd_set (i := 10) nd rfl ?_)
      refine pd_slFrom (n := 1) ?_
      refine pd_var (i := 5) rfl rfl ?_
      refine ⟨nl (lowN ms), .inl rfl, ?_⟩
      rw [nl_casts, ← List.map_drop]
      exact fin _ (by rw [List.length_drop]; omega) (by rw [List.length_drop]; omega)
    refine pwd_pt ?_
    refine pwd_or ?_
    refine ptd_cmp op_eq ?_
    refine pd_var (i := 2) rfl rfl ?_
    refine pd_int ?_
    refine vr_eq rfl ⟨_, rfl, ?_⟩
    refine ite2 (fun c => ?_) (fun c => ?_)
    · refine iteT ?_
      have c' : (mn : Int) = 12 := V.int.inj (of_decide_eq_true c)
      exact yes _ _ _ _ _ _ _ (by omega)
    have c' : mn ≠ 12 := fun z => c (by rw [z]; rfl)
    refine pwd_or1 ?_
    refine pwd_pt ?_
    refine pwd_and ?_
    refine ptd_cmp op_gt ?_
    refine pd_var (i := 2) rfl rfl ?_
    refine pd_int ?_
    refine vr_I ?_
    refine ⟨_, rfl, ?_⟩
    refine ite2 (fun c2 => ?_) (fun c2 => ?_)
    · have c2' : mn > 1 := by
        simp only [decide_eq_true_eq] at c2
        omega
      refine pwd_and1 ?_
      refine ptd_cmp op_lt ?_
      refine pd_var (i := 8) rfl rfl ?_
      refine pd_int ?_
      refine vr_I ?_
      refine ⟨_, rfl, ?_⟩
      refine ite2 (fun c3 => ?_) (fun c3 => ?_)
      · exact yes _ _ _ _ _ _ _ c2'
      · exact pssd_nil (fin _ (by rw [List.length_append]; omega) (by rw [List.length_append, lc]; show ms.length + 1 ≤ 12; omega))
    · refine iteF ?_
      exact pssd_nil (fin _ (by rw [List.length_append]; omega) (by rw [List.length_append, lc]; show ms.length + 1 ≤ 12; omega))
  obtain ⟨mn, hmn⟩ : ∃ n : Nat, 1 + m0 = (n : Int) := ⟨(1 + m0).toNat, by omega⟩
  rw [hmn]
  refine pssd_cons (psd_if ?_)
  refine ptd_cmp op_eq ?_
  refine pd_take hT (hr.mono (by decide)) (i := 1) rfl rfl (hB _) ?_
  refine pd_int ?_
  refine ⟨rfl, _, rfl, by decide, by decide, fun x b2 g2 g3 => ?_⟩
  rw [pp]
  refine pd_int ?_
  refine vr_eq rfl ⟨_, rfl, ?_⟩
  refine ite2 (fun c => ?_) (fun c => ?_)
  · refine pssd_one (psd_set (i := 2) nd rfl ?_)
    refine pd_int ?_
    exact rest 12 b2 (by decide) (by decide)
  · refine pssd_nil ?_
    exact rest mn b2 (by omega) (by omega)
end
end Tw

set_option Elab.async false
set_option linter.all false
set_option maxRecDepth 100000
set_option maxHeartbeats 1000000
/-! Loops and comprehensions over a list of plain values that stands or is owned, and is left as it is. -/
namespace DL
open PySem PySem.Spec PyProof.Rows L2 LamX
def IterDK (X : Cx) (T : List (Addr × Str)) (W : WX) (χ : XD) (Kp : Wp → Prop) (tg iter : Expr) (δ : Dn) (w : Wp) (κ : List D → Wp → Prop) : Prop :=
  ∃ wi, PI X tg iter wi ∧ ∀ (F : Hp) (σ : L2.St) (S H : Hp) (R : It → Hp → Prop), EnvD X.K S δ σ → World X.K T S w F H → ExD X.K T W χ σ S F →
    (∀ (ds : List D) (w1 : Wp) (S1 H1 : Hp) (J : It) (G : Hp → Prop) (Y : Nat → Hp → V → Hp → Prop), κ ds w1 → Same S S1 → World X.K T S1 w1 F H1 → Walk J ds.length G Y →
      (∀ S2 w2 F2 H2, Kp w2 → Same S1 S2 → World X.K T S2 w2 F2 H2 → G H2) →
      (∀ (i : Nat) (d : D) S2 w2 F2 H2 x H3, ds[i]? = some d → Kp w2 → Same S1 S2 → World X.K T S2 w2 F2 H2 → Y i H2 x H3 → ∃ S3, Same S2 S3 ∧ World X.K T S3 w2 F2 H3 ∧ Rep X.K S3 d x) → R J H1) → wi σ H R
section
variable {X : Cx} {T : List (Addr × Str)} {W : WX} {χ : XD} {δ : Dn} {w : Wp} {pos : Pos}
theorem it_lk {tg e : Expr} {dd : D} {vs : List V} {κ : List D → Wp → Prop} (h : PD X T W χ e δ w fun d w1 => d = dd ∧ Lk w1 dd (vs.map D.val) ∧ κ (vs.map D.val) w1) : IterDK X T W χ (fun w2 => Lk w2 dd (vs.map D.val)) tg e δ w κ :=
  ⟨_, pi_list (pe_wp e), fun F σ S H R hE hW hX hK => by
    refine h F σ S H _ hE hW hX fun d w1 v S1 H1 k s1 W1 r => ?_
    obtain ⟨rfl, lk, k⟩ := k
    obtain ⟨a, xs, rfl, h1, h2⟩ := lk.at_ W1 r
    have e2 := h2.vals
    subst e2
    refine ⟨a, rfl, ⟨xs, SqL.of h1⟩, ?_⟩
    have ww := walk_list (K := X.K) (a := a) (xs := xs)
    have el : xs.length = (xs.map D.val).length := (List.length_map _).symm
    rw [el] at ww
    have at2 : ∀ S2 w2 F2 H2, Lk w2 d (xs.map D.val) → Same S1 S2 → World X.K T S2 w2 F2 H2 → H2 a = some (.lst xs) := fun S2 w2 F2 H2 l2 s2 W2 => by
      obtain ⟨a2, xs2, e3, h3, h4⟩ := l2.at_ W2 (r.mono s2)
      cases e3
      rw [h4.vals] at h3
      exact h3
    refine hK _ w1 S1 H1 _ _ _ k s1 W1 ww (fun S2 w2 F2 H2 l2 s2 W2 => SqL.of (at2 S2 w2 F2 H2 l2 s2 W2)) fun i d' S2 w2 F2 H2 x H3 hd l2 s2 W2 y => ?_
    obtain ⟨rfl, hx⟩ := y
    rw [List.getElem?_map, hx] at hd
    cases hd
    exact ⟨S2, Same.refl _, W2, rfl⟩⟩
theorem psd_forK {Kp : Wp → Prop} {tg iter : Expr} {body : List Stmt} {C : DL.Fin} (hp : PassesOwn (model X.prog X.w) X.A X.env X.xe) (hc : X.calm = true)
    (h : IterDK X T W χ Kp tg iter δ w (fun ds w1 => ∃ Pv : Nat → Dn → Wp → Prop, Pv 0 δ w1 ∧ (∀ i δ' w', Pv i δ' w' → Kp w') ∧
      (∀ (i : Nat) (d : D) δ' w', ds[i]? = some d → Pv i δ' w' → PGD X T tg d δ' w' fun δ2 w2 => PSsD X T W χ body δ2 w2 { nx := Pv (i + 1), rt := C.rt, bk := C.nx, ct := Pv (i + 1) }) ∧
      ∀ δ' w', Pv ds.length δ' w' → C.nx δ' w'))
    (hs : ∀ x, foldedSetIterable iter X.env x = pure x := by intro _; rfl) : PSD X T W χ (.For tg iter body [] pos) δ w C := fun F σ S H E hE hW hX hK => by
  obtain ⟨wi, hi, h⟩ := h
  refine wp_ps (ps_for hp hc hi (pg_wp tg) (pss_wp body) hs) ?_
  refine h F σ S H _ hE hW (hX σ) fun ds w1 S1 H1 J G Y k s1 W1 ww hG hY => ?_
  obtain ⟨Pv, p0, pk, turn, done⟩ := k
  refine for_it ww (D := E) (fun i σ' H' => ∃ δ' w' S', Pv i δ' w' ∧ Same S1 S' ∧ EnvD X.K S' δ' σ' ∧ World X.K T S' w' F H') ⟨δ, w1, S1, p0, Same.refl _, hE.mono s1, W1⟩ (fun i σ' H' _ ⟨δ', w', S', pv, s2, _, W2⟩ => hG S' w' F H' (pk _ _ _ pv) s2 W2) ?_ ?_
  · rintro i x σ' H' H3 hi ⟨δ', w', S', pv, s2, hE2, W2⟩ y
    obtain ⟨S3, s3, W3, r⟩ := hY i ds[i] S' w' F H' x H3 (List.getElem?_eq_getElem hi) (pk _ _ _ pv) s2 W2 y
    refine turn i ds[i] δ' w' (List.getElem?_eq_getElem hi) pv F x σ' S3 H3 _ r (hE2.mono s3) W3 fun δ2 w2 σ2 S4 H4 k s4 hE4 W4 => ?_
    have ss := s1.trans (s2.trans (s3.trans s4))
    refine k F σ2 S4 H4 _ hE4 W4 (hX.mono ss) ⟨fun δ5 w5 σ5 S5 H5 k5 s5 hE5 W5 => ⟨δ5, w5, S5, k5, s2.trans (s3.trans (s4.trans s5)), hE5, W5⟩, hK.rt.mono ss, hK.nx.mono ss, fun δ5 w5 σ5 S5 H5 k5 s5 hE5 W5 => ⟨δ5, w5, S5, k5, s2.trans (s3.trans (s4.trans s5)), hE5, W5⟩⟩
  · rintro σ' H' ⟨δ', w', S', pv, s2, hE2, W2⟩
    exact hK.nx δ' w' σ' S' H' (done δ' w' pv) (s1.trans s2) hE2 W2
/-- what a comprehension asks -/
def LcDK (X : Cx) (T : List (Addr × Str)) (is : List Nat) (tg : Expr) (ifs : List Expr) (elt : Expr) (scope : Scope) (vs : List Nat) (δ : Dn) (κ : List D → Wp → Prop) (ds : List D) (Kp : Wp → Prop) (w1 : Wp) : Prop :=
  ds.length < sizeLine ∧ ∃ Pv : Nat → List D → Wp → Prop, Pv 0 [] w1 ∧ (∀ i acc w', Pv i acc w' → Kp w') ∧
    (∀ (i : Nat) (d : D) acc w', ds[i]? = some d → Pv i acc w' → ∀ s H0 C cl fp, PGL (bx X s H0 scope cl C fp) T is tg d (wipeD δ vs) w' fun δ2 w2 => ∀ s H0 C cl fp, PTsD (bx X s H0 scope cl C fp) T ifs δ2 w2 fun b w3 =>
      if b = true then ∀ s H0 C cl fp, PD (bx X s H0 scope cl C fp) T Wf noX elt δ2 w3 fun y w4 => Pv (i + 1) (acc ++ [y]) w4 else Pv (i + 1) acc w3) ∧
    ∀ acc w', Pv ds.length acc w' → κ acc w'
theorem lc_readK {Kp : Wp → Prop} {tg elt : Expr} {ifs : List Expr} {scope : Scope} {vs is : List Nat} {κ : List D → Wp → Prop} {wi : TI} {F : Hp} {σ : L2.St} {S H : Hp} {Q : VK} (hsub : ∀ i ∈ is, i ∈ vs) (hE : EnvD X.K S δ σ) (hW : World X.K T S w F H)
    (h : ∀ (R : It → Hp → Prop), (∀ (ds : List D) (w1 : Wp) (S1 H1 : Hp) (J : It) (G : Hp → Prop) (Y : Nat → Hp → V → Hp → Prop), LcDK X T is tg ifs elt scope vs δ κ ds Kp w1 → Same S S1 → World X.K T S1 w1 F H1 → Walk J ds.length G Y →
      (∀ S2 w2 F2 H2, Kp w2 → Same S1 S2 → World X.K T S2 w2 F2 H2 → G H2) →
      (∀ (i : Nat) (d : D) S2 w2 F2 H2 x H3, ds[i]? = some d → Kp w2 → Same S1 S2 → World X.K T S2 w2 F2 H2 → Y i H2 x H3 → ∃ S3, Same S2 S3 ∧ World X.K T S3 w2 F2 H3 ∧ Rep X.K S3 d x) → R J H1) → wi σ H R)
    (hK : ∀ (L : Addr) acc w' S' xs H', κ acc w' → Same S S' → F L = none → World X.K T S' w' (upd F L (.lst xs)) H' → RepL X.K S' acc xs → Q (.ref L) H') :
    tLc wi (lcG X scope tg) (lcT X scope ifs) (lcE X scope elt) vs σ H Q := by
  refine h _ fun ds w1 S1 H1 J G Y k s1 W1 ww hG hY L nL => ?_
  obtain ⟨hz, Pv, p0, pk, turn, done⟩ := k
  have fL : F L = none := (W1.free nL).2.2
  refine lc_it ww (g := lcG X scope tg) (tt := lcT X scope ifs) (te := lcE X scope elt) (vs := vs) (σ := σ) (H1 := H1) (D := L) (Qd := fun H => Q (.ref L) H) (fun i H' => ∃ acc w' S' xs, Pv i acc w' ∧ acc.length ≤ i ∧ Same S1 S' ∧ World X.K T S' w' (upd F L (.lst xs)) H' ∧ RepL X.K S' acc xs) ?_ (fun i H' _ ⟨acc, w', S', xs, pv, _, s2, W2, _⟩ => hG S' w' _ H' (pk _ _ _ pv) s2 W2) ?_ ?_
  · exact ⟨[], w1, S1, [], p0, Nat.le_refl _, Same.refl _, W1.takeF nL (fun _ z => by cases z), rfl⟩
  · rintro i x H' H3 hi ⟨acc, w', S', xs, pv, hacc, s2, W2, ra⟩ y
    obtain ⟨S3, s3, W3, r⟩ := hY i ds[i] S' w' _ H' x H3 (List.getElem?_eq_getElem hi) (pk _ _ _ pv) s2 W2 y
    intro s H0 C cl fp
    refine turn i ds[i] acc w' (List.getElem?_eq_getElem hi) pv s H0 C cl fp (upd F L (.lst xs)) x (L2.wipe σ vs) S3 H3 _ r ((hE.mono (s1.trans (s2.trans s3))).wipe vs) W3 fun δ2 w2 σ2 S4 H4 k s4 hE4 W4 o4 l4 => ?_
    refine ⟨?_, ?_⟩
    · rw [wipe_eq (σ1 := L2.wipe σ vs) (σ2 := σ2) l4 fun j hj => o4 j fun z => hj (hsub j z)]
      exact wipe_eq (L2.wipe_length σ vs) fun j hj => L2.wipe_out hj
    · intro s H0 C cl fp
      refine k s H0 C cl fp (upd F L (.lst xs)) σ2 S4 H4 _ hE4 W4 fun b w5 S5 H5 k5 s5 W5 => ?_
      cases b with
      | false =>
        rw [if_neg Bool.false_ne_true] at k5 ⊢
        exact ⟨acc, w5, S5, xs, k5, Nat.le_succ_of_le hacc, s2.trans (s3.trans (s4.trans s5)), W5, ra.mono (s3.trans (s4.trans s5))⟩
      | true =>
        rw [if_pos rfl] at k5 ⊢
        intro s H0 C cl fp
        refine k5 s H0 C cl fp (upd F L (.lst xs)) σ2 S5 H5 _ (hE4.mono s5) W5 exf fun d6 w6 v6 S6 H6 k6 s6 W6 r6 => ?_
        have ra6 := ra.mono (s3.trans (s4.trans (s5.trans s6)))
        refine ⟨xs, (W6.frm L _ upd_same).2, by rw [ra6.length]; omega, acc ++ [d6], w6, S6, xs ++ [v6], k6, ?_, s2.trans (s3.trans (s4.trans (s5.trans s6))), ?_, ra6.app (RepL.one r6)⟩
        · rw [List.length_append]
          show acc.length + 1 ≤ i + 1
          omega
        · have W7 := W6.putF (o := .lst (xs ++ [v6])) upd_same (fun _ z => by cases z) (fun _ z => by cases z) (fun _ z => by cases z)
          rw [upd_upd] at W7
          exact W7
  · rintro H' ⟨acc, w', S', xs, pv, hacc, s2, W2, ra⟩
    exact hK L acc w' S' xs H' (done acc w' pv) (s1.trans s2) fL W2 ra
theorem pd_lcK {Kp : Wp → Prop} {elt tg iter : Expr} {ifs : List Expr} {scope : Scope} (own : List (Str × Nat)) (is : List Nat) {κ : D → Wp → Prop} (hc : X.calm = true) (hN : X.N.Nodup) (ok : BlkOk X.N X.env.scope scope own) (hsub : ∀ i ∈ is, i ∈ own.map (·.2))
    (h : IterDK X T W χ Kp tg iter δ w (fun ds => LcDK X T is tg ifs elt scope (own.map (·.2)) δ (fun acc w' => κ (.lst acc) w') ds Kp)) (hs : ∀ x, foldedSetIterable iter X.env x = pure x := by intro _; rfl) : PD X T W χ (.ListComp elt [⟨tg, iter, ifs, 0⟩] scope pos) δ w κ := fun F σ S H Q hE hW hX hK => by
  obtain ⟨wi, hi, h⟩ := h
  exact wp_pe (pe_lc hc hN hi ok pg_bx pt_bx pe_bx hs) (lc_readK hsub hE hW (fun R hR => h F σ S H R hE hW hX hR) (fin_stay hK))
end
section
variable {K : PySem.W.Frag} {T : List (Addr × Str)} {w : Wp} {κ : D → Wp → Prop}
/-- xs.index(x), ints, owned or not -/
theorem vm_indexK {d : D} {ns : List Int} {n : Int} (l : Lk w d (ns.map I)) (hm : n ∈ ns) (k : κ (I ((ns.idxOf n : Nat) : Int)) w) : VRM K T (rIndex K) d [I n] w κ := fun F S H x xs Q hW r1 r2 hK => by
  obtain ⟨a, ys, rfl, h1, h2⟩ := l.at_ hW r1
  obtain ⟨y, zs, rfl, h3, h4⟩ := r2
  have h3' : y = .int n := h3
  have h4' : zs = [] := h4
  have h2' := h2.ints
  subst h3' h4' h2'
  have hi : ns.idxOf n < ns.length := List.idxOf_lt_length_of_mem hm
  refine ⟨a, ns.map V.int, .int n, ns.idxOf n, .int n, rfl, rfl, SqL.of h1, rfl, ?_, ?_, ?_, ?_, hK _ w _ S H k (Same.refl _) hW rfl⟩
  · rw [List.all_eq_true]
    intro v hv
    obtain ⟨m, _, rfl⟩ := List.mem_map.mp hv
    rfl
  · rw [List.getElem?_map, List.getElem?_eq_getElem hi, List.getElem_idxOf hi]
    rfl
  · show (n == n) = true
    exact beq_self_eq_true n
  · intro m z' hlt hz
    rw [List.getElem?_map] at hz
    cases e : ns[m]? with
    | none =>
      rw [e] at hz
      cases hz
    | some z =>
      rw [e] at hz
      cases hz
      show (z == n) = false
      refine beq_eq_false_iff_ne.mpr fun q => ?_
      subst q
      exact before_ix hlt e
theorem TyD.lk {d : D} {ds : List D} (l : Lk w d ds) : TyD K "list" d w := by
  rcases l with rfl | ⟨a, rfl, h⟩
  · exact rfl
  · exact ⟨rfl, ds, h⟩
end
end DL
namespace Tw
open PySem PySem.Spec PyProof.Rows L2 LamX DL
abbrev sPlaces : Stmt := top 11
def firstAt : List Int → Nat → Int → Option V
  | [], _, _ => none
  | x :: xs, s, m => if m = x then some (.int (s : Nat)) else firstAt xs (s + 1) m
theorem firstAt_mem : ∀ {ms : List Int} {s : Nat} {m : Int}, m ∈ ms → firstAt ms s m = some (.int ((s + ms.idxOf m : Nat) : Int))
  | [], s, m, h => by cases h
  | x :: xs, s, m, h => by
    unfold firstAt
    by_cases e : m = x
    · rw [if_pos e, e, List.idxOf_cons_self]
      rfl
    · have e2 : (x == m) = false := beq_eq_false_iff_ne.mpr fun z => e z.symm
      have e3 : (x :: xs).idxOf m = xs.idxOf m + 1 := by
        rw [List.idxOf_cons, e2]
        rfl
      have e4 : s + 1 + xs.idxOf m = s + (xs.idxOf m + 1) := by omega
      rw [if_neg e, firstAt_mem (List.mem_of_ne_of_mem e h), e3, e4]
theorem firstAt_step {ms : List Int} {p : Nat} {m j : Int} (h : ms[p]? = some m) : firstAt (ms.drop p) p j = if j = m then some (.int (p : Nat)) else firstAt (ms.drop (p + 1)) (p + 1) j := by
  obtain ⟨hp, e⟩ := List.getElem?_eq_some_iff.mp h
  rw [List.drop_eq_getElem_cons hp, e]
  rfl
section
variable {P : Program} {w : PySem.World} {K : PySem.W.Frag} {mg : Str → Option Value} {base : Heap} {T : List (Addr × Str)}
theorem scPlaces : FnScope ["items", "firsts", "place", "item"] ["items"] (defScope sPlaces) := ⟨rfl, rfl, rfl, by decide +kernel, rfl, by decide +kernel, by decide +kernel⟩
theorem ok_places2 {f : Addr} {fd : FuncData} (G : Fun K "first_places" "first_places" sPlaces f fd) (hm : Nm2 mg) (hrv : mg "reversed" = none) : FnOk P w K mg base CX0 3 f fd ["items"] (spOf K T spPlaces) := by
  refine fnD G scPlaces (fun ds w κ χ h => ?_) (fun cdv A outer s H E ds w0 κ χ hr h => ?_)
  · obtain ⟨d, ms, rfl, _⟩ := h
    rfl
  obtain ⟨d, ms, rfl, hl, hz, k⟩ := h
  have nd := scPlaces.nd
  have hu := Nat.lt_of_le_of_lt (Nat.add_le_add_left (show 1 ≤ 64 by decide) _) hr.units
  have ev : ms.map I = (ms.map V.int).map D.val := by
    rw [List.map_map]
    rfl
  refine pssd_cons (psd_set (i := 1) nd rfl ?_)
  refine pd_dc (own := [("place", 2)]) (is := [2]) rfl nd (blkOk_by rfl) (by decide) ?_
  refine it_revR hrv hm.range ?_
  refine pd_callB call_len_seq rfl hm.len PySem.boot_len ?_
  refine pad_cons ?_
  refine pd_var (i := 0) rfl rfl ?_
  refine pad_nil ?_
  refine va_lenK hl ?_
  rw [List.length_map]
  refine ⟨ms.length, rfl, by omega, ?_⟩
  refine ⟨by rw [downs_len]; exact small1000 (by omega), fun i acc w' => (i ≤ ms.length → ∀ m, valV acc (.inl m) = firstAt (ms.drop (ms.length - i)) (ms.length - i) m) ∧ w' = w0, ⟨fun _ m => ?_, rfl⟩, ?_, ?_⟩
  · rw [Nat.sub_zero, List.drop_length]
    rfl
  · rintro i d' acc w' hd ⟨hv, rfl⟩ s H0 C1 cl1 fp1
    obtain ⟨hi, rfl⟩ := downs_at hd
    have hp : ms.length - 1 - i < ms.length := by omega
    have hg : ms[ms.length - 1 - i]? = some (ms[ms.length - 1 - i]) := List.getElem?_eq_getElem hp
    refine pgl_name nd rfl ?_
    intro s H0 C1 cl1 fp1
    refine pd_ix ix_list ?_
    refine pd_var (i := 0) rfl rfl ?_
    refine pd_var (i := 2) rfl rfl ?_
    refine vr_ixK hl (e := I (ms[ms.length - 1 - i])) (by rw [List.getElem?_map, hg]; rfl) ?_
    intro s H0 C1 cl1 fp1
    refine pd_var (i := 2) rfl rfl ?_
    refine ⟨.inl (ms[ms.length - 1 - i]), _, rfl, rfl, fun _ m => ?_, rfl⟩
    have e1 : ms.length - (i + 1) = ms.length - 1 - i := by omega
    have e2 : ms.length - 1 - i + 1 = ms.length - i := by omega
    rw [valV_put, hv (by omega), e1, firstAt_step hg, e2]
    by_cases q : m = ms[ms.length - 1 - i]
    · rw [if_pos q, if_pos (by rw [q])]
    · rw [if_neg q, if_neg (fun z => q (Sum.inl.inj z))]
  rintro acc w' ⟨hv, rfl⟩
  rw [downs_len] at hv
  have hv := hv (Nat.le_refl _)
  rw [Nat.sub_self, List.drop_zero] at hv
  refine pssd_one (psd_ret ?_)
  refine pd_lcK (Kp := fun w2 => Lk w2 d ((ms.map V.int).map D.val)) (own := [("item", 3)]) (is := [3]) rfl nd (blkOk_by rfl) (by decide) ?_
  refine it_lk ?_
  refine pd_var (i := 0) rfl rfl ?_
  refine ⟨rfl, by rw [← ev]; exact hl, ?_⟩
  rw [← ev]
  refine ⟨by rw [List.length_map]; exact small1000 (by omega), fun i acc w2 => acc = ((ms.take i).map fun m => I ((ms.idxOf m : Nat) : Int)) ∧ w2 = w', ⟨rfl, rfl⟩, ?_, ?_, ?_⟩
  · rintro i acc w' ⟨_, rfl⟩
    exact hl
  · rintro i d' acc w' hd ⟨rfl, rfl⟩ s H0 C1 cl1 fp1
    rw [List.getElem?_map] at hd
    cases e : ms[i]? with
    | none =>
      rw [e] at hd
      cases hd
    | some m =>
    rw [e] at hd
    cases hd
    refine pgl_name nd rfl ?_
    intro s H0 C1 cl1 fp1
    refine ptsd_nil ?_
    intro s H0 C1 cl1 fp1
    refine pd_dget hu ?_
    refine pd_var (i := 1) rfl rfl ?_
    refine pd_var (i := 3) rfl rfl ?_
    refine ⟨_, .inl m, _, rfl, rfl, (hv m).trans (firstAt_mem (List.mem_of_getElem? e)), ?_, rfl⟩
    rw [Nat.zero_add, List.take_add_one, e, List.map_append]
    rfl
  · rintro acc w' ⟨rfl, rfl⟩
    rw [List.length_map, List.take_length, nats_low]
    exact k
end
end Tw

set_option Elab.async false
set_option linter.all false
set_option maxRecDepth 100000
set_option maxHeartbeats 2000000
namespace Tw
open PySem PySem.Spec PyProof.Rows L2 LamX DL
/-- a def of the top -/
def TopDef (K : PySem.W.Frag) (x : Str) (st : Stmt) : Prop := ∃ f fd, PySem.W.nsIn K mainGlobals x = some (some (.ref f)) ∧ Fun K x x st f fd
def MethDef (K : PySem.W.Frag) (C : Addr) (m qual : Str) (st : Stmt) : Prop := ∃ f fd, Meth K C m f ∧ Fun K m qual st f fd
def ErrDef (P : Program) (K : PySem.W.Frag) (C : Addr) (qual f : Str) (st : Stmt) : Prop := ∃ fI cc cda fd, SupTxt P K (fun _ => none) C fI cc cda qual st fd ∧ OexC K C ∧ PySem.W.findIn K (.ref C) f = some none ∧ PySem.W.findIn K (.ref C) "__init__" = some (some (.ref fI)) ∧ PySem.W.typeIn K (.ref fI) = some (.type "function")
abbrev free (K : PySem.W.Frag) (x : Str) : Prop := PySem.W.nsIn K mainGlobals x = some none
abbrev glob (K : PySem.W.Frag) (x : Str) (C : Addr) : Prop := PySem.W.nsIn K mainGlobals x = some (some (.ref C))
/-- what the written part says -/
structure KF (P : Program) (K : PySem.W.Frag) (C CB CU CT CM cc Pt : Addr) : Prop where
  gC : PySem.W.nsIn K mainGlobals "Split" = some (some (.ref C))
  gB : PySem.W.nsIn K mainGlobals "BadSize" = some (some (.ref CB))
  gU : PySem.W.nsIn K mainGlobals "UnknownCase" = some (some (.ref CU))
  gT : PySem.W.nsIn K mainGlobals "ThinwallError" = some (some (.ref CT))
  gM : PySem.W.nsIn K mainGlobals "SizeMismatch" = some (some (.ref CM))
  nInt : PySem.W.nsIn K mainGlobals "int" = some none
  nStr : PySem.W.nsIn K mainGlobals "str" = some none
  nBool : PySem.W.nsIn K mainGlobals "bool" = some none
  nList : PySem.W.nsIn K mainGlobals "list" = some none
  nTuple : PySem.W.nsIn K mainGlobals "tuple" = some none
  nLen : PySem.W.nsIn K mainGlobals "len" = some none
  nRange : PySem.W.nsIn K mainGlobals "range" = some none
  nEnum : PySem.W.nsIn K mainGlobals "enumerate" = some none
  nIsi : PySem.W.nsIn K mainGlobals "isinstance" = some none
  nSup : PySem.W.nsIn K mainGlobals "super" = some none
  nVal : PySem.W.nsIn K mainGlobals "ValueError" = some none
  nRev : PySem.W.nsIn K mainGlobals "reversed" = some none
  dCheck : TopDef K "check_case" sCheck
  dSize : TopDef K "check_size" sSize
  dPlaces : TopDef K "first_places" (top 11)
  dStart : TopDef K "_law_start" sStart
  dTake : TopDef K "_law_take" sTake
  dSame : TopDef K "_law_same" sSame
  dNumber : TopDef K "_law_number" sNumber
  dFar : TopDef K "_law_far" sFar
  dLow : TopDef K "_law_low" sLow
  dLcells : TopDef K "_law_cells" sLcells
  dDue : TopDef K "_law_due" sDue
  dShown : TopDef K "_law_shown" sShown
  dSpoil : TopDef K "_law_spoil" sSpoil
  dTold : TopDef K "_law_told" sTold
  dEqual : TopDef K "_law_equal" sEqual
  dLaw : TopDef K "law" sLaw
  dRefused : ∃ f fd, PySem.W.nsIn K mainGlobals "_law_refused" = some (some (.ref f)) ∧ FunC K "_law_refused" "_law_refused" sRefused f fd (.ref cc)
  mInit : MethDef K C "__init__" "Split.__init__" sInit
  mMarks : MethDef K C "marks" "Split.marks" sMarks
  mCells : MethDef K C "cells" "Split.cells" sCells
  mCell : MethDef K C "cell" "Split.cell" sCell
  mTog : MethDef K C "together" "Split.together" sTog
  mEq : MethDef K C "__eq__" "Split.__eq__" sEq
  mNe : MethDef K C "__ne__" "Split.__ne__" sNe
  mLen : MethDef K C "__len__" "Split.__len__" sLen
  makes : PySem.W.makesIn K C = true
  kpC : PySem.W.keepIn K (.ref C) = true
  splC : SplC K C
  splQ : SplQ K C
  most : ∃ mc u, ClX.CRead K C mc ∧ ClX.CVal K C mc "MOST" (.int 12) u
  eB : ErrDef P K CB "BadSize.__init__" "size" sBadSize
  eU : ErrDef P K CU "UnknownCase.__init__" "case" sUnkCase
  xbb : PySem.W.exmOne K (.ref CB) (.ref CB) = some true
  xub : PySem.W.exmOne K (.ref CU) (.ref CB) = some false
  xuu : PySem.W.exmOne K (.ref CU) (.ref CU) = some true
  ecB : L2.ExcC K CB
  ecU : L2.ExcC K CU
  xfB : XfC K CB
  xfU : XfC K CU
  kBT : PySem.W.kitOne K (.ref CB) (.ref CT) = some true
  kBV : PySem.W.kitOne K (.ref CB) (.type "ValueError") = some true
  kBU : PySem.W.kitOne K (.ref CB) (.ref CU) = some false
  kUT : PySem.W.kitOne K (.ref CU) (.ref CT) = some true
  kUV : PySem.W.kitOne K (.ref CU) (.type "ValueError") = some true
  kUM : PySem.W.kitOne K (.ref CU) (.ref CM) = some false
section
variable {P : Program} {w : PySem.World} {K : PySem.W.Frag} {mg : Str → Option Value} {base : Heap} {T : List (Addr × Str)} {C CB CU CT CM cc Pt : Addr} {h : Heap}
/-- of a def of the top -/
theorem has_of {CX : CXT} {x : Str} {st : Stmt} {k : Nat} {ps : List Str} {sp : SpD} (X : K.In h) (G : h.Ns mainGlobals mg) (d : TopDef K x st)
    (hb : ∀ (kV doc pm : Value) (an : Option Addr) (cdv ct : Value) (us : List Value), us.length = ps.length → bindArgs (PySem.W.fnOf x x (defArgs st) (defBody st) (defScope st) .none kV doc pm an cdv ct) ⟨us, []⟩ = pure (ps.zip us))
    (ok : ∀ f fd, Fun K x x st f fd → mg x = some (.ref f) → L2.Binds K fd ps [] → FnOk P w K mg base CX k f fd ps (spOf K T sp)) : HasF P w K mg base T CX x k ps sp := by
  obtain ⟨f, fd, h1, h2⟩ := d
  have hb' := h2.binds (ps := ps) hb
  exact ⟨f, fd, ok f fd h2 (PySem.W.mg_of X G h1) hb', PySem.W.mg_of X G h1, h2.kp, hb'⟩
theorem hasm_of {CX : CXT} {m qual : Str} {st : Stmt} {k : Nat} {ps : List Str} {sp : SpD} (d : MethDef K C m qual st)
    (hb : ∀ (kV doc pm : Value) (an : Option Addr) (cdv ct : Value) (us : List Value), us.length = ps.length → bindArgs (PySem.W.fnOf m qual (defArgs st) (defBody st) (defScope st) .none kV doc pm an cdv ct) ⟨us, []⟩ = pure (ps.zip us))
    (ok : ∀ f fd, Fun K m qual st f fd → FnOk P w K mg base CX k f fd ps (spOf K T sp)) : HasM P w K mg base T CX C m k ps sp := by
  obtain ⟨f, fd, h1, h2⟩ := d
  exact ⟨f, fd, ok f fd h2, h1, h2.binds (ps := ps) hb⟩
theorem hase_of {x qual f : Str} {st : Stmt} (X : K.In h) (G : h.Ns mainGlobals mg) (gx : glob K x C) (ns : free K "super") (d : ErrDef P K C qual f st)
    (hb : ∀ (cl : List (Str × Addr)) (kV doc pm : Value) (an : Option Addr) (cdv ct : Value) (us : List Value), us.length = 2 → bindArgs (PySem.W.fnX "__init__" qual (defArgs st) (defBody st) (defScope st) cl .none kV doc pm an cdv ct) ⟨us, []⟩ = pure ((["self", f] : List Str).zip us))
    (ok : ∀ fI cc cda fd, SupTxt P K mg C fI cc cda qual st fd → OexC K C → PySem.W.findIn K (.ref C) f = some none → FnOk P w K mg base CX0 1 fI fd ["self", f] (spX1 C f intFits)) : HasE P w K mg base x C 1 f := by
  obtain ⟨fI, cc, cda, fd, h1, h2, h3, h4, h5⟩ := d
  have h1' : SupTxt P K mg C fI cc cda qual st fd := ⟨h1.ex, h1.code, h1.cell, h1.along, h1.opq, h1.sub, h1.selfc, PySem.W.mg_none_of X G ns, h1.top⟩
  refine ⟨fI, fd, ok fI cc cda fd h1' h2 h3, PySem.W.mg_of X G gx, h2, h4, h5, ?_⟩
  obtain ⟨oc, od, kV, doc, pm, an, ct, osl, rfl, _, _⟩ := h1.ex
  exact .all (hb _ kV doc pm an _ ct)
abbrev qRef : Str := (("_law_refused" : Str) ++ ".<locals>.") ++ "<lambda>"
theorem all_mk {fa : Addr} (X : K.In h) (G : h.Ns mainGlobals mg) (F : KF P K C CB CU CT CM cc Pt) (hfa : mg "law" = some (.ref fa)) :
    ∃ fd : FuncData, (∀ (s : Shared) (us : List Value), us.length = (["script"] : List Str).length → BindsTo s fd ⟨us, []⟩ ((["script"] : List Str).zip us)) ∧
      ∀ base : Heap, TabB base mg cc Pt → FnOk P w K mg base CX0 11 fa fd ["script"] (spOf K [(Pt, qRef)] spLaw) := by
  obtain ⟨fL, fdL, l1, l2⟩ := F.dLaw
  have e := hfa.symm.trans (PySem.W.mg_of X G l1)
  cases e
  have hm : Nm2 mg := ⟨PySem.W.mg_none_of X G F.nInt, PySem.W.mg_none_of X G F.nStr, PySem.W.mg_none_of X G F.nBool, PySem.W.mg_none_of X G F.nList, PySem.W.mg_none_of X G F.nTuple, PySem.W.mg_none_of X G F.nLen, PySem.W.mg_none_of X G F.nRange, PySem.W.mg_none_of X G F.nEnum, PySem.W.mg_none_of X G F.nIsi⟩
  refine ⟨fdL, fun s us hu => ?_, fun base TB => ?_⟩
  · obtain ⟨oc, od, kV, doc, pm, an, cdv, ct, osl, rfl, _, _⟩ := l2.ex
    exact match us, hu with | [_], _ => .of_eq rfl
  generalize hT : [(Pt, qRef)] = T
  have mS := PySem.W.mg_of X G F.gC
  obtain ⟨mc, u, rC, vC⟩ := F.most
  have er : ErrS K mg CB CU CT CM := by
    obtain ⟨_, _, _, _, _, _, nB, _, _⟩ := F.eB
    obtain ⟨_, _, _, _, _, _, nU, _, _⟩ := F.eU
    exact ⟨PySem.W.mg_of X G F.gB, PySem.W.mg_of X G F.gU, PySem.W.mg_of X G F.gT, PySem.W.mg_of X G F.gM, PySem.W.mg_none_of X G F.nVal, F.xbb, F.xub, F.xuu, F.ecB, F.ecU, F.xfB, F.xfU, nB, nU, F.kBT, F.kBV, F.kBU, F.kUT, F.kUV, F.kUM⟩
  have hEB : HasE P w K mg base "BadSize" CB 1 "size" := hase_of X G F.gB F.nSup F.eB (fun _ _ _ _ _ _ _ us hl => match us, hl with | [_, _], _ => rfl) fun _ _ _ _ a b c => ok_bs a b c
  have hEU : HasE P w K mg base "UnknownCase" CU 1 "case" := hase_of X G F.gU F.nSup F.eU (fun _ _ _ _ _ _ _ us hl => match us, hl with | [_, _], _ => rfl) fun _ _ _ _ a b c => ok_uc a b c
  have hCk : HasF P w K mg base T (L2.CX P w) "check_case" 3 ["case", "size"] (spCheck CU) := has_of X G F.dCheck (fun _ _ _ _ _ _ us hl => match us, hl with | [_, _], _ => rfl) fun _ _ g _ _ => ok_check g hEU
  have hSz : HasF P w K mg base T (L2.CX P w) "check_size" 3 ["size"] (spSize CB) := has_of X G F.dSize (fun _ _ _ _ _ _ us hl => match us, hl with | [_], _ => rfl) fun _ _ g _ _ => ok_size g hEB mS rC vC
  have hPl : HasF P w K mg base T CX0 "first_places" 3 ["items"] spPlaces := has_of X G F.dPlaces (fun _ _ _ _ _ _ us hl => match us, hl with | [_], _ => rfl) fun _ _ g _ _ => ok_places2 g hm (PySem.W.mg_none_of X G F.nRev)
  have hSt : HasF P w K mg base T CX0 "_law_start" 1 ["script"] spStart := has_of X G F.dStart (fun _ _ _ _ _ _ us hl => match us, hl with | [_], _ => rfl) fun _ _ g _ _ => ok_start g hm.nm
  have hTk : HasF P w K mg base T CX0 "_law_take" 1 ["bag", "many"] spTake := has_of X G F.dTake (fun _ _ _ _ _ _ us hl => match us, hl with | [_, _], _ => rfl) fun _ _ g _ _ => ok_take g hm.nm
  have hSm : ∀ n, HasF P w K mg base T CX0 "_law_same" (n + 1) ["actual", "due"] (spSame n) := fun n => has_of X G F.dSame (fun _ _ _ _ _ _ us hl => match us, hl with | [_, _], _ => rfl) fun _ _ g m b => ok_same g hm m b n
  have hNu : HasF P w K mg base T CX0 "_law_number" 2 ["bag"] spNumber := has_of X G F.dNumber (fun _ _ _ _ _ _ us hl => match us, hl with | [_], _ => rfl) fun _ _ g _ _ => ok_number g hm hTk
  have hFa : HasF P w K mg base T CX0 "_law_far" 2 ["bag", "many"] spFar := has_of X G F.dFar (fun _ _ _ _ _ _ us hl => match us, hl with | [_, _], _ => rfl) fun _ _ g _ _ => ok_far g hm hTk
  have hLo : HasF P w K mg base T CX0 "_law_low" 1 ["marks"] spLow := has_of X G F.dLow (fun _ _ _ _ _ _ us hl => match us, hl with | [_], _ => rfl) fun _ _ g _ _ => ok_low g
  have hLc : HasF P w K mg base T CX0 "_law_cells" 1 ["low"] spLcells := has_of X G F.dLcells (fun _ _ _ _ _ _ us hl => match us, hl with | [_], _ => rfl) fun _ _ g _ _ => ok_lcells g hm
  have hDu : HasF P w K mg base T CX0 "_law_due" 2 ["low"] spDue := has_of X G F.dDue (fun _ _ _ _ _ _ us hl => match us, hl with | [_], _ => rfl) fun _ _ g _ _ => ok_due g hm hLc
  have hMa : HasM P w K mg base T CX0 C "marks" 1 ["self"] (spMarks C) := hasm_of F.mMarks (fun _ _ _ _ _ _ us hl => match us, hl with | [_], _ => rfl) fun _ _ g => ok_marks g hm F.splC
  have hCe : HasM P w K mg base T (L2.CX P w) C "cell" 4 ["self", "case"] (spCell C CU) := hasm_of F.mCell (fun _ _ _ _ _ _ us hl => match us, hl with | [_, _], _ => rfl) fun _ _ g => ok_cell g hm F.splC hCk
  have hTg : HasM P w K mg base T (L2.CX P w) C "together" 4 ["self", "first", "second"] (spTog C CU) := hasm_of F.mTog (fun _ _ _ _ _ _ us hl => match us, hl with | [_, _, _], _ => rfl) fun _ _ g => ok_tog g hm F.splC hCk
  have hCs : HasM P w K mg base T CX0 C "cells" 5 ["self"] (spCells C) := hasm_of F.mCells (fun _ _ _ _ _ _ us hl => match us, hl with | [_], _ => rfl) fun _ _ g => ok_cells g hm F.splC hCe
  have hLe : HasM P w K mg base T CX0 C "__len__" 6 ["self"] (spLen C) := hasm_of F.mLen (fun _ _ _ _ _ _ us hl => match us, hl with | [_], _ => rfl) fun _ _ g => ok_len g hm F.splC hCs
  have hEq : HasM P w K mg base T CX0 C "__eq__" 1 ["self", "other"] (spEq C) := hasm_of F.mEq (fun _ _ _ _ _ _ us hl => match us, hl with | [_, _], _ => rfl) fun _ _ g => ok_eq g hm F.splC F.splQ mS
  have hNe : HasM P w K mg base T CX0 C "__ne__" 2 ["self", "other"] (spNe C) := hasm_of F.mNe (fun _ _ _ _ _ _ us hl => match us, hl with | [_, _], _ => rfl) fun _ _ g => ok_ne g F.splQ hEq
  have hMk : HasMk P w K mg base T (L2.CX P w) "Split" C 4 ["self", "marks"] (spInit C CB) := by
    obtain ⟨f, fd, h1, h2⟩ := F.mInit
    exact ⟨f, fd, ok_init h2 hm F.splC hSz hPl, mS, ⟨F.makes, h1.at_, h1.fn, F.kpC⟩, h2.binds (ps := ["self", "marks"]) fun _ _ _ _ _ _ us hl => match us, hl with | [_, _], _ => rfl⟩
  have hSh : HasF P w K mg base T CX0 "_law_shown" 8 ["split", "many"] (spShown C) := has_of X G F.dShown (fun _ _ _ _ _ _ us hl => match us, hl with | [_, _], _ => rfl) fun _ _ g _ _ => ok_shown g hm F.splC hCe hTg hLe hMa hCs
  have hSp : HasF P w K mg base T CX0 "_law_spoil" 6 ["split", "place"] (spSpoil C) := has_of X G F.dSpoil (fun _ _ _ _ _ _ us hl => match us, hl with | [_, _], _ => rfl) fun _ _ g _ _ => ok_spoil g F.splC hCe hMa hCs
  have hQu : HasF P w K mg base T CX0 "_law_equal" 6 ["split", "low", "lists"] (spEqual C) := has_of X G F.dEqual (fun _ _ _ _ _ _ us hl => match us, hl with | [_, _, _], _ => rfl) fun _ _ g _ _ => ok_equal g hm F.splQ (hSm 0) hLo hMk hEq hNe
  have tOk : ToldOk K mg := by
    obtain ⟨g, fd, h1, h2⟩ := F.dTold
    exact ⟨g, fd, h2, PySem.W.mg_of X G h1, h2.binds (ps := ["action"]) fun _ _ _ _ _ _ us hl => match us, hl with | [_], _ => rfl⟩
  have hRe : HasF P w K mg base T CX0 "_law_refused" 9 ["bag", "split", "many"] (spRefused C) := by
    obtain ⟨f, fd, h1, h2⟩ := F.dRefused
    have hb := h2.fun.binds (ps := ["bag", "split", "many"]) fun _ _ _ _ _ _ us hl => match us, hl with | [_, _, _], _ => rfl
    refine ⟨f, fd, ok_refused h2 hm F.splC er tOk ⟨cc, Pt, TB, rfl, ?_, ?_⟩ hTk hFa (hSm 3) hCe hTg hMk, PySem.W.mg_of X G h1, h2.kp, hb⟩
    · rw [← hT]
      exact List.mem_singleton.mpr rfl
    · intro p hp _
      rw [← hT] at hp
      rw [List.mem_singleton.mp hp]
  exact ok_law l2 hm hSt hTk hNu hSm hLo hDu hSh hSp hRe hQu hMk
end
end Tw

set_option Elab.async false
set_option linter.all false
set_option maxRecDepth 100000
set_option maxHeartbeats 2000000
namespace Tw
open PySem PySem.Spec PyProof.Rows L2 LamX DL
theorem law_at {l : PySem.W.OpenLaw} {w : PySem.World} {K : PySem.W.Frag} {mg : Str → Option Value} {h : Heap} {fa C CB CU CT CM cc Pt : Addr} {n : Nat} (X : K.In h) (G : h.Ns mainGlobals mg) (hfa : mg "law" = some (.ref fa)) (F : KF l.prog K C CB CU CT CM cc Pt)
    (hT : h.get? Pt = some { cls := .none, data := .fields #[] }) (nT : K.lookup Pt = none) (hc : PySem.W.codeHdIn K cc Pt = true) : LawAtS l w K CX0 11 n "script" mg fa h := by
  obtain ⟨fd, h1, h2⟩ := all_mk (P := l.prog) (w := w) X G F hfa
  refine ⟨fd, [(cc, Pt)], _, ?_, ?_, ?_, fun s u => h1 s [u] rfl, ?_, fun base _ _ TB => h2 base (TB _ (List.mem_singleton.mpr rfl))⟩
  · intro p hp
    rw [List.mem_singleton.mp hp]
    exact hT
  · intro p hp
    rw [List.mem_singleton.mp hp]
    exact nT
  · intro p hp
    rw [List.mem_singleton.mp hp]
    exact PySem.W.codeHd_of_K X hc
  · intro H a ns _ _ hH hS
    have hPt : H Pt = some (.tbl #[]) := hH _ (List.mem_singleton.mpr rfl)
    obtain ⟨S, hq, hs, hn⟩ : ∃ S : Hp, SqL K S a (ns.map V.int) ∧ Same S H ∧ ∀ b ps, S b ≠ some (.tbl ps) := by
      rcases hS with hr | hk
      · refine ⟨fun b => if b = a then H a else none, .inl ?_, fun b x q => ?_, fun b ps q => ?_⟩
        · rcases hr with e | ⟨ob, e⟩
          · exact .inl ((if_pos rfl).trans e)
          · exact .inr ⟨ob, (if_pos rfl).trans e⟩
        · have q' : (if b = a then H a else none) = some x := q
          by_cases e : b = a
          · rw [if_pos e] at q'
            rw [e]
            exact q'
          · rw [if_neg e] at q'
            cases q'
        · have q' : (if b = a then H a else none) = some (.tbl ps) := q
          by_cases e : b = a
          · rw [if_pos e] at q'
            rcases hr with e | ⟨ob, e⟩
            · rw [e] at q'
              cases q'
            · rw [e] at q'
              cases q'
          · rw [if_neg e] at q'
            cases q'
      · exact ⟨fun _ => none, .inr hk, (fun b x q => by cases q), fun b ps q => by cases q⟩
    have rl : ∀ l : List Int, RepL K S (l.map I) (l.map V.int) := by
      intro l
      induction l with
      | nil => rfl
      | cons x l ih => exact ⟨V.int x, _, rfl, rfl, ih⟩
    refine ⟨[.rd (ns.map I)], fun _ => none, fun _ => none, S, fun d _ => d = B true, noX, ⟨ns, rfl, ⟨0, 1, rfl, rfl, by decide⟩, fun _ => rfl⟩, ?_, ?_, ?_, fun _ _ _ _ _ _ _ z => z.elim⟩
    · exact ⟨.ref a, [], rfl, ⟨a, ns.map V.int, rfl, hq, rl ns⟩, rfl⟩
    · refine ⟨hs, hn, (fun b k q => by cases q), (fun b x q => by cases q), ?_, fun b ps q => by cases q⟩
      intro p hp
      rw [List.mem_singleton.mp hp]
      exact TabS.nil hPt
    · rintro d w' v S' H' rfl s1 W1 r
      exact r
end Tw

set_option Elab.async false
set_option linter.all false
open PySem PySem.W PyProof.Rows
set_option maxRecDepth 100000 in
set_option maxHeartbeats 0 in
theorem PySem.Challenge.cw_thinwall_k00_split_tells_its_cells_holds : PySem.Challenge.rw_thinwall_k00_split_tells_its_cells.Holds := by
  w_on; o_law; k_head; (case hw => w_witness2)
  k_fill
  refine LamX.walk_ofTs (l := PySem.Challenge.rw_thinwall_k00_split_tells_its_cells) (n := 63) (k := 11) (CX := fun _ => L2.CX0) (x := "script") rfl (by decide) rfl ⟨rfl, by decide, by decide⟩ (fun w h Y => PySem.W.km_in_of Y) ?FF (fun _ _ _ _ _ z => z)
  intro w mg fa h Y X G hfa
  refine' Tw.law_at X G hfa ⟨?gC, ?gB, ?gU, ?gT, ?gM, ?n1, ?n2, ?n3, ?n4, ?n5, ?n6, ?n7, ?n8, ?n9, ?n10, ?n11, ?n12,
    ?d1, ?d2, ?d3, ?d4, ?d5, ?d6, ?d7, ?d8, ?d9, ?d10, ?d11, ?d12, ?d13, ?d14, ?d15, ?d16, ?dR, ?m1, ?m2, ?m3, ?m4, ?m5, ?m6, ?m7, ?m8, ?mk, ?kc, ?sc, ?sq, ?mo, ?eB, ?eU, ?x1, ?x2, ?x3, ?c1, ?c2, ?f1, ?f2, ?k1, ?k2, ?k3, ?k4, ?k5, ?k6⟩ (PySem.W.km_tabs_of Y _ (List.mem_singleton.mpr rfl)) ?nT ?hcd
  (case gC => (first | k_is | kit_is | ks_is | rfl | decide +kernel)); (case gB => (first | k_is | kit_is | ks_is | rfl | decide +kernel)); (case gU => (first | k_is | kit_is | ks_is | rfl | decide +kernel)); (case gT => (first | k_is | kit_is | ks_is | rfl | decide +kernel)); (case gM => (first | k_is | kit_is | ks_is | rfl | decide +kernel))
  (case n1 => (first | k_is | kit_is | ks_is | rfl | decide +kernel)); (case n2 => (first | k_is | kit_is | ks_is | rfl | decide +kernel)); (case n3 => (first | k_is | kit_is | ks_is | rfl | decide +kernel)); (case n4 => (first | k_is | kit_is | ks_is | rfl | decide +kernel)); (case n5 => (first | k_is | kit_is | ks_is | rfl | decide +kernel)); (case n6 => (first | k_is | kit_is | ks_is | rfl | decide +kernel)); (case n7 => (first | k_is | kit_is | ks_is | rfl | decide +kernel)); (case n8 => (first | k_is | kit_is | ks_is | rfl | decide +kernel)); (case n9 => (first | k_is | kit_is | ks_is | rfl | decide +kernel)); (case n10 => (first | k_is | kit_is | ks_is | rfl | decide +kernel)); (case n11 => (first | k_is | kit_is | ks_is | rfl | decide +kernel)); (case n12 => (first | k_is | kit_is | ks_is | rfl | decide +kernel))
  (case d1 => (refine' ⟨_, _, ?a_1, L2.fun_mk ?l_1 ?c_1 ?k_1⟩; (case a_1 => (first | k_is | kit_is | ks_is | rfl | decide +kernel)); (case l_1 => (first | k_is | kit_is | ks_is | rfl | decide +kernel)); (case c_1 => (first | k_is | kit_is | ks_is | rfl | decide +kernel)); (case k_1 => (first | k_is | kit_is | ks_is | rfl | decide +kernel)))); (case d2 => (refine' ⟨_, _, ?a_2, L2.fun_mk ?l_2 ?c_2 ?k_2⟩; (case a_2 => (first | k_is | kit_is | ks_is | rfl | decide +kernel)); (case l_2 => (first | k_is | kit_is | ks_is | rfl | decide +kernel)); (case c_2 => (first | k_is | kit_is | ks_is | rfl | decide +kernel)); (case k_2 => (first | k_is | kit_is | ks_is | rfl | decide +kernel)))); (case d3 => (refine' ⟨_, _, ?a_3, L2.fun_mk ?l_3 ?c_3 ?k_3⟩; (case a_3 => (first | k_is | kit_is | ks_is | rfl | decide +kernel)); (case l_3 => (first | k_is | kit_is | ks_is | rfl | decide +kernel)); (case c_3 => (first | k_is | kit_is | ks_is | rfl | decide +kernel)); (case k_3 => (first | k_is | kit_is | ks_is | rfl | decide +kernel)))); (case d4 => (refine' ⟨_, _, ?a_4, L2.fun_mk ?l_4 ?c_4 ?k_4⟩; (case a_4 => (first | k_is | kit_is | ks_is | rfl | decide +kernel)); (case l_4 => (first | k_is | kit_is | ks_is | rfl | decide +kernel)); (case c_4 => (first | k_is | kit_is | ks_is | rfl | decide +kernel)); (case k_4 => (first | k_is | kit_is | ks_is | rfl | decide +kernel)))); (case d5 => (refine' ⟨_, _, ?a_5, L2.fun_mk ?l_5 ?c_5 ?k_5⟩; (case a_5 => (first | k_is | kit_is | ks_is | rfl | decide +kernel)); (case l_5 => (first | k_is | kit_is | ks_is | rfl | decide +kernel)); (case c_5 => (first | k_is | kit_is | ks_is | rfl | decide +kernel)); (case k_5 => (first | k_is | kit_is | ks_is | rfl | decide +kernel)))); (case d6 => (refine' ⟨_, _, ?a_6, L2.fun_mk ?l_6 ?c_6 ?k_6⟩; (case a_6 => (first | k_is | kit_is | ks_is | rfl | decide +kernel)); (case l_6 => (first | k_is | kit_is | ks_is | rfl | decide +kernel)); (case c_6 => (first | k_is | kit_is | ks_is | rfl | decide +kernel)); (case k_6 => (first | k_is | kit_is | ks_is | rfl | decide +kernel)))); (case d7 => (refine' ⟨_, _, ?a_7, L2.fun_mk ?l_7 ?c_7 ?k_7⟩; (case a_7 => (first | k_is | kit_is | ks_is | rfl | decide +kernel)); (case l_7 => (first | k_is | kit_is | ks_is | rfl | decide +kernel)); (case c_7 => (first | k_is | kit_is | ks_is | rfl | decide +kernel)); (case k_7 => (first | k_is | kit_is | ks_is | rfl | decide +kernel)))); (case d8 => (refine' ⟨_, _, ?a_8, L2.fun_mk ?l_8 ?c_8 ?k_8⟩; (case a_8 => (first | k_is | kit_is | ks_is | rfl | decide +kernel)); (case l_8 => (first | k_is | kit_is | ks_is | rfl | decide +kernel)); (case c_8 => (first | k_is | kit_is | ks_is | rfl | decide +kernel)); (case k_8 => (first | k_is | kit_is | ks_is | rfl | decide +kernel))))
  (case d9 => (refine' ⟨_, _, ?a_9, L2.fun_mk ?l_9 ?c_9 ?k_9⟩; (case a_9 => (first | k_is | kit_is | ks_is | rfl | decide +kernel)); (case l_9 => (first | k_is | kit_is | ks_is | rfl | decide +kernel)); (case c_9 => (first | k_is | kit_is | ks_is | rfl | decide +kernel)); (case k_9 => (first | k_is | kit_is | ks_is | rfl | decide +kernel)))); (case d10 => (refine' ⟨_, _, ?a_10, L2.fun_mk ?l_10 ?c_10 ?k_10⟩; (case a_10 => (first | k_is | kit_is | ks_is | rfl | decide +kernel)); (case l_10 => (first | k_is | kit_is | ks_is | rfl | decide +kernel)); (case c_10 => (first | k_is | kit_is | ks_is | rfl | decide +kernel)); (case k_10 => (first | k_is | kit_is | ks_is | rfl | decide +kernel)))); (case d11 => (refine' ⟨_, _, ?a_11, L2.fun_mk ?l_11 ?c_11 ?k_11⟩; (case a_11 => (first | k_is | kit_is | ks_is | rfl | decide +kernel)); (case l_11 => (first | k_is | kit_is | ks_is | rfl | decide +kernel)); (case c_11 => (first | k_is | kit_is | ks_is | rfl | decide +kernel)); (case k_11 => (first | k_is | kit_is | ks_is | rfl | decide +kernel)))); (case d12 => (refine' ⟨_, _, ?a_12, L2.fun_mk ?l_12 ?c_12 ?k_12⟩; (case a_12 => (first | k_is | kit_is | ks_is | rfl | decide +kernel)); (case l_12 => (first | k_is | kit_is | ks_is | rfl | decide +kernel)); (case c_12 => (first | k_is | kit_is | ks_is | rfl | decide +kernel)); (case k_12 => (first | k_is | kit_is | ks_is | rfl | decide +kernel)))); (case d13 => (refine' ⟨_, _, ?a_13, L2.fun_mk ?l_13 ?c_13 ?k_13⟩; (case a_13 => (first | k_is | kit_is | ks_is | rfl | decide +kernel)); (case l_13 => (first | k_is | kit_is | ks_is | rfl | decide +kernel)); (case c_13 => (first | k_is | kit_is | ks_is | rfl | decide +kernel)); (case k_13 => (first | k_is | kit_is | ks_is | rfl | decide +kernel)))); (case d14 => (refine' ⟨_, _, ?a_14, L2.fun_mk ?l_14 ?c_14 ?k_14⟩; (case a_14 => (first | k_is | kit_is | ks_is | rfl | decide +kernel)); (case l_14 => (first | k_is | kit_is | ks_is | rfl | decide +kernel)); (case c_14 => (first | k_is | kit_is | ks_is | rfl | decide +kernel)); (case k_14 => (first | k_is | kit_is | ks_is | rfl | decide +kernel)))); (case d15 => (refine' ⟨_, _, ?a_15, L2.fun_mk ?l_15 ?c_15 ?k_15⟩; (case a_15 => (first | k_is | kit_is | ks_is | rfl | decide +kernel)); (case l_15 => (first | k_is | kit_is | ks_is | rfl | decide +kernel)); (case c_15 => (first | k_is | kit_is | ks_is | rfl | decide +kernel)); (case k_15 => (first | k_is | kit_is | ks_is | rfl | decide +kernel)))); (case d16 => (refine' ⟨_, _, ?a_16, L2.fun_mk ?l_16 ?c_16 ?k_16⟩; (case a_16 => (first | k_is | kit_is | ks_is | rfl | decide +kernel)); (case l_16 => (first | k_is | kit_is | ks_is | rfl | decide +kernel)); (case c_16 => (first | k_is | kit_is | ks_is | rfl | decide +kernel)); (case k_16 => (first | k_is | kit_is | ks_is | rfl | decide +kernel))))
  (case dR => refine' ⟨_, _, ?a, ⟨⟨_, _, _, _, _, _, _, _, rfl, ?l, ?c⟩, ?k⟩⟩; (case a => (first | k_is | kit_is | ks_is | rfl | decide +kernel)); (case l => (first | k_is | kit_is | ks_is | rfl | decide +kernel)); (case c => (first | k_is | kit_is | ks_is | rfl | decide +kernel)); (case k => (first | k_is | kit_is | ks_is | rfl | decide +kernel)))
  (case m1 => (refine' ⟨_, _, ⟨?a_17, ?b_17, ?e_17⟩, L2.fun_mk ?l_17 ?c_17 ?k_17⟩; (case a_17 => (first | k_is | kit_is | ks_is | rfl | decide +kernel)); (case b_17 => (first | k_is | kit_is | ks_is | rfl | decide +kernel)); (case e_17 => (first | k_is | kit_is | ks_is | rfl | decide +kernel)); (case l_17 => (first | k_is | kit_is | ks_is | rfl | decide +kernel)); (case c_17 => (first | k_is | kit_is | ks_is | rfl | decide +kernel)); (case k_17 => (first | k_is | kit_is | ks_is | rfl | decide +kernel)))); (case m2 => (refine' ⟨_, _, ⟨?a_18, ?b_18, ?e_18⟩, L2.fun_mk ?l_18 ?c_18 ?k_18⟩; (case a_18 => (first | k_is | kit_is | ks_is | rfl | decide +kernel)); (case b_18 => (first | k_is | kit_is | ks_is | rfl | decide +kernel)); (case e_18 => (first | k_is | kit_is | ks_is | rfl | decide +kernel)); (case l_18 => (first | k_is | kit_is | ks_is | rfl | decide +kernel)); (case c_18 => (first | k_is | kit_is | ks_is | rfl | decide +kernel)); (case k_18 => (first | k_is | kit_is | ks_is | rfl | decide +kernel)))); (case m3 => (refine' ⟨_, _, ⟨?a_19, ?b_19, ?e_19⟩, L2.fun_mk ?l_19 ?c_19 ?k_19⟩; (case a_19 => (first | k_is | kit_is | ks_is | rfl | decide +kernel)); (case b_19 => (first | k_is | kit_is | ks_is | rfl | decide +kernel)); (case e_19 => (first | k_is | kit_is | ks_is | rfl | decide +kernel)); (case l_19 => (first | k_is | kit_is | ks_is | rfl | decide +kernel)); (case c_19 => (first | k_is | kit_is | ks_is | rfl | decide +kernel)); (case k_19 => (first | k_is | kit_is | ks_is | rfl | decide +kernel)))); (case m4 => (refine' ⟨_, _, ⟨?a_20, ?b_20, ?e_20⟩, L2.fun_mk ?l_20 ?c_20 ?k_20⟩; (case a_20 => (first | k_is | kit_is | ks_is | rfl | decide +kernel)); (case b_20 => (first | k_is | kit_is | ks_is | rfl | decide +kernel)); (case e_20 => (first | k_is | kit_is | ks_is | rfl | decide +kernel)); (case l_20 => (first | k_is | kit_is | ks_is | rfl | decide +kernel)); (case c_20 => (first | k_is | kit_is | ks_is | rfl | decide +kernel)); (case k_20 => (first | k_is | kit_is | ks_is | rfl | decide +kernel)))); (case m5 => (refine' ⟨_, _, ⟨?a_21, ?b_21, ?e_21⟩, L2.fun_mk ?l_21 ?c_21 ?k_21⟩; (case a_21 => (first | k_is | kit_is | ks_is | rfl | decide +kernel)); (case b_21 => (first | k_is | kit_is | ks_is | rfl | decide +kernel)); (case e_21 => (first | k_is | kit_is | ks_is | rfl | decide +kernel)); (case l_21 => (first | k_is | kit_is | ks_is | rfl | decide +kernel)); (case c_21 => (first | k_is | kit_is | ks_is | rfl | decide +kernel)); (case k_21 => (first | k_is | kit_is | ks_is | rfl | decide +kernel)))); (case m6 => (refine' ⟨_, _, ⟨?a_22, ?b_22, ?e_22⟩, L2.fun_mk ?l_22 ?c_22 ?k_22⟩; (case a_22 => (first | k_is | kit_is | ks_is | rfl | decide +kernel)); (case b_22 => (first | k_is | kit_is | ks_is | rfl | decide +kernel)); (case e_22 => (first | k_is | kit_is | ks_is | rfl | decide +kernel)); (case l_22 => (first | k_is | kit_is | ks_is | rfl | decide +kernel)); (case c_22 => (first | k_is | kit_is | ks_is | rfl | decide +kernel)); (case k_22 => (first | k_is | kit_is | ks_is | rfl | decide +kernel)))); (case m7 => (refine' ⟨_, _, ⟨?a_23, ?b_23, ?e_23⟩, L2.fun_mk ?l_23 ?c_23 ?k_23⟩; (case a_23 => (first | k_is | kit_is | ks_is | rfl | decide +kernel)); (case b_23 => (first | k_is | kit_is | ks_is | rfl | decide +kernel)); (case e_23 => (first | k_is | kit_is | ks_is | rfl | decide +kernel)); (case l_23 => (first | k_is | kit_is | ks_is | rfl | decide +kernel)); (case c_23 => (first | k_is | kit_is | ks_is | rfl | decide +kernel)); (case k_23 => (first | k_is | kit_is | ks_is | rfl | decide +kernel)))); (case m8 => (refine' ⟨_, _, ⟨?a_24, ?b_24, ?e_24⟩, L2.fun_mk ?l_24 ?c_24 ?k_24⟩; (case a_24 => (first | k_is | kit_is | ks_is | rfl | decide +kernel)); (case b_24 => (first | k_is | kit_is | ks_is | rfl | decide +kernel)); (case e_24 => (first | k_is | kit_is | ks_is | rfl | decide +kernel)); (case l_24 => (first | k_is | kit_is | ks_is | rfl | decide +kernel)); (case c_24 => (first | k_is | kit_is | ks_is | rfl | decide +kernel)); (case k_24 => (first | k_is | kit_is | ks_is | rfl | decide +kernel))))
  (case mk => (first | k_is | kit_is | ks_is | rfl | decide +kernel)); (case kc => (first | k_is | kit_is | ks_is | rfl | decide +kernel))
  (case sc => refine' ⟨?a, ?e, ?f⟩; (case a => (refine' ⟨?a_25, ?b_25, ?c_25, ?d_25⟩; (case a_25 => (first | k_is | kit_is | ks_is | rfl | decide +kernel)); (case b_25 => (first | k_is | kit_is | ks_is | rfl | decide +kernel)); (case c_25 => (first | k_is | kit_is | ks_is | rfl | decide +kernel)); (case d_25 => (first | k_is | kit_is | ks_is | rfl | decide +kernel)))); (case e => (unfold L2.NoAttr; (first | k_is | kit_is | ks_is | rfl | decide +kernel))); (case f => (unfold L2.NoAttr; (first | k_is | kit_is | ks_is | rfl | decide +kernel))))
  (case sq => refine' ⟨⟨?a, ?b, ?c, ?d, ?e⟩, ?f, ?g, ?h, ?i⟩; (case a => (refine' ⟨?a_26, ?b_26, ?c_26, ?d_26⟩; (case a_26 => (first | k_is | kit_is | ks_is | rfl | decide +kernel)); (case b_26 => (first | k_is | kit_is | ks_is | rfl | decide +kernel)); (case c_26 => (first | k_is | kit_is | ks_is | rfl | decide +kernel)); (case d_26 => (first | k_is | kit_is | ks_is | rfl | decide +kernel)))); (case b => (first | k_is | kit_is | ks_is | rfl | decide +kernel)); (case c => (first | k_is | kit_is | ks_is | rfl | decide +kernel)); (case d => (first | k_is | kit_is | ks_is | rfl | decide +kernel)); (case e => (first | k_is | kit_is | ks_is | rfl | decide +kernel)); (case f => (first | k_is | kit_is | ks_is | rfl | decide +kernel)); (case g => (first | k_is | kit_is | ks_is | rfl | decide +kernel)); (case h => rintro n (rfl | rfl | rfl | rfl) <;> (first | k_is | kit_is | ks_is | rfl | decide +kernel)); (case i => rintro n (rfl | rfl | rfl | rfl) <;> (first | k_is | kit_is | ks_is | rfl | decide +kernel)))
  (case mo => refine' ⟨.type "type", _, ⟨?a, ?b⟩, ⟨?c, ?d⟩⟩; (case c => (first | k_is | kit_is | ks_is | rfl | decide +kernel)); (case a => (first | k_is | kit_is | ks_is | rfl | decide +kernel)); (case b => (first | k_is | kit_is | ks_is | rfl | decide +kernel)); (case d => exact ⟨_, rfl⟩))
  (case eB => (refine' ⟨_, _, _, _, ⟨⟨_, _, _, _, _, _, _, _, rfl, ?l_27, ?c_27⟩, ⟨_, _, _, _, _, _, ?cl_27, ?v2_27, ?fl_27⟩, ⟨_, _, _, ?ce_27⟩, ?al_27, ?op_27, ?su_27, ?se_27, rfl, ?tp_27⟩, ⟨⟨_, _, _, _, _, _, _, _, _, _, _, _, _, _, _, ?kc_27, ?rv_27⟩, ?sa_27, ?ex_27, ?ty_27, ?kp_27⟩, ?no_27, ?ini_27, ?tf_27⟩; (case ini_27 => (first | k_is | kit_is | ks_is | rfl | decide +kernel)); (case l_27 => (first | k_is | kit_is | ks_is | rfl | decide +kernel)); (case c_27 => (first | k_is | kit_is | ks_is | rfl | decide +kernel)); (case cl_27 => (first | k_is | kit_is | ks_is | rfl | decide +kernel)); (case v2_27 => (first | k_is | kit_is | ks_is | rfl | decide +kernel)); (case fl_27 => (first | k_is | kit_is | ks_is | rfl | decide +kernel)); (case ce_27 => (first | k_is | kit_is | ks_is | rfl | decide +kernel)); (case al_27 => (first | k_is | kit_is | ks_is | rfl | decide +kernel)); (case op_27 => (first | k_is | kit_is | ks_is | rfl | decide +kernel)); (case su_27 => (first | k_is | kit_is | ks_is | rfl | decide +kernel)); (case se_27 => (first | k_is | kit_is | ks_is | rfl | decide +kernel)); (case tp_27 => (first | k_is | kit_is | ks_is | rfl | decide +kernel)); (case kc_27 => (first | k_is | kit_is | ks_is | rfl | decide +kernel)); (case rv_27 => (first | k_is | kit_is | ks_is | rfl | decide +kernel)); (case sa_27 => (first | k_is | kit_is | ks_is | rfl | decide +kernel)); (case ex_27 => (first | k_is | kit_is | ks_is | rfl | decide +kernel)); (case ty_27 => (first | k_is | kit_is | ks_is | rfl | decide +kernel)); (case kp_27 => (first | k_is | kit_is | ks_is | rfl | decide +kernel)); (case no_27 => (first | k_is | kit_is | ks_is | rfl | decide +kernel)); (case tf_27 => (first | k_is | kit_is | ks_is | rfl | decide +kernel))))
  (case eU => (refine' ⟨_, _, _, _, ⟨⟨_, _, _, _, _, _, _, _, rfl, ?l_28, ?c_28⟩, ⟨_, _, _, _, _, _, ?cl_28, ?v2_28, ?fl_28⟩, ⟨_, _, _, ?ce_28⟩, ?al_28, ?op_28, ?su_28, ?se_28, rfl, ?tp_28⟩, ⟨⟨_, _, _, _, _, _, _, _, _, _, _, _, _, _, _, ?kc_28, ?rv_28⟩, ?sa_28, ?ex_28, ?ty_28, ?kp_28⟩, ?no_28, ?ini_28, ?tf_28⟩; (case ini_28 => (first | k_is | kit_is | ks_is | rfl | decide +kernel)); (case l_28 => (first | k_is | kit_is | ks_is | rfl | decide +kernel)); (case c_28 => (first | k_is | kit_is | ks_is | rfl | decide +kernel)); (case cl_28 => (first | k_is | kit_is | ks_is | rfl | decide +kernel)); (case v2_28 => (first | k_is | kit_is | ks_is | rfl | decide +kernel)); (case fl_28 => (first | k_is | kit_is | ks_is | rfl | decide +kernel)); (case ce_28 => (first | k_is | kit_is | ks_is | rfl | decide +kernel)); (case al_28 => (first | k_is | kit_is | ks_is | rfl | decide +kernel)); (case op_28 => (first | k_is | kit_is | ks_is | rfl | decide +kernel)); (case su_28 => (first | k_is | kit_is | ks_is | rfl | decide +kernel)); (case se_28 => (first | k_is | kit_is | ks_is | rfl | decide +kernel)); (case tp_28 => (first | k_is | kit_is | ks_is | rfl | decide +kernel)); (case kc_28 => (first | k_is | kit_is | ks_is | rfl | decide +kernel)); (case rv_28 => (first | k_is | kit_is | ks_is | rfl | decide +kernel)); (case sa_28 => (first | k_is | kit_is | ks_is | rfl | decide +kernel)); (case ex_28 => (first | k_is | kit_is | ks_is | rfl | decide +kernel)); (case ty_28 => (first | k_is | kit_is | ks_is | rfl | decide +kernel)); (case kp_28 => (first | k_is | kit_is | ks_is | rfl | decide +kernel)); (case no_28 => (first | k_is | kit_is | ks_is | rfl | decide +kernel)); (case tf_28 => (first | k_is | kit_is | ks_is | rfl | decide +kernel))))
  (case x1 => (refine' PySem.W.exm_ref ?a_29 ?b_29 ?c_29 ?d_29; (case a_29 => (first | k_is | kit_is | ks_is | rfl | decide +kernel)); (case b_29 => (first | k_is | kit_is | ks_is | rfl | decide +kernel)); (case c_29 => (first | k_is | kit_is | ks_is | rfl | decide +kernel)); (case d_29 => (first | k_is | kit_is | ks_is | rfl | decide +kernel)))); (case x2 => (refine' PySem.W.exm_ref ?a_30 ?b_30 ?c_30 ?d_30; (case a_30 => (first | k_is | kit_is | ks_is | rfl | decide +kernel)); (case b_30 => (first | k_is | kit_is | ks_is | rfl | decide +kernel)); (case c_30 => (first | k_is | kit_is | ks_is | rfl | decide +kernel)); (case d_30 => (first | k_is | kit_is | ks_is | rfl | decide +kernel)))); (case x3 => (refine' PySem.W.exm_ref ?a_31 ?b_31 ?c_31 ?d_31; (case a_31 => (first | k_is | kit_is | ks_is | rfl | decide +kernel)); (case b_31 => (first | k_is | kit_is | ks_is | rfl | decide +kernel)); (case c_31 => (first | k_is | kit_is | ks_is | rfl | decide +kernel)); (case d_31 => (first | k_is | kit_is | ks_is | rfl | decide +kernel))))
  (case c1 => (refine' ⟨?a_33, ?b_33, ?c_33, ?d_33, ?e_33, ?f_33, ?g_33, ?h_33⟩; (case a_33 => (first | k_is | kit_is | ks_is | rfl | decide +kernel)); (case b_33 => (first | k_is | kit_is | ks_is | rfl | decide +kernel)); (case c_33 => (first | k_is | kit_is | ks_is | rfl | decide +kernel)); (case d_33 => (first | k_is | kit_is | ks_is | rfl | decide +kernel)); (case e_33 => (first | k_is | kit_is | ks_is | rfl | decide +kernel)); (case f_33 => (first | k_is | kit_is | ks_is | rfl | decide +kernel)); (case g_33 => (first | k_is | kit_is | ks_is | rfl | decide +kernel)); (case h_33 => (first | k_is | kit_is | ks_is | rfl | decide +kernel)))); (case c2 => (refine' ⟨?a_35, ?b_35, ?c_35, ?d_35, ?e_35, ?f_35, ?g_35, ?h_35⟩; (case a_35 => (first | k_is | kit_is | ks_is | rfl | decide +kernel)); (case b_35 => (first | k_is | kit_is | ks_is | rfl | decide +kernel)); (case c_35 => (first | k_is | kit_is | ks_is | rfl | decide +kernel)); (case d_35 => (first | k_is | kit_is | ks_is | rfl | decide +kernel)); (case e_35 => (first | k_is | kit_is | ks_is | rfl | decide +kernel)); (case f_35 => (first | k_is | kit_is | ks_is | rfl | decide +kernel)); (case g_35 => (first | k_is | kit_is | ks_is | rfl | decide +kernel)); (case h_35 => (first | k_is | kit_is | ks_is | rfl | decide +kernel)))); (case f1 => (refine' ⟨?a_32, ?b_32, ?c_32, ?d_32⟩; (case a_32 => (first | k_is | kit_is | ks_is | rfl | decide +kernel)); (case b_32 => (first | k_is | kit_is | ks_is | rfl | decide +kernel)); (case c_32 => (first | k_is | kit_is | ks_is | rfl | decide +kernel)); (case d_32 => (first | k_is | kit_is | ks_is | rfl | decide +kernel)))); (case f2 => (refine' ⟨?a_34, ?b_34, ?c_34, ?d_34⟩; (case a_34 => (first | k_is | kit_is | ks_is | rfl | decide +kernel)); (case b_34 => (first | k_is | kit_is | ks_is | rfl | decide +kernel)); (case c_34 => (first | k_is | kit_is | ks_is | rfl | decide +kernel)); (case d_34 => (first | k_is | kit_is | ks_is | rfl | decide +kernel))))
  (case k1 => (first | k_is | kit_is | ks_is | rfl | decide +kernel)); (case k2 => (first | k_is | kit_is | ks_is | rfl | decide +kernel)); (case k3 => (first | k_is | kit_is | ks_is | rfl | decide +kernel)); (case k4 => (first | k_is | kit_is | ks_is | rfl | decide +kernel)); (case k5 => (first | k_is | kit_is | ks_is | rfl | decide +kernel)); (case k6 => (first | k_is | kit_is | ks_is | rfl | decide +kernel))
  (case nT => (first | k_is | kit_is | ks_is | rfl | decide +kernel)); (case hcd => (first | k_is | kit_is | ks_is | rfl | decide +kernel))

